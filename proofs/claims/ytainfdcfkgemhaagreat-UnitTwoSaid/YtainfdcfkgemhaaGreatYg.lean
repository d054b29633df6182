/-
  What is known of this program: navs,words,reports,commands;sources,sequencers.
-/
import Derived.Test.YtainfdcfkgemhaaGreatYf
import Derived.Test.YtainfdcfkgemhaaGreatYe
import Derived.Test.YtainfdcfkgemhaaGreatYa
set_option maxRecDepth 100000
noncomputable section
namespace Go.Proofs.YtainfdcfkgemhaaGreat.Nw
open Go Go.Proofs Go.Sx
set_option linter.unusedVariables false
theorem qK2 (x y b:Int):decide (qde x y>b)=!decide (qde x y≤b):=by
 rw [Bool.eq_iff_iff]
 simp only [decide_eq_true_eq,Bool.not_eq_true',decide_eq_false_iff_not]
 omega
def qov (w x y:Int):Bool:=decide (qde x y≤IntKind.u64.wrap w)
def qou (w c c' d d' e e' f f' g g' q q':Int):Bool:=!decide (w<0)&&(qov w c c'&&(qov w d d'&&(qov w e e'&&(qov w f f'&&(qov w g g'&&qov w q q')))))
def s32 (s:ByteArray) (i j:Nat):Int:=IntKind.i64.wrap (IntKind.i32.wrap ((numN (s.extract i j):Nat):Int))
def rd27 (s:ByteArray) (x:Int):Int:=if s.size=27 then x else 0
def rdA (s:ByteArray):Int:=rd27 s (wI ((numN (s.extract 0 2):Nat):Int))
def rdB (s:ByteArray):Int:=rd27 s (wI (qan s 2))
def rdC (s:ByteArray) (i j:Nat):Int:=rd27 s (s32 s i j)
def navE (s:ByteArray):Int:=if s.size<27 then 5 else if s.size>27 then 3 else 0
theorem quM (a b c d e f g q a' b' c' d' e' f' g' q' w:Int):runG ΓNa L0 Tryz.prog Tryz.f215 [.v (.agg #[I a,I b,I c,I d,I e,I f,I g,I q]),.v (.agg #[I a',I b',I c',I d',I e',I f',I g',I q']),.v (I w)] M0=bif decide (w<0) then some (.v (Bo false),M0) else (bif decide (qde c c'>IntKind.u64.wrap w) then some (.v (Bo false),M0) else (bif decide (qde d d'>IntKind.u64.wrap w) then some (.v (Bo false),M0) else (bif decide (qde e e'>IntKind.u64.wrap w) then some (.v (Bo false),M0) else (bif decide (qde f f'>IntKind.u64.wrap w) then some (.v (Bo false),M0) else (bif decide (qde g g'>IntKind.u64.wrap w) then some (.v (Bo false),M0) else (bif decide (qde q q'>IntKind.u64.wrap w) then some (.v (Bo false),M0) else (some (.v (Bo true),M0)))))))):=by kernel_rfl
def qrY (vs:List Value):Option (Bool×Value) :=
 match vs with
 | [.agg ⟨[.int .i64 a,.int .i64 b,.int .i64 c,.int .i64 d,.int .i64 e,.int .i64 f,.int .i64 g,.int .i64 q]⟩,.agg ⟨[.int .i64 a',.int .i64 b',.int .i64 c',.int .i64 d',.int .i64 e',.int .i64 f',.int .i64 g',.int .i64 q']⟩,.int .i64 w]=>some (true,Bo (qou w c c' d d' e e' f f' g g' q q'))
 | _=>none
theorem qrX:CtV 215 qrY:=by
 intro vs r h
 unfold qrY at h
 split at h
 ·rename_i a b c d e f g q a' b' c' d' e' f' g' q' w
  obtain ⟨h1,rfl⟩:=qac h
  refine qaA (vs:=[.agg #[I a,I b,I c,I d,I e,I f,I g,I q],.agg #[I a',I b',I c',I d',I e',I f',I g',I q'],I w]) (Λ:=L0) (m':=M0) qNw Tryz.func215 rfl (fun z _ _=>qdV _ z) ?_
  exact (quM a b c d e f g q a' b' c' d' e' f' g' q' w).trans (by
   simp only [qK2,qw9,Bool.not_not,Bool.and_true]
   rfl)
 ·cases h
def ΓP1:Orc:=qah 215 qrY ΓNa
theorem OkP1:ΓP1.Ok Tryz.prog:=qaa qNw qrX
def ΓP2:Orc:=ΓP1
theorem OkP2:ΓP2.Ok Tryz.prog:=OkP1
theorem szS_ext (s:ByteArray) (i j:Nat) (h:s.size=27):szS (s.extract i j)=true:=qfZ (by rw [ByteArray.size_extract];omega)
theorem quL (s:ByteArray):runG ΓP2 L0 Tryz.prog Tryz.f208 [.v (S s)] M0=bif decide ((s.size:Int)<27) then some (.v (.tuple #[.agg #[I 0,I 0,I 0,I 0,I 0,I 0,I 0,I 0],I 5]),M0) else (bif decide ((s.size:Int)>27) then some (.v (.tuple #[.agg #[I 0,I 0,I 0,I 0,I 0,I 0,I 0,I 0],I 3]),M0) else (bif decide ((0:Int)≤0)&&(decide ((0:Int)≤2)&&decide (2≤(s.size:Int))) then (bif szS (s.extract (Int.toNat 0) (Int.toNat 2)) then (bif decide ((0:Int)≤2)&&decide (2<(s.size:Int)) then (bif decide ((0:Int)≤3)&&(decide ((3:Int)≤7)&&decide (7≤(s.size:Int))) then (bif szS (s.extract (Int.toNat 3) (Int.toNat 7)) then (bif decide ((0:Int)≤7)&&(decide ((7:Int)≤11)&&decide (11≤(s.size:Int))) then (bif szS (s.extract (Int.toNat 7) (Int.toNat 11)) then (bif decide ((0:Int)≤11)&&(decide ((11:Int)≤15)&&decide (15≤(s.size:Int))) then (bif szS (s.extract (Int.toNat 11) (Int.toNat 15)) then (bif decide ((0:Int)≤15)&&(decide ((15:Int)≤19)&&decide (19≤(s.size:Int))) then (bif szS (s.extract (Int.toNat 15) (Int.toNat 19)) then (bif decide ((0:Int)≤19)&&(decide ((19:Int)≤23)&&decide (23≤(s.size:Int))) then (bif szS (s.extract (Int.toNat 19) (Int.toNat 23)) then (bif decide ((0:Int)≤23)&&(decide ((23:Int)≤27)&&decide (27≤(s.size:Int))) then (bif szS (s.extract (Int.toNat 23) (Int.toNat 27)) then some (.v (.tuple #[.agg #[I (wI ((numN (s.extract (Int.toNat 0) (Int.toNat 2)):Nat):Int)),I (wI (qan s 2)),I (s32 s (Int.toNat 3) (Int.toNat 7)),I (s32 s (Int.toNat 7) (Int.toNat 11)),I (s32 s (Int.toNat 11) (Int.toNat 15)),I (s32 s (Int.toNat 15) (Int.toNat 19)),I (s32 s (Int.toNat 19) (Int.toNat 23)),I (s32 s (Int.toNat 23) (Int.toNat 27))],I 0]),M0) else none) else none) else none) else none) else none) else none) else none) else none) else none) else none) else none) else none) else none) else none) else none)):=by kernel_rfl
def qnt (vs:List Value):Option (Bool×Value) :=
 match vs with
 | [.string s]=>some (true,.tuple #[.agg #[I (rdA s),I (rdB s),I (rdC s 3 7),I (rdC s 7 11),I (rdC s 11 15),I (rdC s 15 19),I (rdC s 19 23),I (rdC s 23 27)],I (navE s)])
 | _=>none
theorem qj7:CtV 208 qnt:=by
 intro vs r h
 unfold qnt at h
 split at h
 ·rename_i s
  obtain ⟨h1,rfl⟩:=qac h
  refine qaA (vs:=[S s]) (Λ:=L0) (m':=M0) OkP2 Tryz.func208 rfl (fun z _ _=>qdV _ z) ?_
  exact (quL s).trans (by
   unfold rdA rdB rdC rd27 navE
   by_cases c1:s.size<27
   ·simp only [decide_eq_true (show (s.size:Int)<27 by omega),if_neg (show ¬ s.size=27 by omega),if_pos c1]
    rfl
   by_cases c2:s.size>27
   ·simp only [decide_eq_false (show ¬ (s.size:Int)<27 by omega),decide_eq_true (show (s.size:Int)>27 by omega),if_neg (show ¬ s.size=27 by omega),if_neg c1,if_pos c2]
    rfl
   have c3:s.size=27:=by omega
   simp only [szS_ext s _ _ c3,if_pos c3,if_neg c1,if_neg c2]
   rw [c3]
   rfl)
 ·cases h
def ΓP3:Orc:=qah 208 qnt ΓP2
theorem OkP3:ΓP3.Ok Tryz.prog:=qaa OkP2 qj7
def ΓP4:Orc:=ΓP3
theorem OkP4:ΓP4.Ok Tryz.prog:=OkP3
def ΓNb:Orc:=ΓP4
theorem qJf:ΓNb.Ok Tryz.prog:=OkP4
end Go.Proofs.YtainfdcfkgemhaaGreat.Nw
namespace Go.Proofs.YtainfdcfkgemhaaGreat.Pe
open Go Go.Proofs Go.Sx Nw
set_option linter.unusedVariables false
def inB (n m:Int):Bool:=decide (n≥0)&&decide (n≤m)
def two (p s:Int):Int:=wI (p+wI (16*s))
def qfj (s:ByteArray):ByteArray:=s++be 4 (qf0 s)
def qks (s:ByteArray) (n:Int):Int:=if (s.size:Int)<n+4 then 5 else if (s.size:Int)>n+4 then 3 else if qfj (s.extract 0 n.toNat)==s then 0 else 4
def stR (c p s:Int):Bool:=inB c 1000000&&(inB p 3&&inB s 2)
def qDJ (c p s w:Int):Bool:=stR c p s&&inB w 15
def qJs (c p s w:Int):ByteArray:=qfj ((be 4 c++be 1 (two p s))++be 1 w)
def qnW (c p s w:Int):ByteArray:=bif qDJ c p s w then qJs c p s w else ⟨#[]⟩
def qFV (c p s x y z u v f:Int):Bool:=(inB x 255&&(inB y 255&&(inB z 255&&inB f 255)))&&((inB u 4&&inB v 4)&&stR c p s)
def qOa (c p s x y z u v f:Int):ByteArray:=qfj ((((be 4 c++be 1 (two p s))++((be 1 x++be 1 y)++be 1 z))++be 1 (two u v))++be 1 f)
def qKA (c p s x y z u v f:Int):ByteArray:=bif qFV c p s x y z u v f then qOa c p s x y z u v f else ⟨#[]⟩
def qJo (x y:Int):Int:=IntKind.i64.wrap (((BitVec.ofInt 64 x ^^^ BitVec.ofInt 64 y).toNat:Nat):Int)
def qMw (c:Int):ByteArray:=qfj (((be 1 c++be 1 (qJo c 85))++be 1 (qJo c 170))++be 1 (qJo c 255))
def comR (c:Int):Bool:=decide (1≤c)&&decide (c≤3)
def comT (c:Int):ByteArray:=bif comR c then qMw c else ⟨#[]⟩
theorem runUpTo (n m:Int):runG ΓNb L0 Tryz.prog Tryz.f269 [.v (I n),.v (I m)] M0 =
 (bif decide (n≥(0:Int)) then some (.v (.bool (decide (n≤m))),⟨[],[],[]⟩) else some (.v (.bool false),⟨[],[],[]⟩)):=by kernel_rfl
def gUpTo (vs:List Value):Option (Bool×Value) :=
 match vs with
 | [.int .i64 n,.int .i64 m]=>some (true,Bo (inB n m))
 | _=>none
theorem gUpTo_ok:CtV 269 gUpTo:=by
 intro vs r h
 unfold gUpTo at h
 split at h
 ·rename_i n m
  obtain ⟨h1,rfl⟩:=qac h
  refine qaA (vs:=[I n,I m]) (Λ:=L0) (m':=M0) qJf Tryz.func269 rfl (fun z _ _=>qdV _ z) ?_
  exact (runUpTo n m).trans (by unfold inB;cases decide (n≥0)<;>rfl)
 ·cases h
def ΓQ1:Orc:=qah 269 gUpTo ΓNb
theorem OkQ1:ΓQ1.Ok Tryz.prog:=qaa qJf gUpTo_ok
def ΓQ2:Orc:=ΓQ1
theorem OkQ2:ΓQ2.Ok Tryz.prog:=OkQ1
theorem qp0 (c p s:Int):runG ΓQ2 L0 Tryz.prog Tryz.f268 [.v (I c),.v (I p),.v (I s)] M0 =
 (bif inB c (1000000:Int) then (bif inB p (3:Int) then some (.v (.bool (inB s (2:Int))),⟨[],[],[]⟩) else some (.v (.bool false),⟨[],[],[]⟩)) else some (.v (.bool false),⟨[],[],[]⟩)):=by kernel_rfl
def qlN (vs:List Value):Option (Bool×Value) :=
 match vs with
 | [.int .i64 c,.int .i64 p,.int .i64 s]=>some (true,Bo (stR c p s))
 | _=>none
theorem qoP:CtV 268 qlN:=by
 intro vs r h
 unfold qlN at h
 split at h
 ·rename_i c p s
  obtain ⟨h1,rfl⟩:=qac h
  refine qaA (vs:=[I c,I p,I s]) (Λ:=L0) (m':=M0) OkQ2 Tryz.func268 rfl (fun z _ _=>qdV _ z) ?_
  exact (qp0 c p s).trans (by unfold stR;cases inB c 1000000<;>cases inB p 3<;>rfl)
 ·cases h
def ΓQ3:Orc:=qah 268 qlN ΓQ2
theorem OkQ3:ΓQ3.Ok Tryz.prog:=qaa OkQ2 qoP
theorem qzA (n:Int):runG ΓQ3 L0 Tryz.prog Tryz.f270 [.v (I n)] M0 =
 some (.v (Value.string (be (4:Nat) (IntKind.u64.wrap n))),⟨[],[],[]⟩):=by kernel_rfl
def qBQ (vs:List Value):Option (Bool×Value) :=
 match vs with
 | [.int .i64 n]=>some (true,S (be 4 n))
 | _=>none
theorem qwD:CtV 270 qBQ:=by
 intro vs r h
 unfold qBQ at h
 split at h
 ·rename_i n
  obtain ⟨h1,rfl⟩:=qac h
  refine qaA (vs:=[I n]) (Λ:=L0) (m':=M0) OkQ3 Tryz.func270 rfl (fun z _ _=>qdV _ z) ?_
  exact (qzA n).trans (by rw [qfO];rfl)
 ·cases h
def ΓQ4:Orc:=qah 270 qBQ ΓQ3
theorem OkQ4:ΓQ4.Ok Tryz.prog:=qaa OkQ3 qwD
theorem qzm (n:Int):runG ΓQ4 L0 Tryz.prog Tryz.f183 [.v (I n)] M0 =
 some (.v (Value.string (be (1:Nat) (IntKind.u64.wrap n))),⟨[],[],[]⟩):=by kernel_rfl
def qBn (vs:List Value):Option (Bool×Value) :=
 match vs with
 | [.int .i64 n]=>some (true,S (be 1 n))
 | _=>none
theorem qwp:CtV 183 qBn:=by
 intro vs r h
 unfold qBn at h
 split at h
 ·rename_i n
  obtain ⟨h1,rfl⟩:=qac h
  refine qaA (vs:=[I n]) (Λ:=L0) (m':=M0) OkQ4 Tryz.func183 rfl (fun z _ _=>qdV _ z) ?_
  exact (qzm n).trans (by rw [qiP];rfl)
 ·cases h
def ΓQ5:Orc:=qah 183 qBn ΓQ4
theorem OkQ5:ΓQ5.Ok Tryz.prog:=qaa OkQ4 qwp
theorem qt6 (p s:Int):runG ΓQ5 L0 Tryz.prog Tryz.f271 [.v (I p),.v (I s)] M0 =
 some (.v (Value.string (be (1:Nat) (wI (p+wI ((16:Int)*s))))),⟨[],[],[]⟩):=by kernel_rfl
def qrz (vs:List Value):Option (Bool×Value) :=
 match vs with
 | [.int .i64 p,.int .i64 s]=>some (true,S (be 1 (two p s)))
 | _=>none
theorem qry:CtV 271 qrz:=by
 intro vs r h
 unfold qrz at h
 split at h
 ·rename_i p s
  obtain ⟨h1,rfl⟩:=qac h
  refine qaA (vs:=[I p,I s]) (Λ:=L0) (m':=M0) OkQ5 Tryz.func271 rfl (fun z _ _=>qdV _ z) ?_
  exact (qt6 p s).trans (rfl)
 ·cases h
def ΓQ6:Orc:=qah 271 qrz ΓQ5
theorem qPf:ΓQ6.Ok Tryz.prog:=qaa OkQ5 qry
theorem qt5 (b:Int):runG ΓQ6 L0 Tryz.prog Tryz.f213 [.v (U8 b)] M0 =
 some (.v (.tuple #[(.int .i64 (wI (b.tmod (16:Int)))),(.int .i64 (wI (IntKind.u8.wrap (b.tdiv (16:Int)))))]),⟨[],[],[]⟩):=by kernel_rfl
def qrx (vs:List Value):Option (Bool×Value) :=
 match vs with
 | [.int .u8 b]=>some (true,.tuple #[I (wI (b.tmod 16)),I (wI (IntKind.u8.wrap (b.tdiv 16)))])
 | _=>none
theorem qrw:CtV 213 qrx:=by
 intro vs r h
 unfold qrx at h
 split at h
 ·rename_i b
  obtain ⟨h1,rfl⟩:=qac h
  refine qaA (vs:=[U8 b]) (Λ:=L0) (m':=M0) qPf Tryz.func213 rfl (fun z _ _=>qdV _ z) ?_
  exact (qt5 b).trans (rfl)
 ·cases h
def ΓQ7:Orc:=qah 213 qrx ΓQ6
theorem qPe:ΓQ7.Ok Tryz.prog:=qaa qPf qrw
theorem qpT (s:ByteArray):runG ΓQ7 L0 Tryz.prog Tryz.f182 [.v (S s)] M0 =
 (bif szS s then (bif (s.size+(be (4:Nat) (IntKind.u64.wrap (qf0 s))).size).ble (9223372036854775807) then some (.v (Value.string (s++be (4:Nat) (IntKind.u64.wrap (qf0 s)))),⟨[],[],[]⟩) else none) else none):=by kernel_rfl
def qlE (vs:List Value):Option (Bool×Value) :=
 match vs with
 | [.string s]=>some (Nat.ble s.size 1000000,S (qfj s))
 | _=>none
theorem qoJ:CtV 182 qlE:=by
 intro vs r h
 unfold qlE at h
 split at h
 ·rename_i s
  obtain ⟨h1,rfl⟩:=qac h
  refine qaA (vs:=[S s]) (Λ:=L0) (m':=M0) qPe Tryz.func182 rfl (fun z _ _=>qdV _ z) ?_
  exact (qpT s).trans (by
   have hz:=Nat.le_of_ble_eq_true h1
   rw [qfZ (show s.size≤9223372036854775807 by omega),qfO,qiQ,Nat.ble_eq_true_of_le (show s.size+4≤9223372036854775807 by omega)]
   rfl)
 ·cases h
def ΓQ8:Orc:=qah 182 qlE ΓQ7
theorem qPd:ΓQ8.Ok Tryz.prog:=qaa qPe qoJ
theorem qu1 (s:ByteArray) (n:Int):runG ΓQ8 L0 Tryz.prog Tryz.f211 [.v (S s),.v (I n)] M0 =
 (bif decide (↑s.size<wI (n+(4:Int))) then some (.v (.int .i64 5),⟨[],[],[]⟩) else (bif decide (↑s.size>wI (n+(4:Int))) then some (.v (.int .i64 3),⟨[],[],[]⟩) else (bif true&&(decide ((0:Int)≤n)&&decide (n≤↑s.size)) then (bif (s.extract (0:Nat) n.toNat).size.ble (1000000) then (bif !(qfj (s.extract (0:Nat) n.toNat)).toList==s.toList then some (.v (.int .i64 4),⟨[],[],[]⟩) else some (.v (.int .i64 0),⟨[],[],[]⟩)) else none) else none))):=by kernel_rfl
def qsv (vs:List Value):Option (Bool×Value) :=
 match vs with
 | [.string s,.int .i64 n]=>some ((n==4||(n==6||n==10))&&Nat.ble s.size 1000000,I (qks s n))
 | _=>none
theorem qsu:CtV 211 qsv:=by
 intro vs r h
 unfold qsv at h
 split at h
 ·rename_i s n
  obtain ⟨h1,rfl⟩:=qac h
  refine qaA (vs:=[S s,I n]) (Λ:=L0) (m':=M0) qPd Tryz.func211 rfl (fun z _ _=>qdV _ z) ?_
  exact (qu1 s n).trans (by
   simp only [Bool.and_eq_true,Bool.or_eq_true,beq_iff_eq] at h1
   obtain ⟨h0,h1⟩:=h1
   have hz:=Nat.le_of_ble_eq_true h1
   have hw:wI (n+4)=n+4:=qaw (by omega)
   rw [hw]
   unfold qks
   by_cases c1:(s.size:Int)<n+4
   ·rw [decide_eq_true c1,if_pos c1];rfl
   by_cases c2:(s.size:Int)>n+4
   ·rw [decide_eq_false c1,decide_eq_true c2,if_neg c1,if_pos c2];rfl
   rw [decide_eq_false c1,decide_eq_false c2,if_neg c1,if_neg c2,decide_eq_true (show 0≤n by omega),decide_eq_true (show n≤(s.size:Int) by omega),Nat.ble_eq_true_of_le (show (s.extract 0 n.toNat).size≤1000000 by rw [ByteArray.size_extract];omega),qkA]
   cases qfj (s.extract 0 n.toNat)==s<;>rfl)
 ·cases h
def ΓQ9:Orc:=qah 211 qsv ΓQ8
theorem qPc:ΓQ9.Ok Tryz.prog:=qaa qPd qsu
theorem quY (s:ByteArray):runG ΓQ9 L0 Tryz.prog Tryz.f212 [.v (S s)] M0 =
 (bif true&&(true&&decide ((4:Int)≤↑s.size)) then (bif szS (s.extract (0:Nat) (4:Nat)) then some (.v (.int .i64 (wI ↑(numN (s.extract (0:Nat) (4:Nat))))),⟨[],[],[]⟩) else none) else none):=by kernel_rfl
def qsl (vs:List Value):Option (Bool×Value) :=
 match vs with
 | [.string s]=>some (Nat.ble 4 s.size&&Nat.ble s.size 1000000,I (wI ((numN (s.extract 0 4):Nat):Int)))
 | _=>none
theorem qsk:CtV 212 qsl:=by
 intro vs r h
 unfold qsl at h
 split at h
 ·rename_i s
  obtain ⟨h1,rfl⟩:=qac h
  refine qaA (vs:=[S s]) (Λ:=L0) (m':=M0) qPc Tryz.func212 rfl (fun z _ _=>qdV _ z) ?_
  exact (quY s).trans (by
   simp only [Bool.and_eq_true] at h1
   have h2:=Nat.le_of_ble_eq_true h1.1
   rw [decide_eq_true (show (4:Int)≤(s.size:Int) by omega),qfZ (show (s.extract 0 4).size≤9223372036854775807 by rw [ByteArray.size_extract];omega)]
   rfl)
 ·cases h
def ΓQ10:Orc:=qah 212 qsl ΓQ9
theorem qIk:ΓQ10.Ok Tryz.prog:=qaa qPc qsk
theorem quI (c p s w:Int):runG ΓQ10 L0 Tryz.prog Tryz.f204 [.v (.agg #[I c,I p,I s,I w])] M0 =
 (bif !stR c p s then some (.v (Value.string { data:=#[]:ByteArray }),⟨[],[],[]⟩) else (bif !inB w (15:Int) then some (.v (Value.string { data:=#[]:ByteArray }),⟨[],[],[]⟩) else some (.v (Value.string (qfj (be (4:Nat) c++be (1:Nat) (two p s)++be (1:Nat) w))),⟨[],[],[]⟩))):=by kernel_rfl
def qnq (vs:List Value):Option (Bool×Value) :=
 match vs with
 | [.agg ⟨[.int .i64 c,.int .i64 p,.int .i64 s,.int .i64 w]⟩]=>some (true,S (qnW c p s w))
 | _=>none
theorem qj6:CtV 204 qnq:=by
 intro vs r h
 unfold qnq at h
 split at h
 ·rename_i c p s w
  obtain ⟨h1,rfl⟩:=qac h
  refine qaA (vs:=[.agg #[I c,I p,I s,I w]]) (Λ:=L0) (m':=M0) qIk Tryz.func204 rfl (fun z _ _=>qdV _ z) ?_
  exact (quI c p s w).trans (by
   unfold qnW qDJ
   cases stR c p s<;>cases inB w 15<;>first|rfl|(simp only [ByteArray.size_append,qiQ];rfl))
 ·cases h
def ΓQ11:Orc:=qah 204 qnq ΓQ10
theorem qIj:ΓQ11.Ok Tryz.prog:=qaa qIk qj6
def cyc (s:ByteArray):Int:=wI ((numN (s.extract 0 4):Nat):Int)
def low (s:ByteArray) (i:Int):Int:=wI ((qan s i).tmod 16)
def qIQ (s:ByteArray) (i:Int):Int:=wI (IntKind.u8.wrap ((qan s i).tdiv 16))
def okI (b:Bool) (x:Int):Int:=bif b then x else 0
def wOk (s:ByteArray):Bool:=qnW (cyc s) (low s 4) (qIQ s 4) (wI (qan s 5))==s
def wdE (s:ByteArray):Int:=bif qks s 6 != 0 then qks s 6 else bif wOk s then 0 else 3
theorem qOp {s:ByteArray} {n:Int} (h:qks s n=0):(s.size:Int)=n+4:=by
 unfold qks at h
 split at h
 ·cases h
 ·split at h
  ·cases h
  ·omega
theorem qkr (s:ByteArray) (n:Int):qks s n=5∨qks s n=3∨qks s n=4∨qks s n=0:=by
 unfold qks
 split
 ·exact .inl rfl
 ·split
  ·exact .inr (.inl rfl)
  ·split
   ·exact .inr (.inr (.inr rfl))
   ·exact .inr (.inr (.inl rfl))
theorem quB (s:ByteArray):runG ΓQ11 L0 Tryz.prog Tryz.f143 [.v (S s)] M0 =
 (bif true&&s.size.ble (1000000) then (bif qks s (6:Int) != (0:Int) then some (.v (.tuple #[(.agg #[(.int .i64 0),(.int .i64 0),(.int .i64 0),(.int .i64 0)]),(.int .i64 (qks s (6:Int)))]),⟨[],[],[]⟩) else (bif Nat.ble (4) s.size&&s.size.ble (1000000) then (bif true&&decide ((5:Int)<↑s.size) then (bif true&&decide ((4:Int)<↑s.size) then (bif !(qnW (wI ↑(numN (s.extract (0:Nat) (4:Nat)))) (wI ((qan s (4:Int)).tmod (16))) (wI (IntKind.u8.wrap ((qan s (4:Int)).tdiv (16)))) (wI (qan s (5:Int)))).toList==s.toList then some (.v (.tuple #[(.agg #[(.int .i64 0),(.int .i64 0),(.int .i64 0),(.int .i64 0)]),(.int .i64 3)]),⟨[],[],[]⟩) else some (.v (.tuple #[(.agg #[(.int .i64 (wI ↑(numN (s.extract (0:Nat) (4:Nat))))),(.int .i64 (wI ((qan s (4:Int)).tmod (16)))),(.int .i64 (wI (IntKind.u8.wrap ((qan s (4:Int)).tdiv (16))))),(.int .i64 (wI (qan s (5:Int))))]),(.int .i64 0)]),⟨[],[],[]⟩)) else none) else none) else none)) else none):=by kernel_rfl
def qnp (vs:List Value):Option (Bool×Value) :=
 match vs with
 | [.string s]=>some (Nat.ble s.size 1000000,.tuple #[.agg #[I (okI (wdE s==0) (cyc s)),I (okI (wdE s==0) (low s 4)),I (okI (wdE s==0) (qIQ s 4)),I (okI (wdE s==0) (wI (qan s 5)))],I (wdE s)])
 | _=>none
theorem qj3:CtV 143 qnp:=by
 intro vs r h
 unfold qnp at h
 split at h
 ·rename_i s
  obtain ⟨h1,rfl⟩:=qac h
  refine qaA (vs:=[S s]) (Λ:=L0) (m':=M0) qIj Tryz.func143 rfl (fun z _ _=>qdV _ z) ?_
  exact (quB s).trans (by
   rw [h1]
   unfold wdE
   rcases qkr s 6 with he|he|he|he
   ·rw [he];rfl
   ·rw [he];rfl
   ·rw [he];rfl
   ·have hs:=qOp he
    rw [he,Nat.ble_eq_true_of_le (show 4≤s.size by omega),decide_eq_true (show (5:Int)<(s.size:Int) by omega),decide_eq_true (show (4:Int)<(s.size:Int) by omega)]
    unfold wOk cyc low qIQ
    rw [← qkA]
    cases (qnW (wI ((numN (s.extract 0 4):Nat):Int)) (wI ((qan s 4).tmod 16)) (wI (IntKind.u8.wrap ((qan s 4).tdiv 16))) (wI (qan s 5))).toList==s.toList<;>rfl)
 ·cases h
def ΓQ12:Orc:=qah 143 qnp ΓQ11
theorem qNs:ΓQ12.Ok Tryz.prog:=qaa qIj qj3
def ΓQa:Orc:=ΓQ12
theorem OkQa:ΓQa.Ok Tryz.prog:=qNs
end Go.Proofs.YtainfdcfkgemhaaGreat.Pe
namespace Go.Proofs.YtainfdcfkgemhaaGreat.Pe
open Go Go.Proofs Go.Sx Nw
set_option linter.unusedVariables false
theorem qiM (x:Int) (j k:Nat) (h:(2:Int) ^ min (Int.toNat (8*k:Nat)) 32=256 ^ k) (hj:j=8*k):IntKind.u8.wrap (x.fdiv (2 ^ min (Int.toNat (j:Nat)) 32))=x / 256 ^ k % 256:=by
 subst hj
 rw [h,Int.fdiv_eq_ediv_of_nonneg _ (Int.le_of_lt (Int.pow_pos (by decide))),← qbr true]
 rfl
theorem qHK (x:Int):strOfNums [IntKind.u8.wrap (x.fdiv (2 ^ min (Int.toNat 24) 32)),IntKind.u8.wrap (x.fdiv (2 ^ min (Int.toNat 16) 32)),IntKind.u8.wrap (x.fdiv (2 ^ min (Int.toNat 8) 32)),IntKind.u8.wrap x]=be 4 x:=by
 have e1:=qiM x 8 1 (by decide) rfl
 have e2:=qiM x 16 2 (by decide) rfl
 have e3:=qiM x 24 3 (by decide) rfl
 rw [show ((8:Nat):Int)=8 from rfl] at e1
 rw [show ((16:Nat):Int)=16 from rfl] at e2
 rw [show ((24:Nat):Int)=24 from rfl] at e3
 have e0:IntKind.u8.wrap x=x / 256 ^ 0 % 256:=by
  rw [← qbr true]
  simp only [wr]
  omega
 rw [e0,e1,e2,e3];rfl
def ΓR1:Orc:=ΓQa
theorem OkR1:ΓR1.Ok Tryz.prog:=OkQa
def ΓR2:Orc:=ΓR1
theorem OkR2:ΓR2.Ok Tryz.prog:=OkR1
theorem qFe (c p s x y z u v f:Int):runG ΓR2 L0 Tryz.prog Tryz.f272 [.v (.agg #[I c,I p,I s,I x,I y,I z,I u,I v,I f])] M0 =
 (bif !inB x (255:Int) then some (.v (Bo false),M0) else (bif !inB y (255:Int) then some (.v (Bo false),M0) else (bif !inB z (255:Int) then some (.v (Bo false),M0) else (bif !inB f (255:Int) then some (.v (Bo false),M0) else (bif !inB u (4:Int) then some (.v (Bo false),M0) else (bif !inB v (4:Int) then some (.v (Bo false),M0) else some (.v (Bo (stR c p s)),M0))))))):=by kernel_rfl
def qLP (vs:List Value):Option (Bool×Value) :=
 match vs with
 | [.agg ⟨[.int .i64 c,.int .i64 p,.int .i64 s,.int .i64 x,.int .i64 y,.int .i64 z,.int .i64 u,.int .i64 v,.int .i64 f]⟩]=>some (true,Bo (qFV c p s x y z u v f))
 | _=>none
theorem qBj:CtV 272 qLP:=by
 intro vs r h
 unfold qLP at h
 split at h
 ·rename_i c p s x y z u v f
  obtain ⟨h1,rfl⟩:=qac h
  refine qaA (vs:=[.agg #[I c,I p,I s,I x,I y,I z,I u,I v,I f]]) (Λ:=L0) (m':=M0) OkR2 Tryz.func272 rfl (fun z _ _=>qdV _ z) ?_
  exact (qFe c p s x y z u v f).trans (by
   simp only [qw9,Bool.not_not]
   unfold qFV stR
   congr 4
   ac_rfl)
 ·cases h
def ΓR3:Orc:=qah 272 qLP ΓR2
theorem OkR3:ΓR3.Ok Tryz.prog:=qaa OkR2 qBj
theorem qzu (n:Int):runG ΓR3 L0 Tryz.prog Tryz.f244 [.v (U32 n)] M0 =
 some (.v (S (strOfNums (qaL [[Dat.n (IntKind.u8.wrap (n.fdiv (16777216:Int)))],[Dat.n (IntKind.u8.wrap (n.fdiv (65536:Int)))],[Dat.n (IntKind.u8.wrap (n.fdiv (256:Int)))],[Dat.n (IntKind.u8.wrap n)]]))),M0):=by kernel_rfl
def qBJ (vs:List Value):Option (Bool×Value) :=
 match vs with
 | [.int .u32 n]=>some (true,S (be 4 n))
 | _=>none
theorem qwz:CtV 244 qBJ:=by
 intro vs r h
 unfold qBJ at h
 split at h
 ·rename_i n
  obtain ⟨h1,rfl⟩:=qac h
  refine qaA (vs:=[U32 n]) (Λ:=L0) (m':=M0) OkR3 Tryz.func244 rfl (fun z _ _=>qdV _ z) ?_
  exact (qzu n).trans (by rw [← qHK n];rfl)
 ·cases h
def ΓR4:Orc:=qah 244 qBJ ΓR3
theorem qPb:ΓR4.Ok Tryz.prog:=qaa OkR3 qwz
theorem qpX (s:ByteArray):runG ΓR4 L0 Tryz.prog Tryz.f197 [.v (S s)] M0 =
 (bif szS s then (bif (s.size+(be (4:Nat) (qf0 s)).size).ble (9223372036854775807) then some (.v (S (s++be (4:Nat) (qf0 s))),M0) else none) else none):=by kernel_rfl
def qlH (vs:List Value):Option (Bool×Value) :=
 match vs with
 | [.string s]=>some (Nat.ble s.size 1000000,S (qfj s))
 | _=>none
theorem qoM:CtV 197 qlH:=by
 intro vs r h
 unfold qlH at h
 split at h
 ·rename_i s
  obtain ⟨h1,rfl⟩:=qac h
  refine qaA (vs:=[S s]) (Λ:=L0) (m':=M0) qPb Tryz.func197 rfl (fun z _ _=>qdV _ z) ?_
  exact (qpX s).trans (by
   have hz:=Nat.le_of_ble_eq_true h1
   rw [qfZ (show s.size≤9223372036854775807 by omega),qiQ,Nat.ble_eq_true_of_le (show s.size+4≤9223372036854775807 by omega)]
   rfl)
 ·cases h
def ΓR5:Orc:=qah 197 qlH ΓR4
theorem OkR5:ΓR5.Ok Tryz.prog:=qaa qPb qoM
def ΓR6:Orc:=ΓR5
theorem OkR6:ΓR6.Ok Tryz.prog:=OkR5
def ΓR7:Orc:=ΓR6
theorem OkR7:ΓR7.Ok Tryz.prog:=OkR6
def ΓR8:Orc:=ΓR7
theorem OkR8:ΓR8.Ok Tryz.prog:=OkR7
def ΓR9:Orc:=ΓR8
theorem OkR9:ΓR9.Ok Tryz.prog:=OkR8
def ΓR10:Orc:=ΓR9
theorem qIi:ΓR10.Ok Tryz.prog:=OkR9
theorem qzh (c p s x y z u v f:Int):runG ΓR10 L0 Tryz.prog Tryz.f205 [.v (.agg #[I c,I p,I s,I x,I y,I z,I u,I v,I f])] M0 =
 (bif !qFV c p s x y z u v f then some (.v (S { data:=#[]:ByteArray }),M0) else some (.v (S (qfj (be (4:Nat) c++be (1:Nat) (two p s)++(be (1:Nat) x++be (1:Nat) y++be (1:Nat) z)++be (1:Nat) (two u v)++be (1:Nat) f))),M0)):=by kernel_rfl
def qwn (vs:List Value):Option (Bool×Value) :=
 match vs with
 | [.agg ⟨[.int .i64 c,.int .i64 p,.int .i64 s,.int .i64 x,.int .i64 y,.int .i64 z,.int .i64 u,.int .i64 v,.int .i64 f]⟩]=>some (true,S (qKA c p s x y z u v f))
 | _=>none
theorem qnr:CtV 205 qwn:=by
 intro vs r h
 unfold qwn at h
 split at h
 ·rename_i c p s x y z u v f
  obtain ⟨h1,rfl⟩:=qac h
  refine qaA (vs:=[.agg #[I c,I p,I s,I x,I y,I z,I u,I v,I f]]) (Λ:=L0) (m':=M0) qIi Tryz.func205 rfl (fun z _ _=>qdV _ z) ?_
  exact (qzh c p s x y z u v f).trans (by
   unfold qKA qOa
   cases qFV c p s x y z u v f with
   | false=>rfl
   | true =>
    rfl)
 ·cases h
def ΓR11:Orc:=qah 205 qwn ΓR10
theorem qNr:ΓR11.Ok Tryz.prog:=qaa qIi qnr
def ΓR12:Orc:=ΓR11
theorem qIh:ΓR12.Ok Tryz.prog:=qNr
theorem qzj (c:Int):runG ΓR12 L0 Tryz.prog Tryz.f115 [.v (I c)] M0 =
 (bif decide (c<(1:Int)) then some (.v (S { data:=#[]:ByteArray }),M0) else (bif decide (c>(3:Int)) then some (.v (S { data:=#[]:ByteArray }),M0) else some (.v (S (qfj (be (1:Nat) c++be (1:Nat) (wI ↑(BitVec.ofInt (64:Nat) c ^^^ BitVec.ofInt (64:Nat) (85:Int)).toNat)++be (1:Nat) (wI ↑(BitVec.ofInt (64:Nat) c ^^^ BitVec.ofInt (64:Nat) (170:Int)).toNat)++be (1:Nat) (wI ↑(BitVec.ofInt (64:Nat) c ^^^ BitVec.ofInt (64:Nat) (255:Int)).toNat)))),M0))):=by kernel_rfl
def qBl (vs:List Value):Option (Bool×Value) :=
 match vs with
 | [.int .i64 c]=>some (true,S (comT c))
 | _=>none
theorem qwo:CtV 115 qBl:=by
 intro vs r h
 unfold qBl at h
 split at h
 ·rename_i c
  obtain ⟨h1,rfl⟩:=qac h
  refine qaA (vs:=[I c]) (Λ:=L0) (m':=M0) qIh Tryz.func115 rfl (fun z _ _=>qdV _ z) ?_
  exact (qzj c).trans (by
   unfold comT comR
   by_cases c1:c<1
   ·rw [decide_eq_true c1,decide_eq_false (show ¬ 1≤c by omega)];rfl
   by_cases c2:c>3
   ·rw [decide_eq_false c1,decide_eq_true c2,decide_eq_true (show 1≤c by omega),decide_eq_false (show ¬ c≤3 by omega)];rfl
   have hc:c=1∨c=2∨c=3:=by omega
   unfold qMw
   rcases hc with rfl|rfl|rfl
   ·rfl
   ·rfl
   ·rfl)
 ·cases h
def ΓR13:Orc:=qah 115 qBl ΓR12
theorem qIg:ΓR13.Ok Tryz.prog:=qaa qIh qwo
theorem quE (c:Int):runG ΓR13 L0 Tryz.prog Tryz.f133 [.v (I c)] M0 =
 (bif decide (c<(1:Int)) then some (.v (S { data:=#[]:ByteArray }),M0) else (bif decide (c>(3:Int)) then some (.v (S { data:=#[]:ByteArray }),M0) else some (.v (S (qfj (strOfNums (qaL [[Dat.n (IntKind.u8.wrap c)],[Dat.n (IntKind.u8.wrap ↑(BitVec.ofInt (8:Nat) (IntKind.u8.wrap c) ^^^ BitVec.ofInt (8:Nat) (85:Int)).toNat)],[Dat.n (IntKind.u8.wrap ↑(BitVec.ofInt (8:Nat) (IntKind.u8.wrap c) ^^^ BitVec.ofInt (8:Nat) (170:Int)).toNat)],[Dat.n (IntKind.u8.wrap ↑(BitVec.ofInt (8:Nat) (IntKind.u8.wrap c) ^^^ BitVec.ofInt (8:Nat) (255:Int)).toNat)]])))),M0))):=by kernel_rfl
def gRPCom (vs:List Value):Option (Bool×Value) :=
 match vs with
 | [.int .i64 c]=>some (true,S (comT c))
 | _=>none
theorem gRPCom_ok:CtV 133 gRPCom:=by
 intro vs r h
 unfold gRPCom at h
 split at h
 ·rename_i c
  obtain ⟨h1,rfl⟩:=qac h
  refine qaA (vs:=[I c]) (Λ:=L0) (m':=M0) qIg Tryz.func133 rfl (fun z _ _=>qdV _ z) ?_
  exact (quE c).trans (by
   unfold comT comR
   by_cases c1:c<1
   ·rw [decide_eq_true c1,decide_eq_false (show ¬ 1≤c by omega)];rfl
   by_cases c2:c>3
   ·rw [decide_eq_false c1,decide_eq_true c2,decide_eq_true (show 1≤c by omega),decide_eq_false (show ¬ c≤3 by omega)];rfl
   have hc:c=1∨c=2∨c=3:=by omega
   unfold qMw
   rcases hc with rfl|rfl|rfl
   ·simp only [qgH]
    rfl
   ·simp only [qgH]
    rfl
   ·simp only [qgH]
    rfl)
 ·cases h
def ΓR14:Orc:=qah 133 gRPCom ΓR13
theorem qNq:ΓR14.Ok Tryz.prog:=qaa qIg gRPCom_ok
def ΓRa:Orc:=ΓR14
theorem OkRa:ΓRa.Ok Tryz.prog:=qNq
end Go.Proofs.YtainfdcfkgemhaaGreat.Pe
namespace Go.Proofs.YtainfdcfkgemhaaGreat.Pe
open Go Go.Proofs Go.Sx Nw
set_option linter.unusedVariables false
def cOk (s:ByteArray):Bool:=comT (wI (qan s 0))==s
def coE (s:ByteArray):Int:=bif qks s 4 != 0 then qks s 4 else bif cOk s then 0 else 3
def ΓT1:Orc:=ΓRa
theorem OkT1:ΓT1.Ok Tryz.prog:=OkRa
def ΓT2:Orc:=ΓT1
theorem OkT2:ΓT2.Ok Tryz.prog:=OkT1
def ΓT3:Orc:=ΓT2
theorem OkT3:ΓT3.Ok Tryz.prog:=OkT2
theorem qzf (s:ByteArray):runG ΓT3 L0 Tryz.prog Tryz.f141 [.v (S s)] M0 =
 (bif true&&s.size.ble (1000000) then (bif qks s (4:Int) != (0:Int) then some (.v (.tuple #[(I 0),(I (qks s (4:Int)))]),M0) else (bif true&&decide ((0:Int)<↑s.size) then (bif !(comT (wI (qan s (0:Int)))).toList==s.toList then some (.v (.tuple #[(I 0),(I 3)]),M0) else some (.v (.tuple #[(I (wI (qan s (0:Int)))),(I 0)]),M0)) else none)) else none):=by kernel_rfl
def qBe (vs:List Value):Option (Bool×Value) :=
 match vs with
 | [.string s]=>some (Nat.ble s.size 1000000,.tuple #[I (okI (coE s==0) (wI (qan s 0))),I (coE s)])
 | _=>none
theorem qwl:CtV 141 qBe:=by
 intro vs r h
 unfold qBe at h
 split at h
 ·rename_i s
  obtain ⟨h1,rfl⟩:=qac h
  refine qaA (vs:=[S s]) (Λ:=L0) (m':=M0) OkT3 Tryz.func141 rfl (fun z _ _=>qdV _ z) ?_
  exact (qzf s).trans (by
   rw [h1]
   unfold coE
   rcases qkr s 4 with he|he|he|he
   ·rw [he];rfl
   ·rw [he];rfl
   ·rw [he];rfl
   ·have hs:=qOp he
    rw [he,decide_eq_true (show (0:Int)<(s.size:Int) by omega)]
    unfold cOk
    rw [← qkA]
    cases (comT (wI (qan s 0))).toList==s.toList<;>rfl)
 ·cases h
end Go.Proofs.YtainfdcfkgemhaaGreat.Pe
namespace Go.Proofs.YtainfdcfkgemhaaGreat.So
open Go Go.Proofs Go.Sx
set_option linter.unusedVariables false
def wrS (f:FuncId):Bool:=Nat.beq f 175||Nat.beq f 176||Nat.beq f 217||Nat.beq f 137||false||Nat.beq f 206||Nat.beq f 273||false||Nat.beq f 193||Nat.beq f 60||qjC f
def Γs0:Orc:={ qah 185 qnu ΓTl0 with wr:=wrS,sb:=true,bs:=true,av:=true }
theorem qOF:Γs0.Ok Tryz.prog:=⟨(qaa qCS qeq).call,(qaa qCS qeq).rd,(qaa qCS qeq).eqv⟩
def qhv (n m:Int):Bool:=bif decide (n<wI (0 - m)) then true else decide (n>m)
theorem qEP (n:Int) (m:Int):runG Γs0 L0 Tryz.prog Tryz.f326 [.v (I n),.v (I m)] M0 =
 (bif decide (n<wI ((0:Int) - m)) then some (.v (Bo true),M0) else some (.v (Bo (decide (n>m))),M0)):=by kernel_rfl
def qLv (vs:List Value):Option (Bool×Value) :=
 match vs with
 | [.int .i64 n,.int .i64 m]=>some (true,Bo (qhv n m))
 | _=>none
theorem qAV:CtV 326 qLv:=by
 intro vs r h
 unfold qLv at h
 split at h
 ·rename_i n m
  obtain ⟨h1,rfl⟩:=qac h
  refine qaA (vs:=[I n,I m]) (Λ:=L0) (m':=M0) qOF Tryz.func326 rfl l00 ?_
  exact (qEP n m).trans (by unfold qhv;cases decide (n<wI (0 - m))<;>rfl)
 ·cases h
def Γs1:Orc:=qah 326 qLv Γs0
theorem qOE:Γs1.Ok Tryz.prog:=qaa qOF qAV
theorem qEC (p:Int) (q:Int) (x:Int) (y:Int) (z:Int) (vx:Int) (vy:Int) (vz:Int):runG Γs1 L0 Tryz.prog Tryz.f327 [.v (.agg #[I p,I q,I x,I y,I z,I vx,I vy,I vz])] M0 =
 some (.v (.agg #[(I vx),(I vy),(I vz)]),M0):=by kernel_rfl
def qLj (vs:List Value):Option (Bool×Value) :=
 match vs with
 | [.agg ⟨[.int .i64 p,.int .i64 q,.int .i64 x,.int .i64 y,.int .i64 z,.int .i64 vx,.int .i64 vy,.int .i64 vz]⟩]=>some (true,.agg #[I vx,I vy,I vz])
 | _=>none
theorem qAI:CtV 327 qLj:=by
 intro vs r h
 unfold qLj at h
 split at h
 ·rename_i p q x y z vx vy vz
  obtain ⟨h1,rfl⟩:=qac h
  refine qaA (vs:=[.agg #[I p,I q,I x,I y,I z,I vx,I vy,I vz]]) (Λ:=L0) (m':=M0) qOE Tryz.func327 rfl l00 ?_
  exact (qEC p q x y z vx vy vz).trans (rfl)
 ·cases h
def Γs2:Orc:=qah 327 qLj Γs1
theorem qOD:Γs2.Ok Tryz.prog:=qaa qOE qAI
def qpi (x y z vx vy vz:Int):Bool:=qhv x 1073741824||(qhv y 1073741824||(qhv z 1073741824||(qhv vx 65536||(qhv vy 65536||qhv vz 65536))))
theorem qEK (p:Int) (q:Int) (x:Int) (y:Int) (z:Int) (vx:Int) (vy:Int) (vz:Int):runG Γs2 L0 Tryz.prog Tryz.f274 [.v (.agg #[I p,I q,I x,I y,I z,I vx,I vy,I vz])] M0 =
 (bif qhv x (1073741824:Int) then some (.v (Bo true),M0) else (bif qhv y (1073741824:Int) then some (.v (Bo true),M0) else (bif qhv z (1073741824:Int) then some (.v (Bo true),M0) else (bif qhv vx (65536:Int) then some (.v (Bo true),M0) else (bif qhv vy (65536:Int) then some (.v (Bo true),M0) else (bif qhv vz (65536:Int) then some (.v (Bo true),M0) else some (.v (Bo false),M0))))))):=by kernel_rfl
def qLt (vs:List Value):Option (Bool×Value) :=
 match vs with
 | [.agg ⟨[.int .i64 p,.int .i64 q,.int .i64 x,.int .i64 y,.int .i64 z,.int .i64 vx,.int .i64 vy,.int .i64 vz]⟩]=>some (true,Bo (qpi x y z vx vy vz))
 | _=>none
theorem qAS:CtV 274 qLt:=by
 intro vs r h
 unfold qLt at h
 split at h
 ·rename_i p q x y z vx vy vz
  obtain ⟨h1,rfl⟩:=qac h
  refine qaA (vs:=[.agg #[I p,I q,I x,I y,I z,I vx,I vy,I vz]]) (Λ:=L0) (m':=M0) qOD Tryz.func274 rfl l00 ?_
  exact (qEK p q x y z vx vy vz).trans (by unfold qpi;cases qhv x 1073741824<;>cases qhv y 1073741824<;>cases qhv z 1073741824<;>cases qhv vx 65536<;>cases qhv vy 65536<;>cases qhv vz 65536<;>rfl)
 ·cases h
def Γs3:Orc:=qah 274 qLt Γs2
theorem qOC:Γs3.Ok Tryz.prog:=qaa qOD qAS
def qq1 (a b P:Int):Bool:=decide (a - b>P)||decide (b - a>P)
def qaM (a:Int):Bool:=decide (-9223372036854775808≤a∧a<9223372036854775808)
theorem qEE (a:Int) (b:Int) (s:Int) (c:Int):runG Γs3 L0 Tryz.prog Tryz.f328 [.v (I a),.v (I b),.v (I s),.v (I c)] M0 =
 (bif inU (IntKind.u64.wrap s)&&inU (IntKind.u64.wrap c) then (bif IntKind.u64.wrap s*IntKind.u64.wrap c / (18446744073709551616:Int)==(0:Int) then some (.v (Bo (decide (IntKind.u64.wrap (IntKind.u64.wrap (if b>a then b else a) - IntKind.u64.wrap (if b<a then b else a))>IntKind.u64.wrap s*IntKind.u64.wrap c % (18446744073709551616:Int)))),M0) else some (.v (Bo false),M0)) else none):=by kernel_rfl
def qLl (vs:List Value):Option (Bool×Value) :=
 match vs with
 | [.int .i64 a,.int .i64 b,.int .i64 s,.int .i64 c]=>some (qaM a&&(qaM b&&(decide (0≤s∧s<9223372036854775808)&&decide (0≤c∧c<9223372036854775808))),Bo (qq1 a b (s*c)))
 | _=>none
theorem qAK:CtV 328 qLl:=by
 intro vs r h
 unfold qLl at h
 split at h
 ·rename_i a b s c
  obtain ⟨h1,rfl⟩:=qac h
  refine qaA (vs:=[I a,I b,I s,I c]) (Λ:=L0) (m':=M0) qOC Tryz.func328 rfl l00 ?_
  exact (qEE a b s c).trans (by
   simp only [Bool.and_eq_true,decide_eq_true_eq,qaM] at h1
   obtain ⟨h1,h2,h3,h4⟩:=h1
   rw [qd9 (n:=s) (by omega),qd9 (n:=c) (by omega),qbd.2 (by omega),qbd.2 (by omega)]
   have hp:0≤s*c:=Int.mul_nonneg h3.1 h4.1
   generalize s*c=P at *
   have hd:IntKind.u64.wrap (IntKind.u64.wrap (if b>a then b else a) - IntKind.u64.wrap (if b<a then b else a))=(if b>a then b - a else a - b):=by
    rw [wrU,wrU,wrU]
    split<;>split<;>omega
   rw [hd]
   unfold qq1
   by_cases h:P / 18446744073709551616=0
   ·rw [h]
    have e:(decide ((if b>a then b - a else a - b)>P % 18446744073709551616))=(decide (a - b>P)||decide (b - a>P)):=by
     rw [← Bool.decide_or,decide_eq_decide]
     split<;>omega
    show some (SV.v (Bo (decide _)),M0)=_
    rw [e]
   ·rw [beq_eq_false_iff_ne.2 h,decide_eq_false (show ¬ a - b>P by omega),decide_eq_false (show ¬ b - a>P by omega)]
    rfl)
 ·cases h
def Γs4:Orc:=qah 328 qLl Γs3
theorem qOB:Γs4.Ok Tryz.prog:=qaa qOC qAK
def jmB (vx vy vz l6 l7 l8 P:Int):Bool:=qq1 vx l6 P||(qq1 vy l7 P||qq1 vz l8 P)
theorem qEG (p:Int) (q:Int) (x:Int) (y:Int) (z:Int) (vx:Int) (vy:Int) (vz:Int) (s:Int) (ma:Int) (l1:Int) (l2:Int) (l3:Int) (l4:Int) (l5:Int) (l6:Int) (l7:Int) (l8:Int) (hs:Bool) (ct:Int) (t:Int):runG Γs4 L0 Tryz.prog Tryz.f275 [.ptr 0 0,.v (.agg #[I p,I q,I x,I y,I z,I vx,I vy,I vz])] ⟨[[.v (I s),.v (I ma),.ptr 1 0,.v (I l1),.v (I l2),.v (I l3),.v (I l4),.v (I l5),.v (I l6),.v (I l7),.v (I l8),.v (Bo hs)],[.v (I ct),.v (I t)]],[true,true],[]⟩ =
 (bif qaM vx&&(qaM l6&&(decide ((0:Int)≤s∧s<(9223372036854775808:Int))&&decide ((0:Int)≤wI (t+(1:Int))∧wI (t+(1:Int))<(9223372036854775808:Int)))) then (bif qq1 vx l6 (s*wI (t+(1:Int))) then some (.v (Bo true),⟨[[.v (I s),.v (I ma),.ptr 1 0,.v (I l1),.v (I l2),.v (I l3),.v (I l4),.v (I l5),.v (I l6),.v (I l7),.v (I l8),.v (Bo hs)],[.v (I ct),.v (I t)]],[true,true],[]⟩) else (bif qaM vy&&(qaM l7&&(decide ((0:Int)≤s∧s<(9223372036854775808:Int))&&decide ((0:Int)≤wI (t+(1:Int))∧wI (t+(1:Int))<(9223372036854775808:Int)))) then (bif qq1 vy l7 (s*wI (t+(1:Int))) then some (.v (Bo true),⟨[[.v (I s),.v (I ma),.ptr 1 0,.v (I l1),.v (I l2),.v (I l3),.v (I l4),.v (I l5),.v (I l6),.v (I l7),.v (I l8),.v (Bo hs)],[.v (I ct),.v (I t)]],[true,true],[]⟩) else (bif qaM vz&&(qaM l8&&(decide ((0:Int)≤s∧s<(9223372036854775808:Int))&&decide ((0:Int)≤wI (t+(1:Int))∧wI (t+(1:Int))<(9223372036854775808:Int)))) then (bif qq1 vz l8 (s*wI (t+(1:Int))) then some (.v (Bo true),⟨[[.v (I s),.v (I ma),.ptr 1 0,.v (I l1),.v (I l2),.v (I l3),.v (I l4),.v (I l5),.v (I l6),.v (I l7),.v (I l8),.v (Bo hs)],[.v (I ct),.v (I t)]],[true,true],[]⟩) else some (.v (Bo false),⟨[[.v (I s),.v (I ma),.ptr 1 0,.v (I l1),.v (I l2),.v (I l3),.v (I l4),.v (I l5),.v (I l6),.v (I l7),.v (I l8),.v (Bo hs)],[.v (I ct),.v (I t)]],[true,true],[]⟩)) else none)) else none)) else none):=by kernel_rfl
def qLo (xs:List SV) (m:Mem):Option (Bool×Value) :=
 match xs,m with
 | [.ptr 0 0,.v (.agg ⟨[.int .i64 p,.int .i64 q,.int .i64 x,.int .i64 y,.int .i64 z,.int .i64 vx,.int .i64 vy,.int .i64 vz]⟩)],⟨[[.v (.int .i64 s),.v (.int .i64 ma),.ptr 1 0,.v (.int .i64 l1),.v (.int .i64 l2),.v (.int .i64 l3),.v (.int .i64 l4),.v (.int .i64 l5),.v (.int .i64 l6),.v (.int .i64 l7),.v (.int .i64 l8),.v (.bool hs)],[.v (.int .i64 ct),.v (.int .i64 t)]],[true,true],[]⟩=>some ((qaM vx&&(qaM vy&&(qaM vz&&(qaM l6&&(qaM l7&&(qaM l8&&(decide (0≤s∧s<9223372036854775808)&&decide (0≤t∧t≤1000000)))))))),Bo (jmB vx vy vz l6 l7 l8 (s*(t+1))))
 | _,_=>none
theorem qAM:CtR 275 qLo:=by
 intro xs m r h
 unfold qLo at h
 split at h
 ·rename_i p q x y z vx vy vz s ma l1 l2 l3 l4 l5 l6 l7 l8 hs ct t
  obtain ⟨h1,rfl⟩:=qac h
  refine qal (Λ:=L0) qOB Tryz.func275 rfl l00 ?_
  refine (qEG p q x y z vx vy vz s ma l1 l2 l3 l4 l5 l6 l7 l8 hs ct t).trans ?_
  simp only [Bool.and_eq_true] at h1
  obtain ⟨h1,h2,h3,h4,h5,h6,h7,h8⟩:=h1
  have h9:=of_decide_eq_true h8
  rw [qaw (n:=t+1) (by omega),h1,h2,h3,h4,h5,h6,h7,decide_eq_true (show 0≤t+1∧t+1<9223372036854775808 by omega)]
  unfold jmB
  cases qq1 vx l6 (s*(t+1))<;>cases qq1 vy l7 (s*(t+1))<;>cases qq1 vz l8 (s*(t+1))<;>rfl
 ·cases h
def Γs5:Orc:=qay 275 qLo Γs4
theorem qOA:Γs5.Ok Tryz.prog:=qai qOB qAM
def ftI (st fl fr jm:Bool):Int:=(bif st then 2 else 0)+((bif fl then 4 else 0)+((bif fr then 8 else 0)+(bif jm then 16 else 0)))
def qhN (q:Int) (x:Int) (y:Int) (z:Int) (vx:Int) (vy:Int) (vz:Int) (s:Int) (ma:Int) (l1:Int) (l2:Int) (l3:Int) (l4:Int) (l5:Int) (l6:Int) (l7:Int) (l8:Int) (hs:Bool) (ct:Int) (t:Int):Option (SV×Mem):=bif q != (0:Int) then (bif qpi x y z vx vy vz then (bif hs then (bif qaM vx&&(qaM vy&&(qaM vz&&(qaM l6&&(qaM l7&&(qaM l8&&(decide ((0:Int)≤s∧s<(9223372036854775808:Int))&&decide ((0:Int)≤t∧t≤(1000000:Int)))))))) then (bif jmB vx vy vz l6 l7 l8 (s*(t+(1:Int))) then some (.v (I 28),⟨[[.v (I s),.v (I ma),.ptr 1 0,.v (I l1),.v (I l2),.v (I l3),.v (I l4),.v (I l5),.v (I l6),.v (I l7),.v (I l8),.v (Bo hs)],[.v (I ct),.v (I t)]],[true,true],[]⟩) else some (.v (I 12),⟨[[.v (I s),.v (I ma),.ptr 1 0,.v (I l1),.v (I l2),.v (I l3),.v (I l4),.v (I l5),.v (I l6),.v (I l7),.v (I l8),.v (Bo hs)],[.v (I ct),.v (I t)]],[true,true],[]⟩)) else none) else some (.v (I 12),⟨[[.v (I s),.v (I ma),.ptr 1 0,.v (I l1),.v (I l2),.v (I l3),.v (I l4),.v (I l5),.v (I l6),.v (I l7),.v (I l8),.v (Bo hs)],[.v (I ct),.v (I t)]],[true,true],[]⟩)) else (bif hs then (bif qaM vx&&(qaM vy&&(qaM vz&&(qaM l6&&(qaM l7&&(qaM l8&&(decide ((0:Int)≤s∧s<(9223372036854775808:Int))&&decide ((0:Int)≤t∧t≤(1000000:Int)))))))) then (bif jmB vx vy vz l6 l7 l8 (s*(t+(1:Int))) then some (.v (I 20),⟨[[.v (I s),.v (I ma),.ptr 1 0,.v (I l1),.v (I l2),.v (I l3),.v (I l4),.v (I l5),.v (I l6),.v (I l7),.v (I l8),.v (Bo hs)],[.v (I ct),.v (I t)]],[true,true],[]⟩) else some (.v (I 4),⟨[[.v (I s),.v (I ma),.ptr 1 0,.v (I l1),.v (I l2),.v (I l3),.v (I l4),.v (I l5),.v (I l6),.v (I l7),.v (I l8),.v (Bo hs)],[.v (I ct),.v (I t)]],[true,true],[]⟩)) else none) else some (.v (I 4),⟨[[.v (I s),.v (I ma),.ptr 1 0,.v (I l1),.v (I l2),.v (I l3),.v (I l4),.v (I l5),.v (I l6),.v (I l7),.v (I l8),.v (Bo hs)],[.v (I ct),.v (I t)]],[true,true],[]⟩))) else (bif qpi x y z vx vy vz then (bif hs then (bif qaM vx&&(qaM vy&&(qaM vz&&(qaM l6&&(qaM l7&&(qaM l8&&(decide ((0:Int)≤s∧s<(9223372036854775808:Int))&&decide ((0:Int)≤t∧t≤(1000000:Int)))))))) then (bif jmB vx vy vz l6 l7 l8 (s*(t+(1:Int))) then some (.v (I 24),⟨[[.v (I s),.v (I ma),.ptr 1 0,.v (I l1),.v (I l2),.v (I l3),.v (I l4),.v (I l5),.v (I l6),.v (I l7),.v (I l8),.v (Bo hs)],[.v (I ct),.v (I t)]],[true,true],[]⟩) else some (.v (I 8),⟨[[.v (I s),.v (I ma),.ptr 1 0,.v (I l1),.v (I l2),.v (I l3),.v (I l4),.v (I l5),.v (I l6),.v (I l7),.v (I l8),.v (Bo hs)],[.v (I ct),.v (I t)]],[true,true],[]⟩)) else none) else some (.v (I 8),⟨[[.v (I s),.v (I ma),.ptr 1 0,.v (I l1),.v (I l2),.v (I l3),.v (I l4),.v (I l5),.v (I l6),.v (I l7),.v (I l8),.v (Bo hs)],[.v (I ct),.v (I t)]],[true,true],[]⟩)) else (bif hs then (bif qaM vx&&(qaM vy&&(qaM vz&&(qaM l6&&(qaM l7&&(qaM l8&&(decide ((0:Int)≤s∧s<(9223372036854775808:Int))&&decide ((0:Int)≤t∧t≤(1000000:Int)))))))) then (bif jmB vx vy vz l6 l7 l8 (s*(t+(1:Int))) then some (.v (I 16),⟨[[.v (I s),.v (I ma),.ptr 1 0,.v (I l1),.v (I l2),.v (I l3),.v (I l4),.v (I l5),.v (I l6),.v (I l7),.v (I l8),.v (Bo hs)],[.v (I ct),.v (I t)]],[true,true],[]⟩) else some (.v (I 0),⟨[[.v (I s),.v (I ma),.ptr 1 0,.v (I l1),.v (I l2),.v (I l3),.v (I l4),.v (I l5),.v (I l6),.v (I l7),.v (I l8),.v (Bo hs)],[.v (I ct),.v (I t)]],[true,true],[]⟩)) else none) else some (.v (I 0),⟨[[.v (I s),.v (I ma),.ptr 1 0,.v (I l1),.v (I l2),.v (I l3),.v (I l4),.v (I l5),.v (I l6),.v (I l7),.v (I l8),.v (Bo hs)],[.v (I ct),.v (I t)]],[true,true],[]⟩)))
theorem qEI (p:Int) (q:Int) (x:Int) (y:Int) (z:Int) (vx:Int) (vy:Int) (vz:Int) (s:Int) (ma:Int) (l1:Int) (l2:Int) (l3:Int) (l4:Int) (l5:Int) (l6:Int) (l7:Int) (l8:Int) (hs:Bool) (ct:Int) (t:Int):runG Γs5 L0 Tryz.prog Tryz.f207 [.ptr 0 0,.v (.agg #[I p,I q,I x,I y,I z,I vx,I vy,I vz])] ⟨[[.v (I s),.v (I ma),.ptr 1 0,.v (I l1),.v (I l2),.v (I l3),.v (I l4),.v (I l5),.v (I l6),.v (I l7),.v (I l8),.v (Bo hs)],[.v (I ct),.v (I t)]],[true,true],[]⟩ =
 (bif hs then (bif p==l1 then (bif q != (0:Int) then (bif qpi x y z vx vy vz then (bif hs then (bif qaM vx&&(qaM vy&&(qaM vz&&(qaM l6&&(qaM l7&&(qaM l8&&(decide ((0:Int)≤s∧s<(9223372036854775808:Int))&&decide ((0:Int)≤t∧t≤(1000000:Int)))))))) then (bif jmB vx vy vz l6 l7 l8 (s*(t+(1:Int))) then some (.v (I 30),⟨[[.v (I s),.v (I ma),.ptr 1 0,.v (I l1),.v (I l2),.v (I l3),.v (I l4),.v (I l5),.v (I l6),.v (I l7),.v (I l8),.v (Bo hs)],[.v (I ct),.v (I t)]],[true,true],[]⟩) else some (.v (I 14),⟨[[.v (I s),.v (I ma),.ptr 1 0,.v (I l1),.v (I l2),.v (I l3),.v (I l4),.v (I l5),.v (I l6),.v (I l7),.v (I l8),.v (Bo hs)],[.v (I ct),.v (I t)]],[true,true],[]⟩)) else none) else some (.v (I 14),⟨[[.v (I s),.v (I ma),.ptr 1 0,.v (I l1),.v (I l2),.v (I l3),.v (I l4),.v (I l5),.v (I l6),.v (I l7),.v (I l8),.v (Bo hs)],[.v (I ct),.v (I t)]],[true,true],[]⟩)) else (bif hs then (bif qaM vx&&(qaM vy&&(qaM vz&&(qaM l6&&(qaM l7&&(qaM l8&&(decide ((0:Int)≤s∧s<(9223372036854775808:Int))&&decide ((0:Int)≤t∧t≤(1000000:Int)))))))) then (bif jmB vx vy vz l6 l7 l8 (s*(t+(1:Int))) then some (.v (I 22),⟨[[.v (I s),.v (I ma),.ptr 1 0,.v (I l1),.v (I l2),.v (I l3),.v (I l4),.v (I l5),.v (I l6),.v (I l7),.v (I l8),.v (Bo hs)],[.v (I ct),.v (I t)]],[true,true],[]⟩) else some (.v (I 6),⟨[[.v (I s),.v (I ma),.ptr 1 0,.v (I l1),.v (I l2),.v (I l3),.v (I l4),.v (I l5),.v (I l6),.v (I l7),.v (I l8),.v (Bo hs)],[.v (I ct),.v (I t)]],[true,true],[]⟩)) else none) else some (.v (I 6),⟨[[.v (I s),.v (I ma),.ptr 1 0,.v (I l1),.v (I l2),.v (I l3),.v (I l4),.v (I l5),.v (I l6),.v (I l7),.v (I l8),.v (Bo hs)],[.v (I ct),.v (I t)]],[true,true],[]⟩))) else (bif qpi x y z vx vy vz then (bif hs then (bif qaM vx&&(qaM vy&&(qaM vz&&(qaM l6&&(qaM l7&&(qaM l8&&(decide ((0:Int)≤s∧s<(9223372036854775808:Int))&&decide ((0:Int)≤t∧t≤(1000000:Int)))))))) then (bif jmB vx vy vz l6 l7 l8 (s*(t+(1:Int))) then some (.v (I 26),⟨[[.v (I s),.v (I ma),.ptr 1 0,.v (I l1),.v (I l2),.v (I l3),.v (I l4),.v (I l5),.v (I l6),.v (I l7),.v (I l8),.v (Bo hs)],[.v (I ct),.v (I t)]],[true,true],[]⟩) else some (.v (I 10),⟨[[.v (I s),.v (I ma),.ptr 1 0,.v (I l1),.v (I l2),.v (I l3),.v (I l4),.v (I l5),.v (I l6),.v (I l7),.v (I l8),.v (Bo hs)],[.v (I ct),.v (I t)]],[true,true],[]⟩)) else none) else some (.v (I 10),⟨[[.v (I s),.v (I ma),.ptr 1 0,.v (I l1),.v (I l2),.v (I l3),.v (I l4),.v (I l5),.v (I l6),.v (I l7),.v (I l8),.v (Bo hs)],[.v (I ct),.v (I t)]],[true,true],[]⟩)) else (bif hs then (bif qaM vx&&(qaM vy&&(qaM vz&&(qaM l6&&(qaM l7&&(qaM l8&&(decide ((0:Int)≤s∧s<(9223372036854775808:Int))&&decide ((0:Int)≤t∧t≤(1000000:Int)))))))) then (bif jmB vx vy vz l6 l7 l8 (s*(t+(1:Int))) then some (.v (I 18),⟨[[.v (I s),.v (I ma),.ptr 1 0,.v (I l1),.v (I l2),.v (I l3),.v (I l4),.v (I l5),.v (I l6),.v (I l7),.v (I l8),.v (Bo hs)],[.v (I ct),.v (I t)]],[true,true],[]⟩) else some (.v (I 2),⟨[[.v (I s),.v (I ma),.ptr 1 0,.v (I l1),.v (I l2),.v (I l3),.v (I l4),.v (I l5),.v (I l6),.v (I l7),.v (I l8),.v (Bo hs)],[.v (I ct),.v (I t)]],[true,true],[]⟩)) else none) else some (.v (I 2),⟨[[.v (I s),.v (I ma),.ptr 1 0,.v (I l1),.v (I l2),.v (I l3),.v (I l4),.v (I l5),.v (I l6),.v (I l7),.v (I l8),.v (Bo hs)],[.v (I ct),.v (I t)]],[true,true],[]⟩)))) else (qhN q x y z vx vy vz s ma l1 l2 l3 l4 l5 l6 l7 l8 hs ct t)) else (qhN q x y z vx vy vz s ma l1 l2 l3 l4 l5 l6 l7 l8 hs ct t)):=by kernel_rfl
def qLr (xs:List SV) (m:Mem):Option (Bool×Value) :=
 match xs,m with
 | [.ptr 0 0,.v (.agg ⟨[.int .i64 p,.int .i64 q,.int .i64 x,.int .i64 y,.int .i64 z,.int .i64 vx,.int .i64 vy,.int .i64 vz]⟩)],⟨[[.v (.int .i64 s),.v (.int .i64 ma),.ptr 1 0,.v (.int .i64 l1),.v (.int .i64 l2),.v (.int .i64 l3),.v (.int .i64 l4),.v (.int .i64 l5),.v (.int .i64 l6),.v (.int .i64 l7),.v (.int .i64 l8),.v (.bool hs)],[.v (.int .i64 ct),.v (.int .i64 t)]],[true,true],[]⟩=>some ((qaM vx&&(qaM vy&&(qaM vz&&(qaM l6&&(qaM l7&&(qaM l8&&(decide (0≤s∧s<9223372036854775808)&&decide (0≤t∧t≤1000000)))))))),I (ftI (hs&&p==l1) (q != 0) (qpi x y z vx vy vz) (hs&&jmB vx vy vz l6 l7 l8 (s*(t+1)))))
 | _,_=>none
theorem qAQ:CtR 207 qLr:=by
 intro xs m r h
 unfold qLr at h
 split at h
 ·rename_i p q x y z vx vy vz s ma l1 l2 l3 l4 l5 l6 l7 l8 hs ct t
  obtain ⟨h1,rfl⟩:=qac h
  refine qal (Λ:=L0) qOA Tryz.func207 rfl l00 ?_
  refine (qEI p q x y z vx vy vz s ma l1 l2 l3 l4 l5 l6 l7 l8 hs ct t).trans ?_
  unfold qhN
  rw [h1]
  cases hs<;>cases p==l1<;>cases q != 0<;>cases qpi x y z vx vy vz<;>cases jmB vx vy vz l6 l7 l8 (s*(t+1))<;>rfl
 ·cases h
def Γs6:Orc:=qay 207 qLr Γs5
theorem qOz:Γs6.Ok Tryz.prog:=qai qOA qAQ
def gN (b:Bool) (x:Int):Int:=bif b then 0 else x
def gB' (b x:Bool):Bool:=bif b then false else x
theorem qEJ (s:Int) (ma:Int) (l1:Int) (l2:Int) (l3:Int) (l4:Int) (l5:Int) (l6:Int) (l7:Int) (l8:Int) (hs:Bool) (ct:Int) (t:Int):runG Γs6 L0 Tryz.prog Tryz.f273 [.ptr 0 0] ⟨[[.v (I s),.v (I ma),.ptr 1 0,.v (I l1),.v (I l2),.v (I l3),.v (I l4),.v (I l5),.v (I l6),.v (I l7),.v (I l8),.v (Bo hs)],[.v (I ct),.v (I t)]],[true,true],[]⟩ =
 some (.v (.tuple #[]),⟨[[.v (I s),.v (I ma),.ptr 1 0,.v (I 0),.v (I 0),.v (I 0),.v (I 0),.v (I 0),.v (I 0),.v (I 0),.v (I 0),.v (Bo false)],[.v (I ct),.v (I t)]],[true,true],[]⟩):=by kernel_rfl
def qLs (xs:List SV) (m:Mem):Option (Bool×SV×Mem) :=
 match xs,m with
 | [.ptr 0 0],⟨[[.v (.int .i64 s),.v (.int .i64 ma),.ptr 1 0,.v (.int .i64 l1),.v (.int .i64 l2),.v (.int .i64 l3),.v (.int .i64 l4),.v (.int .i64 l5),.v (.int .i64 l6),.v (.int .i64 l7),.v (.int .i64 l8),.v (.bool hs)],[.v (.int .i64 ct),.v (.int .i64 t)]],[true,true],[]⟩=>some (true,.v (.tuple #[]),⟨[[.v (I s),.v (I ma),.ptr 1 0,.v (I 0),.v (I 0),.v (I 0),.v (I 0),.v (I 0),.v (I 0),.v (I 0),.v (I 0),.v (Bo false)],[.v (I ct),.v (I t)]],[true,true],[]⟩)
 | _,_=>none
theorem qAR:CtC 273 qLs:=by
 intro xs m r m' h
 unfold qLs at h
 split at h
 ·rename_i s ma l1 l2 l3 l4 l5 l6 l7 l8 hs ct t
  obtain ⟨h1,rfl,rfl⟩:=qaf h
  refine qal (Λ:=L0) qOz Tryz.func273 rfl l00 ?_
  refine (qEJ s ma l1 l2 l3 l4 l5 l6 l7 l8 hs ct t).trans ?_
  rfl
 ·cases h
def Γs7:Orc:=qau 273 qLs Γs6
theorem qOy:Γs7.Ok Tryz.prog:=qad qOz qAR
theorem qEH (s:Int) (ma:Int) (l1:Int) (l2:Int) (l3:Int) (l4:Int) (l5:Int) (l6:Int) (l7:Int) (l8:Int) (hs:Bool) (ct:Int) (t:Int):runG Γs7 L0 Tryz.prog Tryz.f206 [.ptr 0 0] ⟨[[.v (I s),.v (I ma),.ptr 1 0,.v (I l1),.v (I l2),.v (I l3),.v (I l4),.v (I l5),.v (I l6),.v (I l7),.v (I l8),.v (Bo hs)],[.v (I ct),.v (I t)]],[true,true],[]⟩ =
 (bif decide (qap ct t (1:Int)>ma) then some (.v (.tuple #[]),⟨[[.v (I s),.v (I ma),.ptr 1 0,.v (I 0),.v (I 0),.v (I 0),.v (I 0),.v (I 0),.v (I 0),.v (I 0),.v (I 0),.v (Bo false)],[.v (I ct),.v (I (qap ct t (1:Int)))]],[true,true],[]⟩) else some (.v (.tuple #[]),⟨[[.v (I s),.v (I ma),.ptr 1 0,.v (I l1),.v (I l2),.v (I l3),.v (I l4),.v (I l5),.v (I l6),.v (I l7),.v (I l8),.v (Bo hs)],[.v (I ct),.v (I (qap ct t (1:Int)))]],[true,true],[]⟩)):=by kernel_rfl
def qLq (xs:List SV) (m:Mem):Option (Bool×SV×Mem) :=
 match xs,m with
 | [.ptr 0 0],⟨[[.v (.int .i64 s),.v (.int .i64 ma),.ptr 1 0,.v (.int .i64 l1),.v (.int .i64 l2),.v (.int .i64 l3),.v (.int .i64 l4),.v (.int .i64 l5),.v (.int .i64 l6),.v (.int .i64 l7),.v (.int .i64 l8),.v (.bool hs)],[.v (.int .i64 ct),.v (.int .i64 t)]],[true,true],[]⟩=>some (true,.v (.tuple #[]),⟨[[.v (I s),.v (I ma),.ptr 1 0,.v (I (gN (decide (qap ct t 1>ma)) l1)),.v (I (gN (decide (qap ct t 1>ma)) l2)),.v (I (gN (decide (qap ct t 1>ma)) l3)),.v (I (gN (decide (qap ct t 1>ma)) l4)),.v (I (gN (decide (qap ct t 1>ma)) l5)),.v (I (gN (decide (qap ct t 1>ma)) l6)),.v (I (gN (decide (qap ct t 1>ma)) l7)),.v (I (gN (decide (qap ct t 1>ma)) l8)),.v (Bo (gB' (decide (qap ct t 1>ma)) hs))],[.v (I ct),.v (I (qap ct t 1))]],[true,true],[]⟩)
 | _,_=>none
theorem qAP:CtC 206 qLq:=by
 intro xs m r m' h
 unfold qLq at h
 split at h
 ·rename_i s ma l1 l2 l3 l4 l5 l6 l7 l8 hs ct t
  obtain ⟨h1,rfl,rfl⟩:=qaf h
  refine qal (Λ:=L0) qOy Tryz.func206 rfl l00 ?_
  refine (qEH s ma l1 l2 l3 l4 l5 l6 l7 l8 hs ct t).trans ?_
  unfold gN gB'
  cases decide (qap ct t 1>ma)<;>rfl
 ·cases h
def Γs8:Orc:=qau 206 qLq Γs7
theorem Oks8:Γs8.Ok Tryz.prog:=qad qOy qAP
def Γs9:Orc:=Γs8
theorem Oks9:Γs9.Ok Tryz.prog:=Oks8
def Γs10:Orc:=Γs9
theorem qMY:Γs10.Ok Tryz.prog:=Oks9
def Γs11:Orc:=Γs10
theorem qH2:Γs11.Ok Tryz.prog:=qMY
def nv0 (L:List (List Dat)):Int:=((L.getD (wI ((L.length:Int) - 1)).toNat []).headD (.n 0)).toI
def nv1 (L:List (List Dat)):Int:=((L.getD (wI ((L.length:Int) - 1)).toNat []).tail.headD (.n 0)).toI
def nv2 (L:List (List Dat)):Int:=((L.getD (wI ((L.length:Int) - 1)).toNat []).tail.tail.headD (.n 0)).toI
def nv3 (L:List (List Dat)):Int:=((L.getD (wI ((L.length:Int) - 1)).toNat []).tail.tail.tail.headD (.n 0)).toI
def nv4 (L:List (List Dat)):Int:=((L.getD (wI ((L.length:Int) - 1)).toNat []).tail.tail.tail.tail.headD (.n 0)).toI
def nv5 (L:List (List Dat)):Int:=((L.getD (wI ((L.length:Int) - 1)).toNat []).tail.tail.tail.tail.tail.headD (.n 0)).toI
def nv6 (L:List (List Dat)):Int:=((L.getD (wI ((L.length:Int) - 1)).toNat []).tail.tail.tail.tail.tail.tail.headD (.n 0)).toI
def nv7 (L:List (List Dat)):Int:=((L.getD (wI ((L.length:Int) - 1)).toNat []).tail.tail.tail.tail.tail.tail.tail.headD (.n 0)).toI
abbrev kNv:List CK:=[.num .i64,.num .i64,.num .i64,.num .i64,.num .i64,.num .i64,.num .i64,.num .i64]
abbrev rN (L:List (List Dat)) (own mark:Bool):RowS:=.live ⟨56,kNv,L,own,mark⟩
theorem qEO (s:Int) (ma:Int) (l1:Int) (l2:Int) (l3:Int) (l4:Int) (l5:Int) (l6:Int) (l7:Int) (l8:Int) (hs:Bool) (ct:Int) (t:Int):runG Γs11 L0 Tryz.prog Tryz.f137 [.ptr 0 0,.v (.slice none 0 0)] ⟨[[.v (I s),.v (I ma),.ptr 1 0,.v (I l1),.v (I l2),.v (I l3),.v (I l4),.v (I l5),.v (I l6),.v (I l7),.v (I l8),.v (Bo hs)],[.v (I ct),.v (I t)]],[true,true],[]⟩ =
 some (.v (.tuple #[(.agg #[(I 0),(I 0),(I 0),(I 0),(I 0),(I 0),(I 0),(I 0)]),(I 1)]),⟨[[.v (I s),.v (I ma),.ptr 1 0,.v (I (gN (decide (qap ct t (1:Int)>ma)) l1)),.v (I (gN (decide (qap ct t (1:Int)>ma)) l2)),.v (I (gN (decide (qap ct t (1:Int)>ma)) l3)),.v (I (gN (decide (qap ct t (1:Int)>ma)) l4)),.v (I (gN (decide (qap ct t (1:Int)>ma)) l5)),.v (I (gN (decide (qap ct t (1:Int)>ma)) l6)),.v (I (gN (decide (qap ct t (1:Int)>ma)) l7)),.v (I (gN (decide (qap ct t (1:Int)>ma)) l8)),.v (Bo (gB' (decide (qap ct t (1:Int)>ma)) hs))],[.v (I ct),.v (I (qap ct t (1:Int)))]],[true,true],[]⟩):=by kernel_rfl
def qLu (xs:List SV) (m:Mem):Option (Bool×SV×Mem) :=
 match xs,m with
 | [.ptr 0 0,.v (.slice none 0 0)],⟨[[.v (.int .i64 s),.v (.int .i64 ma),.ptr 1 0,.v (.int .i64 l1),.v (.int .i64 l2),.v (.int .i64 l3),.v (.int .i64 l4),.v (.int .i64 l5),.v (.int .i64 l6),.v (.int .i64 l7),.v (.int .i64 l8),.v (.bool hs)],[.v (.int .i64 ct),.v (.int .i64 t)]],[true,true],[]⟩=>some (true,.v (.tuple #[.agg #[I 0,I 0,I 0,I 0,I 0,I 0,I 0,I 0],I 1]),⟨[[.v (I s),.v (I ma),.ptr 1 0,.v (I (gN (decide (qap ct t 1>ma)) l1)),.v (I (gN (decide (qap ct t 1>ma)) l2)),.v (I (gN (decide (qap ct t 1>ma)) l3)),.v (I (gN (decide (qap ct t 1>ma)) l4)),.v (I (gN (decide (qap ct t 1>ma)) l5)),.v (I (gN (decide (qap ct t 1>ma)) l6)),.v (I (gN (decide (qap ct t 1>ma)) l7)),.v (I (gN (decide (qap ct t 1>ma)) l8)),.v (Bo (gB' (decide (qap ct t 1>ma)) hs))],[.v (I ct),.v (I (qap ct t 1))]],[true,true],[]⟩)
 | _,_=>none
theorem qAT:CtC 137 qLu:=by
 intro xs m r m' h
 unfold qLu at h
 split at h
 ·rename_i s ma l1 l2 l3 l4 l5 l6 l7 l8 hs ct t
  obtain ⟨h1,rfl,rfl⟩:=qaf h
  refine qal (Λ:=L0) qH2 Tryz.func137 rfl l00 ?_
  refine (qEO s ma l1 l2 l3 l4 l5 l6 l7 l8 hs ct t).trans ?_
  rfl
 ·cases h
def Γs12:Orc:=qau 137 qLu Γs11
theorem qH1:Γs12.Ok Tryz.prog:=qad qH2 qAT
def faI (L:List (List Dat)) (hs:Bool) (l1 l6 l7 l8 P:Int):Int:=bif (L.length:Int)==0 then 1 else ftI (hs&&nv0 L==l1) (nv1 L != 0) (qpi (nv2 L) (nv3 L) (nv4 L) (nv5 L) (nv6 L) (nv7 L)) (hs&&jmB (nv5 L) (nv6 L) (nv7 L) l6 l7 l8 P)
def pk (b:Bool) (x y:Int):Int:=bif b then x else y
theorem qEN (s:Int) (ma:Int) (l1:Int) (l2:Int) (l3:Int) (l4:Int) (l5:Int) (l6:Int) (l7:Int) (l8:Int) (hs:Bool) (ct:Int) (t:Int) (L:List (List Dat)) (own:Bool) (mark:Bool):runG Γs12 L0 Tryz.prog Tryz.f137 [.ptr 0 0,.row 0] ⟨[[.v (I s),.v (I ma),.ptr 1 0,.v (I l1),.v (I l2),.v (I l3),.v (I l4),.v (I l5),.v (I l6),.v (I l7),.v (I l8),.v (Bo hs)],[.v (I ct),.v (I t)]],[true,true],[rN L own mark]⟩ =
 (bif (L.length:Int)==(0:Int) then some (.v (.tuple #[(.agg #[(I 0),(I 0),(I 0),(I 0),(I 0),(I 0),(I 0),(I 0)]),(I 1)]),⟨[[.v (I s),.v (I ma),.ptr 1 0,.v (I (gN (decide (qap ct t (1:Int)>ma)) l1)),.v (I (gN (decide (qap ct t (1:Int)>ma)) l2)),.v (I (gN (decide (qap ct t (1:Int)>ma)) l3)),.v (I (gN (decide (qap ct t (1:Int)>ma)) l4)),.v (I (gN (decide (qap ct t (1:Int)>ma)) l5)),.v (I (gN (decide (qap ct t (1:Int)>ma)) l6)),.v (I (gN (decide (qap ct t (1:Int)>ma)) l7)),.v (I (gN (decide (qap ct t (1:Int)>ma)) l8)),.v (Bo (gB' (decide (qap ct t (1:Int)>ma)) hs))],[.v (I ct),.v (I (qap ct t (1:Int)))]],[true,true],[rN L own mark]⟩) else (bif decide ((0:Int)≤wI ((L.length:Int) - (1:Int)))&&decide (wI ((L.length:Int) - (1:Int))<(L.length:Int)) then (bif qaM (nv5 L)&&(qaM (nv6 L)&&(qaM (nv7 L)&&(qaM l6&&(qaM l7&&(qaM l8&&(decide ((0:Int)≤s∧s<(9223372036854775808:Int))&&decide ((0:Int)≤t∧t≤(1000000:Int)))))))) then (bif ftI (hs&&(nv0 L)==l1) ((nv1 L) != (0:Int)) (qpi (nv2 L) (nv3 L) (nv4 L) (nv5 L) (nv6 L) (nv7 L)) (hs&&jmB (nv5 L) (nv6 L) (nv7 L) l6 l7 l8 (s*(t+(1:Int)))) != (0:Int) then some (.v (.tuple #[(.agg #[(I 0),(I 0),(I 0),(I 0),(I 0),(I 0),(I 0),(I 0)]),(I (ftI (hs&&(nv0 L)==l1) ((nv1 L) != (0:Int)) (qpi (nv2 L) (nv3 L) (nv4 L) (nv5 L) (nv6 L) (nv7 L)) (hs&&jmB (nv5 L) (nv6 L) (nv7 L) l6 l7 l8 (s*(t+(1:Int))))))]),⟨[[.v (I s),.v (I ma),.ptr 1 0,.v (I (gN (decide (qap ct t (1:Int)>ma)) l1)),.v (I (gN (decide (qap ct t (1:Int)>ma)) l2)),.v (I (gN (decide (qap ct t (1:Int)>ma)) l3)),.v (I (gN (decide (qap ct t (1:Int)>ma)) l4)),.v (I (gN (decide (qap ct t (1:Int)>ma)) l5)),.v (I (gN (decide (qap ct t (1:Int)>ma)) l6)),.v (I (gN (decide (qap ct t (1:Int)>ma)) l7)),.v (I (gN (decide (qap ct t (1:Int)>ma)) l8)),.v (Bo (gB' (decide (qap ct t (1:Int)>ma)) hs))],[.v (I ct),.v (I (qap ct t (1:Int)))]],[true,true],[rN L own mark]⟩) else some (.v (.tuple #[(.agg #[(I (nv0 L)),(I (nv1 L)),(I (nv2 L)),(I (nv3 L)),(I (nv4 L)),(I (nv5 L)),(I (nv6 L)),(I (nv7 L))]),(I 0)]),⟨[[.v (I s),.v (I ma),.ptr 1 0,.v (I (nv0 L)),.v (I (nv1 L)),.v (I (nv2 L)),.v (I (nv3 L)),.v (I (nv4 L)),.v (I (nv5 L)),.v (I (nv6 L)),.v (I (nv7 L)),.v (Bo true)],[.v (I ct),.v (I (qat (0:Int) ct))]],[true,true],[rN L own mark]⟩)) else none) else none)):=by kernel_rfl
def qIU (xs:List SV) (m:Mem):Option (Bool×SV×Mem) :=
 match xs,m with
 | [.ptr 0 0,.row 0],⟨[[.v (.int .i64 s),.v (.int .i64 ma),.ptr 1 0,.v (.int .i64 l1),.v (.int .i64 l2),.v (.int .i64 l3),.v (.int .i64 l4),.v (.int .i64 l5),.v (.int .i64 l6),.v (.int .i64 l7),.v (.int .i64 l8),.v (.bool hs)],[.v (.int .i64 ct),.v (.int .i64 t)]],[true,true],[.live ⟨56,[.num .i64,.num .i64,.num .i64,.num .i64,.num .i64,.num .i64,.num .i64,.num .i64],L,own,mark⟩]⟩=>some (Nat.ble L.length 1000000&&(qaM (nv5 L)&&(qaM (nv6 L)&&(qaM (nv7 L)&&(qaM l6&&(qaM l7&&(qaM l8&&(decide (0≤s∧s<9223372036854775808)&&decide (0≤t∧t≤1000000)))))))),.v (.tuple #[.agg #[I (pk (faI L hs l1 l6 l7 l8 (s*(t+1))==0) (nv0 L) 0),I (pk (faI L hs l1 l6 l7 l8 (s*(t+1))==0) (nv1 L) 0),I (pk (faI L hs l1 l6 l7 l8 (s*(t+1))==0) (nv2 L) 0),I (pk (faI L hs l1 l6 l7 l8 (s*(t+1))==0) (nv3 L) 0),I (pk (faI L hs l1 l6 l7 l8 (s*(t+1))==0) (nv4 L) 0),I (pk (faI L hs l1 l6 l7 l8 (s*(t+1))==0) (nv5 L) 0),I (pk (faI L hs l1 l6 l7 l8 (s*(t+1))==0) (nv6 L) 0),I (pk (faI L hs l1 l6 l7 l8 (s*(t+1))==0) (nv7 L) 0)],I (faI L hs l1 l6 l7 l8 (s*(t+1)))]),⟨[[.v (I s),.v (I ma),.ptr 1 0,.v (I (pk (faI L hs l1 l6 l7 l8 (s*(t+1))==0) (nv0 L) (gN (decide (qap ct t 1>ma)) l1))),.v (I (pk (faI L hs l1 l6 l7 l8 (s*(t+1))==0) (nv1 L) (gN (decide (qap ct t 1>ma)) l2))),.v (I (pk (faI L hs l1 l6 l7 l8 (s*(t+1))==0) (nv2 L) (gN (decide (qap ct t 1>ma)) l3))),.v (I (pk (faI L hs l1 l6 l7 l8 (s*(t+1))==0) (nv3 L) (gN (decide (qap ct t 1>ma)) l4))),.v (I (pk (faI L hs l1 l6 l7 l8 (s*(t+1))==0) (nv4 L) (gN (decide (qap ct t 1>ma)) l5))),.v (I (pk (faI L hs l1 l6 l7 l8 (s*(t+1))==0) (nv5 L) (gN (decide (qap ct t 1>ma)) l6))),.v (I (pk (faI L hs l1 l6 l7 l8 (s*(t+1))==0) (nv6 L) (gN (decide (qap ct t 1>ma)) l7))),.v (I (pk (faI L hs l1 l6 l7 l8 (s*(t+1))==0) (nv7 L) (gN (decide (qap ct t 1>ma)) l8))),.v (Bo (bif (faI L hs l1 l6 l7 l8 (s*(t+1))==0) then true else gB' (decide (qap ct t 1>ma)) hs))],[.v (I ct),.v (I (pk (faI L hs l1 l6 l7 l8 (s*(t+1))==0) (qat 0 ct) (qap ct t 1)))]],[true,true],[rN L own mark]⟩)
 | _,_=>none
theorem qiu:CtC 137 qIU:=by
 intro xs m r m' h
 unfold qIU at h
 split at h
 ·rename_i s ma l1 l2 l3 l4 l5 l6 l7 l8 hs ct t L own mark
  obtain ⟨h1,rfl,rfl⟩:=qaf h
  refine qal (Λ:=L0) qH1 Tryz.func137 rfl l00 ?_
  refine (qEN s ma l1 l2 l3 l4 l5 l6 l7 l8 hs ct t L own mark).trans ?_
  rw [Bool.and_eq_true] at h1
  obtain ⟨h1,h2⟩:=h1
  have h3:=Nat.le_of_ble_eq_true h1
  rw [h2]
  unfold faI pk
  by_cases hl:(L.length:Int)=0
  ·rw [hl]
   rfl
  rw [beq_eq_false_iff_ne.2 hl,qaw (n:=(L.length:Int) - 1) (by omega),decide_eq_true (show (0:Int)≤(L.length:Int) - 1 by omega),decide_eq_true (show (L.length:Int) - 1<(L.length:Int) by omega)]
  generalize ftI (hs&&nv0 L==l1) (nv1 L != 0) (qpi (nv2 L) (nv3 L) (nv4 L) (nv5 L) (nv6 L) (nv7 L)) (hs&&jmB (nv5 L) (nv6 L) (nv7 L) l6 l7 l8 (s*(t+1)))=f
  simp only [cond_false,cond_true,Bool.and_self]
  by_cases hf:f=0
  ·subst hf;rfl
  ·rw [bne_iff_ne.2 hf,beq_eq_false_iff_ne.2 hf]
   rfl
 ·cases h
def Γs13:Orc:=qau 137 qIU Γs12
theorem qMX:Γs13.Ok Tryz.prog:=qad qH1 qiu
theorem qED (r1:Int) (r2:Int) (r3:Int) (r4:Int) (r5:Int) (r6:Int) (r7:Int) (r8:Int) (e1:TypeId) (k1:List CK) (L:List (List Dat)) (own:Bool) (mark:Bool):runG Γs13 L0 Tryz.prog Tryz.f193 [.ag [.row 0,.v (I r1),.v (I r2),.v (I r3),.v (I r4),.v (I r5),.v (I r6),.v (I r7),.v (I r8)]] ⟨[],[],[.live ⟨e1,k1,L,own,mark⟩]⟩ =
 (bif decide (r5<(1:Int)) then some (.v (Value.pointer none),⟨[],[],[.live ⟨e1,k1,L,own,mark⟩]⟩) else (bif decide (r6<(1:Int)) then some (.v (Value.pointer none),⟨[],[],[.live ⟨e1,k1,L,own,mark⟩]⟩) else some (.ptr 0 0,⟨[[.v (I r5),.v (I r6),.ptr 1 0,.v (I 0),.v (I 0),.v (I 0),.v (I 0),.v (I 0),.v (I 0),.v (I 0),.v (I 0),.v (Bo false)],[.v (I 1000000),.v (I 0)]],[true,true],[.live ⟨e1,k1,L,own,mark⟩]⟩))):=by kernel_rfl
def qLk (xs:List SV) (m:Mem):Option (Bool×SV×Mem) :=
 match xs,m with
 | [.ag [.row 0,.v (.int .i64 r1),.v (.int .i64 r2),.v (.int .i64 r3),.v (.int .i64 r4),.v (.int .i64 r5),.v (.int .i64 r6),.v (.int .i64 r7),.v (.int .i64 r8)]],⟨[],[],[.live ⟨e1,k1,L,own,mark⟩]⟩=>some (decide (1≤r5)&&decide (1≤r6),.ptr 0 0,⟨[[.v (I r5),.v (I r6),.ptr 1 0,.v (I 0),.v (I 0),.v (I 0),.v (I 0),.v (I 0),.v (I 0),.v (I 0),.v (I 0),.v (Bo false)],[.v (I 1000000),.v (I 0)]],[true,true],[.live ⟨e1,k1,L,own,mark⟩]⟩)
 | _,_=>none
theorem qAJ:CtC 193 qLk:=by
 intro xs m r m' h
 unfold qLk at h
 split at h
 ·rename_i r1 r2 r3 r4 r5 r6 r7 r8 e1 k1 L own mark
  obtain ⟨h1,rfl,rfl⟩:=qaf h
  refine qal (Λ:=L0) qMX Tryz.func193 rfl l00 ?_
  refine (qED r1 r2 r3 r4 r5 r6 r7 r8 e1 k1 L own mark).trans ?_
  rw [Bool.and_eq_true,decide_eq_true_eq,decide_eq_true_eq] at h1
  rw [decide_eq_false (show ¬ r5<1 by omega),decide_eq_false (show ¬ r6<1 by omega)]
  rfl
 ·cases h
end Go.Proofs.YtainfdcfkgemhaaGreat.So
namespace Go.Proofs.YtainfdcfkgemhaaGreat.Se
open Go Go.Proofs Go.Sx
set_option linter.unusedVariables false
def SM (s:Int) (l:Bool) (t w:Int):Mem:=⟨[[.v (I s),.v (Bo l),.v (I t),.v (I w)]],[true],[]⟩
def qDp (p m:Int):Bool:=wI ((BitVec.ofInt 64 p &&& BitVec.ofInt 64 m).toNat:Int) != 0
def armB (h:Bool) (ps pw:Int):Bool:=h&&(qDp pw 1||(ps==1||ps==2))
def safB (h:Bool) (ps pw:Int):Bool:=h&&(qDp pw 2||ps==0)
def qcf (w d:Int):Int:=bif w==d then 0 else w
def wsT (w t:Int) (a:Bool):Int:=bif qcf w 2==1&&a then 1 else t
def wsW (w:Int) (a:Bool):Int:=bif qcf w 2==1&&a then 0 else qcf w 2
def waT (s t w c ph:Int) (fl fi f:Bool):Int:=bif c==3||fi then 2 else bif fl&&decide (ph<s) then t else bif qcf w 1==2&&f then 0 else t
def waW (s w c ph:Int) (fl fi f:Bool):Int:=bif c==3||fi then 0 else bif fl&&decide (ph<s) then qcf (qcf w 1) 2 else bif qcf w 1==2&&f then 0 else qcf w 1
def w1N (c w:Int):Int:=bif c==1 then 1 else bif c==2 then 2 else w
def cyT (s:Int) (l:Bool) (t w c ph:Int) (fl fi a f:Bool):Int:=bif l then t else bif t==0 then wsT (w1N c w) t a else bif t==1 then waT s t (w1N c w) c ph fl fi f else t
def cyW (s:Int) (l:Bool) (t w c ph:Int) (fl fi a f:Bool):Int:=bif l then w else bif t==0 then wsW (w1N c w) a else bif t==1 then waW s (w1N c w) c ph fl fi f else bif t==2 then 0 else w1N c w
def setB (l:Bool) (n:Int):Bool:=!l&&(!decide (n<0)&&!decide (n>2))
theorem qpY (d:Int) (s:Int) (l:Bool) (t w:Int):runG ΓC L0 Tryz.prog Tryz.f281 [.ptr 0 0,.v (I d)] (SM s l t w) =
 (bif w==d then some (.v (.tuple #[]),⟨[[.v (I s),.v (Bo l),.v (I t),.v (I 0)]],[true],[]⟩) else some (.v (.tuple #[]),⟨[[.v (I s),.v (Bo l),.v (I t),.v (I w)]],[true],[]⟩)):=by kernel_rfl
def qrK (xs:List SV) (m:Mem):Option (Bool×SV×Mem) :=
 match xs,m with
 | [.ptr 0 0,.v (.int .i64 d)],⟨[[.v (.int .i64 s),.v (.bool l),.v (.int .i64 t),.v (.int .i64 w)]],[true],[]⟩=>some (true,.v (.tuple #[]),SM s l t (qcf w d))
 | _,_=>none
theorem qrJ:CtC 281 qrK:=by
 intro xs m r m' h
 unfold qrK at h
 split at h
 ·rename_i d s l t w
  obtain ⟨h1,rfl,rfl⟩:=qaf h
  refine qal (Λ:=L0) OkC Tryz.func281 rfl (fun z _ _=>qaq (by kernel_rfl) z) ?_
  exact (qpY d s l t w).trans (by unfold qcf;cases w==d<;>rfl)
 ·cases h
def ΓG1:Orc:=qau 281 qrK ΓC
theorem OkG1:ΓG1.Ok Tryz.prog:=qad OkC qrJ
theorem quz (d:Int) (s:Int) (l:Bool) (t w:Int):runG ΓG1 L0 Tryz.prog Tryz.f264 [.ptr 0 0,.v (I d)] (SM s l t w)=some (.v (.tuple #[]),SM s l d 0):=by kernel_rfl
def qA0 (xs:List SV) (m:Mem):Option (Bool×SV×Mem) :=
 match xs,m with
 | [.ptr 0 0,.v (.int .i64 d)],⟨[[.v (.int .i64 s),.v (.bool l),.v (.int .i64 t),.v (.int .i64 w)]],[true],[]⟩=>some (true,.v (.tuple #[]),SM s l d 0)
 | _,_=>none
theorem qwi:CtC 264 qA0:=by
 intro xs m r m' h
 unfold qA0 at h
 split at h
 ·rename_i d s l t w
  obtain ⟨h1,rfl,rfl⟩:=qaf h
  refine qal (Λ:=L0) OkG1 Tryz.func264 rfl (fun z _ _=>qaq (by kernel_rfl) z) ?_
  exact (quz d s l t w).trans (rfl)
 ·cases h
def ΓG2:Orc:=qau 264 qA0 ΓG1
theorem OkG2:ΓG2.Ok Tryz.prog:=qad OkG1 qwi
theorem qzd (c:Int) (he:Bool) (pc pp ps pw:Int) (fl fi:Bool) (ph:Int):runG ΓG2 L0 Tryz.prog Tryz.f282 [.v (.agg #[I c,Bo he,I pc,I pp,I ps,I pw,Bo fl,Bo fi,I ph])] M0 =
 (bif he then (bif wI ((BitVec.ofInt (64:Nat) pw &&& BitVec.ofInt (64:Nat) (1:Int)).toNat:Int) != (0:Int) then some (.v (Bo true),M0) else (bif ps==(1:Int) then some (.v (Bo true),M0) else some (.v (Bo (ps==(2:Int))),M0))) else some (.v (Bo false),M0)):=by kernel_rfl
def qA1 (vs:List Value):Option (Bool×Value) :=
 match vs with
 | [.agg ⟨[.int .i64 c,.bool he,.int .i64 pc,.int .i64 pp,.int .i64 ps,.int .i64 pw,.bool fl,.bool fi,.int .i64 ph]⟩]=>some (true,Bo (armB he ps pw))
 | _=>none
theorem qwj:CtV 282 qA1:=by
 intro vs r h
 unfold qA1 at h
 split at h
 ·rename_i c he pc pp ps pw fl fi ph
  obtain ⟨h1,rfl⟩:=qac h
  refine qaA (vs:=[.agg #[I c,Bo he,I pc,I pp,I ps,I pw,Bo fl,Bo fi,I ph]]) (Λ:=L0) (m':=M0) OkG2 Tryz.func282 rfl (fun z _ _=>qaq (by kernel_rfl) z) ?_
  exact (qzd c he pc pp ps pw fl fi ph).trans (by rw [show (wI ((BitVec.ofInt 64 pw &&& BitVec.ofInt 64 1).toNat:Int) != 0)=qDp pw 1 from rfl];unfold armB;cases he<;>cases qDp pw 1<;>cases ps==1<;>cases ps==2<;>rfl)
 ·cases h
def ΓG3:Orc:=qah 282 qA1 ΓG2
theorem OkG3:ΓG3.Ok Tryz.prog:=qaa OkG2 qwj
theorem qzc (c:Int) (he:Bool) (pc pp ps pw:Int) (fl fi:Bool) (ph:Int):runG ΓG3 L0 Tryz.prog Tryz.f283 [.v (.agg #[I c,Bo he,I pc,I pp,I ps,I pw,Bo fl,Bo fi,I ph])] M0 =
 (bif he then (bif wI ((BitVec.ofInt (64:Nat) pw &&& BitVec.ofInt (64:Nat) (2:Int)).toNat:Int) != (0:Int) then some (.v (Bo true),M0) else some (.v (Bo (ps==(0:Int))),M0)) else some (.v (Bo false),M0)):=by kernel_rfl
def qAY (vs:List Value):Option (Bool×Value) :=
 match vs with
 | [.agg ⟨[.int .i64 c,.bool he,.int .i64 pc,.int .i64 pp,.int .i64 ps,.int .i64 pw,.bool fl,.bool fi,.int .i64 ph]⟩]=>some (true,Bo (safB he ps pw))
 | _=>none
theorem qwg:CtV 283 qAY:=by
 intro vs r h
 unfold qAY at h
 split at h
 ·rename_i c he pc pp ps pw fl fi ph
  obtain ⟨h1,rfl⟩:=qac h
  refine qaA (vs:=[.agg #[I c,Bo he,I pc,I pp,I ps,I pw,Bo fl,Bo fi,I ph]]) (Λ:=L0) (m':=M0) OkG3 Tryz.func283 rfl (fun z _ _=>qaq (by kernel_rfl) z) ?_
  exact (qzc c he pc pp ps pw fl fi ph).trans (by rw [show (wI ((BitVec.ofInt 64 pw &&& BitVec.ofInt 64 2).toNat:Int) != 0)=qDp pw 2 from rfl];unfold safB;cases he<;>cases qDp pw 2<;>cases ps==0<;>rfl)
 ·cases h
def ΓG4:Orc:=qah 283 qAY ΓG3
theorem qPC:ΓG4.Ok Tryz.prog:=qaa OkG3 qwg
theorem qza (c:Int) (he:Bool) (pc pp ps pw:Int) (fl fi:Bool) (ph:Int) (s:Int) (l:Bool) (t w:Int):runG ΓG4 L0 Tryz.prog Tryz.f218 [.ptr 0 0,.v (.agg #[I c,Bo he,I pc,I pp,I ps,I pw,Bo fl,Bo fi,I ph])] (SM s l t w) =
 (bif qcf w (2:Int)==(1:Int) then (bif armB he ps pw then some (.v (.tuple #[]),⟨[[.v (I s),.v (Bo l),.v (I 1),.v (I 0)]],[true],[]⟩) else some (.v (.tuple #[]),⟨[[.v (I s),.v (Bo l),.v (I t),.v (I (qcf w (2:Int)))]],[true],[]⟩)) else some (.v (.tuple #[]),⟨[[.v (I s),.v (Bo l),.v (I t),.v (I (qcf w (2:Int)))]],[true],[]⟩)):=by kernel_rfl
def qLw (xs:List SV) (m:Mem):Option (Bool×SV×Mem) :=
 match xs,m with
 | [.ptr 0 0,.v (.agg ⟨[.int .i64 c,.bool he,.int .i64 pc,.int .i64 pp,.int .i64 ps,.int .i64 pw,.bool fl,.bool fi,.int .i64 ph]⟩)],⟨[[.v (.int .i64 s),.v (.bool l),.v (.int .i64 t),.v (.int .i64 w)]],[true],[]⟩=>some (true,.v (.tuple #[]),SM s l (wsT w t (armB he ps pw)) (wsW w (armB he ps pw)))
 | _,_=>none
theorem qAW:CtC 218 qLw:=by
 intro xs m r m' h
 unfold qLw at h
 split at h
 ·rename_i c he pc pp ps pw fl fi ph s l t w
  obtain ⟨h1,rfl,rfl⟩:=qaf h
  refine qal (Λ:=L0) qPC Tryz.func218 rfl (fun z _ _=>qaq (by kernel_rfl) z) ?_
  exact (qza c he pc pp ps pw fl fi ph s l t w).trans (by unfold wsT wsW;cases qcf w 2==1<;>cases armB he ps pw<;>rfl)
 ·cases h
def ΓG5:Orc:=qau 218 qLw ΓG4
theorem qPB:ΓG5.Ok Tryz.prog:=qad qPC qAW
theorem qzb (c:Int) (he:Bool) (pc pp ps pw:Int) (fl fi:Bool) (ph:Int) (s:Int) (l:Bool) (t w:Int):runG ΓG5 L0 Tryz.prog Tryz.f219 [.ptr 0 0,.v (.agg #[I c,Bo he,I pc,I pp,I ps,I pw,Bo fl,Bo fi,I ph])] (SM s l t w) =
 (bif c==(3:Int) then some (.v (.tuple #[]),⟨[[.v (I s),.v (Bo l),.v (I 2),.v (I 0)]],[true],[]⟩) else (bif fi then some (.v (.tuple #[]),⟨[[.v (I s),.v (Bo l),.v (I 2),.v (I 0)]],[true],[]⟩) else (bif fl then (bif decide (ph<s) then some (.v (.tuple #[]),⟨[[.v (I s),.v (Bo l),.v (I t),.v (I (qcf (qcf w (1:Int)) (2:Int)))]],[true],[]⟩) else (bif qcf w (1:Int)==(2:Int) then (bif safB he ps pw then some (.v (.tuple #[]),⟨[[.v (I s),.v (Bo l),.v (I 0),.v (I 0)]],[true],[]⟩) else some (.v (.tuple #[]),⟨[[.v (I s),.v (Bo l),.v (I t),.v (I (qcf w (1:Int)))]],[true],[]⟩)) else some (.v (.tuple #[]),⟨[[.v (I s),.v (Bo l),.v (I t),.v (I (qcf w (1:Int)))]],[true],[]⟩))) else (bif qcf w (1:Int)==(2:Int) then (bif safB he ps pw then some (.v (.tuple #[]),⟨[[.v (I s),.v (Bo l),.v (I 0),.v (I 0)]],[true],[]⟩) else some (.v (.tuple #[]),⟨[[.v (I s),.v (Bo l),.v (I t),.v (I (qcf w (1:Int)))]],[true],[]⟩)) else some (.v (.tuple #[]),⟨[[.v (I s),.v (Bo l),.v (I t),.v (I (qcf w (1:Int)))]],[true],[]⟩))))):=by kernel_rfl
def qLx (xs:List SV) (m:Mem):Option (Bool×SV×Mem) :=
 match xs,m with
 | [.ptr 0 0,.v (.agg ⟨[.int .i64 c,.bool he,.int .i64 pc,.int .i64 pp,.int .i64 ps,.int .i64 pw,.bool fl,.bool fi,.int .i64 ph]⟩)],⟨[[.v (.int .i64 s),.v (.bool l),.v (.int .i64 t),.v (.int .i64 w)]],[true],[]⟩=>some (true,.v (.tuple #[]),SM s l (waT s t w c ph fl fi (safB he ps pw)) (waW s w c ph fl fi (safB he ps pw)))
 | _,_=>none
theorem qAX:CtC 219 qLx:=by
 intro xs m r m' h
 unfold qLx at h
 split at h
 ·rename_i c he pc pp ps pw fl fi ph s l t w
  obtain ⟨h1,rfl,rfl⟩:=qaf h
  refine qal (Λ:=L0) qPB Tryz.func219 rfl (fun z _ _=>qaq (by kernel_rfl) z) ?_
  exact (qzb c he pc pp ps pw fl fi ph s l t w).trans (by unfold waT waW;cases c==3<;>cases fi<;>cases fl<;>cases decide (ph<s)<;>cases qcf w 1==2<;>cases safB he ps pw<;>rfl)
 ·cases h
def ΓG6:Orc:=qau 219 qLx ΓG5
theorem qNT:ΓG6.Ok Tryz.prog:=qad qPB qAX
theorem quy (c:Int) (he:Bool) (pc pp ps pw:Int) (fl fi:Bool) (ph:Int) (s:Int) (l:Bool) (t w:Int):runG ΓG6 L0 Tryz.prog Tryz.f149 [.ptr 0 0,.v (.agg #[I c,Bo he,I pc,I pp,I ps,I pw,Bo fl,Bo fi,I ph])] (SM s l t w) =
 (bif l then some (.v (I 0),⟨[[.v (I s),.v (Bo l),.v (I t),.v (I w)]],[true],[]⟩) else (bif c==(1:Int) then (bif t==(0:Int) then some (.v (I (wsT (1:Int) t (armB he ps pw))),⟨[[.v (I s),.v (Bo l),.v (I (wsT (1:Int) t (armB he ps pw))),.v (I (wsW (1:Int) (armB he ps pw)))]],[true],[]⟩) else (bif t==(1:Int) then some (.v (I (waT s t (1:Int) c ph fl fi (safB he ps pw))),⟨[[.v (I s),.v (Bo l),.v (I (waT s t (1:Int) c ph fl fi (safB he ps pw))),.v (I (waW s (1:Int) c ph fl fi (safB he ps pw)))]],[true],[]⟩) else (bif t==(2:Int) then some (.v (I t),⟨[[.v (I s),.v (Bo l),.v (I t),.v (I 0)]],[true],[]⟩) else some (.v (I t),⟨[[.v (I s),.v (Bo l),.v (I t),.v (I 1)]],[true],[]⟩)))) else (bif c==(2:Int) then (bif t==(0:Int) then some (.v (I (wsT (2:Int) t (armB he ps pw))),⟨[[.v (I s),.v (Bo l),.v (I (wsT (2:Int) t (armB he ps pw))),.v (I (wsW (2:Int) (armB he ps pw)))]],[true],[]⟩) else (bif t==(1:Int) then some (.v (I (waT s t (2:Int) c ph fl fi (safB he ps pw))),⟨[[.v (I s),.v (Bo l),.v (I (waT s t (2:Int) c ph fl fi (safB he ps pw))),.v (I (waW s (2:Int) c ph fl fi (safB he ps pw)))]],[true],[]⟩) else (bif t==(2:Int) then some (.v (I t),⟨[[.v (I s),.v (Bo l),.v (I t),.v (I 0)]],[true],[]⟩) else some (.v (I t),⟨[[.v (I s),.v (Bo l),.v (I t),.v (I 2)]],[true],[]⟩)))) else (bif t==(0:Int) then some (.v (I (wsT w t (armB he ps pw))),⟨[[.v (I s),.v (Bo l),.v (I (wsT w t (armB he ps pw))),.v (I (wsW w (armB he ps pw)))]],[true],[]⟩) else (bif t==(1:Int) then some (.v (I (waT s t w c ph fl fi (safB he ps pw))),⟨[[.v (I s),.v (Bo l),.v (I (waT s t w c ph fl fi (safB he ps pw))),.v (I (waW s w c ph fl fi (safB he ps pw)))]],[true],[]⟩) else (bif t==(2:Int) then some (.v (I t),⟨[[.v (I s),.v (Bo l),.v (I t),.v (I 0)]],[true],[]⟩) else some (.v (I t),⟨[[.v (I s),.v (Bo l),.v (I t),.v (I w)]],[true],[]⟩))))))):=by kernel_rfl
theorem qux (c:Int) (he:Bool) (pc pp ps pw:Int) (fl fi:Bool) (ph:Int):runG ΓG6 L0 Tryz.prog Tryz.f149 [.v (.pointer none),.v (.agg #[I c,Bo he,I pc,I pp,I ps,I pw,Bo fl,Bo fi,I ph])] M0=some (.v (I 0),M0):=by kernel_rfl
def gSCyc (xs:List SV) (m:Mem):Option (Bool×SV×Mem) :=
 match xs,m with
 | [.ptr 0 0,.v (.agg ⟨[.int .i64 c,.bool he,.int .i64 pc,.int .i64 pp,.int .i64 ps,.int .i64 pw,.bool fl,.bool fi,.int .i64 ph]⟩)],⟨[[.v (.int .i64 s),.v (.bool l),.v (.int .i64 t),.v (.int .i64 w)]],[true],[]⟩=>some (true,.v (I (bif l then 0 else cyT s l t w c ph fl fi (armB he ps pw) (safB he ps pw))),SM s l (cyT s l t w c ph fl fi (armB he ps pw) (safB he ps pw)) (cyW s l t w c ph fl fi (armB he ps pw) (safB he ps pw)))
 | [.v (.pointer none),.v (.agg ⟨[.int .i64 c,.bool he,.int .i64 pc,.int .i64 pp,.int .i64 ps,.int .i64 pw,.bool fl,.bool fi,.int .i64 ph]⟩)],⟨[],[],[]⟩=>some (true,.v (I 0),M0)
 | _,_=>none
theorem gSCyc_ok:CtC 149 gSCyc:=by
 intro xs m r m' h
 unfold gSCyc at h
 split at h
 ·rename_i c he pc pp ps pw fl fi ph s l t w
  obtain ⟨h1,rfl,rfl⟩:=qaf h
  refine qal (Λ:=L0) qNT Tryz.func149 rfl (fun z _ _=>qaq (by kernel_rfl) z) ?_
  exact (quy c he pc pp ps pw fl fi ph s l t w).trans (by unfold cyT cyW w1N;cases l<;>cases c==1<;>cases c==2<;>cases t==0<;>cases t==1<;>cases t==2<;>rfl)
 ·rename_i c he pc pp ps pw fl fi ph
  obtain ⟨h1,rfl,rfl⟩:=qaf h
  refine qal (Λ:=L0) qNT Tryz.func149 rfl (fun z _ _=>qaq (by kernel_rfl) z) ?_
  exact (qux c he pc pp ps pw fl fi ph).trans (rfl)
 ·cases h
def ΓG7:Orc:=qau 149 gSCyc ΓG6
theorem qNS:ΓG7.Ok Tryz.prog:=qad qNT gSCyc_ok
theorem qur (s:Int) (l:Bool) (t w:Int):runG ΓG7 L0 Tryz.prog Tryz.f147 [.ptr 0 0] (SM s l t w)=some (.v (I t),SM s l t w):=by kernel_rfl
theorem quq:runG ΓG7 L0 Tryz.prog Tryz.f147 [.v (.pointer none)] M0=some (.v (I 0),M0):=by kernel_rfl
def gSSta (xs:List SV) (m:Mem):Option (Bool×Value) :=
 match xs,m with
 | [.ptr 0 0],⟨[[.v (.int .i64 s),.v (.bool l),.v (.int .i64 t),.v (.int .i64 w)]],[true],[]⟩=>some (true,I t)
 | [.v (.pointer none)],⟨[],[],[]⟩=>some (true,I 0)
 | _,_=>none
theorem gSSta_ok:CtR 147 gSSta:=by
 intro xs m r h
 unfold gSSta at h
 split at h
 ·rename_i s l t w
  obtain ⟨h1,rfl⟩:=qac h
  refine qal (Λ:=L0) qNS Tryz.func147 rfl (fun z _ _=>qaq (by kernel_rfl) z) ?_
  exact (qur s l t w).trans (rfl)
 ·obtain ⟨h1,rfl⟩:=qac h
  refine qal (Λ:=L0) qNS Tryz.func147 rfl (fun z _ _=>qaq (by kernel_rfl) z) ?_
  exact (quq ).trans (rfl)
 ·cases h
def ΓG8:Orc:=qay 147 gSSta ΓG7
theorem qNR:ΓG8.Ok Tryz.prog:=qai qNS gSSta_ok
theorem qup (s:Int) (l:Bool) (t w:Int):runG ΓG8 L0 Tryz.prog Tryz.f157 [.ptr 0 0] (SM s l t w)=some (.v (I w),SM s l t w):=by kernel_rfl
theorem qun:runG ΓG8 L0 Tryz.prog Tryz.f157 [.v (.pointer none)] M0=some (.v (I 0),M0):=by kernel_rfl
def gSWis (xs:List SV) (m:Mem):Option (Bool×Value) :=
 match xs,m with
 | [.ptr 0 0],⟨[[.v (.int .i64 s),.v (.bool l),.v (.int .i64 t),.v (.int .i64 w)]],[true],[]⟩=>some (true,I w)
 | [.v (.pointer none)],⟨[],[],[]⟩=>some (true,I 0)
 | _,_=>none
theorem gSWis_ok:CtR 157 gSWis:=by
 intro xs m r h
 unfold gSWis at h
 split at h
 ·rename_i s l t w
  obtain ⟨h1,rfl⟩:=qac h
  refine qal (Λ:=L0) qNR Tryz.func157 rfl (fun z _ _=>qaq (by kernel_rfl) z) ?_
  exact (qup s l t w).trans (rfl)
 ·obtain ⟨h1,rfl⟩:=qac h
  refine qal (Λ:=L0) qNR Tryz.func157 rfl (fun z _ _=>qaq (by kernel_rfl) z) ?_
  exact (qun ).trans (rfl)
 ·cases h
def ΓG9:Orc:=qay 157 gSWis ΓG8
theorem qNQ:ΓG9.Ok Tryz.prog:=qai qNR gSWis_ok
theorem quw (s:Int) (l:Bool) (t w:Int):runG ΓG9 L0 Tryz.prog Tryz.f263 [.ptr 0 0] (SM s l t w)=some (.v (Bo l),SM s l t w):=by kernel_rfl
theorem quv:runG ΓG9 L0 Tryz.prog Tryz.f263 [.v (.pointer none)] M0=some (.v (Bo true),M0):=by kernel_rfl
def qAZ (xs:List SV) (m:Mem):Option (Bool×Value) :=
 match xs,m with
 | [.ptr 0 0],⟨[[.v (.int .i64 s),.v (.bool l),.v (.int .i64 t),.v (.int .i64 w)]],[true],[]⟩=>some (true,Bo l)
 | [.v (.pointer none)],⟨[],[],[]⟩=>some (true,Bo true)
 | _,_=>none
theorem qwh:CtR 263 qAZ:=by
 intro xs m r h
 unfold qAZ at h
 split at h
 ·rename_i s l t w
  obtain ⟨h1,rfl⟩:=qac h
  refine qal (Λ:=L0) qNQ Tryz.func263 rfl (fun z _ _=>qaq (by kernel_rfl) z) ?_
  exact (quw s l t w).trans (rfl)
 ·obtain ⟨h1,rfl⟩:=qac h
  refine qal (Λ:=L0) qNQ Tryz.func263 rfl (fun z _ _=>qaq (by kernel_rfl) z) ?_
  exact (quv ).trans (rfl)
 ·cases h
def ΓG10:Orc:=qay 263 qAZ ΓG9
theorem qCZ:ΓG10.Ok Tryz.prog:=qai qNQ qwh
theorem qut (n:Int) (s:Int) (l:Bool) (t w:Int):runG ΓG10 L0 Tryz.prog Tryz.f196 [.ptr 0 0,.v (I n)] (SM s l t w) =
 (bif l then some (.v (Bo false),⟨[[.v (I s),.v (Bo l),.v (I t),.v (I w)]],[true],[]⟩) else (bif decide (n<(0:Int)) then some (.v (Bo false),⟨[[.v (I s),.v (Bo l),.v (I t),.v (I w)]],[true],[]⟩) else (bif decide (n>(2:Int)) then some (.v (Bo false),⟨[[.v (I s),.v (Bo l),.v (I t),.v (I w)]],[true],[]⟩) else some (.v (Bo true),⟨[[.v (I s),.v (Bo l),.v (I n),.v (I 0)]],[true],[]⟩)))):=by kernel_rfl
theorem qus (n:Int):runG ΓG10 L0 Tryz.prog Tryz.f196 [.v (.pointer none),.v (I n)] M0=some (.v (Bo false),M0):=by kernel_rfl
def gSSet (xs:List SV) (m:Mem):Option (Bool×SV×Mem) :=
 match xs,m with
 | [.ptr 0 0,.v (.int .i64 n)],⟨[[.v (.int .i64 s),.v (.bool l),.v (.int .i64 t),.v (.int .i64 w)]],[true],[]⟩=>some (true,.v (Bo (setB l n)),SM s l (bif setB l n then n else t) (bif setB l n then 0 else w))
 | [.v (.pointer none),.v (.int .i64 n)],⟨[],[],[]⟩=>some (true,.v (Bo false),M0)
 | _,_=>none
theorem gSSet_ok:CtC 196 gSSet:=by
 intro xs m r m' h
 unfold gSSet at h
 split at h
 ·rename_i n s l t w
  obtain ⟨h1,rfl,rfl⟩:=qaf h
  refine qal (Λ:=L0) qCZ Tryz.func196 rfl (fun z _ _=>qaq (by kernel_rfl) z) ?_
  exact (qut n s l t w).trans (by unfold setB;cases l<;>cases decide (n<0)<;>cases decide (n>2)<;>rfl)
 ·rename_i n
  obtain ⟨h1,rfl,rfl⟩:=qaf h
  refine qal (Λ:=L0) qCZ Tryz.func196 rfl (fun z _ _=>qaq (by kernel_rfl) z) ?_
  exact (qus n).trans (rfl)
 ·cases h
def ΓG11:Orc:=qau 196 gSSet ΓG10
theorem qNU:ΓG11.Ok Tryz.prog:=qad qCZ gSSet_ok
theorem quu (s:Int) (l:Bool):runG ΓG11 L0 Tryz.prog Tryz.f121 [.v (I s),.v (Bo l)] M0=some (.ptr 0 0,SM s l 0 0):=by kernel_rfl
def gSNew (xs:List SV) (m:Mem):Option (Bool×SV×Mem) :=
 match xs,m with
 | [.v (.int .i64 s),.v (.bool l)],⟨[],[],[]⟩=>some (true,.ptr 0 0,SM s l 0 0)
 | _,_=>none
theorem gSNew_ok:CtC 121 gSNew:=by
 intro xs m r m' h
 unfold gSNew at h
 split at h
 ·rename_i s l
  obtain ⟨h1,rfl,rfl⟩:=qaf h
  refine qal (Λ:=L0) qNU Tryz.func121 rfl (fun z _ _=>qaq (by kernel_rfl) z) ?_
  exact (quu s l).trans (rfl)
 ·cases h
end Go.Proofs.YtainfdcfkgemhaaGreat.Se
