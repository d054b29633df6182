/-
  What is known of this program: navs,words,reports,commands;sources,sequencers.
-/
import Derived.Test.YtagaiddomhpdmaaGreatYf
import Derived.Test.YtagaiddomhpdmaaGreatYe
import Derived.Test.YtagaiddomhpdmaaGreatYa
set_option maxRecDepth 100000
namespace Go.Proofs.YtagaiddomhpdmaaGreat.Nw
open Go Go.Proofs Go.Sx
set_option linter.unusedVariables false
theorem gt_le (x y b:Int):decide (apartU x y>b)=!decide (apartU x y≤b):=by
  rw [Bool.eq_iff_iff]
  simp only [decide_eq_true_eq,Bool.not_eq_true',decide_eq_false_iff_not]
  omega
def near1 (w x y:Int):Bool:=decide (apartU x y≤IntKind.u64.wrap w)
def nearB (w c c' d d' e e' f f' g g' q q':Int):Bool:=!decide (w<0)&&(near1 w c c'&&(near1 w d d'&&(near1 w e e'&&(near1 w f f'&&(near1 w g g'&&near1 w q q')))))
def s32 (s:ByteArray) (i j:Nat):Int:=IntKind.i64.wrap (IntKind.i32.wrap ((numN (s.extract i j):Nat):Int))
def rd27 (s:ByteArray) (x:Int):Int:=if s.size=27 then x else 0
def rdA (s:ByteArray):Int:=rd27 s (wI ((numN (s.extract 0 2):Nat):Int))
def rdB (s:ByteArray):Int:=rd27 s (wI (strAt s 2))
def rdC (s:ByteArray) (i j:Nat):Int:=rd27 s (s32 s i j)
def navE (s:ByteArray):Int:=if s.size<27 then 5 else if s.size>27 then 3 else 0
theorem runNNear (a b c d e f g q a' b' c' d' e' f' g' q' w:Int):runG ΓNa L0 Tryz.prog Tryz.f169 [.v (.agg #[I a,I b,I c,I d,I e,I f,I g,I q]),.v (.agg #[I a',I b',I c',I d',I e',I f',I g',I q']),.v (I w)] M0=bif decide (w<0) then some (.v (Bo false),M0) else (bif decide (apartU c c'>IntKind.u64.wrap w) then some (.v (Bo false),M0) else (bif decide (apartU d d'>IntKind.u64.wrap w) then some (.v (Bo false),M0) else (bif decide (apartU e e'>IntKind.u64.wrap w) then some (.v (Bo false),M0) else (bif decide (apartU f f'>IntKind.u64.wrap w) then some (.v (Bo false),M0) else (bif decide (apartU g g'>IntKind.u64.wrap w) then some (.v (Bo false),M0) else (bif decide (apartU q q'>IntKind.u64.wrap w) then some (.v (Bo false),M0) else (some (.v (Bo true),M0)))))))):=by kernel_rfl
def gNNear (vs:List Value):Option (Bool×Value) :=
  match vs with
  | [.agg ⟨[.int .i64 a,.int .i64 b,.int .i64 c,.int .i64 d,.int .i64 e,.int .i64 f,.int .i64 g,.int .i64 q]⟩,.agg ⟨[.int .i64 a',.int .i64 b',.int .i64 c',.int .i64 d',.int .i64 e',.int .i64 f',.int .i64 g',.int .i64 q']⟩,.int .i64 w]=>some (true,Bo (nearB w c c' d d' e e' f f' g g' q q'))
  | _=>none
theorem gNNear_ok:CtV 169 gNNear:=by
  intro vs r h
  unfold gNNear at h
  split at h
  · rename_i a b c d e f g q a' b' c' d' e' f' g' q' w
    obtain ⟨h1,rfl⟩:=some_t h
    refine runV (vs:=[.agg #[I a,I b,I c,I d,I e,I f,I g,I q],.agg #[I a',I b',I c',I d',I e',I f',I g',I q'],I w]) (Λ:=L0) (m':=M0) OkNa Tryz.func169 rfl (fun z _ _=>l0Ok _ z) ?_
    exact (runNNear a b c d e f g q a' b' c' d' e' f' g' q' w).trans (by
      simp only [gt_le,bif_f,Bool.not_not,Bool.and_true]
      rfl)
  · cases h
noncomputable def ΓP1:Orc:=addVal 169 gNNear ΓNa
theorem OkP1:ΓP1.Ok Tryz.prog:=addVal_ok OkNa gNNear_ok
noncomputable def ΓP2:Orc:=ΓP1
theorem OkP2:ΓP2.Ok Tryz.prog:=OkP1
theorem szS_ext (s:ByteArray) (i j:Nat) (h:s.size=27):szS (s.extract i j)=true:=szS_of (by rw [ByteArray.size_extract];omega)
theorem runNRead (s:ByteArray):runG ΓP2 L0 Tryz.prog Tryz.f158 [.v (S s)] M0=bif decide ((s.size:Int)<27) then some (.v (.tuple #[.agg #[I 0,I 0,I 0,I 0,I 0,I 0,I 0,I 0],I 5]),M0) else (bif decide ((s.size:Int)>27) then some (.v (.tuple #[.agg #[I 0,I 0,I 0,I 0,I 0,I 0,I 0,I 0],I 3]),M0) else (bif decide ((0:Int)≤0)&&(decide ((0:Int)≤2)&&decide (2≤(s.size:Int))) then (bif szS (s.extract (Int.toNat 0) (Int.toNat 2)) then (bif decide ((0:Int)≤2)&&decide (2<(s.size:Int)) then (bif decide ((0:Int)≤3)&&(decide ((3:Int)≤7)&&decide (7≤(s.size:Int))) then (bif szS (s.extract (Int.toNat 3) (Int.toNat 7)) then (bif decide ((0:Int)≤7)&&(decide ((7:Int)≤11)&&decide (11≤(s.size:Int))) then (bif szS (s.extract (Int.toNat 7) (Int.toNat 11)) then (bif decide ((0:Int)≤11)&&(decide ((11:Int)≤15)&&decide (15≤(s.size:Int))) then (bif szS (s.extract (Int.toNat 11) (Int.toNat 15)) then (bif decide ((0:Int)≤15)&&(decide ((15:Int)≤19)&&decide (19≤(s.size:Int))) then (bif szS (s.extract (Int.toNat 15) (Int.toNat 19)) then (bif decide ((0:Int)≤19)&&(decide ((19:Int)≤23)&&decide (23≤(s.size:Int))) then (bif szS (s.extract (Int.toNat 19) (Int.toNat 23)) then (bif decide ((0:Int)≤23)&&(decide ((23:Int)≤27)&&decide (27≤(s.size:Int))) then (bif szS (s.extract (Int.toNat 23) (Int.toNat 27)) then some (.v (.tuple #[.agg #[I (wI ((numN (s.extract (Int.toNat 0) (Int.toNat 2)):Nat):Int)),I (wI (strAt s 2)),I (s32 s (Int.toNat 3) (Int.toNat 7)),I (s32 s (Int.toNat 7) (Int.toNat 11)),I (s32 s (Int.toNat 11) (Int.toNat 15)),I (s32 s (Int.toNat 15) (Int.toNat 19)),I (s32 s (Int.toNat 19) (Int.toNat 23)),I (s32 s (Int.toNat 23) (Int.toNat 27))],I 0]),M0) else none) else none) else none) else none) else none) else none) else none) else none) else none) else none) else none) else none) else none) else none) else none)):=by kernel_rfl
def gNRead (vs:List Value):Option (Bool×Value) :=
  match vs with
  | [.string s]=>some (true,.tuple #[.agg #[I (rdA s),I (rdB s),I (rdC s 3 7),I (rdC s 7 11),I (rdC s 11 15),I (rdC s 15 19),I (rdC s 19 23),I (rdC s 23 27)],I (navE s)])
  | _=>none
theorem gNRead_ok:CtV 158 gNRead:=by
  intro vs r h
  unfold gNRead at h
  split at h
  · rename_i s
    obtain ⟨h1,rfl⟩:=some_t h
    refine runV (vs:=[S s]) (Λ:=L0) (m':=M0) OkP2 Tryz.func158 rfl (fun z _ _=>l0Ok _ z) ?_
    exact (runNRead s).trans (by
      unfold rdA rdB rdC rd27 navE
      by_cases c1:s.size<27
      · simp only [decide_eq_true (show (s.size:Int)<27 by omega),if_neg (show ¬ s.size=27 by omega),if_pos c1]
        rfl
      by_cases c2:s.size>27
      · simp only [decide_eq_false (show ¬ (s.size:Int)<27 by omega),decide_eq_true (show (s.size:Int)>27 by omega),if_neg (show ¬ s.size=27 by omega),if_neg c1,if_pos c2]
        rfl
      have c3:s.size=27:=by omega
      simp only [szS_ext s _ _ c3,if_pos c3,if_neg c1,if_neg c2]
      rw [c3]
      rfl)
  · cases h
noncomputable def ΓP3:Orc:=addVal 158 gNRead ΓP2
theorem OkP3:ΓP3.Ok Tryz.prog:=addVal_ok OkP2 gNRead_ok
noncomputable def ΓP4:Orc:=ΓP3
theorem OkP4:ΓP4.Ok Tryz.prog:=OkP3
noncomputable def ΓNb:Orc:=ΓP4
theorem OkNb:ΓNb.Ok Tryz.prog:=OkP4
end Go.Proofs.YtagaiddomhpdmaaGreat.Nw
namespace Go.Proofs.YtagaiddomhpdmaaGreat.Pe
open Go Go.Proofs Go.Sx Nw
set_option linter.unusedVariables false
def inB (n m:Int):Bool:=decide (n≥0)&&decide (n≤m)
def two (p s:Int):Int:=wI (p+wI (16*s))
def sealT (s:ByteArray):ByteArray:=s++be 4 (sum32 s)
def chkE (s:ByteArray) (n:Int):Int:=if (s.size:Int)<n+4 then 5 else if (s.size:Int)>n+4 then 3 else if sealT (s.extract 0 n.toNat)==s then 0 else 4
def stR (c p s:Int):Bool:=inB c 1000000&&(inB p 3&&inB s 2)
def wordR (c p s w:Int):Bool:=stR c p s&&inB w 15
def wordB (c p s w:Int):ByteArray:=sealT ((be 4 c++be 1 (two p s))++be 1 w)
def wordT (c p s w:Int):ByteArray:=bif wordR c p s w then wordB c p s w else ⟨#[]⟩
def repR (c p s x y z u v f:Int):Bool:=(inB x 255&&(inB y 255&&(inB z 255&&inB f 255)))&&((inB u 4&&inB v 4)&&stR c p s)
def repB (c p s x y z u v f:Int):ByteArray:=sealT ((((be 4 c++be 1 (two p s))++((be 1 x++be 1 y)++be 1 z))++be 1 (two u v))++be 1 f)
def repT (c p s x y z u v f:Int):ByteArray:=bif repR c p s x y z u v f then repB c p s x y z u v f else ⟨#[]⟩
def xorI (x y:Int):Int:=IntKind.i64.wrap (((BitVec.ofInt 64 x ^^^ BitVec.ofInt 64 y).toNat:Nat):Int)
def comB (c:Int):ByteArray:=sealT (((be 1 c++be 1 (xorI c 85))++be 1 (xorI c 170))++be 1 (xorI c 255))
def comR (c:Int):Bool:=decide (1≤c)&&decide (c≤3)
def comT (c:Int):ByteArray:=bif comR c then comB c else ⟨#[]⟩
theorem runUpTo (n m:Int):runG ΓNb L0 Tryz.prog Tryz.f203 [.v (I n),.v (I m)] M0 =
    (bif decide (n≥(0:Int)) then some (.v (.bool (decide (n≤m))),⟨[],[],[]⟩) else some (.v (.bool false),⟨[],[],[]⟩)):=by kernel_rfl
def gUpTo (vs:List Value):Option (Bool×Value) :=
  match vs with
  | [.int .i64 n,.int .i64 m]=>some (true,Bo (inB n m))
  | _=>none
theorem gUpTo_ok:CtV 203 gUpTo:=by
  intro vs r h
  unfold gUpTo at h
  split at h
  · rename_i n m
    obtain ⟨h1,rfl⟩:=some_t h
    refine runV (vs:=[I n,I m]) (Λ:=L0) (m':=M0) OkNb Tryz.func203 rfl (fun z _ _=>l0Ok _ z) ?_
    exact (runUpTo n m).trans (by unfold inB;cases decide (n≥0)<;>rfl)
  · cases h
noncomputable def ΓQ1:Orc:=addVal 203 gUpTo ΓNb
theorem OkQ1:ΓQ1.Ok Tryz.prog:=addVal_ok OkNb gUpTo_ok
noncomputable def ΓQ2:Orc:=ΓQ1
theorem OkQ2:ΓQ2.Ok Tryz.prog:=OkQ1
theorem runRState (c p s:Int):runG ΓQ2 L0 Tryz.prog Tryz.f202 [.v (I c),.v (I p),.v (I s)] M0 =
    (bif inB c (1000000:Int) then (bif inB p (3:Int) then some (.v (.bool (inB s (2:Int))),⟨[],[],[]⟩) else some (.v (.bool false),⟨[],[],[]⟩)) else some (.v (.bool false),⟨[],[],[]⟩)):=by kernel_rfl
def gRState (vs:List Value):Option (Bool×Value) :=
  match vs with
  | [.int .i64 c,.int .i64 p,.int .i64 s]=>some (true,Bo (stR c p s))
  | _=>none
theorem gRState_ok:CtV 202 gRState:=by
  intro vs r h
  unfold gRState at h
  split at h
  · rename_i c p s
    obtain ⟨h1,rfl⟩:=some_t h
    refine runV (vs:=[I c,I p,I s]) (Λ:=L0) (m':=M0) OkQ2 Tryz.func202 rfl (fun z _ _=>l0Ok _ z) ?_
    exact (runRState c p s).trans (by unfold stR;cases inB c 1000000<;>cases inB p 3<;>rfl)
  · cases h
noncomputable def ΓQ3:Orc:=addVal 202 gRState ΓQ2
theorem OkQ3:ΓQ3.Ok Tryz.prog:=addVal_ok OkQ2 gRState_ok
theorem runCycB (n:Int):runG ΓQ3 L0 Tryz.prog Tryz.f204 [.v (I n)] M0 =
    some (.v (Value.string (be (4:Nat) (IntKind.u64.wrap n))),⟨[],[],[]⟩):=by kernel_rfl
def gCycB (vs:List Value):Option (Bool×Value) :=
  match vs with
  | [.int .i64 n]=>some (true,S (be 4 n))
  | _=>none
theorem gCycB_ok:CtV 204 gCycB:=by
  intro vs r h
  unfold gCycB at h
  split at h
  · rename_i n
    obtain ⟨h1,rfl⟩:=some_t h
    refine runV (vs:=[I n]) (Λ:=L0) (m':=M0) OkQ3 Tryz.func204 rfl (fun z _ _=>l0Ok _ z) ?_
    exact (runCycB n).trans (by rw [be_u64_4];rfl)
  · cases h
noncomputable def ΓQ4:Orc:=addVal 204 gCycB ΓQ3
theorem OkQ4:ΓQ4.Ok Tryz.prog:=addVal_ok OkQ3 gCycB_ok
theorem runOneB (n:Int):runG ΓQ4 L0 Tryz.prog Tryz.f133 [.v (I n)] M0 =
    some (.v (Value.string (be (1:Nat) (IntKind.u64.wrap n))),⟨[],[],[]⟩):=by kernel_rfl
def gOneB (vs:List Value):Option (Bool×Value) :=
  match vs with
  | [.int .i64 n]=>some (true,S (be 1 n))
  | _=>none
theorem gOneB_ok:CtV 133 gOneB:=by
  intro vs r h
  unfold gOneB at h
  split at h
  · rename_i n
    obtain ⟨h1,rfl⟩:=some_t h
    refine runV (vs:=[I n]) (Λ:=L0) (m':=M0) OkQ4 Tryz.func133 rfl (fun z _ _=>l0Ok _ z) ?_
    exact (runOneB n).trans (by rw [be_u64_1];rfl)
  · cases h
noncomputable def ΓQ5:Orc:=addVal 133 gOneB ΓQ4
theorem OkQ5:ΓQ5.Ok Tryz.prog:=addVal_ok OkQ4 gOneB_ok
theorem runTwoIn (p s:Int):runG ΓQ5 L0 Tryz.prog Tryz.f205 [.v (I p),.v (I s)] M0 =
    some (.v (Value.string (be (1:Nat) (wI (p+wI ((16:Int)*s))))),⟨[],[],[]⟩):=by kernel_rfl
def gTwoIn (vs:List Value):Option (Bool×Value) :=
  match vs with
  | [.int .i64 p,.int .i64 s]=>some (true,S (be 1 (two p s)))
  | _=>none
theorem gTwoIn_ok:CtV 205 gTwoIn:=by
  intro vs r h
  unfold gTwoIn at h
  split at h
  · rename_i p s
    obtain ⟨h1,rfl⟩:=some_t h
    refine runV (vs:=[I p,I s]) (Λ:=L0) (m':=M0) OkQ5 Tryz.func205 rfl (fun z _ _=>l0Ok _ z) ?_
    exact (runTwoIn p s).trans (rfl)
  · cases h
noncomputable def ΓQ6:Orc:=addVal 205 gTwoIn ΓQ5
theorem OkQ6:ΓQ6.Ok Tryz.prog:=addVal_ok OkQ5 gTwoIn_ok
theorem runTwoOf (b:Int):runG ΓQ6 L0 Tryz.prog Tryz.f164 [.v (U8 b)] M0 =
    some (.v (.tuple #[(.int .i64 (wI (b.tmod (16:Int)))),(.int .i64 (wI (IntKind.u8.wrap (b.tdiv (16:Int)))))]),⟨[],[],[]⟩):=by kernel_rfl
def gTwoOf (vs:List Value):Option (Bool×Value) :=
  match vs with
  | [.int .u8 b]=>some (true,.tuple #[I (wI (b.tmod 16)),I (wI (IntKind.u8.wrap (b.tdiv 16)))])
  | _=>none
theorem gTwoOf_ok:CtV 164 gTwoOf:=by
  intro vs r h
  unfold gTwoOf at h
  split at h
  · rename_i b
    obtain ⟨h1,rfl⟩:=some_t h
    refine runV (vs:=[U8 b]) (Λ:=L0) (m':=M0) OkQ6 Tryz.func164 rfl (fun z _ _=>l0Ok _ z) ?_
    exact (runTwoOf b).trans (rfl)
  · cases h
noncomputable def ΓQ7:Orc:=addVal 164 gTwoOf ΓQ6
theorem OkQ7:ΓQ7.Ok Tryz.prog:=addVal_ok OkQ6 gTwoOf_ok
theorem runSummed (s:ByteArray):runG ΓQ7 L0 Tryz.prog Tryz.f132 [.v (S s)] M0 =
    (bif szS s then (bif (s.size+(be (4:Nat) (IntKind.u64.wrap (sum32 s))).size).ble (9223372036854775807) then some (.v (Value.string (s++be (4:Nat) (IntKind.u64.wrap (sum32 s)))),⟨[],[],[]⟩) else none) else none):=by kernel_rfl
def gSummed (vs:List Value):Option (Bool×Value) :=
  match vs with
  | [.string s]=>some (Nat.ble s.size 1000000,S (sealT s))
  | _=>none
theorem gSummed_ok:CtV 132 gSummed:=by
  intro vs r h
  unfold gSummed at h
  split at h
  · rename_i s
    obtain ⟨h1,rfl⟩:=some_t h
    refine runV (vs:=[S s]) (Λ:=L0) (m':=M0) OkQ7 Tryz.func132 rfl (fun z _ _=>l0Ok _ z) ?_
    exact (runSummed s).trans (by
      have hz:=Nat.le_of_ble_eq_true h1
      rw [szS_of (show s.size≤9223372036854775807 by omega),be_u64_4,be_size,Nat.ble_eq_true_of_le (show s.size+4≤9223372036854775807 by omega)]
      rfl)
  · cases h
noncomputable def ΓQ8:Orc:=addVal 132 gSummed ΓQ7
theorem OkQ8:ΓQ8.Ok Tryz.prog:=addVal_ok OkQ7 gSummed_ok
theorem runCheck (s:ByteArray) (n:Int):runG ΓQ8 L0 Tryz.prog Tryz.f162 [.v (S s),.v (I n)] M0 =
    (bif decide (↑s.size<wI (n+(4:Int))) then some (.v (.int .i64 5),⟨[],[],[]⟩) else (bif decide (↑s.size>wI (n+(4:Int))) then some (.v (.int .i64 3),⟨[],[],[]⟩) else (bif true&&(decide ((0:Int)≤n)&&decide (n≤↑s.size)) then (bif (s.extract (0:Nat) n.toNat).size.ble (1000000) then (bif !(sealT (s.extract (0:Nat) n.toNat)).toList==s.toList then some (.v (.int .i64 4),⟨[],[],[]⟩) else some (.v (.int .i64 0),⟨[],[],[]⟩)) else none) else none))):=by kernel_rfl
def gCheck (vs:List Value):Option (Bool×Value) :=
  match vs with
  | [.string s,.int .i64 n]=>some ((n==4||(n==6||n==10))&&Nat.ble s.size 1000000,I (chkE s n))
  | _=>none
theorem gCheck_ok:CtV 162 gCheck:=by
  intro vs r h
  unfold gCheck at h
  split at h
  · rename_i s n
    obtain ⟨h1,rfl⟩:=some_t h
    refine runV (vs:=[S s,I n]) (Λ:=L0) (m':=M0) OkQ8 Tryz.func162 rfl (fun z _ _=>l0Ok _ z) ?_
    exact (runCheck s n).trans (by
      simp only [Bool.and_eq_true,Bool.or_eq_true,beq_iff_eq] at h1
      obtain ⟨h0,h1⟩:=h1
      have hz:=Nat.le_of_ble_eq_true h1
      have hw:wI (n+4)=n+4:=wI_id (by omega)
      rw [hw]
      unfold chkE
      by_cases c1:(s.size:Int)<n+4
      · rw [decide_eq_true c1,if_pos c1];rfl
      by_cases c2:(s.size:Int)>n+4
      · rw [decide_eq_false c1,decide_eq_true c2,if_neg c1,if_pos c2];rfl
      rw [decide_eq_false c1,decide_eq_false c2,if_neg c1,if_neg c2,decide_eq_true (show 0≤n by omega),decide_eq_true (show n≤(s.size:Int) by omega),Nat.ble_eq_true_of_le (show (s.extract 0 n.toNat).size≤1000000 by rw [ByteArray.size_extract];omega),beq_TS]
      cases sealT (s.extract 0 n.toNat)==s<;>rfl)
  · cases h
noncomputable def ΓQ9:Orc:=addVal 162 gCheck ΓQ8
theorem OkQ9:ΓQ9.Ok Tryz.prog:=addVal_ok OkQ8 gCheck_ok
theorem runCycle (s:ByteArray):runG ΓQ9 L0 Tryz.prog Tryz.f163 [.v (S s)] M0 =
    (bif true&&(true&&decide ((4:Int)≤↑s.size)) then (bif szS (s.extract (0:Nat) (4:Nat)) then some (.v (.int .i64 (wI ↑(numN (s.extract (0:Nat) (4:Nat))))),⟨[],[],[]⟩) else none) else none):=by kernel_rfl
def gCycle (vs:List Value):Option (Bool×Value) :=
  match vs with
  | [.string s]=>some (Nat.ble 4 s.size&&Nat.ble s.size 1000000,I (wI ((numN (s.extract 0 4):Nat):Int)))
  | _=>none
theorem gCycle_ok:CtV 163 gCycle:=by
  intro vs r h
  unfold gCycle at h
  split at h
  · rename_i s
    obtain ⟨h1,rfl⟩:=some_t h
    refine runV (vs:=[S s]) (Λ:=L0) (m':=M0) OkQ9 Tryz.func163 rfl (fun z _ _=>l0Ok _ z) ?_
    exact (runCycle s).trans (by
      simp only [Bool.and_eq_true] at h1
      have h2:=Nat.le_of_ble_eq_true h1.1
      rw [decide_eq_true (show (4:Int)≤(s.size:Int) by omega),szS_of (show (s.extract 0 4).size≤9223372036854775807 by rw [ByteArray.size_extract];omega)]
      rfl)
  · cases h
noncomputable def ΓQ10:Orc:=addVal 163 gCycle ΓQ9
theorem OkQ10:ΓQ10.Ok Tryz.prog:=addVal_ok OkQ9 gCycle_ok
theorem runPWord (c p s w:Int):runG ΓQ10 L0 Tryz.prog Tryz.f153 [.v (.agg #[I c,I p,I s,I w])] M0 =
    (bif !stR c p s then some (.v (Value.string { data:=#[]:ByteArray }),⟨[],[],[]⟩) else (bif !inB w (15:Int) then some (.v (Value.string { data:=#[]:ByteArray }),⟨[],[],[]⟩) else some (.v (Value.string (sealT (be (4:Nat) c++be (1:Nat) (two p s)++be (1:Nat) w))),⟨[],[],[]⟩))):=by kernel_rfl
def gPWord (vs:List Value):Option (Bool×Value) :=
  match vs with
  | [.agg ⟨[.int .i64 c,.int .i64 p,.int .i64 s,.int .i64 w]⟩]=>some (true,S (wordT c p s w))
  | _=>none
theorem gPWord_ok:CtV 153 gPWord:=by
  intro vs r h
  unfold gPWord at h
  split at h
  · rename_i c p s w
    obtain ⟨h1,rfl⟩:=some_t h
    refine runV (vs:=[.agg #[I c,I p,I s,I w]]) (Λ:=L0) (m':=M0) OkQ10 Tryz.func153 rfl (fun z _ _=>l0Ok _ z) ?_
    exact (runPWord c p s w).trans (by
      unfold wordT wordR
      cases stR c p s<;>cases inB w 15<;>first|rfl|(simp only [ByteArray.size_append,be_size];rfl))
  · cases h
noncomputable def ΓQ11:Orc:=addVal 153 gPWord ΓQ10
theorem OkQ11:ΓQ11.Ok Tryz.prog:=addVal_ok OkQ10 gPWord_ok
def cyc (s:ByteArray):Int:=wI ((numN (s.extract 0 4):Nat):Int)
def low (s:ByteArray) (i:Int):Int:=wI ((strAt s i).tmod 16)
def high (s:ByteArray) (i:Int):Int:=wI (IntKind.u8.wrap ((strAt s i).tdiv 16))
def okI (b:Bool) (x:Int):Int:=bif b then x else 0
def wOk (s:ByteArray):Bool:=wordT (cyc s) (low s 4) (high s 4) (wI (strAt s 5))==s
def wdE (s:ByteArray):Int:=bif chkE s 6 != 0 then chkE s 6 else bif wOk s then 0 else 3
theorem chk0 {s:ByteArray} {n:Int} (h:chkE s n=0):(s.size:Int)=n+4:=by
  unfold chkE at h
  split at h
  · cases h
  · split at h
    · cases h
    · omega
theorem chk_cases (s:ByteArray) (n:Int):chkE s n=5∨chkE s n=3∨chkE s n=4∨chkE s n=0:=by
  unfold chkE
  split
  · exact .inl rfl
  · split
    · exact .inr (.inl rfl)
    · split
      · exact .inr (.inr (.inr rfl))
      · exact .inr (.inr (.inl rfl))
theorem runRWord (s:ByteArray):runG ΓQ11 L0 Tryz.prog Tryz.f108 [.v (S s)] M0 =
    (bif true&&s.size.ble (1000000) then (bif chkE s (6:Int) != (0:Int) then some (.v (.tuple #[(.agg #[(.int .i64 0),(.int .i64 0),(.int .i64 0),(.int .i64 0)]),(.int .i64 (chkE s (6:Int)))]),⟨[],[],[]⟩) else (bif Nat.ble (4) s.size&&s.size.ble (1000000) then (bif true&&decide ((5:Int)<↑s.size) then (bif true&&decide ((4:Int)<↑s.size) then (bif !(wordT (wI ↑(numN (s.extract (0:Nat) (4:Nat)))) (wI ((strAt s (4:Int)).tmod (16))) (wI (IntKind.u8.wrap ((strAt s (4:Int)).tdiv (16)))) (wI (strAt s (5:Int)))).toList==s.toList then some (.v (.tuple #[(.agg #[(.int .i64 0),(.int .i64 0),(.int .i64 0),(.int .i64 0)]),(.int .i64 3)]),⟨[],[],[]⟩) else some (.v (.tuple #[(.agg #[(.int .i64 (wI ↑(numN (s.extract (0:Nat) (4:Nat))))),(.int .i64 (wI ((strAt s (4:Int)).tmod (16)))),(.int .i64 (wI (IntKind.u8.wrap ((strAt s (4:Int)).tdiv (16))))),(.int .i64 (wI (strAt s (5:Int))))]),(.int .i64 0)]),⟨[],[],[]⟩)) else none) else none) else none)) else none):=by kernel_rfl
def gRWord (vs:List Value):Option (Bool×Value) :=
  match vs with
  | [.string s]=>some (Nat.ble s.size 1000000,.tuple #[.agg #[I (okI (wdE s==0) (cyc s)),I (okI (wdE s==0) (low s 4)),I (okI (wdE s==0) (high s 4)),I (okI (wdE s==0) (wI (strAt s 5)))],I (wdE s)])
  | _=>none
theorem gRWord_ok:CtV 108 gRWord:=by
  intro vs r h
  unfold gRWord at h
  split at h
  · rename_i s
    obtain ⟨h1,rfl⟩:=some_t h
    refine runV (vs:=[S s]) (Λ:=L0) (m':=M0) OkQ11 Tryz.func108 rfl (fun z _ _=>l0Ok _ z) ?_
    exact (runRWord s).trans (by
      rw [h1]
      unfold wdE
      rcases chk_cases s 6 with he|he|he|he
      · rw [he];rfl
      · rw [he];rfl
      · rw [he];rfl
      · have hs:=chk0 he
        rw [he,Nat.ble_eq_true_of_le (show 4≤s.size by omega),decide_eq_true (show (5:Int)<(s.size:Int) by omega),decide_eq_true (show (4:Int)<(s.size:Int) by omega)]
        unfold wOk cyc low high
        rw [← beq_TS]
        cases (wordT (wI ((numN (s.extract 0 4):Nat):Int)) (wI ((strAt s 4).tmod 16)) (wI (IntKind.u8.wrap ((strAt s 4).tdiv 16))) (wI (strAt s 5))).toList==s.toList<;>rfl)
  · cases h
noncomputable def ΓQ12:Orc:=addVal 108 gRWord ΓQ11
theorem OkQ12:ΓQ12.Ok Tryz.prog:=addVal_ok OkQ11 gRWord_ok
noncomputable def ΓQa:Orc:=ΓQ12
theorem OkQa:ΓQa.Ok Tryz.prog:=OkQ12
end Go.Proofs.YtagaiddomhpdmaaGreat.Pe
namespace Go.Proofs.YtagaiddomhpdmaaGreat.Pe
open Go Go.Proofs Go.Sx Nw
set_option linter.unusedVariables false
theorem byteAt32 (x:Int) (j k:Nat) (h:(2:Int) ^ min (Int.toNat (8*k:Nat)) 32=256 ^ k) (hj:j=8*k):IntKind.u8.wrap (x.fdiv (2 ^ min (Int.toNat (j:Nat)) 32))=x / 256 ^ k % 256:=by
  subst hj
  rw [h,Int.fdiv_eq_ediv_of_nonneg _ (Int.le_of_lt (Int.pow_pos (by decide))),← wr_eq true]
  rfl
theorem be4_32 (x:Int):strOfNums [IntKind.u8.wrap (x.fdiv (2 ^ min (Int.toNat 24) 32)),IntKind.u8.wrap (x.fdiv (2 ^ min (Int.toNat 16) 32)),IntKind.u8.wrap (x.fdiv (2 ^ min (Int.toNat 8) 32)),IntKind.u8.wrap x]=be 4 x:=by
  have e1:=byteAt32 x 8 1 (by decide) rfl
  have e2:=byteAt32 x 16 2 (by decide) rfl
  have e3:=byteAt32 x 24 3 (by decide) rfl
  rw [show ((8:Nat):Int)=8 from rfl] at e1
  rw [show ((16:Nat):Int)=16 from rfl] at e2
  rw [show ((24:Nat):Int)=24 from rfl] at e3
  have e0:IntKind.u8.wrap x=x / 256 ^ 0 % 256:=by
    rw [← wr_eq true]
    simp only [wr]
    omega
  rw [e0,e1,e2,e3];rfl
noncomputable def ΓR1:Orc:=ΓQa
theorem OkR1:ΓR1.Ok Tryz.prog:=OkQa
noncomputable def ΓR2:Orc:=ΓR1
theorem OkR2:ΓR2.Ok Tryz.prog:=OkR1
theorem runPRR (c p s x y z u v f:Int):runG ΓR2 L0 Tryz.prog Tryz.f206 [.v (.agg #[I c,I p,I s,I x,I y,I z,I u,I v,I f])] M0 =
    (bif !inB x (255:Int) then some (.v (Bo false),M0) else (bif !inB y (255:Int) then some (.v (Bo false),M0) else (bif !inB z (255:Int) then some (.v (Bo false),M0) else (bif !inB f (255:Int) then some (.v (Bo false),M0) else (bif !inB u (4:Int) then some (.v (Bo false),M0) else (bif !inB v (4:Int) then some (.v (Bo false),M0) else some (.v (Bo (stR c p s)),M0))))))):=by kernel_rfl
def gPRR (vs:List Value):Option (Bool×Value) :=
  match vs with
  | [.agg ⟨[.int .i64 c,.int .i64 p,.int .i64 s,.int .i64 x,.int .i64 y,.int .i64 z,.int .i64 u,.int .i64 v,.int .i64 f]⟩]=>some (true,Bo (repR c p s x y z u v f))
  | _=>none
theorem gPRR_ok:CtV 206 gPRR:=by
  intro vs r h
  unfold gPRR at h
  split at h
  · rename_i c p s x y z u v f
    obtain ⟨h1,rfl⟩:=some_t h
    refine runV (vs:=[.agg #[I c,I p,I s,I x,I y,I z,I u,I v,I f]]) (Λ:=L0) (m':=M0) OkR2 Tryz.func206 rfl (fun z _ _=>l0Ok _ z) ?_
    exact (runPRR c p s x y z u v f).trans (by
      simp only [bif_f,Bool.not_not]
      unfold repR stR
      congr 4
      ac_rfl)
  · cases h
noncomputable def ΓR3:Orc:=addVal 206 gPRR ΓR2
theorem OkR3:ΓR3.Ok Tryz.prog:=addVal_ok OkR2 gPRR_ok
theorem runFour (n:Int):runG ΓR3 L0 Tryz.prog Tryz.f151 [.v (U32 n)] M0 =
    some (.v (S (strOfNums (numsOf [[Dat.n (IntKind.u8.wrap (n.fdiv (16777216:Int)))],[Dat.n (IntKind.u8.wrap (n.fdiv (65536:Int)))],[Dat.n (IntKind.u8.wrap (n.fdiv (256:Int)))],[Dat.n (IntKind.u8.wrap n)]]))),M0):=by kernel_rfl
def gFour (vs:List Value):Option (Bool×Value) :=
  match vs with
  | [.int .u32 n]=>some (true,S (be 4 n))
  | _=>none
theorem gFour_ok:CtV 151 gFour:=by
  intro vs r h
  unfold gFour at h
  split at h
  · rename_i n
    obtain ⟨h1,rfl⟩:=some_t h
    refine runV (vs:=[U32 n]) (Λ:=L0) (m':=M0) OkR3 Tryz.func151 rfl (fun z _ _=>l0Ok _ z) ?_
    exact (runFour n).trans (by rw [← be4_32 n];rfl)
  · cases h
noncomputable def ΓR4:Orc:=addVal 151 gFour ΓR3
theorem OkR4:ΓR4.Ok Tryz.prog:=addVal_ok OkR3 gFour_ok
theorem runSealed (s:ByteArray):runG ΓR4 L0 Tryz.prog Tryz.f148 [.v (S s)] M0 =
    (bif szS s then (bif (s.size+(be (4:Nat) (sum32 s)).size).ble (9223372036854775807) then some (.v (S (s++be (4:Nat) (sum32 s))),M0) else none) else none):=by kernel_rfl
def gSealed (vs:List Value):Option (Bool×Value) :=
  match vs with
  | [.string s]=>some (Nat.ble s.size 1000000,S (sealT s))
  | _=>none
theorem gSealed_ok:CtV 148 gSealed:=by
  intro vs r h
  unfold gSealed at h
  split at h
  · rename_i s
    obtain ⟨h1,rfl⟩:=some_t h
    refine runV (vs:=[S s]) (Λ:=L0) (m':=M0) OkR4 Tryz.func148 rfl (fun z _ _=>l0Ok _ z) ?_
    exact (runSealed s).trans (by
      have hz:=Nat.le_of_ble_eq_true h1
      rw [szS_of (show s.size≤9223372036854775807 by omega),be_size,Nat.ble_eq_true_of_le (show s.size+4≤9223372036854775807 by omega)]
      rfl)
  · cases h
noncomputable def ΓR5:Orc:=addVal 148 gSealed ΓR4
theorem OkR5:ΓR5.Ok Tryz.prog:=addVal_ok OkR4 gSealed_ok
noncomputable def ΓR6:Orc:=ΓR5
theorem OkR6:ΓR6.Ok Tryz.prog:=OkR5
noncomputable def ΓR7:Orc:=ΓR6
theorem OkR7:ΓR7.Ok Tryz.prog:=OkR6
noncomputable def ΓR8:Orc:=ΓR7
theorem OkR8:ΓR8.Ok Tryz.prog:=OkR7
noncomputable def ΓR9:Orc:=ΓR8
theorem OkR9:ΓR9.Ok Tryz.prog:=OkR8
noncomputable def ΓR10:Orc:=ΓR9
theorem OkR10:ΓR10.Ok Tryz.prog:=OkR9
theorem runPRep (c p s x y z u v f:Int):runG ΓR10 L0 Tryz.prog Tryz.f154 [.v (.agg #[I c,I p,I s,I x,I y,I z,I u,I v,I f])] M0 =
    (bif !repR c p s x y z u v f then some (.v (S { data:=#[]:ByteArray }),M0) else some (.v (S (sealT (be (4:Nat) c++be (1:Nat) (two p s)++(be (1:Nat) x++be (1:Nat) y++be (1:Nat) z)++be (1:Nat) (two u v)++be (1:Nat) f))),M0)):=by kernel_rfl
def gPRep (vs:List Value):Option (Bool×Value) :=
  match vs with
  | [.agg ⟨[.int .i64 c,.int .i64 p,.int .i64 s,.int .i64 x,.int .i64 y,.int .i64 z,.int .i64 u,.int .i64 v,.int .i64 f]⟩]=>some (true,S (repT c p s x y z u v f))
  | _=>none
theorem gPRep_ok:CtV 154 gPRep:=by
  intro vs r h
  unfold gPRep at h
  split at h
  · rename_i c p s x y z u v f
    obtain ⟨h1,rfl⟩:=some_t h
    refine runV (vs:=[.agg #[I c,I p,I s,I x,I y,I z,I u,I v,I f]]) (Λ:=L0) (m':=M0) OkR10 Tryz.func154 rfl (fun z _ _=>l0Ok _ z) ?_
    exact (runPRep c p s x y z u v f).trans (by
      unfold repT repB
      cases repR c p s x y z u v f with
      | false=>rfl
      | true =>
        rfl)
  · cases h
noncomputable def ΓR11:Orc:=addVal 154 gPRep ΓR10
theorem OkR11:ΓR11.Ok Tryz.prog:=addVal_ok OkR10 gPRep_ok
noncomputable def ΓR12:Orc:=ΓR11
theorem OkR12:ΓR12.Ok Tryz.prog:=OkR11
theorem runPCom (c:Int):runG ΓR12 L0 Tryz.prog Tryz.f79 [.v (I c)] M0 =
    (bif decide (c<(1:Int)) then some (.v (S { data:=#[]:ByteArray }),M0) else (bif decide (c>(3:Int)) then some (.v (S { data:=#[]:ByteArray }),M0) else some (.v (S (sealT (be (1:Nat) c++be (1:Nat) (wI ↑(BitVec.ofInt (64:Nat) c ^^^ BitVec.ofInt (64:Nat) (85:Int)).toNat)++be (1:Nat) (wI ↑(BitVec.ofInt (64:Nat) c ^^^ BitVec.ofInt (64:Nat) (170:Int)).toNat)++be (1:Nat) (wI ↑(BitVec.ofInt (64:Nat) c ^^^ BitVec.ofInt (64:Nat) (255:Int)).toNat)))),M0))):=by kernel_rfl
def gPCom (vs:List Value):Option (Bool×Value) :=
  match vs with
  | [.int .i64 c]=>some (true,S (comT c))
  | _=>none
theorem gPCom_ok:CtV 79 gPCom:=by
  intro vs r h
  unfold gPCom at h
  split at h
  · rename_i c
    obtain ⟨h1,rfl⟩:=some_t h
    refine runV (vs:=[I c]) (Λ:=L0) (m':=M0) OkR12 Tryz.func79 rfl (fun z _ _=>l0Ok _ z) ?_
    exact (runPCom c).trans (by
      unfold comT comR
      by_cases c1:c<1
      · rw [decide_eq_true c1,decide_eq_false (show ¬ 1≤c by omega)];rfl
      by_cases c2:c>3
      · rw [decide_eq_false c1,decide_eq_true c2,decide_eq_true (show 1≤c by omega),decide_eq_false (show ¬ c≤3 by omega)];rfl
      have hc:c=1∨c=2∨c=3:=by omega
      unfold comB
      rcases hc with rfl|rfl|rfl
      · rfl
      · rfl
      · rfl)
  · cases h
noncomputable def ΓR13:Orc:=addVal 79 gPCom ΓR12
theorem OkR13:ΓR13.Ok Tryz.prog:=addVal_ok OkR12 gPCom_ok
theorem runRPCom (c:Int):runG ΓR13 L0 Tryz.prog Tryz.f127 [.v (I c)] M0 =
    (bif decide (c<(1:Int)) then some (.v (S { data:=#[]:ByteArray }),M0) else (bif decide (c>(3:Int)) then some (.v (S { data:=#[]:ByteArray }),M0) else some (.v (S (sealT (strOfNums (numsOf [[Dat.n (IntKind.u8.wrap c)],[Dat.n (IntKind.u8.wrap ↑(BitVec.ofInt (8:Nat) (IntKind.u8.wrap c) ^^^ BitVec.ofInt (8:Nat) (85:Int)).toNat)],[Dat.n (IntKind.u8.wrap ↑(BitVec.ofInt (8:Nat) (IntKind.u8.wrap c) ^^^ BitVec.ofInt (8:Nat) (170:Int)).toNat)],[Dat.n (IntKind.u8.wrap ↑(BitVec.ofInt (8:Nat) (IntKind.u8.wrap c) ^^^ BitVec.ofInt (8:Nat) (255:Int)).toNat)]])))),M0))):=by kernel_rfl
def gRPCom (vs:List Value):Option (Bool×Value) :=
  match vs with
  | [.int .i64 c]=>some (true,S (comT c))
  | _=>none
theorem gRPCom_ok:CtV 127 gRPCom:=by
  intro vs r h
  unfold gRPCom at h
  split at h
  · rename_i c
    obtain ⟨h1,rfl⟩:=some_t h
    refine runV (vs:=[I c]) (Λ:=L0) (m':=M0) OkR13 Tryz.func127 rfl (fun z _ _=>l0Ok _ z) ?_
    exact (runRPCom c).trans (by
      unfold comT comR
      by_cases c1:c<1
      · rw [decide_eq_true c1,decide_eq_false (show ¬ 1≤c by omega)];rfl
      by_cases c2:c>3
      · rw [decide_eq_false c1,decide_eq_true c2,decide_eq_true (show 1≤c by omega),decide_eq_false (show ¬ c≤3 by omega)];rfl
      have hc:c=1∨c=2∨c=3:=by omega
      unfold comB
      rcases hc with rfl|rfl|rfl
      · simp only [app_assoc]
        rfl
      · simp only [app_assoc]
        rfl
      · simp only [app_assoc]
        rfl)
  · cases h
noncomputable def ΓR14:Orc:=addVal 127 gRPCom ΓR13
theorem OkR14:ΓR14.Ok Tryz.prog:=addVal_ok OkR13 gRPCom_ok
noncomputable def ΓRa:Orc:=ΓR14
theorem OkRa:ΓRa.Ok Tryz.prog:=OkR14
end Go.Proofs.YtagaiddomhpdmaaGreat.Pe
namespace Go.Proofs.YtagaiddomhpdmaaGreat.Pe
open Go Go.Proofs Go.Sx Nw
set_option linter.unusedVariables false
def cOk (s:ByteArray):Bool:=comT (wI (strAt s 0))==s
def coE (s:ByteArray):Int:=bif chkE s 4 != 0 then chkE s 4 else bif cOk s then 0 else 3
noncomputable def ΓT1:Orc:=ΓRa
theorem OkT1:ΓT1.Ok Tryz.prog:=OkRa
noncomputable def ΓT2:Orc:=ΓT1
theorem OkT2:ΓT2.Ok Tryz.prog:=OkT1
noncomputable def ΓT3:Orc:=ΓT2
theorem OkT3:ΓT3.Ok Tryz.prog:=OkT2
theorem runRCom (s:ByteArray):runG ΓT3 L0 Tryz.prog Tryz.f106 [.v (S s)] M0 =
    (bif true&&s.size.ble (1000000) then (bif chkE s (4:Int) != (0:Int) then some (.v (.tuple #[(I 0),(I (chkE s (4:Int)))]),M0) else (bif true&&decide ((0:Int)<↑s.size) then (bif !(comT (wI (strAt s (0:Int)))).toList==s.toList then some (.v (.tuple #[(I 0),(I 3)]),M0) else some (.v (.tuple #[(I (wI (strAt s (0:Int)))),(I 0)]),M0)) else none)) else none):=by kernel_rfl
def gRCom (vs:List Value):Option (Bool×Value) :=
  match vs with
  | [.string s]=>some (Nat.ble s.size 1000000,.tuple #[I (okI (coE s==0) (wI (strAt s 0))),I (coE s)])
  | _=>none
theorem gRCom_ok:CtV 106 gRCom:=by
  intro vs r h
  unfold gRCom at h
  split at h
  · rename_i s
    obtain ⟨h1,rfl⟩:=some_t h
    refine runV (vs:=[S s]) (Λ:=L0) (m':=M0) OkT3 Tryz.func106 rfl (fun z _ _=>l0Ok _ z) ?_
    exact (runRCom s).trans (by
      rw [h1]
      unfold coE
      rcases chk_cases s 4 with he|he|he|he
      · rw [he];rfl
      · rw [he];rfl
      · rw [he];rfl
      · have hs:=chk0 he
        rw [he,decide_eq_true (show (0:Int)<(s.size:Int) by omega)]
        unfold cOk
        rw [← beq_TS]
        cases (comT (wI (strAt s 0))).toList==s.toList<;>rfl)
  · cases h
end Go.Proofs.YtagaiddomhpdmaaGreat.Pe
namespace Go.Proofs.YtagaiddomhpdmaaGreat.So
open Go Go.Proofs Go.Sx
set_option linter.unusedVariables false
def wrS (f:FuncId):Bool:=Nat.beq f 172||Nat.beq f 157||Nat.beq f 173||Nat.beq f 102||false||Nat.beq f 155||Nat.beq f 207||false||Nat.beq f 143||Nat.beq f 48||makers f
noncomputable def Γs0:Orc:={ addVal 135 gMul64 ΓTl0 with wr:=wrS,sb:=true,bs:=true,av:=true }
theorem Oks0:Γs0.Ok Tryz.prog:=⟨(addVal_ok OkTl0 gMul64_ok).call,(addVal_ok OkTl0 gMul64_ok).rd,(addVal_ok OkTl0 gMul64_ok).eqv⟩
def beyB (n m:Int):Bool:=bif decide (n<wI (0 - m)) then true else decide (n>m)
theorem runSby (n:Int) (m:Int):runG Γs0 L0 Tryz.prog Tryz.f257 [.v (I n),.v (I m)] M0 =
    (bif decide (n<wI ((0:Int) - m)) then some (.v (Bo true),M0) else some (.v (Bo (decide (n>m))),M0)):=by kernel_rfl
def gSby (vs:List Value):Option (Bool×Value) :=
  match vs with
  | [.int .i64 n,.int .i64 m]=>some (true,Bo (beyB n m))
  | _=>none
theorem gSby_ok:CtV 257 gSby:=by
  intro vs r h
  unfold gSby at h
  split at h
  · rename_i n m
    obtain ⟨h1,rfl⟩:=some_t h
    refine runV (vs:=[I n,I m]) (Λ:=L0) (m':=M0) Oks0 Tryz.func257 rfl l00 ?_
    exact (runSby n m).trans (by unfold beyB;cases decide (n<wI (0 - m))<;>rfl)
  · cases h
noncomputable def Γs1:Orc:=addVal 257 gSby Γs0
theorem Oks1:Γs1.Ok Tryz.prog:=addVal_ok Oks0 gSby_ok
theorem runSsp (p:Int) (q:Int) (x:Int) (y:Int) (z:Int) (vx:Int) (vy:Int) (vz:Int):runG Γs1 L0 Tryz.prog Tryz.f258 [.v (.agg #[I p,I q,I x,I y,I z,I vx,I vy,I vz])] M0 =
    some (.v (.agg #[(I vx),(I vy),(I vz)]),M0):=by kernel_rfl
def gSsp (vs:List Value):Option (Bool×Value) :=
  match vs with
  | [.agg ⟨[.int .i64 p,.int .i64 q,.int .i64 x,.int .i64 y,.int .i64 z,.int .i64 vx,.int .i64 vy,.int .i64 vz]⟩]=>some (true,.agg #[I vx,I vy,I vz])
  | _=>none
theorem gSsp_ok:CtV 258 gSsp:=by
  intro vs r h
  unfold gSsp at h
  split at h
  · rename_i p q x y z vx vy vz
    obtain ⟨h1,rfl⟩:=some_t h
    refine runV (vs:=[.agg #[I p,I q,I x,I y,I z,I vx,I vy,I vz]]) (Λ:=L0) (m':=M0) Oks1 Tryz.func258 rfl l00 ?_
    exact (runSsp p q x y z vx vy vz).trans (rfl)
  · cases h
noncomputable def Γs2:Orc:=addVal 258 gSsp Γs1
theorem Oks2:Γs2.Ok Tryz.prog:=addVal_ok Oks1 gSsp_ok
def farB (x y z vx vy vz:Int):Bool:=beyB x 1073741824||(beyB y 1073741824||(beyB z 1073741824||(beyB vx 65536||(beyB vy 65536||beyB vz 65536))))
theorem runSfa (p:Int) (q:Int) (x:Int) (y:Int) (z:Int) (vx:Int) (vy:Int) (vz:Int):runG Γs2 L0 Tryz.prog Tryz.f208 [.v (.agg #[I p,I q,I x,I y,I z,I vx,I vy,I vz])] M0 =
    (bif beyB x (1073741824:Int) then some (.v (Bo true),M0) else (bif beyB y (1073741824:Int) then some (.v (Bo true),M0) else (bif beyB z (1073741824:Int) then some (.v (Bo true),M0) else (bif beyB vx (65536:Int) then some (.v (Bo true),M0) else (bif beyB vy (65536:Int) then some (.v (Bo true),M0) else (bif beyB vz (65536:Int) then some (.v (Bo true),M0) else some (.v (Bo false),M0))))))):=by kernel_rfl
def gSfa (vs:List Value):Option (Bool×Value) :=
  match vs with
  | [.agg ⟨[.int .i64 p,.int .i64 q,.int .i64 x,.int .i64 y,.int .i64 z,.int .i64 vx,.int .i64 vy,.int .i64 vz]⟩]=>some (true,Bo (farB x y z vx vy vz))
  | _=>none
theorem gSfa_ok:CtV 208 gSfa:=by
  intro vs r h
  unfold gSfa at h
  split at h
  · rename_i p q x y z vx vy vz
    obtain ⟨h1,rfl⟩:=some_t h
    refine runV (vs:=[.agg #[I p,I q,I x,I y,I z,I vx,I vy,I vz]]) (Λ:=L0) (m':=M0) Oks2 Tryz.func208 rfl l00 ?_
    exact (runSfa p q x y z vx vy vz).trans (by unfold farB;cases beyB x 1073741824<;>cases beyB y 1073741824<;>cases beyB z 1073741824<;>cases beyB vx 65536<;>cases beyB vy 65536<;>cases beyB vz 65536<;>rfl)
  · cases h
noncomputable def Γs3:Orc:=addVal 208 gSfa Γs2
theorem Oks3:Γs3.Ok Tryz.prog:=addVal_ok Oks2 gSfa_ok
def morB (a b P:Int):Bool:=decide (a - b>P)||decide (b - a>P)
def i64B (a:Int):Bool:=decide (-9223372036854775808≤a∧a<9223372036854775808)
theorem runSmo (a:Int) (b:Int) (s:Int) (c:Int):runG Γs3 L0 Tryz.prog Tryz.f259 [.v (I a),.v (I b),.v (I s),.v (I c)] M0 =
    (bif inU (IntKind.u64.wrap s)&&inU (IntKind.u64.wrap c) then (bif IntKind.u64.wrap s*IntKind.u64.wrap c / (18446744073709551616:Int)==(0:Int) then some (.v (Bo (decide (IntKind.u64.wrap (IntKind.u64.wrap (if b>a then b else a) - IntKind.u64.wrap (if b<a then b else a))>IntKind.u64.wrap s*IntKind.u64.wrap c % (18446744073709551616:Int)))),M0) else some (.v (Bo false),M0)) else none):=by kernel_rfl
def gSmo (vs:List Value):Option (Bool×Value) :=
  match vs with
  | [.int .i64 a,.int .i64 b,.int .i64 s,.int .i64 c]=>some (i64B a&&(i64B b&&(decide (0≤s∧s<9223372036854775808)&&decide (0≤c∧c<9223372036854775808))),Bo (morB a b (s*c)))
  | _=>none
theorem gSmo_ok:CtV 259 gSmo:=by
  intro vs r h
  unfold gSmo at h
  split at h
  · rename_i a b s c
    obtain ⟨h1,rfl⟩:=some_t h
    refine runV (vs:=[I a,I b,I s,I c]) (Λ:=L0) (m':=M0) Oks3 Tryz.func259 rfl l00 ?_
    exact (runSmo a b s c).trans (by
      simp only [Bool.and_eq_true,decide_eq_true_eq,i64B] at h1
      obtain ⟨h1,h2,h3,h4⟩:=h1
      rw [wrU_id (n:=s) (by omega),wrU_id (n:=c) (by omega),inU_iff.2 (by omega),inU_iff.2 (by omega)]
      have hp:0≤s*c:=Int.mul_nonneg h3.1 h4.1
      generalize s*c=P at *
      have hd:IntKind.u64.wrap (IntKind.u64.wrap (if b>a then b else a) - IntKind.u64.wrap (if b<a then b else a))=(if b>a then b - a else a - b):=by
        rw [wrU,wrU,wrU]
        split<;>split<;>omega
      rw [hd]
      unfold morB
      by_cases h:P / 18446744073709551616=0
      · rw [h]
        have e:(decide ((if b>a then b - a else a - b)>P % 18446744073709551616))=(decide (a - b>P)||decide (b - a>P)):=by
          rw [← Bool.decide_or,decide_eq_decide]
          split<;>omega
        show some (SV.v (Bo (decide _)),M0)=_
        rw [e]
      · rw [beq_eq_false_iff_ne.2 h,decide_eq_false (show ¬ a - b>P by omega),decide_eq_false (show ¬ b - a>P by omega)]
        rfl)
  · cases h
noncomputable def Γs4:Orc:=addVal 259 gSmo Γs3
theorem Oks4:Γs4.Ok Tryz.prog:=addVal_ok Oks3 gSmo_ok
def jmB (vx vy vz l6 l7 l8 P:Int):Bool:=morB vx l6 P||(morB vy l7 P||morB vz l8 P)
theorem runSju (p:Int) (q:Int) (x:Int) (y:Int) (z:Int) (vx:Int) (vy:Int) (vz:Int) (s:Int) (ma:Int) (l1:Int) (l2:Int) (l3:Int) (l4:Int) (l5:Int) (l6:Int) (l7:Int) (l8:Int) (hs:Bool) (ct:Int) (t:Int):runG Γs4 L0 Tryz.prog Tryz.f209 [.ptr 0 0,.v (.agg #[I p,I q,I x,I y,I z,I vx,I vy,I vz])] ⟨[[.v (I s),.v (I ma),.ptr 1 0,.v (I l1),.v (I l2),.v (I l3),.v (I l4),.v (I l5),.v (I l6),.v (I l7),.v (I l8),.v (Bo hs)],[.v (I ct),.v (I t)]],[true,true],[]⟩ =
    (bif i64B vx&&(i64B l6&&(decide ((0:Int)≤s∧s<(9223372036854775808:Int))&&decide ((0:Int)≤wI (t+(1:Int))∧wI (t+(1:Int))<(9223372036854775808:Int)))) then (bif morB vx l6 (s*wI (t+(1:Int))) then some (.v (Bo true),⟨[[.v (I s),.v (I ma),.ptr 1 0,.v (I l1),.v (I l2),.v (I l3),.v (I l4),.v (I l5),.v (I l6),.v (I l7),.v (I l8),.v (Bo hs)],[.v (I ct),.v (I t)]],[true,true],[]⟩) else (bif i64B vy&&(i64B l7&&(decide ((0:Int)≤s∧s<(9223372036854775808:Int))&&decide ((0:Int)≤wI (t+(1:Int))∧wI (t+(1:Int))<(9223372036854775808:Int)))) then (bif morB vy l7 (s*wI (t+(1:Int))) then some (.v (Bo true),⟨[[.v (I s),.v (I ma),.ptr 1 0,.v (I l1),.v (I l2),.v (I l3),.v (I l4),.v (I l5),.v (I l6),.v (I l7),.v (I l8),.v (Bo hs)],[.v (I ct),.v (I t)]],[true,true],[]⟩) else (bif i64B vz&&(i64B l8&&(decide ((0:Int)≤s∧s<(9223372036854775808:Int))&&decide ((0:Int)≤wI (t+(1:Int))∧wI (t+(1:Int))<(9223372036854775808:Int)))) then (bif morB vz l8 (s*wI (t+(1:Int))) then some (.v (Bo true),⟨[[.v (I s),.v (I ma),.ptr 1 0,.v (I l1),.v (I l2),.v (I l3),.v (I l4),.v (I l5),.v (I l6),.v (I l7),.v (I l8),.v (Bo hs)],[.v (I ct),.v (I t)]],[true,true],[]⟩) else some (.v (Bo false),⟨[[.v (I s),.v (I ma),.ptr 1 0,.v (I l1),.v (I l2),.v (I l3),.v (I l4),.v (I l5),.v (I l6),.v (I l7),.v (I l8),.v (Bo hs)],[.v (I ct),.v (I t)]],[true,true],[]⟩)) else none)) else none)) else none):=by kernel_rfl
def gSju (xs:List SV) (m:Mem):Option (Bool×Value) :=
  match xs,m with
  | [.ptr 0 0,.v (.agg ⟨[.int .i64 p,.int .i64 q,.int .i64 x,.int .i64 y,.int .i64 z,.int .i64 vx,.int .i64 vy,.int .i64 vz]⟩)],⟨[[.v (.int .i64 s),.v (.int .i64 ma),.ptr 1 0,.v (.int .i64 l1),.v (.int .i64 l2),.v (.int .i64 l3),.v (.int .i64 l4),.v (.int .i64 l5),.v (.int .i64 l6),.v (.int .i64 l7),.v (.int .i64 l8),.v (.bool hs)],[.v (.int .i64 ct),.v (.int .i64 t)]],[true,true],[]⟩=>some ((i64B vx&&(i64B vy&&(i64B vz&&(i64B l6&&(i64B l7&&(i64B l8&&(decide (0≤s∧s<9223372036854775808)&&decide (0≤t∧t≤1000000)))))))),Bo (jmB vx vy vz l6 l7 l8 (s*(t+1))))
  | _,_=>none
theorem gSju_ok:CtR 209 gSju:=by
  intro xs m r h
  unfold gSju at h
  split at h
  · rename_i p q x y z vx vy vz s ma l1 l2 l3 l4 l5 l6 l7 l8 hs ct t
    obtain ⟨h1,rfl⟩:=some_t h
    refine runOk (Λ:=L0) Oks4 Tryz.func209 rfl l00 ?_
    refine (runSju p q x y z vx vy vz s ma l1 l2 l3 l4 l5 l6 l7 l8 hs ct t).trans ?_
    simp only [Bool.and_eq_true] at h1
    obtain ⟨h1,h2,h3,h4,h5,h6,h7,h8⟩:=h1
    have h9:=of_decide_eq_true h8
    rw [wI_id (n:=t+1) (by omega),h1,h2,h3,h4,h5,h6,h7,decide_eq_true (show 0≤t+1∧t+1<9223372036854775808 by omega)]
    unfold jmB
    cases morB vx l6 (s*(t+1))<;>cases morB vy l7 (s*(t+1))<;>cases morB vz l8 (s*(t+1))<;>rfl
  · cases h
noncomputable def Γs5:Orc:=addRd 209 gSju Γs4
theorem Oks5:Γs5.Ok Tryz.prog:=addRd_ok Oks4 gSju_ok
def ftI (st fl fr jm:Bool):Int:=(bif st then 2 else 0)+((bif fl then 4 else 0)+((bif fr then 8 else 0)+(bif jm then 16 else 0)))
noncomputable def runSft_0 (q:Int) (x:Int) (y:Int) (z:Int) (vx:Int) (vy:Int) (vz:Int) (s:Int) (ma:Int) (l1:Int) (l2:Int) (l3:Int) (l4:Int) (l5:Int) (l6:Int) (l7:Int) (l8:Int) (hs:Bool) (ct:Int) (t:Int):Option (SV×Mem):=bif q != (0:Int) then (bif farB x y z vx vy vz then (bif hs then (bif i64B vx&&(i64B vy&&(i64B vz&&(i64B l6&&(i64B l7&&(i64B l8&&(decide ((0:Int)≤s∧s<(9223372036854775808:Int))&&decide ((0:Int)≤t∧t≤(1000000:Int)))))))) then (bif jmB vx vy vz l6 l7 l8 (s*(t+(1:Int))) then some (.v (I 28),⟨[[.v (I s),.v (I ma),.ptr 1 0,.v (I l1),.v (I l2),.v (I l3),.v (I l4),.v (I l5),.v (I l6),.v (I l7),.v (I l8),.v (Bo hs)],[.v (I ct),.v (I t)]],[true,true],[]⟩) else some (.v (I 12),⟨[[.v (I s),.v (I ma),.ptr 1 0,.v (I l1),.v (I l2),.v (I l3),.v (I l4),.v (I l5),.v (I l6),.v (I l7),.v (I l8),.v (Bo hs)],[.v (I ct),.v (I t)]],[true,true],[]⟩)) else none) else some (.v (I 12),⟨[[.v (I s),.v (I ma),.ptr 1 0,.v (I l1),.v (I l2),.v (I l3),.v (I l4),.v (I l5),.v (I l6),.v (I l7),.v (I l8),.v (Bo hs)],[.v (I ct),.v (I t)]],[true,true],[]⟩)) else (bif hs then (bif i64B vx&&(i64B vy&&(i64B vz&&(i64B l6&&(i64B l7&&(i64B l8&&(decide ((0:Int)≤s∧s<(9223372036854775808:Int))&&decide ((0:Int)≤t∧t≤(1000000:Int)))))))) then (bif jmB vx vy vz l6 l7 l8 (s*(t+(1:Int))) then some (.v (I 20),⟨[[.v (I s),.v (I ma),.ptr 1 0,.v (I l1),.v (I l2),.v (I l3),.v (I l4),.v (I l5),.v (I l6),.v (I l7),.v (I l8),.v (Bo hs)],[.v (I ct),.v (I t)]],[true,true],[]⟩) else some (.v (I 4),⟨[[.v (I s),.v (I ma),.ptr 1 0,.v (I l1),.v (I l2),.v (I l3),.v (I l4),.v (I l5),.v (I l6),.v (I l7),.v (I l8),.v (Bo hs)],[.v (I ct),.v (I t)]],[true,true],[]⟩)) else none) else some (.v (I 4),⟨[[.v (I s),.v (I ma),.ptr 1 0,.v (I l1),.v (I l2),.v (I l3),.v (I l4),.v (I l5),.v (I l6),.v (I l7),.v (I l8),.v (Bo hs)],[.v (I ct),.v (I t)]],[true,true],[]⟩))) else (bif farB x y z vx vy vz then (bif hs then (bif i64B vx&&(i64B vy&&(i64B vz&&(i64B l6&&(i64B l7&&(i64B l8&&(decide ((0:Int)≤s∧s<(9223372036854775808:Int))&&decide ((0:Int)≤t∧t≤(1000000:Int)))))))) then (bif jmB vx vy vz l6 l7 l8 (s*(t+(1:Int))) then some (.v (I 24),⟨[[.v (I s),.v (I ma),.ptr 1 0,.v (I l1),.v (I l2),.v (I l3),.v (I l4),.v (I l5),.v (I l6),.v (I l7),.v (I l8),.v (Bo hs)],[.v (I ct),.v (I t)]],[true,true],[]⟩) else some (.v (I 8),⟨[[.v (I s),.v (I ma),.ptr 1 0,.v (I l1),.v (I l2),.v (I l3),.v (I l4),.v (I l5),.v (I l6),.v (I l7),.v (I l8),.v (Bo hs)],[.v (I ct),.v (I t)]],[true,true],[]⟩)) else none) else some (.v (I 8),⟨[[.v (I s),.v (I ma),.ptr 1 0,.v (I l1),.v (I l2),.v (I l3),.v (I l4),.v (I l5),.v (I l6),.v (I l7),.v (I l8),.v (Bo hs)],[.v (I ct),.v (I t)]],[true,true],[]⟩)) else (bif hs then (bif i64B vx&&(i64B vy&&(i64B vz&&(i64B l6&&(i64B l7&&(i64B l8&&(decide ((0:Int)≤s∧s<(9223372036854775808:Int))&&decide ((0:Int)≤t∧t≤(1000000:Int)))))))) then (bif jmB vx vy vz l6 l7 l8 (s*(t+(1:Int))) then some (.v (I 16),⟨[[.v (I s),.v (I ma),.ptr 1 0,.v (I l1),.v (I l2),.v (I l3),.v (I l4),.v (I l5),.v (I l6),.v (I l7),.v (I l8),.v (Bo hs)],[.v (I ct),.v (I t)]],[true,true],[]⟩) else some (.v (I 0),⟨[[.v (I s),.v (I ma),.ptr 1 0,.v (I l1),.v (I l2),.v (I l3),.v (I l4),.v (I l5),.v (I l6),.v (I l7),.v (I l8),.v (Bo hs)],[.v (I ct),.v (I t)]],[true,true],[]⟩)) else none) else some (.v (I 0),⟨[[.v (I s),.v (I ma),.ptr 1 0,.v (I l1),.v (I l2),.v (I l3),.v (I l4),.v (I l5),.v (I l6),.v (I l7),.v (I l8),.v (Bo hs)],[.v (I ct),.v (I t)]],[true,true],[]⟩)))
theorem runSft (p:Int) (q:Int) (x:Int) (y:Int) (z:Int) (vx:Int) (vy:Int) (vz:Int) (s:Int) (ma:Int) (l1:Int) (l2:Int) (l3:Int) (l4:Int) (l5:Int) (l6:Int) (l7:Int) (l8:Int) (hs:Bool) (ct:Int) (t:Int):runG Γs5 L0 Tryz.prog Tryz.f156 [.ptr 0 0,.v (.agg #[I p,I q,I x,I y,I z,I vx,I vy,I vz])] ⟨[[.v (I s),.v (I ma),.ptr 1 0,.v (I l1),.v (I l2),.v (I l3),.v (I l4),.v (I l5),.v (I l6),.v (I l7),.v (I l8),.v (Bo hs)],[.v (I ct),.v (I t)]],[true,true],[]⟩ =
    (bif hs then (bif p==l1 then (bif q != (0:Int) then (bif farB x y z vx vy vz then (bif hs then (bif i64B vx&&(i64B vy&&(i64B vz&&(i64B l6&&(i64B l7&&(i64B l8&&(decide ((0:Int)≤s∧s<(9223372036854775808:Int))&&decide ((0:Int)≤t∧t≤(1000000:Int)))))))) then (bif jmB vx vy vz l6 l7 l8 (s*(t+(1:Int))) then some (.v (I 30),⟨[[.v (I s),.v (I ma),.ptr 1 0,.v (I l1),.v (I l2),.v (I l3),.v (I l4),.v (I l5),.v (I l6),.v (I l7),.v (I l8),.v (Bo hs)],[.v (I ct),.v (I t)]],[true,true],[]⟩) else some (.v (I 14),⟨[[.v (I s),.v (I ma),.ptr 1 0,.v (I l1),.v (I l2),.v (I l3),.v (I l4),.v (I l5),.v (I l6),.v (I l7),.v (I l8),.v (Bo hs)],[.v (I ct),.v (I t)]],[true,true],[]⟩)) else none) else some (.v (I 14),⟨[[.v (I s),.v (I ma),.ptr 1 0,.v (I l1),.v (I l2),.v (I l3),.v (I l4),.v (I l5),.v (I l6),.v (I l7),.v (I l8),.v (Bo hs)],[.v (I ct),.v (I t)]],[true,true],[]⟩)) else (bif hs then (bif i64B vx&&(i64B vy&&(i64B vz&&(i64B l6&&(i64B l7&&(i64B l8&&(decide ((0:Int)≤s∧s<(9223372036854775808:Int))&&decide ((0:Int)≤t∧t≤(1000000:Int)))))))) then (bif jmB vx vy vz l6 l7 l8 (s*(t+(1:Int))) then some (.v (I 22),⟨[[.v (I s),.v (I ma),.ptr 1 0,.v (I l1),.v (I l2),.v (I l3),.v (I l4),.v (I l5),.v (I l6),.v (I l7),.v (I l8),.v (Bo hs)],[.v (I ct),.v (I t)]],[true,true],[]⟩) else some (.v (I 6),⟨[[.v (I s),.v (I ma),.ptr 1 0,.v (I l1),.v (I l2),.v (I l3),.v (I l4),.v (I l5),.v (I l6),.v (I l7),.v (I l8),.v (Bo hs)],[.v (I ct),.v (I t)]],[true,true],[]⟩)) else none) else some (.v (I 6),⟨[[.v (I s),.v (I ma),.ptr 1 0,.v (I l1),.v (I l2),.v (I l3),.v (I l4),.v (I l5),.v (I l6),.v (I l7),.v (I l8),.v (Bo hs)],[.v (I ct),.v (I t)]],[true,true],[]⟩))) else (bif farB x y z vx vy vz then (bif hs then (bif i64B vx&&(i64B vy&&(i64B vz&&(i64B l6&&(i64B l7&&(i64B l8&&(decide ((0:Int)≤s∧s<(9223372036854775808:Int))&&decide ((0:Int)≤t∧t≤(1000000:Int)))))))) then (bif jmB vx vy vz l6 l7 l8 (s*(t+(1:Int))) then some (.v (I 26),⟨[[.v (I s),.v (I ma),.ptr 1 0,.v (I l1),.v (I l2),.v (I l3),.v (I l4),.v (I l5),.v (I l6),.v (I l7),.v (I l8),.v (Bo hs)],[.v (I ct),.v (I t)]],[true,true],[]⟩) else some (.v (I 10),⟨[[.v (I s),.v (I ma),.ptr 1 0,.v (I l1),.v (I l2),.v (I l3),.v (I l4),.v (I l5),.v (I l6),.v (I l7),.v (I l8),.v (Bo hs)],[.v (I ct),.v (I t)]],[true,true],[]⟩)) else none) else some (.v (I 10),⟨[[.v (I s),.v (I ma),.ptr 1 0,.v (I l1),.v (I l2),.v (I l3),.v (I l4),.v (I l5),.v (I l6),.v (I l7),.v (I l8),.v (Bo hs)],[.v (I ct),.v (I t)]],[true,true],[]⟩)) else (bif hs then (bif i64B vx&&(i64B vy&&(i64B vz&&(i64B l6&&(i64B l7&&(i64B l8&&(decide ((0:Int)≤s∧s<(9223372036854775808:Int))&&decide ((0:Int)≤t∧t≤(1000000:Int)))))))) then (bif jmB vx vy vz l6 l7 l8 (s*(t+(1:Int))) then some (.v (I 18),⟨[[.v (I s),.v (I ma),.ptr 1 0,.v (I l1),.v (I l2),.v (I l3),.v (I l4),.v (I l5),.v (I l6),.v (I l7),.v (I l8),.v (Bo hs)],[.v (I ct),.v (I t)]],[true,true],[]⟩) else some (.v (I 2),⟨[[.v (I s),.v (I ma),.ptr 1 0,.v (I l1),.v (I l2),.v (I l3),.v (I l4),.v (I l5),.v (I l6),.v (I l7),.v (I l8),.v (Bo hs)],[.v (I ct),.v (I t)]],[true,true],[]⟩)) else none) else some (.v (I 2),⟨[[.v (I s),.v (I ma),.ptr 1 0,.v (I l1),.v (I l2),.v (I l3),.v (I l4),.v (I l5),.v (I l6),.v (I l7),.v (I l8),.v (Bo hs)],[.v (I ct),.v (I t)]],[true,true],[]⟩)))) else (runSft_0 q x y z vx vy vz s ma l1 l2 l3 l4 l5 l6 l7 l8 hs ct t)) else (runSft_0 q x y z vx vy vz s ma l1 l2 l3 l4 l5 l6 l7 l8 hs ct t)):=by kernel_rfl
def gSft (xs:List SV) (m:Mem):Option (Bool×Value) :=
  match xs,m with
  | [.ptr 0 0,.v (.agg ⟨[.int .i64 p,.int .i64 q,.int .i64 x,.int .i64 y,.int .i64 z,.int .i64 vx,.int .i64 vy,.int .i64 vz]⟩)],⟨[[.v (.int .i64 s),.v (.int .i64 ma),.ptr 1 0,.v (.int .i64 l1),.v (.int .i64 l2),.v (.int .i64 l3),.v (.int .i64 l4),.v (.int .i64 l5),.v (.int .i64 l6),.v (.int .i64 l7),.v (.int .i64 l8),.v (.bool hs)],[.v (.int .i64 ct),.v (.int .i64 t)]],[true,true],[]⟩=>some ((i64B vx&&(i64B vy&&(i64B vz&&(i64B l6&&(i64B l7&&(i64B l8&&(decide (0≤s∧s<9223372036854775808)&&decide (0≤t∧t≤1000000)))))))),I (ftI (hs&&p==l1) (q != 0) (farB x y z vx vy vz) (hs&&jmB vx vy vz l6 l7 l8 (s*(t+1)))))
  | _,_=>none
theorem gSft_ok:CtR 156 gSft:=by
  intro xs m r h
  unfold gSft at h
  split at h
  · rename_i p q x y z vx vy vz s ma l1 l2 l3 l4 l5 l6 l7 l8 hs ct t
    obtain ⟨h1,rfl⟩:=some_t h
    refine runOk (Λ:=L0) Oks5 Tryz.func156 rfl l00 ?_
    refine (runSft p q x y z vx vy vz s ma l1 l2 l3 l4 l5 l6 l7 l8 hs ct t).trans ?_
    unfold runSft_0
    rw [h1]
    cases hs<;>cases p==l1<;>cases q != 0<;>cases farB x y z vx vy vz<;>cases jmB vx vy vz l6 l7 l8 (s*(t+1))<;>rfl
  · cases h
noncomputable def Γs6:Orc:=addRd 156 gSft Γs5
theorem Oks6:Γs6.Ok Tryz.prog:=addRd_ok Oks5 gSft_ok
def gN (b:Bool) (x:Int):Int:=bif b then 0 else x
def gB' (b x:Bool):Bool:=bif b then false else x
theorem runSfo (s:Int) (ma:Int) (l1:Int) (l2:Int) (l3:Int) (l4:Int) (l5:Int) (l6:Int) (l7:Int) (l8:Int) (hs:Bool) (ct:Int) (t:Int):runG Γs6 L0 Tryz.prog Tryz.f207 [.ptr 0 0] ⟨[[.v (I s),.v (I ma),.ptr 1 0,.v (I l1),.v (I l2),.v (I l3),.v (I l4),.v (I l5),.v (I l6),.v (I l7),.v (I l8),.v (Bo hs)],[.v (I ct),.v (I t)]],[true,true],[]⟩ =
    some (.v (.tuple #[]),⟨[[.v (I s),.v (I ma),.ptr 1 0,.v (I 0),.v (I 0),.v (I 0),.v (I 0),.v (I 0),.v (I 0),.v (I 0),.v (I 0),.v (Bo false)],[.v (I ct),.v (I t)]],[true,true],[]⟩):=by kernel_rfl
def gSfo (xs:List SV) (m:Mem):Option (Bool×SV×Mem) :=
  match xs,m with
  | [.ptr 0 0],⟨[[.v (.int .i64 s),.v (.int .i64 ma),.ptr 1 0,.v (.int .i64 l1),.v (.int .i64 l2),.v (.int .i64 l3),.v (.int .i64 l4),.v (.int .i64 l5),.v (.int .i64 l6),.v (.int .i64 l7),.v (.int .i64 l8),.v (.bool hs)],[.v (.int .i64 ct),.v (.int .i64 t)]],[true,true],[]⟩=>some (true,.v (.tuple #[]),⟨[[.v (I s),.v (I ma),.ptr 1 0,.v (I 0),.v (I 0),.v (I 0),.v (I 0),.v (I 0),.v (I 0),.v (I 0),.v (I 0),.v (Bo false)],[.v (I ct),.v (I t)]],[true,true],[]⟩)
  | _,_=>none
theorem gSfo_ok:CtC 207 gSfo:=by
  intro xs m r m' h
  unfold gSfo at h
  split at h
  · rename_i s ma l1 l2 l3 l4 l5 l6 l7 l8 hs ct t
    obtain ⟨h1,rfl,rfl⟩:=some_t2 h
    refine runOk (Λ:=L0) Oks6 Tryz.func207 rfl l00 ?_
    refine (runSfo s ma l1 l2 l3 l4 l5 l6 l7 l8 hs ct t).trans ?_
    rfl
  · cases h
noncomputable def Γs7:Orc:=addCl 207 gSfo Γs6
theorem Oks7:Γs7.Ok Tryz.prog:=addCl_ok Oks6 gSfo_ok
theorem runSgr (s:Int) (ma:Int) (l1:Int) (l2:Int) (l3:Int) (l4:Int) (l5:Int) (l6:Int) (l7:Int) (l8:Int) (hs:Bool) (ct:Int) (t:Int):runG Γs7 L0 Tryz.prog Tryz.f155 [.ptr 0 0] ⟨[[.v (I s),.v (I ma),.ptr 1 0,.v (I l1),.v (I l2),.v (I l3),.v (I l4),.v (I l5),.v (I l6),.v (I l7),.v (I l8),.v (Bo hs)],[.v (I ct),.v (I t)]],[true,true],[]⟩ =
    (bif decide (addN' ct t (1:Int)>ma) then some (.v (.tuple #[]),⟨[[.v (I s),.v (I ma),.ptr 1 0,.v (I 0),.v (I 0),.v (I 0),.v (I 0),.v (I 0),.v (I 0),.v (I 0),.v (I 0),.v (Bo false)],[.v (I ct),.v (I (addN' ct t (1:Int)))]],[true,true],[]⟩) else some (.v (.tuple #[]),⟨[[.v (I s),.v (I ma),.ptr 1 0,.v (I l1),.v (I l2),.v (I l3),.v (I l4),.v (I l5),.v (I l6),.v (I l7),.v (I l8),.v (Bo hs)],[.v (I ct),.v (I (addN' ct t (1:Int)))]],[true,true],[]⟩)):=by kernel_rfl
def gSgr (xs:List SV) (m:Mem):Option (Bool×SV×Mem) :=
  match xs,m with
  | [.ptr 0 0],⟨[[.v (.int .i64 s),.v (.int .i64 ma),.ptr 1 0,.v (.int .i64 l1),.v (.int .i64 l2),.v (.int .i64 l3),.v (.int .i64 l4),.v (.int .i64 l5),.v (.int .i64 l6),.v (.int .i64 l7),.v (.int .i64 l8),.v (.bool hs)],[.v (.int .i64 ct),.v (.int .i64 t)]],[true,true],[]⟩=>some (true,.v (.tuple #[]),⟨[[.v (I s),.v (I ma),.ptr 1 0,.v (I (gN (decide (addN' ct t 1>ma)) l1)),.v (I (gN (decide (addN' ct t 1>ma)) l2)),.v (I (gN (decide (addN' ct t 1>ma)) l3)),.v (I (gN (decide (addN' ct t 1>ma)) l4)),.v (I (gN (decide (addN' ct t 1>ma)) l5)),.v (I (gN (decide (addN' ct t 1>ma)) l6)),.v (I (gN (decide (addN' ct t 1>ma)) l7)),.v (I (gN (decide (addN' ct t 1>ma)) l8)),.v (Bo (gB' (decide (addN' ct t 1>ma)) hs))],[.v (I ct),.v (I (addN' ct t 1))]],[true,true],[]⟩)
  | _,_=>none
theorem gSgr_ok:CtC 155 gSgr:=by
  intro xs m r m' h
  unfold gSgr at h
  split at h
  · rename_i s ma l1 l2 l3 l4 l5 l6 l7 l8 hs ct t
    obtain ⟨h1,rfl,rfl⟩:=some_t2 h
    refine runOk (Λ:=L0) Oks7 Tryz.func155 rfl l00 ?_
    refine (runSgr s ma l1 l2 l3 l4 l5 l6 l7 l8 hs ct t).trans ?_
    unfold gN gB'
    cases decide (addN' ct t 1>ma)<;>rfl
  · cases h
noncomputable def Γs8:Orc:=addCl 155 gSgr Γs7
theorem Oks8:Γs8.Ok Tryz.prog:=addCl_ok Oks7 gSgr_ok
noncomputable def Γs9:Orc:=Γs8
theorem Oks9:Γs9.Ok Tryz.prog:=Oks8
noncomputable def Γs10:Orc:=Γs9
theorem Oks10:Γs10.Ok Tryz.prog:=Oks9
noncomputable def Γs11:Orc:=Γs10
theorem Oks11:Γs11.Ok Tryz.prog:=Oks10
def nv0 (L:List (List Dat)):Int:=((L.getD (wI ((L.length:Int) - 1)).toNat []).headD (.n 0)).toI
def nv1 (L:List (List Dat)):Int:=((L.getD (wI ((L.length:Int) - 1)).toNat []).tail.headD (.n 0)).toI
def nv2 (L:List (List Dat)):Int:=((L.getD (wI ((L.length:Int) - 1)).toNat []).tail.tail.headD (.n 0)).toI
def nv3 (L:List (List Dat)):Int:=((L.getD (wI ((L.length:Int) - 1)).toNat []).tail.tail.tail.headD (.n 0)).toI
def nv4 (L:List (List Dat)):Int:=((L.getD (wI ((L.length:Int) - 1)).toNat []).tail.tail.tail.tail.headD (.n 0)).toI
def nv5 (L:List (List Dat)):Int:=((L.getD (wI ((L.length:Int) - 1)).toNat []).tail.tail.tail.tail.tail.headD (.n 0)).toI
def nv6 (L:List (List Dat)):Int:=((L.getD (wI ((L.length:Int) - 1)).toNat []).tail.tail.tail.tail.tail.tail.headD (.n 0)).toI
def nv7 (L:List (List Dat)):Int:=((L.getD (wI ((L.length:Int) - 1)).toNat []).tail.tail.tail.tail.tail.tail.tail.headD (.n 0)).toI
abbrev kNv:List CK:=[.num .i64,.num .i64,.num .i64,.num .i64,.num .i64,.num .i64,.num .i64,.num .i64]
abbrev rN (L:List (List Dat)) (own mark:Bool):RowS:=.live ⟨51,kNv,L,own,mark⟩
theorem runScn (s:Int) (ma:Int) (l1:Int) (l2:Int) (l3:Int) (l4:Int) (l5:Int) (l6:Int) (l7:Int) (l8:Int) (hs:Bool) (ct:Int) (t:Int):runG Γs11 L0 Tryz.prog Tryz.f102 [.ptr 0 0,.v (.slice none 0 0)] ⟨[[.v (I s),.v (I ma),.ptr 1 0,.v (I l1),.v (I l2),.v (I l3),.v (I l4),.v (I l5),.v (I l6),.v (I l7),.v (I l8),.v (Bo hs)],[.v (I ct),.v (I t)]],[true,true],[]⟩ =
    some (.v (.tuple #[(.agg #[(I 0),(I 0),(I 0),(I 0),(I 0),(I 0),(I 0),(I 0)]),(I 1)]),⟨[[.v (I s),.v (I ma),.ptr 1 0,.v (I (gN (decide (addN' ct t (1:Int)>ma)) l1)),.v (I (gN (decide (addN' ct t (1:Int)>ma)) l2)),.v (I (gN (decide (addN' ct t (1:Int)>ma)) l3)),.v (I (gN (decide (addN' ct t (1:Int)>ma)) l4)),.v (I (gN (decide (addN' ct t (1:Int)>ma)) l5)),.v (I (gN (decide (addN' ct t (1:Int)>ma)) l6)),.v (I (gN (decide (addN' ct t (1:Int)>ma)) l7)),.v (I (gN (decide (addN' ct t (1:Int)>ma)) l8)),.v (Bo (gB' (decide (addN' ct t (1:Int)>ma)) hs))],[.v (I ct),.v (I (addN' ct t (1:Int)))]],[true,true],[]⟩):=by kernel_rfl
def gScn (xs:List SV) (m:Mem):Option (Bool×SV×Mem) :=
  match xs,m with
  | [.ptr 0 0,.v (.slice none 0 0)],⟨[[.v (.int .i64 s),.v (.int .i64 ma),.ptr 1 0,.v (.int .i64 l1),.v (.int .i64 l2),.v (.int .i64 l3),.v (.int .i64 l4),.v (.int .i64 l5),.v (.int .i64 l6),.v (.int .i64 l7),.v (.int .i64 l8),.v (.bool hs)],[.v (.int .i64 ct),.v (.int .i64 t)]],[true,true],[]⟩=>some (true,.v (.tuple #[.agg #[I 0,I 0,I 0,I 0,I 0,I 0,I 0,I 0],I 1]),⟨[[.v (I s),.v (I ma),.ptr 1 0,.v (I (gN (decide (addN' ct t 1>ma)) l1)),.v (I (gN (decide (addN' ct t 1>ma)) l2)),.v (I (gN (decide (addN' ct t 1>ma)) l3)),.v (I (gN (decide (addN' ct t 1>ma)) l4)),.v (I (gN (decide (addN' ct t 1>ma)) l5)),.v (I (gN (decide (addN' ct t 1>ma)) l6)),.v (I (gN (decide (addN' ct t 1>ma)) l7)),.v (I (gN (decide (addN' ct t 1>ma)) l8)),.v (Bo (gB' (decide (addN' ct t 1>ma)) hs))],[.v (I ct),.v (I (addN' ct t 1))]],[true,true],[]⟩)
  | _,_=>none
theorem gScn_ok:CtC 102 gScn:=by
  intro xs m r m' h
  unfold gScn at h
  split at h
  · rename_i s ma l1 l2 l3 l4 l5 l6 l7 l8 hs ct t
    obtain ⟨h1,rfl,rfl⟩:=some_t2 h
    refine runOk (Λ:=L0) Oks11 Tryz.func102 rfl l00 ?_
    refine (runScn s ma l1 l2 l3 l4 l5 l6 l7 l8 hs ct t).trans ?_
    rfl
  · cases h
noncomputable def Γs12:Orc:=addCl 102 gScn Γs11
theorem Oks12:Γs12.Ok Tryz.prog:=addCl_ok Oks11 gScn_ok
def faI (L:List (List Dat)) (hs:Bool) (l1 l6 l7 l8 P:Int):Int:=bif (L.length:Int)==0 then 1 else ftI (hs&&nv0 L==l1) (nv1 L != 0) (farB (nv2 L) (nv3 L) (nv4 L) (nv5 L) (nv6 L) (nv7 L)) (hs&&jmB (nv5 L) (nv6 L) (nv7 L) l6 l7 l8 P)
def pk (b:Bool) (x y:Int):Int:=bif b then x else y
theorem runScy (s:Int) (ma:Int) (l1:Int) (l2:Int) (l3:Int) (l4:Int) (l5:Int) (l6:Int) (l7:Int) (l8:Int) (hs:Bool) (ct:Int) (t:Int) (L:List (List Dat)) (own:Bool) (mark:Bool):runG Γs12 L0 Tryz.prog Tryz.f102 [.ptr 0 0,.row 0] ⟨[[.v (I s),.v (I ma),.ptr 1 0,.v (I l1),.v (I l2),.v (I l3),.v (I l4),.v (I l5),.v (I l6),.v (I l7),.v (I l8),.v (Bo hs)],[.v (I ct),.v (I t)]],[true,true],[rN L own mark]⟩ =
    (bif (L.length:Int)==(0:Int) then some (.v (.tuple #[(.agg #[(I 0),(I 0),(I 0),(I 0),(I 0),(I 0),(I 0),(I 0)]),(I 1)]),⟨[[.v (I s),.v (I ma),.ptr 1 0,.v (I (gN (decide (addN' ct t (1:Int)>ma)) l1)),.v (I (gN (decide (addN' ct t (1:Int)>ma)) l2)),.v (I (gN (decide (addN' ct t (1:Int)>ma)) l3)),.v (I (gN (decide (addN' ct t (1:Int)>ma)) l4)),.v (I (gN (decide (addN' ct t (1:Int)>ma)) l5)),.v (I (gN (decide (addN' ct t (1:Int)>ma)) l6)),.v (I (gN (decide (addN' ct t (1:Int)>ma)) l7)),.v (I (gN (decide (addN' ct t (1:Int)>ma)) l8)),.v (Bo (gB' (decide (addN' ct t (1:Int)>ma)) hs))],[.v (I ct),.v (I (addN' ct t (1:Int)))]],[true,true],[rN L own mark]⟩) else (bif decide ((0:Int)≤wI ((L.length:Int) - (1:Int)))&&decide (wI ((L.length:Int) - (1:Int))<(L.length:Int)) then (bif i64B (nv5 L)&&(i64B (nv6 L)&&(i64B (nv7 L)&&(i64B l6&&(i64B l7&&(i64B l8&&(decide ((0:Int)≤s∧s<(9223372036854775808:Int))&&decide ((0:Int)≤t∧t≤(1000000:Int)))))))) then (bif ftI (hs&&(nv0 L)==l1) ((nv1 L) != (0:Int)) (farB (nv2 L) (nv3 L) (nv4 L) (nv5 L) (nv6 L) (nv7 L)) (hs&&jmB (nv5 L) (nv6 L) (nv7 L) l6 l7 l8 (s*(t+(1:Int)))) != (0:Int) then some (.v (.tuple #[(.agg #[(I 0),(I 0),(I 0),(I 0),(I 0),(I 0),(I 0),(I 0)]),(I (ftI (hs&&(nv0 L)==l1) ((nv1 L) != (0:Int)) (farB (nv2 L) (nv3 L) (nv4 L) (nv5 L) (nv6 L) (nv7 L)) (hs&&jmB (nv5 L) (nv6 L) (nv7 L) l6 l7 l8 (s*(t+(1:Int))))))]),⟨[[.v (I s),.v (I ma),.ptr 1 0,.v (I (gN (decide (addN' ct t (1:Int)>ma)) l1)),.v (I (gN (decide (addN' ct t (1:Int)>ma)) l2)),.v (I (gN (decide (addN' ct t (1:Int)>ma)) l3)),.v (I (gN (decide (addN' ct t (1:Int)>ma)) l4)),.v (I (gN (decide (addN' ct t (1:Int)>ma)) l5)),.v (I (gN (decide (addN' ct t (1:Int)>ma)) l6)),.v (I (gN (decide (addN' ct t (1:Int)>ma)) l7)),.v (I (gN (decide (addN' ct t (1:Int)>ma)) l8)),.v (Bo (gB' (decide (addN' ct t (1:Int)>ma)) hs))],[.v (I ct),.v (I (addN' ct t (1:Int)))]],[true,true],[rN L own mark]⟩) else some (.v (.tuple #[(.agg #[(I (nv0 L)),(I (nv1 L)),(I (nv2 L)),(I (nv3 L)),(I (nv4 L)),(I (nv5 L)),(I (nv6 L)),(I (nv7 L))]),(I 0)]),⟨[[.v (I s),.v (I ma),.ptr 1 0,.v (I (nv0 L)),.v (I (nv1 L)),.v (I (nv2 L)),.v (I (nv3 L)),.v (I (nv4 L)),.v (I (nv5 L)),.v (I (nv6 L)),.v (I (nv7 L)),.v (Bo true)],[.v (I ct),.v (I (clampI (0:Int) ct))]],[true,true],[rN L own mark]⟩)) else none) else none)):=by kernel_rfl
def gScy (xs:List SV) (m:Mem):Option (Bool×SV×Mem) :=
  match xs,m with
  | [.ptr 0 0,.row 0],⟨[[.v (.int .i64 s),.v (.int .i64 ma),.ptr 1 0,.v (.int .i64 l1),.v (.int .i64 l2),.v (.int .i64 l3),.v (.int .i64 l4),.v (.int .i64 l5),.v (.int .i64 l6),.v (.int .i64 l7),.v (.int .i64 l8),.v (.bool hs)],[.v (.int .i64 ct),.v (.int .i64 t)]],[true,true],[.live ⟨51,[.num .i64,.num .i64,.num .i64,.num .i64,.num .i64,.num .i64,.num .i64,.num .i64],L,own,mark⟩]⟩=>some (Nat.ble L.length 1000000&&(i64B (nv5 L)&&(i64B (nv6 L)&&(i64B (nv7 L)&&(i64B l6&&(i64B l7&&(i64B l8&&(decide (0≤s∧s<9223372036854775808)&&decide (0≤t∧t≤1000000)))))))),.v (.tuple #[.agg #[I (pk (faI L hs l1 l6 l7 l8 (s*(t+1))==0) (nv0 L) 0),I (pk (faI L hs l1 l6 l7 l8 (s*(t+1))==0) (nv1 L) 0),I (pk (faI L hs l1 l6 l7 l8 (s*(t+1))==0) (nv2 L) 0),I (pk (faI L hs l1 l6 l7 l8 (s*(t+1))==0) (nv3 L) 0),I (pk (faI L hs l1 l6 l7 l8 (s*(t+1))==0) (nv4 L) 0),I (pk (faI L hs l1 l6 l7 l8 (s*(t+1))==0) (nv5 L) 0),I (pk (faI L hs l1 l6 l7 l8 (s*(t+1))==0) (nv6 L) 0),I (pk (faI L hs l1 l6 l7 l8 (s*(t+1))==0) (nv7 L) 0)],I (faI L hs l1 l6 l7 l8 (s*(t+1)))]),⟨[[.v (I s),.v (I ma),.ptr 1 0,.v (I (pk (faI L hs l1 l6 l7 l8 (s*(t+1))==0) (nv0 L) (gN (decide (addN' ct t 1>ma)) l1))),.v (I (pk (faI L hs l1 l6 l7 l8 (s*(t+1))==0) (nv1 L) (gN (decide (addN' ct t 1>ma)) l2))),.v (I (pk (faI L hs l1 l6 l7 l8 (s*(t+1))==0) (nv2 L) (gN (decide (addN' ct t 1>ma)) l3))),.v (I (pk (faI L hs l1 l6 l7 l8 (s*(t+1))==0) (nv3 L) (gN (decide (addN' ct t 1>ma)) l4))),.v (I (pk (faI L hs l1 l6 l7 l8 (s*(t+1))==0) (nv4 L) (gN (decide (addN' ct t 1>ma)) l5))),.v (I (pk (faI L hs l1 l6 l7 l8 (s*(t+1))==0) (nv5 L) (gN (decide (addN' ct t 1>ma)) l6))),.v (I (pk (faI L hs l1 l6 l7 l8 (s*(t+1))==0) (nv6 L) (gN (decide (addN' ct t 1>ma)) l7))),.v (I (pk (faI L hs l1 l6 l7 l8 (s*(t+1))==0) (nv7 L) (gN (decide (addN' ct t 1>ma)) l8))),.v (Bo (bif (faI L hs l1 l6 l7 l8 (s*(t+1))==0) then true else gB' (decide (addN' ct t 1>ma)) hs))],[.v (I ct),.v (I (pk (faI L hs l1 l6 l7 l8 (s*(t+1))==0) (clampI 0 ct) (addN' ct t 1)))]],[true,true],[rN L own mark]⟩)
  | _,_=>none
theorem gScy_ok:CtC 102 gScy:=by
  intro xs m r m' h
  unfold gScy at h
  split at h
  · rename_i s ma l1 l2 l3 l4 l5 l6 l7 l8 hs ct t L own mark
    obtain ⟨h1,rfl,rfl⟩:=some_t2 h
    refine runOk (Λ:=L0) Oks12 Tryz.func102 rfl l00 ?_
    refine (runScy s ma l1 l2 l3 l4 l5 l6 l7 l8 hs ct t L own mark).trans ?_
    rw [Bool.and_eq_true] at h1
    obtain ⟨h1,h2⟩:=h1
    have h3:=Nat.le_of_ble_eq_true h1
    rw [h2]
    unfold faI pk
    by_cases hl:(L.length:Int)=0
    · rw [hl]
      rfl
    rw [beq_eq_false_iff_ne.2 hl,wI_id (n:=(L.length:Int) - 1) (by omega),decide_eq_true (show (0:Int)≤(L.length:Int) - 1 by omega),decide_eq_true (show (L.length:Int) - 1<(L.length:Int) by omega)]
    generalize ftI (hs&&nv0 L==l1) (nv1 L != 0) (farB (nv2 L) (nv3 L) (nv4 L) (nv5 L) (nv6 L) (nv7 L)) (hs&&jmB (nv5 L) (nv6 L) (nv7 L) l6 l7 l8 (s*(t+1)))=f
    simp only [cond_false,cond_true,Bool.and_self]
    by_cases hf:f=0
    · subst hf;rfl
    · rw [bne_iff_ne.2 hf,beq_eq_false_iff_ne.2 hf]
      rfl
  · cases h
noncomputable def Γs13:Orc:=addCl 102 gScy Γs12
theorem Oks13:Γs13.Ok Tryz.prog:=addCl_ok Oks12 gScy_ok
theorem runSnw (r1:Int) (r2:Int) (r3:Int) (r4:Int) (r5:Int) (r6:Int) (r7:Int) (r8:Int) (e1:TypeId) (k1:List CK) (L:List (List Dat)) (own:Bool) (mark:Bool):runG Γs13 L0 Tryz.prog Tryz.f143 [.ag [.row 0,.v (I r1),.v (I r2),.v (I r3),.v (I r4),.v (I r5),.v (I r6),.v (I r7),.v (I r8)]] ⟨[],[],[.live ⟨e1,k1,L,own,mark⟩]⟩ =
    (bif decide (r5<(1:Int)) then some (.v (Value.pointer none),⟨[],[],[.live ⟨e1,k1,L,own,mark⟩]⟩) else (bif decide (r6<(1:Int)) then some (.v (Value.pointer none),⟨[],[],[.live ⟨e1,k1,L,own,mark⟩]⟩) else some (.ptr 0 0,⟨[[.v (I r5),.v (I r6),.ptr 1 0,.v (I 0),.v (I 0),.v (I 0),.v (I 0),.v (I 0),.v (I 0),.v (I 0),.v (I 0),.v (Bo false)],[.v (I 1000000),.v (I 0)]],[true,true],[.live ⟨e1,k1,L,own,mark⟩]⟩))):=by kernel_rfl
def gSnw (xs:List SV) (m:Mem):Option (Bool×SV×Mem) :=
  match xs,m with
  | [.ag [.row 0,.v (.int .i64 r1),.v (.int .i64 r2),.v (.int .i64 r3),.v (.int .i64 r4),.v (.int .i64 r5),.v (.int .i64 r6),.v (.int .i64 r7),.v (.int .i64 r8)]],⟨[],[],[.live ⟨e1,k1,L,own,mark⟩]⟩=>some (decide (1≤r5)&&decide (1≤r6),.ptr 0 0,⟨[[.v (I r5),.v (I r6),.ptr 1 0,.v (I 0),.v (I 0),.v (I 0),.v (I 0),.v (I 0),.v (I 0),.v (I 0),.v (I 0),.v (Bo false)],[.v (I 1000000),.v (I 0)]],[true,true],[.live ⟨e1,k1,L,own,mark⟩]⟩)
  | _,_=>none
theorem gSnw_ok:CtC 143 gSnw:=by
  intro xs m r m' h
  unfold gSnw at h
  split at h
  · rename_i r1 r2 r3 r4 r5 r6 r7 r8 e1 k1 L own mark
    obtain ⟨h1,rfl,rfl⟩:=some_t2 h
    refine runOk (Λ:=L0) Oks13 Tryz.func143 rfl l00 ?_
    refine (runSnw r1 r2 r3 r4 r5 r6 r7 r8 e1 k1 L own mark).trans ?_
    rw [Bool.and_eq_true,decide_eq_true_eq,decide_eq_true_eq] at h1
    rw [decide_eq_false (show ¬ r5<1 by omega),decide_eq_false (show ¬ r6<1 by omega)]
    rfl
  · cases h
end Go.Proofs.YtagaiddomhpdmaaGreat.So
namespace Go.Proofs.YtagaiddomhpdmaaGreat.Se
open Go Go.Proofs Go.Sx
set_option linter.unusedVariables false
def SM (s:Int) (l:Bool) (t w:Int):Mem:=⟨[[.v (I s),.v (Bo l),.v (I t),.v (I w)]],[true],[]⟩
def bitB (p m:Int):Bool:=wI ((BitVec.ofInt 64 p &&& BitVec.ofInt 64 m).toNat:Int) != 0
def armB (h:Bool) (ps pw:Int):Bool:=h&&(bitB pw 1||(ps==1||ps==2))
def safB (h:Bool) (ps pw:Int):Bool:=h&&(bitB pw 2||ps==0)
def dropW (w d:Int):Int:=bif w==d then 0 else w
def wsT (w t:Int) (a:Bool):Int:=bif dropW w 2==1&&a then 1 else t
def wsW (w:Int) (a:Bool):Int:=bif dropW w 2==1&&a then 0 else dropW w 2
def waT (s t w c ph:Int) (fl fi f:Bool):Int:=bif c==3||fi then 2 else bif fl&&decide (ph<s) then t else bif dropW w 1==2&&f then 0 else t
def waW (s w c ph:Int) (fl fi f:Bool):Int:=bif c==3||fi then 0 else bif fl&&decide (ph<s) then dropW (dropW w 1) 2 else bif dropW w 1==2&&f then 0 else dropW w 1
def w1N (c w:Int):Int:=bif c==1 then 1 else bif c==2 then 2 else w
def cyT (s:Int) (l:Bool) (t w c ph:Int) (fl fi a f:Bool):Int:=bif l then t else bif t==0 then wsT (w1N c w) t a else bif t==1 then waT s t (w1N c w) c ph fl fi f else t
def cyW (s:Int) (l:Bool) (t w c ph:Int) (fl fi a f:Bool):Int:=bif l then w else bif t==0 then wsW (w1N c w) a else bif t==1 then waW s (w1N c w) c ph fl fi f else bif t==2 then 0 else w1N c w
def setB (l:Bool) (n:Int):Bool:=!l&&(!decide (n<0)&&!decide (n>2))
theorem runSDrop0 (d:Int) (s:Int) (l:Bool) (t w:Int):runG ΓC L0 Tryz.prog Tryz.f231 [.ptr 0 0,.v (I d)] (SM s l t w) =
    (bif w==d then some (.v (.tuple #[]),⟨[[.v (I s),.v (Bo l),.v (I t),.v (I 0)]],[true],[]⟩) else some (.v (.tuple #[]),⟨[[.v (I s),.v (Bo l),.v (I t),.v (I w)]],[true],[]⟩)):=by kernel_rfl
def gSDrop (xs:List SV) (m:Mem):Option (Bool×SV×Mem) :=
  match xs,m with
  | [.ptr 0 0,.v (.int .i64 d)],⟨[[.v (.int .i64 s),.v (.bool l),.v (.int .i64 t),.v (.int .i64 w)]],[true],[]⟩=>some (true,.v (.tuple #[]),SM s l t (dropW w d))
  | _,_=>none
theorem gSDrop_ok:CtC 231 gSDrop:=by
  intro xs m r m' h
  unfold gSDrop at h
  split at h
  · rename_i d s l t w
    obtain ⟨h1,rfl,rfl⟩:=some_t2 h
    refine runOk (Λ:=L0) OkC Tryz.func231 rfl (fun z _ _=>noLoops (by kernel_rfl) z) ?_
    exact (runSDrop0 d s l t w).trans (by unfold dropW;cases w==d<;>rfl)
  · cases h
noncomputable def ΓG1:Orc:=addCl 231 gSDrop ΓC
theorem OkG1:ΓG1.Ok Tryz.prog:=addCl_ok OkC gSDrop_ok
theorem runSBec0 (d:Int) (s:Int) (l:Bool) (t w:Int):runG ΓG1 L0 Tryz.prog Tryz.f201 [.ptr 0 0,.v (I d)] (SM s l t w)=some (.v (.tuple #[]),SM s l d 0):=by kernel_rfl
def gSBec (xs:List SV) (m:Mem):Option (Bool×SV×Mem) :=
  match xs,m with
  | [.ptr 0 0,.v (.int .i64 d)],⟨[[.v (.int .i64 s),.v (.bool l),.v (.int .i64 t),.v (.int .i64 w)]],[true],[]⟩=>some (true,.v (.tuple #[]),SM s l d 0)
  | _,_=>none
theorem gSBec_ok:CtC 201 gSBec:=by
  intro xs m r m' h
  unfold gSBec at h
  split at h
  · rename_i d s l t w
    obtain ⟨h1,rfl,rfl⟩:=some_t2 h
    refine runOk (Λ:=L0) OkG1 Tryz.func201 rfl (fun z _ _=>noLoops (by kernel_rfl) z) ?_
    exact (runSBec0 d s l t w).trans (rfl)
  · cases h
noncomputable def ΓG2:Orc:=addCl 201 gSBec ΓG1
theorem OkG2:ΓG2.Ok Tryz.prog:=addCl_ok OkG1 gSBec_ok
theorem runSArm (c:Int) (he:Bool) (pc pp ps pw:Int) (fl fi:Bool) (ph:Int):runG ΓG2 L0 Tryz.prog Tryz.f232 [.v (.agg #[I c,Bo he,I pc,I pp,I ps,I pw,Bo fl,Bo fi,I ph])] M0 =
    (bif he then (bif wI ((BitVec.ofInt (64:Nat) pw &&& BitVec.ofInt (64:Nat) (1:Int)).toNat:Int) != (0:Int) then some (.v (Bo true),M0) else (bif ps==(1:Int) then some (.v (Bo true),M0) else some (.v (Bo (ps==(2:Int))),M0))) else some (.v (Bo false),M0)):=by kernel_rfl
def gSArm (vs:List Value):Option (Bool×Value) :=
  match vs with
  | [.agg ⟨[.int .i64 c,.bool he,.int .i64 pc,.int .i64 pp,.int .i64 ps,.int .i64 pw,.bool fl,.bool fi,.int .i64 ph]⟩]=>some (true,Bo (armB he ps pw))
  | _=>none
theorem gSArm_ok:CtV 232 gSArm:=by
  intro vs r h
  unfold gSArm at h
  split at h
  · rename_i c he pc pp ps pw fl fi ph
    obtain ⟨h1,rfl⟩:=some_t h
    refine runV (vs:=[.agg #[I c,Bo he,I pc,I pp,I ps,I pw,Bo fl,Bo fi,I ph]]) (Λ:=L0) (m':=M0) OkG2 Tryz.func232 rfl (fun z _ _=>noLoops (by kernel_rfl) z) ?_
    exact (runSArm c he pc pp ps pw fl fi ph).trans (by rw [show (wI ((BitVec.ofInt 64 pw &&& BitVec.ofInt 64 1).toNat:Int) != 0)=bitB pw 1 from rfl];unfold armB;cases he<;>cases bitB pw 1<;>cases ps==1<;>cases ps==2<;>rfl)
  · cases h
noncomputable def ΓG3:Orc:=addVal 232 gSArm ΓG2
theorem OkG3:ΓG3.Ok Tryz.prog:=addVal_ok OkG2 gSArm_ok
theorem runSSaf (c:Int) (he:Bool) (pc pp ps pw:Int) (fl fi:Bool) (ph:Int):runG ΓG3 L0 Tryz.prog Tryz.f233 [.v (.agg #[I c,Bo he,I pc,I pp,I ps,I pw,Bo fl,Bo fi,I ph])] M0 =
    (bif he then (bif wI ((BitVec.ofInt (64:Nat) pw &&& BitVec.ofInt (64:Nat) (2:Int)).toNat:Int) != (0:Int) then some (.v (Bo true),M0) else some (.v (Bo (ps==(0:Int))),M0)) else some (.v (Bo false),M0)):=by kernel_rfl
def gSSaf (vs:List Value):Option (Bool×Value) :=
  match vs with
  | [.agg ⟨[.int .i64 c,.bool he,.int .i64 pc,.int .i64 pp,.int .i64 ps,.int .i64 pw,.bool fl,.bool fi,.int .i64 ph]⟩]=>some (true,Bo (safB he ps pw))
  | _=>none
theorem gSSaf_ok:CtV 233 gSSaf:=by
  intro vs r h
  unfold gSSaf at h
  split at h
  · rename_i c he pc pp ps pw fl fi ph
    obtain ⟨h1,rfl⟩:=some_t h
    refine runV (vs:=[.agg #[I c,Bo he,I pc,I pp,I ps,I pw,Bo fl,Bo fi,I ph]]) (Λ:=L0) (m':=M0) OkG3 Tryz.func233 rfl (fun z _ _=>noLoops (by kernel_rfl) z) ?_
    exact (runSSaf c he pc pp ps pw fl fi ph).trans (by rw [show (wI ((BitVec.ofInt 64 pw &&& BitVec.ofInt 64 2).toNat:Int) != 0)=bitB pw 2 from rfl];unfold safB;cases he<;>cases bitB pw 2<;>cases ps==0<;>rfl)
  · cases h
noncomputable def ΓG4:Orc:=addVal 233 gSSaf ΓG3
theorem OkG4:ΓG4.Ok Tryz.prog:=addVal_ok OkG3 gSSaf_ok
theorem runSWs0 (c:Int) (he:Bool) (pc pp ps pw:Int) (fl fi:Bool) (ph:Int) (s:Int) (l:Bool) (t w:Int):runG ΓG4 L0 Tryz.prog Tryz.f174 [.ptr 0 0,.v (.agg #[I c,Bo he,I pc,I pp,I ps,I pw,Bo fl,Bo fi,I ph])] (SM s l t w) =
    (bif dropW w (2:Int)==(1:Int) then (bif armB he ps pw then some (.v (.tuple #[]),⟨[[.v (I s),.v (Bo l),.v (I 1),.v (I 0)]],[true],[]⟩) else some (.v (.tuple #[]),⟨[[.v (I s),.v (Bo l),.v (I t),.v (I (dropW w (2:Int)))]],[true],[]⟩)) else some (.v (.tuple #[]),⟨[[.v (I s),.v (Bo l),.v (I t),.v (I (dropW w (2:Int)))]],[true],[]⟩)):=by kernel_rfl
def gSWs (xs:List SV) (m:Mem):Option (Bool×SV×Mem) :=
  match xs,m with
  | [.ptr 0 0,.v (.agg ⟨[.int .i64 c,.bool he,.int .i64 pc,.int .i64 pp,.int .i64 ps,.int .i64 pw,.bool fl,.bool fi,.int .i64 ph]⟩)],⟨[[.v (.int .i64 s),.v (.bool l),.v (.int .i64 t),.v (.int .i64 w)]],[true],[]⟩=>some (true,.v (.tuple #[]),SM s l (wsT w t (armB he ps pw)) (wsW w (armB he ps pw)))
  | _,_=>none
theorem gSWs_ok:CtC 174 gSWs:=by
  intro xs m r m' h
  unfold gSWs at h
  split at h
  · rename_i c he pc pp ps pw fl fi ph s l t w
    obtain ⟨h1,rfl,rfl⟩:=some_t2 h
    refine runOk (Λ:=L0) OkG4 Tryz.func174 rfl (fun z _ _=>noLoops (by kernel_rfl) z) ?_
    exact (runSWs0 c he pc pp ps pw fl fi ph s l t w).trans (by unfold wsT wsW;cases dropW w 2==1<;>cases armB he ps pw<;>rfl)
  · cases h
noncomputable def ΓG5:Orc:=addCl 174 gSWs ΓG4
theorem OkG5:ΓG5.Ok Tryz.prog:=addCl_ok OkG4 gSWs_ok
theorem runSWa0 (c:Int) (he:Bool) (pc pp ps pw:Int) (fl fi:Bool) (ph:Int) (s:Int) (l:Bool) (t w:Int):runG ΓG5 L0 Tryz.prog Tryz.f175 [.ptr 0 0,.v (.agg #[I c,Bo he,I pc,I pp,I ps,I pw,Bo fl,Bo fi,I ph])] (SM s l t w) =
    (bif c==(3:Int) then some (.v (.tuple #[]),⟨[[.v (I s),.v (Bo l),.v (I 2),.v (I 0)]],[true],[]⟩) else (bif fi then some (.v (.tuple #[]),⟨[[.v (I s),.v (Bo l),.v (I 2),.v (I 0)]],[true],[]⟩) else (bif fl then (bif decide (ph<s) then some (.v (.tuple #[]),⟨[[.v (I s),.v (Bo l),.v (I t),.v (I (dropW (dropW w (1:Int)) (2:Int)))]],[true],[]⟩) else (bif dropW w (1:Int)==(2:Int) then (bif safB he ps pw then some (.v (.tuple #[]),⟨[[.v (I s),.v (Bo l),.v (I 0),.v (I 0)]],[true],[]⟩) else some (.v (.tuple #[]),⟨[[.v (I s),.v (Bo l),.v (I t),.v (I (dropW w (1:Int)))]],[true],[]⟩)) else some (.v (.tuple #[]),⟨[[.v (I s),.v (Bo l),.v (I t),.v (I (dropW w (1:Int)))]],[true],[]⟩))) else (bif dropW w (1:Int)==(2:Int) then (bif safB he ps pw then some (.v (.tuple #[]),⟨[[.v (I s),.v (Bo l),.v (I 0),.v (I 0)]],[true],[]⟩) else some (.v (.tuple #[]),⟨[[.v (I s),.v (Bo l),.v (I t),.v (I (dropW w (1:Int)))]],[true],[]⟩)) else some (.v (.tuple #[]),⟨[[.v (I s),.v (Bo l),.v (I t),.v (I (dropW w (1:Int)))]],[true],[]⟩))))):=by kernel_rfl
def gSWa (xs:List SV) (m:Mem):Option (Bool×SV×Mem) :=
  match xs,m with
  | [.ptr 0 0,.v (.agg ⟨[.int .i64 c,.bool he,.int .i64 pc,.int .i64 pp,.int .i64 ps,.int .i64 pw,.bool fl,.bool fi,.int .i64 ph]⟩)],⟨[[.v (.int .i64 s),.v (.bool l),.v (.int .i64 t),.v (.int .i64 w)]],[true],[]⟩=>some (true,.v (.tuple #[]),SM s l (waT s t w c ph fl fi (safB he ps pw)) (waW s w c ph fl fi (safB he ps pw)))
  | _,_=>none
theorem gSWa_ok:CtC 175 gSWa:=by
  intro xs m r m' h
  unfold gSWa at h
  split at h
  · rename_i c he pc pp ps pw fl fi ph s l t w
    obtain ⟨h1,rfl,rfl⟩:=some_t2 h
    refine runOk (Λ:=L0) OkG5 Tryz.func175 rfl (fun z _ _=>noLoops (by kernel_rfl) z) ?_
    exact (runSWa0 c he pc pp ps pw fl fi ph s l t w).trans (by unfold waT waW;cases c==3<;>cases fi<;>cases fl<;>cases decide (ph<s)<;>cases dropW w 1==2<;>cases safB he ps pw<;>rfl)
  · cases h
noncomputable def ΓG6:Orc:=addCl 175 gSWa ΓG5
theorem OkG6:ΓG6.Ok Tryz.prog:=addCl_ok OkG5 gSWa_ok
theorem runSCyc0 (c:Int) (he:Bool) (pc pp ps pw:Int) (fl fi:Bool) (ph:Int) (s:Int) (l:Bool) (t w:Int):runG ΓG6 L0 Tryz.prog Tryz.f116 [.ptr 0 0,.v (.agg #[I c,Bo he,I pc,I pp,I ps,I pw,Bo fl,Bo fi,I ph])] (SM s l t w) =
    (bif l then some (.v (I 0),⟨[[.v (I s),.v (Bo l),.v (I t),.v (I w)]],[true],[]⟩) else (bif c==(1:Int) then (bif t==(0:Int) then some (.v (I (wsT (1:Int) t (armB he ps pw))),⟨[[.v (I s),.v (Bo l),.v (I (wsT (1:Int) t (armB he ps pw))),.v (I (wsW (1:Int) (armB he ps pw)))]],[true],[]⟩) else (bif t==(1:Int) then some (.v (I (waT s t (1:Int) c ph fl fi (safB he ps pw))),⟨[[.v (I s),.v (Bo l),.v (I (waT s t (1:Int) c ph fl fi (safB he ps pw))),.v (I (waW s (1:Int) c ph fl fi (safB he ps pw)))]],[true],[]⟩) else (bif t==(2:Int) then some (.v (I t),⟨[[.v (I s),.v (Bo l),.v (I t),.v (I 0)]],[true],[]⟩) else some (.v (I t),⟨[[.v (I s),.v (Bo l),.v (I t),.v (I 1)]],[true],[]⟩)))) else (bif c==(2:Int) then (bif t==(0:Int) then some (.v (I (wsT (2:Int) t (armB he ps pw))),⟨[[.v (I s),.v (Bo l),.v (I (wsT (2:Int) t (armB he ps pw))),.v (I (wsW (2:Int) (armB he ps pw)))]],[true],[]⟩) else (bif t==(1:Int) then some (.v (I (waT s t (2:Int) c ph fl fi (safB he ps pw))),⟨[[.v (I s),.v (Bo l),.v (I (waT s t (2:Int) c ph fl fi (safB he ps pw))),.v (I (waW s (2:Int) c ph fl fi (safB he ps pw)))]],[true],[]⟩) else (bif t==(2:Int) then some (.v (I t),⟨[[.v (I s),.v (Bo l),.v (I t),.v (I 0)]],[true],[]⟩) else some (.v (I t),⟨[[.v (I s),.v (Bo l),.v (I t),.v (I 2)]],[true],[]⟩)))) else (bif t==(0:Int) then some (.v (I (wsT w t (armB he ps pw))),⟨[[.v (I s),.v (Bo l),.v (I (wsT w t (armB he ps pw))),.v (I (wsW w (armB he ps pw)))]],[true],[]⟩) else (bif t==(1:Int) then some (.v (I (waT s t w c ph fl fi (safB he ps pw))),⟨[[.v (I s),.v (Bo l),.v (I (waT s t w c ph fl fi (safB he ps pw))),.v (I (waW s w c ph fl fi (safB he ps pw)))]],[true],[]⟩) else (bif t==(2:Int) then some (.v (I t),⟨[[.v (I s),.v (Bo l),.v (I t),.v (I 0)]],[true],[]⟩) else some (.v (I t),⟨[[.v (I s),.v (Bo l),.v (I t),.v (I w)]],[true],[]⟩))))))):=by kernel_rfl
theorem runSCyc1 (c:Int) (he:Bool) (pc pp ps pw:Int) (fl fi:Bool) (ph:Int):runG ΓG6 L0 Tryz.prog Tryz.f116 [.v (.pointer none),.v (.agg #[I c,Bo he,I pc,I pp,I ps,I pw,Bo fl,Bo fi,I ph])] M0=some (.v (I 0),M0):=by kernel_rfl
def gSCyc (xs:List SV) (m:Mem):Option (Bool×SV×Mem) :=
  match xs,m with
  | [.ptr 0 0,.v (.agg ⟨[.int .i64 c,.bool he,.int .i64 pc,.int .i64 pp,.int .i64 ps,.int .i64 pw,.bool fl,.bool fi,.int .i64 ph]⟩)],⟨[[.v (.int .i64 s),.v (.bool l),.v (.int .i64 t),.v (.int .i64 w)]],[true],[]⟩=>some (true,.v (I (bif l then 0 else cyT s l t w c ph fl fi (armB he ps pw) (safB he ps pw))),SM s l (cyT s l t w c ph fl fi (armB he ps pw) (safB he ps pw)) (cyW s l t w c ph fl fi (armB he ps pw) (safB he ps pw)))
  | [.v (.pointer none),.v (.agg ⟨[.int .i64 c,.bool he,.int .i64 pc,.int .i64 pp,.int .i64 ps,.int .i64 pw,.bool fl,.bool fi,.int .i64 ph]⟩)],⟨[],[],[]⟩=>some (true,.v (I 0),M0)
  | _,_=>none
theorem gSCyc_ok:CtC 116 gSCyc:=by
  intro xs m r m' h
  unfold gSCyc at h
  split at h
  · rename_i c he pc pp ps pw fl fi ph s l t w
    obtain ⟨h1,rfl,rfl⟩:=some_t2 h
    refine runOk (Λ:=L0) OkG6 Tryz.func116 rfl (fun z _ _=>noLoops (by kernel_rfl) z) ?_
    exact (runSCyc0 c he pc pp ps pw fl fi ph s l t w).trans (by unfold cyT cyW w1N;cases l<;>cases c==1<;>cases c==2<;>cases t==0<;>cases t==1<;>cases t==2<;>rfl)
  · rename_i c he pc pp ps pw fl fi ph
    obtain ⟨h1,rfl,rfl⟩:=some_t2 h
    refine runOk (Λ:=L0) OkG6 Tryz.func116 rfl (fun z _ _=>noLoops (by kernel_rfl) z) ?_
    exact (runSCyc1 c he pc pp ps pw fl fi ph).trans (rfl)
  · cases h
noncomputable def ΓG7:Orc:=addCl 116 gSCyc ΓG6
theorem OkG7:ΓG7.Ok Tryz.prog:=addCl_ok OkG6 gSCyc_ok
theorem runSSta0 (s:Int) (l:Bool) (t w:Int):runG ΓG7 L0 Tryz.prog Tryz.f113 [.ptr 0 0] (SM s l t w)=some (.v (I t),SM s l t w):=by kernel_rfl
theorem runSSta1:runG ΓG7 L0 Tryz.prog Tryz.f113 [.v (.pointer none)] M0=some (.v (I 0),M0):=by kernel_rfl
def gSSta (xs:List SV) (m:Mem):Option (Bool×Value) :=
  match xs,m with
  | [.ptr 0 0],⟨[[.v (.int .i64 s),.v (.bool l),.v (.int .i64 t),.v (.int .i64 w)]],[true],[]⟩=>some (true,I t)
  | [.v (.pointer none)],⟨[],[],[]⟩=>some (true,I 0)
  | _,_=>none
theorem gSSta_ok:CtR 113 gSSta:=by
  intro xs m r h
  unfold gSSta at h
  split at h
  · rename_i s l t w
    obtain ⟨h1,rfl⟩:=some_t h
    refine runOk (Λ:=L0) OkG7 Tryz.func113 rfl (fun z _ _=>noLoops (by kernel_rfl) z) ?_
    exact (runSSta0 s l t w).trans (rfl)
  · obtain ⟨h1,rfl⟩:=some_t h
    refine runOk (Λ:=L0) OkG7 Tryz.func113 rfl (fun z _ _=>noLoops (by kernel_rfl) z) ?_
    exact (runSSta1 ).trans (rfl)
  · cases h
noncomputable def ΓG8:Orc:=addRd 113 gSSta ΓG7
theorem OkG8:ΓG8.Ok Tryz.prog:=addRd_ok OkG7 gSSta_ok
theorem runSWis0 (s:Int) (l:Bool) (t w:Int):runG ΓG8 L0 Tryz.prog Tryz.f125 [.ptr 0 0] (SM s l t w)=some (.v (I w),SM s l t w):=by kernel_rfl
theorem runSWis1:runG ΓG8 L0 Tryz.prog Tryz.f125 [.v (.pointer none)] M0=some (.v (I 0),M0):=by kernel_rfl
def gSWis (xs:List SV) (m:Mem):Option (Bool×Value) :=
  match xs,m with
  | [.ptr 0 0],⟨[[.v (.int .i64 s),.v (.bool l),.v (.int .i64 t),.v (.int .i64 w)]],[true],[]⟩=>some (true,I w)
  | [.v (.pointer none)],⟨[],[],[]⟩=>some (true,I 0)
  | _,_=>none
theorem gSWis_ok:CtR 125 gSWis:=by
  intro xs m r h
  unfold gSWis at h
  split at h
  · rename_i s l t w
    obtain ⟨h1,rfl⟩:=some_t h
    refine runOk (Λ:=L0) OkG8 Tryz.func125 rfl (fun z _ _=>noLoops (by kernel_rfl) z) ?_
    exact (runSWis0 s l t w).trans (rfl)
  · obtain ⟨h1,rfl⟩:=some_t h
    refine runOk (Λ:=L0) OkG8 Tryz.func125 rfl (fun z _ _=>noLoops (by kernel_rfl) z) ?_
    exact (runSWis1 ).trans (rfl)
  · cases h
noncomputable def ΓG9:Orc:=addRd 125 gSWis ΓG8
theorem OkG9:ΓG9.Ok Tryz.prog:=addRd_ok OkG8 gSWis_ok
theorem runSLoc0 (s:Int) (l:Bool) (t w:Int):runG ΓG9 L0 Tryz.prog Tryz.f200 [.ptr 0 0] (SM s l t w)=some (.v (Bo l),SM s l t w):=by kernel_rfl
theorem runSLoc1:runG ΓG9 L0 Tryz.prog Tryz.f200 [.v (.pointer none)] M0=some (.v (Bo true),M0):=by kernel_rfl
def gSLoc (xs:List SV) (m:Mem):Option (Bool×Value) :=
  match xs,m with
  | [.ptr 0 0],⟨[[.v (.int .i64 s),.v (.bool l),.v (.int .i64 t),.v (.int .i64 w)]],[true],[]⟩=>some (true,Bo l)
  | [.v (.pointer none)],⟨[],[],[]⟩=>some (true,Bo true)
  | _,_=>none
theorem gSLoc_ok:CtR 200 gSLoc:=by
  intro xs m r h
  unfold gSLoc at h
  split at h
  · rename_i s l t w
    obtain ⟨h1,rfl⟩:=some_t h
    refine runOk (Λ:=L0) OkG9 Tryz.func200 rfl (fun z _ _=>noLoops (by kernel_rfl) z) ?_
    exact (runSLoc0 s l t w).trans (rfl)
  · obtain ⟨h1,rfl⟩:=some_t h
    refine runOk (Λ:=L0) OkG9 Tryz.func200 rfl (fun z _ _=>noLoops (by kernel_rfl) z) ?_
    exact (runSLoc1 ).trans (rfl)
  · cases h
noncomputable def ΓG10:Orc:=addRd 200 gSLoc ΓG9
theorem OkG10:ΓG10.Ok Tryz.prog:=addRd_ok OkG9 gSLoc_ok
theorem runSSet0 (n:Int) (s:Int) (l:Bool) (t w:Int):runG ΓG10 L0 Tryz.prog Tryz.f147 [.ptr 0 0,.v (I n)] (SM s l t w) =
    (bif l then some (.v (Bo false),⟨[[.v (I s),.v (Bo l),.v (I t),.v (I w)]],[true],[]⟩) else (bif decide (n<(0:Int)) then some (.v (Bo false),⟨[[.v (I s),.v (Bo l),.v (I t),.v (I w)]],[true],[]⟩) else (bif decide (n>(2:Int)) then some (.v (Bo false),⟨[[.v (I s),.v (Bo l),.v (I t),.v (I w)]],[true],[]⟩) else some (.v (Bo true),⟨[[.v (I s),.v (Bo l),.v (I n),.v (I 0)]],[true],[]⟩)))):=by kernel_rfl
theorem runSSet1 (n:Int):runG ΓG10 L0 Tryz.prog Tryz.f147 [.v (.pointer none),.v (I n)] M0=some (.v (Bo false),M0):=by kernel_rfl
def gSSet (xs:List SV) (m:Mem):Option (Bool×SV×Mem) :=
  match xs,m with
  | [.ptr 0 0,.v (.int .i64 n)],⟨[[.v (.int .i64 s),.v (.bool l),.v (.int .i64 t),.v (.int .i64 w)]],[true],[]⟩=>some (true,.v (Bo (setB l n)),SM s l (bif setB l n then n else t) (bif setB l n then 0 else w))
  | [.v (.pointer none),.v (.int .i64 n)],⟨[],[],[]⟩=>some (true,.v (Bo false),M0)
  | _,_=>none
theorem gSSet_ok:CtC 147 gSSet:=by
  intro xs m r m' h
  unfold gSSet at h
  split at h
  · rename_i n s l t w
    obtain ⟨h1,rfl,rfl⟩:=some_t2 h
    refine runOk (Λ:=L0) OkG10 Tryz.func147 rfl (fun z _ _=>noLoops (by kernel_rfl) z) ?_
    exact (runSSet0 n s l t w).trans (by unfold setB;cases l<;>cases decide (n<0)<;>cases decide (n>2)<;>rfl)
  · rename_i n
    obtain ⟨h1,rfl,rfl⟩:=some_t2 h
    refine runOk (Λ:=L0) OkG10 Tryz.func147 rfl (fun z _ _=>noLoops (by kernel_rfl) z) ?_
    exact (runSSet1 n).trans (rfl)
  · cases h
noncomputable def ΓG11:Orc:=addCl 147 gSSet ΓG10
theorem OkG11:ΓG11.Ok Tryz.prog:=addCl_ok OkG10 gSSet_ok
theorem runSNew0 (s:Int) (l:Bool):runG ΓG11 L0 Tryz.prog Tryz.f85 [.v (I s),.v (Bo l)] M0=some (.ptr 0 0,SM s l 0 0):=by kernel_rfl
def gSNew (xs:List SV) (m:Mem):Option (Bool×SV×Mem) :=
  match xs,m with
  | [.v (.int .i64 s),.v (.bool l)],⟨[],[],[]⟩=>some (true,.ptr 0 0,SM s l 0 0)
  | _,_=>none
theorem gSNew_ok:CtC 85 gSNew:=by
  intro xs m r m' h
  unfold gSNew at h
  split at h
  · rename_i s l
    obtain ⟨h1,rfl,rfl⟩:=some_t2 h
    refine runOk (Λ:=L0) OkG11 Tryz.func85 rfl (fun z _ _=>noLoops (by kernel_rfl) z) ?_
    exact (runSNew0 s l).trans (rfl)
  · cases h
end Go.Proofs.YtagaiddomhpdmaaGreat.Se
