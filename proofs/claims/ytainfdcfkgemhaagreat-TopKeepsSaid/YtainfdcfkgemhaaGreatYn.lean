/-
  Cycles' inputs,lists of them;missions of one to four phases and their images.
-/
import Derived.Test.YtainfdcfkgemhaaGreatYm
import Derived.Test.YtainfdcfkgemhaaGreatYl
import Derived.Test.YtainfdcfkgemhaaGreatYk
import Derived.Test.YtainfdcfkgemhaaGreatYe
import Derived.Test.YtainfdcfkgemhaaGreatSx
set_option maxRecDepth 100000
noncomputable section
open Go.Proofs.Tryz
namespace Go.Proofs.YtainfdcfkgemhaaGreat.Hr
open Go Go.Proofs Go.Sx Pe
set_option linter.unusedVariables false
end Go.Proofs.YtainfdcfkgemhaaGreat.Hr
namespace Go.Proofs.YtainfdcfkgemhaaGreat.Hr
open Go Go.Proofs Go.Sx Nw Pe So
set_option linter.unusedVariables false
theorem OR (k:Int) (p:ByteArray):(hU k p).size<=70:=by
 unfold hU
 cases p.toList==(⟨#[]⟩:ByteArray).toList
 ·exact qaY k p
 ·exact Nat.zero_le _
theorem qbu {i:Inp} (a:i.a.size<=900000) (b:i.b.size<=900000) (c:i.c.size<=900000) (d:i.d.size<=900000):jb i=true:=by
 unfold jb
 rw [Nat.ble_eq_true_of_le a,Nat.ble_eq_true_of_le b,Nat.ble_eq_true_of_le c,Nat.ble_eq_true_of_le d]
 rfl
end Go.Proofs.YtainfdcfkgemhaaGreat.Hr
namespace Go.Proofs.YtainfdcfkgemhaaGreat
open Go Go.Proofs Go.Sx
set_option linter.unusedVariables false
end Go.Proofs.YtainfdcfkgemhaaGreat
namespace Go.Proofs.YtainfdcfkgemhaaGreat
open Go Go.Proofs Go.Sx
set_option linter.unusedVariables false
def ib (L:List (List Dat)) (i:Int):Bool:=decide (wI (wI (wI ((((L.getD i.toNat []).headD (Dat.n (0:Int))).toS.size:Int)+(((L.getD i.toNat []).tail.headD (Dat.n (0:Int))).toS.size:Int))+(((L.getD i.toNat []).tail.tail.headD (Dat.n (0:Int))).toS.size:Int))+(((L.getD i.toNat []).tail.tail.tail.headD (Dat.n (0:Int))).toS.size:Int))>(1000:Int))
def kOp:List CK:=[.str,.str,.str,.str,.num .i64,.bool]
abbrev iu (L:List (List Dat)) (own mark:Bool):RowS:=.live ⟨36,kOp,L,own,mark⟩
def ur:Code:=ch (f16.body.getD .skip) 0
def nU:List Bool:=aB 37 [0,5,6,7]
def lK (e:Ex):List Bool:=match e with
 | .exit _=>aB 37 [0]
 | .ret=>aB 37 [2]
 | .normal=>aB 37 [0,5,6,7]
def Jc (e:Ex) (st:St):Option (Ex×St):=some (e,ac 0 1 (lK e) st)
theorem Lg (i nn:Int) (L:List (List Dat)) (own mark:Bool) (n:Nat):an ΓP24 prog L0 (ac 0 1 nU) ur (n+1) (mk nU [.row 0,.row 0,.v (I nn),.v (I i)] ⟨[],[],[iu L own mark]⟩) Jc =
 (bif decide (i<nn) then (bif decide ((0:Int)<=i)&&decide (i<(L.length:Int)) then (bif (ib L i) then some (.ret,mk (lK .ret) [.v (Bo false)] ⟨[],[],[.live ⟨36,[.str,.str,.str,.str,.num .i64,.bool],L,own,mark⟩]⟩) else an ΓP24 prog L0 (ac 0 1 nU) ur n (mk nU [.row 0,.row 0,.v (I nn),.v (I (wI (i+(1:Int))))] ⟨[],[],[.live ⟨36,[.str,.str,.str,.str,.num .i64,.bool],L,own,mark⟩]⟩) Jc) else none) else some ((.exit 0),mk (lK (.exit 0)) [.row 0] ⟨[],[],[.live ⟨36,[.str,.str,.str,.str,.num .i64,.bool],L,own,mark⟩]⟩)):=by kernel_rfl
def S1 (n:Nat) (i:Int) (nn:Int) (L:List (List Dat)) (own:Bool) (mark:Bool):Option (Ex×St) :=
 an ΓP24 prog L0 (ac 0 1 nU) ur n (mk nU [.row 0,.row 0,.v (I nn),.v (I i)] ⟨[],[],[iu L own mark]⟩) Jc
def Cw (L:List (List Dat)) (own mark:Bool):LT:=.br (bA (ib L) L.length 0) (.leaf .ret (mk (lK .ret) [.v (Bo false)] ⟨[],[],[iu L own mark]⟩)) (.leaf (.exit 0) (mk (lK (.exit 0)) [.row 0] ⟨[],[],[iu L own mark]⟩))
theorem qdu (L:List (List Dat)) (own mark:Bool) (hl:L.length<=281474976710656):S1 (L.length+1) 0 (L.length:Int) L own mark=some (Cw L own mark).pick:=by
 have h:=qn (ib L) (L.length:Int) (fun n k=>S1 n k (L.length:Int) L own mark) (some (.exit 0,mk (lK (.exit 0)) [.row 0] ⟨[],[],[iu L own mark]⟩)) (some (.ret,mk (lK .ret) [.v (Bo false)] ⟨[],[],[iu L own mark]⟩)) (fun n k hk=>?_) (fun n k hk=>?_) L.length 0 (by decide) (by omega)
 ·refine h.trans ?_
  unfold Cw
  cases bA (ib L) L.length 0<;>rfl
 ·refine (Lg k (L.length:Int) L own mark n).trans ?_
  rw [decide_eq_false hk]
  rfl
 ·refine (Lg k (L.length:Int) L own mark n).trans ?_
  rw [decide_eq_true hk.1,decide_eq_true hk.2,az (n:=k+1) (by omega)]
  rfl
def JS (vals:List SV) (m:Mem):Option (Bool×LT) :=
 match vals,m with
 | [.row 0,.row 0,.v (.int .i64 nn),.v (.int .i64 i)],⟨[],[],[.live ⟨36,[.str,.str,.str,.str,.num .i64,.bool],L,own,mark⟩]⟩=>some (nn==(L.length:Int)&&(i==0&&Nat.ble L.length 281474976710656),Cw L own mark)
 | _,_=>none
def ΛFz:aV:=fun _ st=>fW 0 1 nU JS st
theorem qdi (z:Base) (z1:z.L.length=0) (z2:z.U.length=1):aS ΛFz prog z ur:=by
 refine gV (Λ:=L0) (kx:=lK) ko mixed z1 z2 (fun b hb st t h=>by cases h) (G:=JS) (fun _=>rfl) ?_
 intro vals m t h
 unfold JS at h
 split at h
 ·rename_i nn i L own mark
  obtain ⟨h1,rfl⟩:=ab h
  simp only [Bool.and_eq_true,beq_iff_eq] at h1
  obtain ⟨rfl,rfl,hl⟩:=h1
  exact ⟨L.length+1,qdu L own mark (Nat.le_of_ble_eq_true hl)⟩
 ·cases h
theorem qcw:aF (f16.body.getD .skip)=[ur]:=by kernel_rfl
def qp (L:List (List Dat)):Bool:=bif bA (ib L) L.length 0 then false else decide ((L.length:Int)<=150)
theorem Y8 (L:List (List Dat)) (own mark:Bool):runG ΓP24 ΛFz prog f16 [.row 0] ⟨[],[],[iu L own mark]⟩=bif Nat.ble L.length 281474976710656 then (bif bA (ib L) L.length 0 then some (.v (Bo false),⟨[],[],[iu L own mark]⟩) else some (.v (Bo (decide ((L.length:Int)<=150))),⟨[],[],[iu L own mark]⟩)) else none:=by
 have:runG ΓP24 ΛFz prog f16 [.row 0] ⟨[],[],[iu L own mark]⟩=bif (L.length:Int)==(L.length:Int)&&Nat.ble L.length 281474976710656 then (bif bA (ib L) L.length 0 then some (.v (Bo false),⟨[],[],[iu L own mark]⟩) else some (.v (Bo (decide ((L.length:Int)<=150))),⟨[],[],[iu L own mark]⟩)) else none:=by kernel_rfl
 rw [this,beq_self_eq_true,Bool.true_and]
def FR (xs:List SV) (m:Mem):Option (Bool×Value) :=
 match xs,m with
 | [.row 0],⟨[],[],[.live ⟨36,[.str,.str,.str,.str,.num .i64,.bool],L,own,mark⟩]⟩=>some (Nat.ble L.length 281474976710656,Bo (qp L))
 | _,_=>none
theorem qgz:bk 16 FR:=by
 intro xs m r h
 unfold FR at h
 split at h
 ·rename_i L own mark
  obtain ⟨h1,rfl⟩:=ab h
  refine aj (Λ:=ΛFz) ko func16 rfl (fun z z1 z2=>bR qcw (qdi z z1 z2)) ?_
  refine (Y8 L own mark).trans ?_
  rw [h1]
  unfold qp
  cases bA (ib L) L.length 0<;>rfl
 ·cases h
end Go.Proofs.YtainfdcfkgemhaaGreat
namespace Go.Proofs.YtainfdcfkgemhaaGreat.Hr
open Go Go.Proofs Go.Sx Nw Pe So
set_option linter.unusedVariables false
end Go.Proofs.YtainfdcfkgemhaaGreat.Hr
namespace Go.Proofs.YtainfdcfkgemhaaGreat.Hr
open Go Go.Proofs Go.Sx Nw Pe So
set_option linter.unusedVariables false
def miV (k:Int):SV:=.ag [.row 0,.v (I 2),.v (I 3),.v (I 4),.v (I 2),.v (I 50),.v (I 2),.v (I 10),.v (I k)]
end Go.Proofs.YtainfdcfkgemhaaGreat.Hr
namespace Go.Proofs.YtainfdcfkgemhaaGreat.Hr
open Go Go.Proofs Go.Sx Nw Pe So
set_option linter.unusedVariables false
theorem YP:runG Γx24 (dV Γx24 prog 60 3) prog f30 [.v (I 2)] M0=some (.v (S ms),M0):=by kernel_rfl
end Go.Proofs.YtainfdcfkgemhaaGreat.Hr
namespace Go.Proofs.YtainfdcfkgemhaaGreat.Hr
open Go Go.Proofs Go.Sx Nw Pe So
set_option linter.unusedVariables false
theorem YO:runG Γx24 (dV Γx24 prog 60 3) prog f30 [.v (I 3)] M0=some (.v (S jp),M0):=by kernel_rfl
end Go.Proofs.YtainfdcfkgemhaaGreat.Hr
namespace Go.Proofs.YtainfdcfkgemhaaGreat.Hr
open Go Go.Proofs Go.Sx Nw Pe So
set_option linter.unusedVariables false
theorem YN:runG Γx24 (dV Γx24 prog 60 3) prog f30 [.v (I 4)] M0=some (.v (S kV),M0):=by kernel_rfl
end Go.Proofs.YtainfdcfkgemhaaGreat.Hr
namespace Go.Proofs.YtainfdcfkgemhaaGreat.Hr
open Go Go.Proofs Go.Sx Nw Pe So
set_option linter.unusedVariables false
def kI (k:Int):Bool:=k==1||(k==2||(k==3||k==4))
def mq (k:Int):ByteArray:=bif k==1 then kW else bif k==2 then ms else bif k==3 then jp else kV
def mM (k:Int):Mem:=⟨[],[],[cq (List.replicate k.toNat gS)]⟩
theorem Cd {k:Int} (h:kI k=true):k=1\/k=2\/k=3\/k=4:=by
 unfold kI at h
 simpa only [Bool.or_eq_true,beq_iff_eq] using h
def gMi (xs:List SV) (m:Mem):Option (Bool×SV×Mem) :=
 match xs,m with
 | [.v (.int .i64 n)],⟨[],[],[]⟩=>some (kI n,miV n,mM n)
 | _,_=>none
def Fz (vs:List Value):Option (Bool×Value) :=
 match vs with
 | [.int .i64 n]=>some (kI n,S (mq n))
 | _=>none
theorem qgh:am 30 Fz:=by
 intro vs r h
 unfold Fz at h
 split at h
 ·rename_i n
  obtain ⟨h1,rfl⟩:=ab h
  rcases Cd h1 with rfl|rfl|rfl|rfl
  ·exact ak (vs:=[I 1]) (m':=M0) gK func30 rfl (fun z _ _ b _=>eY gK mixed 60 3 b) Lz
  ·exact ak (vs:=[I 2]) (m':=M0) gK func30 rfl (fun z _ _ b _=>eY gK mixed 60 3 b) YP
  ·exact ak (vs:=[I 3]) (m':=M0) gK func30 rfl (fun z _ _ b _=>eY gK mixed 60 3 b) YO
  ·exact ak (vs:=[I 4]) (m':=M0) gK func30 rfl (fun z _ _ b _=>eY gK mixed 60 3 b) YN
 ·cases h
def jT (p:Int):Int:=wI (1+wI ((IntKind.u64.wrap p).tmod 4))
theorem qa3 (p:Int):kI (jT p)=true:=by
 have e2:0<=IntKind.u64.wrap p:=Int.emod_nonneg p (by show (18446744073709551616:Int)≠0;decide)
 have h:jT p=1\/jT p=2\/jT p=3\/jT p=4:=by
  unfold jT
  generalize IntKind.u64.wrap p=q at *
  rw [Int.tmod_eq_emod_of_nonneg e2,az (n:=q % 4) (by omega),az (by omega)]
  omega
 unfold kI
 rcases h with h|h|h|h<;>rw [h]<;>rfl
end Go.Proofs.YtainfdcfkgemhaaGreat.Hr
