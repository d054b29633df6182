/-
  What is known of this program: contracts of poly and of box over rows of places,and of the document's.
-/
import Derived.Test.YtainfdcfkgemhaaGreatYa
import Derived.Test.YtainfdcfkgemhaaGreatSx
set_option maxRecDepth 100000
noncomputable section
namespace Go.Proofs.YtainfdcfkgemhaaGreat
open Go Go.Proofs Go.Sx
set_option linter.unusedVariables false
def pX (L:List (List Dat)) (k:Int):Int:=((L.getD k.toNat []).headD (Dat.n 0)).toI
def pY (L:List (List Dat)) (k:Int):Int:=((L.getD k.toNat []).tail.headD (Dat.n 0)).toI
def nx (L:List (List Dat)) (i:Int):Int:=(wI (i+1)).tmod (L.length:Int)
abbrev rP (L:List (List Dat)) (own mark:Bool):RowS:=.live ⟨162,[.num .i64,.num .i64],L,own,mark⟩
theorem qFN (i:Int) (L:List (List Dat)) (own mark:Bool):runG ΓBo L0 Tryz.prog Tryz.f240 [.row 0,.v (I i)] ⟨[],[],[rP L own mark]⟩ =
 (bif (L.length:Int)==(0:Int) then none else (bif decide ((0:Int)≤nx L i)&&decide (nx L i<(L.length:Int)) then some (.v (.agg #[(I (pX L (nx L i))),(I (pY L (nx L i)))]),⟨[],[],[.live ⟨162,[.num .i64,.num .i64],L,own,mark⟩]⟩) else none)):=by kernel_rfl
theorem qFz (i:Int) (L:List (List Dat)) (own mark:Bool):runG ΓBo L0 Tryz.prog Tryz.f303 [.row 0,.v (I i)] ⟨[],[],[rP L own mark]⟩ =
 (bif decide ((0:Int)≤i)&&decide (i<(L.length:Int)) then (bif (L.length:Int)==(0:Int) then none else (bif decide ((0:Int)≤nx L i)&&decide (nx L i<(L.length:Int)) then some (.v (.tuple #[(.agg #[(I (pX L i)),(I (pY L i))]),(.agg #[(I (pX L (nx L i))),(I (pY L (nx L i)))])]),⟨[],[],[.live ⟨162,[.num .i64,.num .i64],L,own,mark⟩]⟩) else none)) else none):=by kernel_rfl
theorem qFg (i:Int) (L:List (List Dat)) (own mark:Bool):runG ΓBo L0 Tryz.prog Tryz.f289 [.row 0,.v (I i)] ⟨[],[],[rP L own mark]⟩ =
 (bif (L.length:Int)==(0:Int) then none else (bif decide ((0:Int)≤nx L i)&&decide (nx L i<(L.length:Int)) then some (.v (.agg #[(I (pX L (nx L i))),(I (pY L (nx L i)))]),⟨[],[],[.live ⟨162,[.num .i64,.num .i64],L,own,mark⟩]⟩) else none)):=by kernel_rfl
def atG (L:List (List Dat)) (i:Int):Bool:=decide (0≤i)&&(decide (i<(L.length:Int))&&Nat.ble L.length 1000000)
theorem qbE {L:List (List Dat)} {i:Int}:atG L i=true↔0≤i∧i<(L.length:Int)∧L.length≤1000000:=by
 unfold atG
 simp only [Bool.and_eq_true,decide_eq_true_eq]
 exact ⟨fun ⟨a,b,c⟩=>⟨a,b,Nat.le_of_ble_eq_true c⟩,fun ⟨a,b,c⟩=>⟨a,b,Nat.ble_eq_true_of_le c⟩⟩
theorem qvp {L:List (List Dat)} {i:Int} (h:atG L i=true):0≤nx L i∧nx L i<(L.length:Int):=by
 have h:=qbE.1 h
 unfold nx
 rw [qaw (by omega),Int.tmod_eq_emod_of_nonneg (by omega)]
 exact ⟨Int.emod_nonneg _ (by omega),Int.emod_lt_of_pos _ (by omega)⟩
def qDj (xs:List SV) (m:Mem):Option (Bool×Value) :=
 match xs,m with
 | [.row 0,.v (.int .i64 i)],⟨[],[],[.live ⟨162,[.num .i64,.num .i64],L,own,mark⟩]⟩=>some (atG L i,.agg #[I (pX L (nx L i)),I (pY L (nx L i))])
 | _,_=>none
theorem qB1:CtR 240 qDj:=by
 intro xs m r h
 unfold qDj at h
 split at h
 ·rename_i i L own mark
  obtain ⟨h1,rfl⟩:=qac h
  refine qal (Λ:=L0) qJl Tryz.func240 rfl l00 ?_
  refine (qFN i L own mark).trans ?_
  have n:=qvp h1
  have a:=qbE.1 h1
  rw [beq_eq_false_iff_ne.2 (show (L.length:Int)≠0 by omega),decide_eq_true n.1,decide_eq_true n.2]
  rfl
 ·cases h
theorem qBo:CtR 289 qDj:=by
 intro xs m r h
 unfold qDj at h
 split at h
 ·rename_i i L own mark
  obtain ⟨h1,rfl⟩:=qac h
  refine qal (Λ:=L0) qJl Tryz.func289 rfl l00 ?_
  refine (qFg i L own mark).trans ?_
  have n:=qvp h1
  have a:=qbE.1 h1
  rw [beq_eq_false_iff_ne.2 (show (L.length:Int)≠0 by omega),decide_eq_true n.1,decide_eq_true n.2]
  rfl
 ·cases h
def qL8 (xs:List SV) (m:Mem):Option (Bool×Value) :=
 match xs,m with
 | [.row 0,.v (.int .i64 i)],⟨[],[],[.live ⟨162,[.num .i64,.num .i64],L,own,mark⟩]⟩=>some (atG L i,.tuple #[.agg #[I (pX L i),I (pY L i)],.agg #[I (pX L (nx L i)),I (pY L (nx L i))]])
 | _,_=>none
theorem qBO:CtR 303 qL8:=by
 intro xs m r h
 unfold qL8 at h
 split at h
 ·rename_i i L own mark
  obtain ⟨h1,rfl⟩:=qac h
  refine qal (Λ:=L0) qJl Tryz.func303 rfl l00 ?_
  refine (qFz i L own mark).trans ?_
  have n:=qvp h1
  have a:=qbE.1 h1
  rw [beq_eq_false_iff_ne.2 (show (L.length:Int)≠0 by omega),decide_eq_true n.1,decide_eq_true n.2,decide_eq_true a.1,decide_eq_true a.2.1]
  rfl
 ·cases h
def ΓRw1:Orc:=qay 240 qDj ΓBo
theorem qNm:ΓRw1.Ok Tryz.prog:=qai qJl qB1
def ΓRw2:Orc:=qay 303 qL8 ΓRw1
theorem qNl:ΓRw2.Ok Tryz.prog:=qai qNm qBO
def ΓRo:Orc:=qay 289 qDj ΓRw2
theorem qO9:ΓRo.Ok Tryz.prog:=qai qNl qBo
end Go.Proofs.YtainfdcfkgemhaaGreat
namespace Go.Proofs.YtainfdcfkgemhaaGreat
open Go Go.Proofs Go.Sx
set_option linter.unusedVariables false
theorem qFf (a1:Int) (a2:Int) (b1:Int) (b2:Int) (c1:Int) (c2:Int):runG ΓRo L0 Tryz.prog Tryz.f359 [.v (.agg #[I a1,I a2]),.v (.agg #[I b1,I b2]),.v (.agg #[I c1,I c2])] M0 =
 (bif onB c1 c2 a1 a2 b1 b2 then some (.v (Bo true),M0) else some (.v (Bo (onB a1 a2 b1 b2 c1 c2)),M0)):=by kernel_rfl
def qLQ (vs:List Value):Option (Bool×Value) :=
 match vs with
 | [.agg ⟨[.int .i64 a1,.int .i64 a2]⟩,.agg ⟨[.int .i64 b1,.int .i64 b2]⟩,.agg ⟨[.int .i64 c1,.int .i64 c2]⟩]=>some (true,Bo (onB c1 c2 a1 a2 b1 b2||onB a1 a2 b1 b2 c1 c2))
 | _=>none
theorem qBk:CtV 359 qLQ:=by
 intro vs r h
 unfold qLQ at h
 split at h
 ·rename_i a1 a2 b1 b2 c1 c2
  obtain ⟨h1,rfl⟩:=qac h
  refine qaA (vs:=[.agg #[I a1,I a2],.agg #[I b1,I b2],.agg #[I c1,I c2]]) (Λ:=L0) (m':=M0) qO9 Tryz.func359 rfl l00 ?_
  exact (qFf a1 a2 b1 b2 c1 c2).trans (by cases onB c1 c2 a1 a2 b1 b2<;>rfl)
 ·cases h
def ΓZ1:Orc:=qah 359 qLQ ΓRo
theorem OkZ1:ΓZ1.Ok Tryz.prog:=qaa qO9 qBk
theorem qFi (i j:Int) (L:List (List Dat)) (own mark:Bool):runG ΓZ1 L0 Tryz.prog Tryz.f334 [.row 0,.v (I i),.v (I j)] ⟨[],[],[rP L own mark]⟩ =
 (bif atG L i then (bif atG L j then (bif wI (i+(1:Int))==j then some (.v (Bo (onB (pX L (nx L j)) (pY L (nx L j)) (pX L i) (pY L i) (pX L (nx L i)) (pY L (nx L i))||onB (pX L i) (pY L i) (pX L (nx L i)) (pY L (nx L i)) (pX L (nx L j)) (pY L (nx L j)))),⟨[],[],[.live ⟨162,[.num .i64,.num .i64],L,own,mark⟩]⟩) else (bif (L.length:Int)==(0:Int) then none else (bif (wI (j+(1:Int))).tmod (L.length:Int)==i then some (.v (Bo (onB (pX L (nx L i)) (pY L (nx L i)) (pX L j) (pY L j) (pX L (nx L j)) (pY L (nx L j))||onB (pX L j) (pY L j) (pX L (nx L j)) (pY L (nx L j)) (pX L (nx L i)) (pY L (nx L i)))),⟨[],[],[.live ⟨162,[.num .i64,.num .i64],L,own,mark⟩]⟩) else some (.v (Bo (qcb (pX L i) (pY L i) (pX L (nx L i)) (pY L (nx L i)) (pX L j) (pY L j) (pX L (nx L j)) (pY L (nx L j)))),⟨[],[],[.live ⟨162,[.num .i64,.num .i64],L,own,mark⟩]⟩)))) else none) else none):=by kernel_rfl
def ΓPz:Orc:=ΓZ1
theorem qNt:ΓPz.Ok Tryz.prog:=OkZ1
end Go.Proofs.YtainfdcfkgemhaaGreat
namespace Go.Proofs.YtainfdcfkgemhaaGreat
open Go Go.Proofs Go.Sx
set_option linter.unusedVariables false
def qpg (n:Int):Bool:=decide (n< -1073741824)||decide (n>1073741824)
def rgO (px py ax ay bx by1:Int):Bool:=bif decide (ay>by1) then decide (by1≤py)&&(decide (ay>py)&&decide (qbc bx by1 ax ay px py>0)) else decide (ay≤py)&&(decide (by1>py)&&decide (qbc ax ay bx by1 px py>0))
theorem qFv (n:Int):runG ΓPz L0 Tryz.prog Tryz.f336 [.v (I n)] M0 =
 (bif decide (n<(-1073741824:Int)) then some (.v (Bo true),M0) else some (.v (Bo (decide (n>(1073741824:Int)))),M0)):=by kernel_rfl
def qL3 (vs:List Value):Option (Bool×Value) :=
 match vs with
 | [.int .i64 n]=>some (true,Bo (qpg n))
 | _=>none
theorem qBI:CtV 336 qL3:=by
 intro vs r h
 unfold qL3 at h
 split at h
 ·rename_i n
  obtain ⟨h1,rfl⟩:=qac h
  refine qaA (vs:=[I n]) (Λ:=L0) (m':=M0) qNt Tryz.func336 rfl l00 ?_
  exact (qFv n).trans (by unfold qpg;cases decide (n< -1073741824)<;>rfl)
 ·cases h
def ΓPv1:Orc:=qah 336 qL3 ΓPz
theorem qIn:ΓPv1.Ok Tryz.prog:=qaa qNt qBI
theorem qFw (x:Int) (y:Int):runG ΓPv1 L0 Tryz.prog Tryz.f299 [.v (.agg #[I x,I y])] M0 =
 (bif qpg x then some (.v (Bo true),M0) else some (.v (Bo (qpg y)),M0)):=by kernel_rfl
def qL5 (vs:List Value):Option (Bool×Value) :=
 match vs with
 | [.agg ⟨[.int .i64 x,.int .i64 y]⟩]=>some (true,Bo (qpg x||qpg y))
 | _=>none
theorem qBK:CtV 299 qL5:=by
 intro vs r h
 unfold qL5 at h
 split at h
 ·rename_i x y
  obtain ⟨h1,rfl⟩:=qac h
  refine qaA (vs:=[.agg #[I x,I y]]) (Λ:=L0) (m':=M0) qIn Tryz.func299 rfl l00 ?_
  exact (qFw x y).trans (by cases qpg x<;>rfl)
 ·cases h
def ΓPv2:Orc:=qah 299 qL5 ΓPv1
theorem qIm:ΓPv2.Ok Tryz.prog:=qaa qIn qBK
theorem qFh (x:Int) (y:Int):runG ΓPv2 L0 Tryz.prog Tryz.f302 [.v (.agg #[I x,I y])] M0 =
 some (.v (Bo (!plR x y)),M0):=by kernel_rfl
def qLS (vs:List Value):Option (Bool×Value) :=
 match vs with
 | [.agg ⟨[.int .i64 x,.int .i64 y]⟩]=>some (true,Bo (!plR x y))
 | _=>none
theorem qBp:CtV 302 qLS:=by
 intro vs r h
 unfold qLS at h
 split at h
 ·rename_i x y
  obtain ⟨h1,rfl⟩:=qac h
  refine qaA (vs:=[.agg #[I x,I y]]) (Λ:=L0) (m':=M0) qIm Tryz.func302 rfl l00 ?_
  exact (qFh x y).trans (rfl)
 ·cases h
def ΓPv3:Orc:=qah 302 qLS ΓPv2
theorem qIl:ΓPv3.Ok Tryz.prog:=qaa qIm qBp
theorem qEZ (px:Int) (py:Int) (ax:Int) (ay:Int) (bx:Int) (by1:Int):runG ΓPv3 L0 Tryz.prog Tryz.f305 [.v (.agg #[I px,I py]),.v (.agg #[I ax,I ay]),.v (.agg #[I bx,I by1])] M0 =
 (bif decide (ay>by1) then (bif decide (by1≤py) then (bif decide (ay>py) then some (.v (Bo (decide (qbc bx by1 ax ay px py>(0:Int)))),M0) else some (.v (Bo false),M0)) else some (.v (Bo false),M0)) else (bif decide (ay≤py) then (bif decide (by1>py) then some (.v (Bo (decide (qbc ax ay bx by1 px py>(0:Int)))),M0) else some (.v (Bo false),M0)) else some (.v (Bo false),M0))):=by kernel_rfl
def qLH (vs:List Value):Option (Bool×Value) :=
 match vs with
 | [.agg ⟨[.int .i64 px,.int .i64 py]⟩,.agg ⟨[.int .i64 ax,.int .i64 ay]⟩,.agg ⟨[.int .i64 bx,.int .i64 by1]⟩]=>some (true,Bo (rgO px py ax ay bx by1))
 | _=>none
theorem qA9:CtV 305 qLH:=by
 intro vs r h
 unfold qLH at h
 split at h
 ·rename_i px py ax ay bx by1
  obtain ⟨h1,rfl⟩:=qac h
  refine qaA (vs:=[.agg #[I px,I py],.agg #[I ax,I ay],.agg #[I bx,I by1]]) (Λ:=L0) (m':=M0) qIl Tryz.func305 rfl l00 ?_
  exact (qEZ px py ax ay bx by1).trans (by unfold rgO;cases decide (ay>by1)<;>cases decide (by1≤py)<;>cases decide (ay>py)<;>cases decide (ay≤py)<;>cases decide (by1>py)<;>rfl)
 ·cases h
def ΓPv4:Orc:=qah 305 qLH ΓPv3
theorem qNu:ΓPv4.Ok Tryz.prog:=qaa qIl qA9
def ΓPw:Orc:=ΓPv4
theorem qCY:ΓPw.Ok Tryz.prog:=qNu
def qxc:Code:=qaH (Tryz.f335.body.getD .skip) 0
def kIx:List Bool:=qam 19 [0,1,7,8]
def xIx (e:Ex):List Bool:=match e with
 | .exit _=>qam 19 []
 | .ret=>qam 19 [4]
 | .normal=>qam 19 [0,1,7,8]
def KIx (e:Ex) (st:St):Option (Ex×St):=some (e,qav 0 1 (xIx e) st)
abbrev fV (f:Nat):Value:=.func (.func f) ⟨[]⟩ ⟨[]⟩
theorem qjh (k:Int) (L:List (List Dat)) (own mark:Bool) (n:Nat):qaj ΓPw Tryz.prog L0 (qav 0 1 kIx) qxc (n+1) (mk kIx [.row 0,.v (fV 302),.v (I (L.length:Int)),.v (I k)] ⟨[],[],[rP L own mark]⟩) KIx =
 (bif decide (k<(L.length:Int)) then (bif decide ((0:Int)≤k)&&decide (k<(L.length:Int)) then (bif !plR (pX L k) (pY L k) then some (.ret,mk (xIx .ret) [.v (I k)] ⟨[],[],[.live ⟨162,[.num .i64,.num .i64],L,own,mark⟩]⟩) else qaj ΓPw Tryz.prog L0 (qav 0 1 kIx) qxc n (mk kIx [.row 0,.v (Value.func (Fn.func (302:Nat)) { toList:=[]:Array Value } { toList:=[]:Array Value }),.v (I (L.length:Int)),.v (I (wI (k+(1:Int))))] ⟨[],[],[.live ⟨162,[.num .i64,.num .i64],L,own,mark⟩]⟩) KIx) else none) else some ((.exit 0),mk (xIx (.exit 0)) [] ⟨[],[],[.live ⟨162,[.num .i64,.num .i64],L,own,mark⟩]⟩)):=by kernel_rfl
theorem qji (k:Int) (L:List (List Dat)) (own mark:Bool) (n:Nat):qaj ΓPw Tryz.prog L0 (qav 0 1 kIx) qxc (n+1) (mk kIx [.row 0,.v (fV 299),.v (I (L.length:Int)),.v (I k)] ⟨[],[],[rP L own mark]⟩) KIx =
 (bif decide (k<(L.length:Int)) then (bif decide ((0:Int)≤k)&&decide (k<(L.length:Int)) then (bif qpg (pX L k)||qpg (pY L k) then some (.ret,mk (xIx .ret) [.v (I k)] ⟨[],[],[.live ⟨162,[.num .i64,.num .i64],L,own,mark⟩]⟩) else qaj ΓPw Tryz.prog L0 (qav 0 1 kIx) qxc n (mk kIx [.row 0,.v (Value.func (Fn.func (299:Nat)) { toList:=[]:Array Value } { toList:=[]:Array Value }),.v (I (L.length:Int)),.v (I (wI (k+(1:Int))))] ⟨[],[],[.live ⟨162,[.num .i64,.num .i64],L,own,mark⟩]⟩) KIx) else none) else some ((.exit 0),mk (xIx (.exit 0)) [] ⟨[],[],[.live ⟨162,[.num .i64,.num .i64],L,own,mark⟩]⟩)):=by kernel_rfl
end Go.Proofs.YtainfdcfkgemhaaGreat
namespace Go.Proofs.YtainfdcfkgemhaaGreat
open Go Go.Proofs Go.Sx
set_option linter.unusedVariables false
def ixF (p:Int→Bool):Nat→Int→Int
 | 0,_=>-1
 | m+1,k=>bif p k then k else ixF p m (k+1)
theorem qrj {α:Type} (p:Int→Bool) (N:Int) (E:Nat→Int→Option α) (X:Option α) (Y:Int→Option α) (he:∀ n k,¬ k<N→E (n+1) k=X) (hr:∀ n k,0≤k∧k<N→E (n+1) k=bif p k then Y k else E n (k+1)) :
  ∀ (m:Nat) (k:Int),0≤k→k+m=N→E (m+1) k=bif decide (ixF p m k<0) then X else Y (ixF p m k):=by
 intro m
 induction m with
 | zero =>
  intro k h0 h1
  exact he 0 k (by omega)
 | succ m ih =>
  intro k h0 h1
  rw [hr (m+1) k (by omega)]
  show _=bif decide ((bif p k then k else ixF p m (k+1))<0) then X else Y (bif p k then k else ixF p m (k+1))
  cases p k
  ·exact ih (k+1) (by omega) (by omega)
  ·show Y k=bif decide (k<0) then X else Y k
   rw [decide_eq_false (show ¬ k<0 by omega)]
   rfl
theorem qlz {p:Int→Bool}:∀ {m:Nat} {k:Int},ixF p m k<0→0≤k→ixF p m k=-1
 | 0,_,_,_=>rfl
 | m+1,k,h,h0=>by
  revert h
  show (bif p k then k else ixF p m (k+1))<0→(bif p k then k else ixF p m (k+1))=-1
  cases p k
  ·exact fun h=>qlz (p:=p) h (by omega)
  ·exact fun h=>absurd h (by show ¬ k<0;omega)
def XIx (L:List (List Dat)) (own mark:Bool):St:=mk (xIx (.exit 0)) [] ⟨[],[],[rP L own mark]⟩
def RIx (k:Int) (L:List (List Dat)) (own mark:Bool):St:=mk (xIx .ret) [.v (I k)] ⟨[],[],[rP L own mark]⟩
def qfB (L:List (List Dat)) (k:Int):Bool:=!plR (pX L k) (pY L k)
def qgK (L:List (List Dat)) (k:Int):Bool:=qpg (pX L k)||qpg (pY L k)
theorem qic:qak (Tryz.f335.body.getD .skip)=[qxc]:=by kernel_rfl
def qyz (n:Nat) (k:Int) (L:List (List Dat)) (own mark:Bool):Option (Ex×St) :=
 qaj ΓPw Tryz.prog L0 (qav 0 1 kIx) qxc n (mk kIx [.row 0,.v (fV 302),.v (I (L.length:Int)),.v (I k)] ⟨[],[],[rP L own mark]⟩) KIx
theorem qre (L:List (List Dat)) (own mark:Bool) (hl:L.length≤1000000):qyz (L.length+1) 0 L own mark=bif decide (ixF (qfB L) L.length 0<0) then some (.exit 0,XIx L own mark) else some (.ret,RIx (ixF (qfB L) L.length 0) L own mark):=by
 refine qrj (qfB L) (L.length:Int) (fun n k=>qyz n k L own mark) (some (.exit 0,XIx L own mark)) (fun k=>some (.ret,RIx k L own mark)) (fun n k hk=>?_) (fun n k hk=>?_) L.length 0 (by decide) (by omega)
 ·refine (qjh k L own mark n).trans ?_
  rw [decide_eq_false hk]
  rfl
 ·refine (qjh k L own mark n).trans ?_
  rw [decide_eq_true hk.1,decide_eq_true hk.2,qaw (n:=k+1) (by omega)]
  rfl
def qtu (fin:Bool) (vals:List SV) (m:Mem):Option (Bool×Ex×St) :=
 match vals,m with
 | [.row 0,.v (.func (.func 302) ⟨[]⟩ ⟨[]⟩),.v (.int .i64 n),.v (.int .i64 k)],⟨[],[],[.live ⟨162,[.num .i64,.num .i64],L,own,mark⟩]⟩ =>
  bif fin then some (n==(L.length:Int)&&(k==0&&(Nat.ble L.length 1000000&&decide (ixF (qfB L) L.length 0<0))),.exit 0,XIx L own mark)
  else some (n==(L.length:Int)&&(k==0&&(Nat.ble L.length 1000000&&!decide (ixF (qfB L) L.length 0<0))),.ret,RIx (ixF (qfB L) L.length 0) L own mark)
 | _,_=>none
def ΛIxNpl (fin:Bool):qao:=fun _ st=>qeb 0 1 kIx (qtu fin) st
theorem qgb (fin:Bool) (z:Base) (z1:z.L.length=0) (z2:z.U.length=1):qas (ΛIxNpl fin) Tryz.prog z qxc:=by
 refine qaF (Λ:=L0) (kx:=xIx) qCY mixed z1 z2 (fun b hb st t h=>by cases h) (G:=qtu fin) (fun _=>rfl) ?_
 intro vals m e st' h
 unfold qtu at h
 split at h
 ·rename_i n k L own mark
  have hx:=qre L own mark
  cases fin
  ·simp only [cond_false] at h
   obtain ⟨h1,rfl,rfl⟩:=qaf h
   simp only [Bool.and_eq_true,beq_iff_eq,Bool.not_eq_true'] at h1
   obtain ⟨rfl,rfl,hl,hq⟩:=h1
   have:=hx (Nat.le_of_ble_eq_true hl)
   rw [hq] at this
   exact ⟨L.length+1,this⟩
  ·simp only [cond_true] at h
   obtain ⟨h1,rfl,rfl⟩:=qaf h
   simp only [Bool.and_eq_true,beq_iff_eq] at h1
   obtain ⟨rfl,rfl,hl,hq⟩:=h1
   have:=hx (Nat.le_of_ble_eq_true hl)
   rw [hq] at this
   exact ⟨L.length+1,this⟩
 ·cases h
theorem qqb (L:List (List Dat)) (own mark:Bool):runG ΓPw (ΛIxNpl true) Tryz.prog Tryz.f335 [.row 0,.v (fV 302)] ⟨[],[],[rP L own mark]⟩ =
 (bif (L.length:Int)==(L.length:Int)&&(true&&(L.length.ble (1000000)&&decide (ixF (qfB L) L.length (0:Int)<(0:Int)))) then some (.v (I (-1)),⟨[],[],[.live ⟨162,[.num .i64,.num .i64],L,own,mark⟩]⟩) else none):=by kernel_rfl
theorem qqc (L:List (List Dat)) (own mark:Bool):runG ΓPw (ΛIxNpl false) Tryz.prog Tryz.f335 [.row 0,.v (fV 302)] ⟨[],[],[rP L own mark]⟩ =
 (bif (L.length:Int)==(L.length:Int)&&(true&&(L.length.ble (1000000)&&!decide (ixF (qfB L) L.length (0:Int)<(0:Int)))) then some (.v (I (ixF (qfB L) L.length (0:Int))),⟨[],[],[.live ⟨162,[.num .i64,.num .i64],L,own,mark⟩]⟩) else none):=by kernel_rfl
def qyA (n:Nat) (k:Int) (L:List (List Dat)) (own mark:Bool):Option (Ex×St) :=
 qaj ΓPw Tryz.prog L0 (qav 0 1 kIx) qxc n (mk kIx [.row 0,.v (fV 299),.v (I (L.length:Int)),.v (I k)] ⟨[],[],[rP L own mark]⟩) KIx
theorem qrf (L:List (List Dat)) (own mark:Bool) (hl:L.length≤1000000):qyA (L.length+1) 0 L own mark=bif decide (ixF (qgK L) L.length 0<0) then some (.exit 0,XIx L own mark) else some (.ret,RIx (ixF (qgK L) L.length 0) L own mark):=by
 refine qrj (qgK L) (L.length:Int) (fun n k=>qyA n k L own mark) (some (.exit 0,XIx L own mark)) (fun k=>some (.ret,RIx k L own mark)) (fun n k hk=>?_) (fun n k hk=>?_) L.length 0 (by decide) (by omega)
 ·refine (qji k L own mark n).trans ?_
  rw [decide_eq_false hk]
  rfl
 ·refine (qji k L own mark n).trans ?_
  rw [decide_eq_true hk.1,decide_eq_true hk.2,qaw (n:=k+1) (by omega)]
  rfl
def qtv (fin:Bool) (vals:List SV) (m:Mem):Option (Bool×Ex×St) :=
 match vals,m with
 | [.row 0,.v (.func (.func 299) ⟨[]⟩ ⟨[]⟩),.v (.int .i64 n),.v (.int .i64 k)],⟨[],[],[.live ⟨162,[.num .i64,.num .i64],L,own,mark⟩]⟩ =>
  bif fin then some (n==(L.length:Int)&&(k==0&&(Nat.ble L.length 1000000&&decide (ixF (qgK L) L.length 0<0))),.exit 0,XIx L own mark)
  else some (n==(L.length:Int)&&(k==0&&(Nat.ble L.length 1000000&&!decide (ixF (qgK L) L.length 0<0))),.ret,RIx (ixF (qgK L) L.length 0) L own mark)
 | _,_=>none
def ΛIxFar (fin:Bool):qao:=fun _ st=>qeb 0 1 kIx (qtv fin) st
theorem qgc (fin:Bool) (z:Base) (z1:z.L.length=0) (z2:z.U.length=1):qas (ΛIxFar fin) Tryz.prog z qxc:=by
 refine qaF (Λ:=L0) (kx:=xIx) qCY mixed z1 z2 (fun b hb st t h=>by cases h) (G:=qtv fin) (fun _=>rfl) ?_
 intro vals m e st' h
 unfold qtv at h
 split at h
 ·rename_i n k L own mark
  have hx:=qrf L own mark
  cases fin
  ·simp only [cond_false] at h
   obtain ⟨h1,rfl,rfl⟩:=qaf h
   simp only [Bool.and_eq_true,beq_iff_eq,Bool.not_eq_true'] at h1
   obtain ⟨rfl,rfl,hl,hq⟩:=h1
   have:=hx (Nat.le_of_ble_eq_true hl)
   rw [hq] at this
   exact ⟨L.length+1,this⟩
  ·simp only [cond_true] at h
   obtain ⟨h1,rfl,rfl⟩:=qaf h
   simp only [Bool.and_eq_true,beq_iff_eq] at h1
   obtain ⟨rfl,rfl,hl,hq⟩:=h1
   have:=hx (Nat.le_of_ble_eq_true hl)
   rw [hq] at this
   exact ⟨L.length+1,this⟩
 ·cases h
theorem qqd (L:List (List Dat)) (own mark:Bool):runG ΓPw (ΛIxFar true) Tryz.prog Tryz.f335 [.row 0,.v (fV 299)] ⟨[],[],[rP L own mark]⟩ =
 (bif (L.length:Int)==(L.length:Int)&&(true&&(L.length.ble (1000000)&&decide (ixF (qgK L) L.length (0:Int)<(0:Int)))) then some (.v (I (-1)),⟨[],[],[.live ⟨162,[.num .i64,.num .i64],L,own,mark⟩]⟩) else none):=by kernel_rfl
theorem qqe (L:List (List Dat)) (own mark:Bool):runG ΓPw (ΛIxFar false) Tryz.prog Tryz.f335 [.row 0,.v (fV 299)] ⟨[],[],[rP L own mark]⟩ =
 (bif (L.length:Int)==(L.length:Int)&&(true&&(L.length.ble (1000000)&&!decide (ixF (qgK L) L.length (0:Int)<(0:Int)))) then some (.v (I (ixF (qgK L) L.length (0:Int))),⟨[],[],[.live ⟨162,[.num .i64,.num .i64],L,own,mark⟩]⟩) else none):=by kernel_rfl
def qr1 (xs:List SV) (m:Mem):Option (Bool×Value) :=
 match xs,m with
 | [.row 0,.v (.func (.func 302) ⟨[]⟩ ⟨[]⟩)],⟨[],[],[.live ⟨162,[.num .i64,.num .i64],L,own,mark⟩]⟩=>some (Nat.ble L.length 1000000,I (ixF (qfB L) L.length 0))
 | _,_=>none
theorem qr0:CtR 335 qr1:=by
 intro xs m r h
 unfold qr1 at h
 split at h
 ·rename_i L own mark
  obtain ⟨h1,rfl⟩:=qac h
  cases hq:decide (ixF (qfB L) L.length 0<0)
  ·refine qal (Λ:=ΛIxNpl false) qCY Tryz.func335 rfl (fun z z1 z2=>qax qic (qgb false z z1 z2)) ?_
   refine (qqc L own mark).trans ?_
   rw [h1,hq,beq_self_eq_true]
   rfl
  ·refine qal (Λ:=ΛIxNpl true) qCY Tryz.func335 rfl (fun z z1 z2=>qax qic (qgb true z z1 z2)) ?_
   refine (qqb L own mark).trans ?_
   rw [h1,hq,beq_self_eq_true,qlz (of_decide_eq_true hq) (by decide)]
   rfl
 ·cases h
def qr3 (xs:List SV) (m:Mem):Option (Bool×Value) :=
 match xs,m with
 | [.row 0,.v (.func (.func 299) ⟨[]⟩ ⟨[]⟩)],⟨[],[],[.live ⟨162,[.num .i64,.num .i64],L,own,mark⟩]⟩=>some (Nat.ble L.length 1000000,I (ixF (qgK L) L.length 0))
 | _,_=>none
theorem qr2:CtR 335 qr3:=by
 intro xs m r h
 unfold qr3 at h
 split at h
 ·rename_i L own mark
  obtain ⟨h1,rfl⟩:=qac h
  cases hq:decide (ixF (qgK L) L.length 0<0)
  ·refine qal (Λ:=ΛIxFar false) qCY Tryz.func335 rfl (fun z z1 z2=>qax qic (qgc false z z1 z2)) ?_
   refine (qqe L own mark).trans ?_
   rw [h1,hq,beq_self_eq_true]
   rfl
  ·refine qal (Λ:=ΛIxFar true) qCY Tryz.func335 rfl (fun z z1 z2=>qax qic (qgc true z z1 z2)) ?_
   refine (qqd L own mark).trans ?_
   rw [h1,hq,beq_self_eq_true,qlz (of_decide_eq_true hq) (by decide)]
   rfl
 ·cases h
def ΓIy1:Orc:=qay 335 qr1 ΓPw
theorem qNO:ΓIy1.Ok Tryz.prog:=qai qCY qr0
def ΓIy:Orc:=qay 335 qr3 ΓIy1
theorem qNP:ΓIy.Ok Tryz.prog:=qai qNO qr2
theorem qu2 (L:List (List Dat)) (own mark:Bool):runG ΓIy L0 Tryz.prog Tryz.f298 [.row 0,.v (fV 302)] ⟨[],[],[rP L own mark]⟩ =
 (bif L.length.ble (1000000) then some (.v (Bo (decide (ixF (qfB L) L.length (0:Int)≥(0:Int)))),⟨[],[],[.live ⟨162,[.num .i64,.num .i64],L,own,mark⟩]⟩) else none):=by kernel_rfl
theorem qu3 (L:List (List Dat)) (own mark:Bool):runG ΓIy L0 Tryz.prog Tryz.f298 [.row 0,.v (fV 299)] ⟨[],[],[rP L own mark]⟩ =
 (bif L.length.ble (1000000) then some (.v (Bo (decide (ixF (qgK L) L.length (0:Int)≥(0:Int)))),⟨[],[],[.live ⟨162,[.num .i64,.num .i64],L,own,mark⟩]⟩) else none):=by kernel_rfl
end Go.Proofs.YtainfdcfkgemhaaGreat
namespace Go.Proofs.YtainfdcfkgemhaaGreat
open Go Go.Proofs Go.Sx
set_option linter.unusedVariables false
def qxf (p:Int→Bool) (m:Nat):Bool:=decide (ixF p m 0≥0)
def qsx (xs:List SV) (m:Mem):Option (Bool×Value) :=
 match xs,m with
 | [.row 0,.v (.func (.func 302) ⟨[]⟩ ⟨[]⟩)],⟨[],[],[.live ⟨162,[.num .i64,.num .i64],L,own,mark⟩]⟩=>some (Nat.ble L.length 1000000,Bo (qxf (qfB L) L.length))
 | _,_=>none
theorem qsw:CtR 298 qsx:=by
 intro xs m r h
 unfold qsx at h
 split at h
 ·rename_i L own mark
  obtain ⟨h1,rfl⟩:=qac h
  refine qal (Λ:=L0) qNP Tryz.func298 rfl l00 ?_
  refine (qu2 L own mark).trans ?_
  rw [h1]
  rfl
 ·cases h
def qsz (xs:List SV) (m:Mem):Option (Bool×Value) :=
 match xs,m with
 | [.row 0,.v (.func (.func 299) ⟨[]⟩ ⟨[]⟩)],⟨[],[],[.live ⟨162,[.num .i64,.num .i64],L,own,mark⟩]⟩=>some (Nat.ble L.length 1000000,Bo (qxf (qgK L) L.length))
 | _,_=>none
theorem qsy:CtR 298 qsz:=by
 intro xs m r h
 unfold qsz at h
 split at h
 ·rename_i L own mark
  obtain ⟨h1,rfl⟩:=qac h
  refine qal (Λ:=L0) qNP Tryz.func298 rfl l00 ?_
  refine (qu3 L own mark).trans ?_
  rw [h1]
  rfl
 ·cases h
def ΓSi1:Orc:=qay 298 qsx ΓIy
theorem qNk:ΓSi1.Ok Tryz.prog:=qai qNP qsw
def ΓSi2:Orc:=qay 298 qsz ΓSi1
theorem qNj:ΓSi2.Ok Tryz.prog:=qai qNk qsy
def mwB (L:List (List Dat)) (i j:Int):Bool :=
 bif wI (i+1)==j then onB (pX L (nx L j)) (pY L (nx L j)) (pX L i) (pY L i) (pX L (nx L i)) (pY L (nx L i))||onB (pX L i) (pY L i) (pX L (nx L i)) (pY L (nx L i)) (pX L (nx L j)) (pY L (nx L j))
 else bif nx L j==i then onB (pX L (nx L i)) (pY L (nx L i)) (pX L j) (pY L j) (pX L (nx L j)) (pY L (nx L j))||onB (pX L j) (pY L j) (pX L (nx L j)) (pY L (nx L j)) (pX L (nx L i)) (pY L (nx L i))
 else qcb (pX L i) (pY L i) (pX L (nx L i)) (pY L (nx L i)) (pX L j) (pY L j) (pX L (nx L j)) (pY L (nx L j))
def qLU (xs:List SV) (m:Mem):Option (Bool×Value) :=
 match xs,m with
 | [.row 0,.v (.int .i64 i),.v (.int .i64 j)],⟨[],[],[.live ⟨162,[.num .i64,.num .i64],L,own,mark⟩]⟩=>some (atG L i&&atG L j,Bo (mwB L i j))
 | _,_=>none
theorem qBt:CtR 334 qLU:=by
 intro xs m r h
 unfold qLU at h
 split at h
 ·rename_i i j L own mark
  obtain ⟨h1,rfl⟩:=qac h
  rw [Bool.and_eq_true] at h1
  refine qal (Λ:=L0) qNt Tryz.func334 rfl l00 ?_
  refine (qFi i j L own mark).trans ?_
  have a:=qbE.1 h1.1
  rw [h1.1,h1.2,beq_eq_false_iff_ne.2 (show (L.length:Int)≠0 by omega)]
  unfold mwB nx
  cases wI (i+1)==j<;>cases (wI (j+1)).tmod (L.length:Int)==i<;>rfl
 ·cases h
def ΓSi:Orc:=qay 334 qLU ΓSi2
theorem qIe:ΓSi.Ok Tryz.prog:=qai qNj qBt
def qpj:Code:=qaH (Tryz.f297.body.getD .skip) 0
def qHL:Code:=qaH qpj 0
def kS1:List Bool:=qam 43 [0,3,18,19,22,23]
def xS1 (e:Ex):List Bool:=match e with
 | .exit _=>qam 43 [0,18,19]
 | .ret=>qam 43 [2]
 | .normal=>qam 43 [0,3,18,19,22,23]
def KS1 (e:Ex) (st:St):Option (Ex×St):=some (e,qav 0 1 (xS1 e) st)
theorem qxI (j nn k b i:Int) (L:List (List Dat)) (own mark:Bool) (n:Nat):qaj ΓSi Tryz.prog L0 (qav 0 1 kS1) qHL (n+1) (mk kS1 [.row 0,.v (I j),.v (I nn),.v (I k),.v (I b),.v (I i)] ⟨[],[],[rP L own mark]⟩) KS1 =
 (bif decide (i<b) then (bif decide ((0:Int)≤i)&&decide (i<(L.length:Int)) then (bif decide ((0:Int)≤j)&&decide (j<(L.length:Int)) then (bif ((L.getD i.toNat []).headD (Dat.n (0:Int))).toI==((L.getD j.toNat []).headD (Dat.n (0:Int))).toI&&(((L.getD i.toNat []).tail.headD (Dat.n (0:Int))).toI==((L.getD j.toNat []).tail.headD (Dat.n (0:Int))).toI&&true) then some (.ret,mk (xS1 .ret) [.v (Bo false)] ⟨[],[],[.live ⟨162,[.num .i64,.num .i64],L,own,mark⟩]⟩) else (bif atG L i&&atG L j then (bif mwB L i j then some (.ret,mk (xS1 .ret) [.v (Bo false)] ⟨[],[],[.live ⟨162,[.num .i64,.num .i64],L,own,mark⟩]⟩) else qaj ΓSi Tryz.prog L0 (qav 0 1 kS1) qHL n (mk kS1 [.row 0,.v (I j),.v (I nn),.v (I k),.v (I b),.v (I (wI (i+(1:Int))))] ⟨[],[],[.live ⟨162,[.num .i64,.num .i64],L,own,mark⟩]⟩) KS1) else none)) else none) else none) else some ((.exit 2),mk (xS1 (.exit 2)) [.row 0,.v (I nn),.v (I k)] ⟨[],[],[.live ⟨162,[.num .i64,.num .i64],L,own,mark⟩]⟩)):=by kernel_rfl
def eqP (L:List (List Dat)) (i j:Int):Bool:=((L.getD i.toNat []).headD (Dat.n (0:Int))).toI==((L.getD j.toNat []).headD (Dat.n (0:Int))).toI&&(((L.getD i.toNat []).tail.headD (Dat.n (0:Int))).toI==((L.getD j.toNat []).tail.headD (Dat.n (0:Int))).toI&&true)
def qMG (L:List (List Dat)) (j i:Int):Bool:=eqP L i j||mwB L i j
def okJ (L:List (List Dat)) (j:Int):Bool:=decide (ixF (qMG L j) j.toNat 0<0)
theorem qAf {α:Type} (p:Int→Bool) (N:Int) (E:Nat→Int→Option α) (X:Option α) (Y:Int→Option α) (he:∀ n k,¬ k<N→E (n+1) k=X) (hr:∀ (n:Nat) k,0≤k∧k<N→k+n=N→E (n+1) k=bif p k then Y k else E n (k+1)) :
  ∀ (m:Nat) (k:Int),0≤k→k+m=N→E (m+1) k=bif decide (ixF p m k<0) then X else Y (ixF p m k):=by
 intro m
 induction m with
 | zero =>
  intro k h0 h1
  exact he 0 k (by omega)
 | succ m ih =>
  intro k h0 h1
  rw [hr (m+1) k (by omega) h1]
  show _=bif decide ((bif p k then k else ixF p m (k+1))<0) then X else Y (bif p k then k else ixF p m (k+1))
  cases p k
  ·exact ih (k+1) (by omega) (by omega)
  ·show Y k=bif decide (k<0) then X else Y k
   rw [decide_eq_false (show ¬ k<0 by omega)]
   rfl
def ES1 (n:Nat) (j nn k b i:Int) (L:List (List Dat)) (own mark:Bool):Option (Ex×St) :=
 qaj ΓSi Tryz.prog L0 (qav 0 1 kS1) qHL n (mk kS1 [.row 0,.v (I j),.v (I nn),.v (I k),.v (I b),.v (I i)] ⟨[],[],[rP L own mark]⟩) KS1
def XS1 (nn k:Int) (L:List (List Dat)) (own mark:Bool):St:=mk (xS1 (.exit 2)) [.row 0,.v (I nn),.v (I k)] ⟨[],[],[rP L own mark]⟩
def RS1 (L:List (List Dat)) (own mark:Bool):St:=mk (xS1 .ret) [.v (Bo false)] ⟨[],[],[rP L own mark]⟩
theorem qx6 (j nn k:Int) (L:List (List Dat)) (own mark:Bool) (hj:atG L j=true):ES1 (j.toNat+1) j nn k j 0 L own mark=bif okJ L j then some (.exit 2,XS1 nn k L own mark) else some (.ret,RS1 L own mark):=by
 have a:=qbE.1 hj
 refine qrj (qMG L j) j (fun n i=>ES1 n j nn k j i L own mark) (some (.exit 2,XS1 nn k L own mark)) (fun i=>some (.ret,RS1 L own mark)) (fun n i hi=>?_) (fun n i hi=>?_) j.toNat 0 (by decide) (by omega)
 ·refine (qxI j nn k j i L own mark n).trans ?_
  rw [decide_eq_false hi]
  rfl
 ·refine (qxI j nn k j i L own mark n).trans ?_
  have b:atG L i=true:=qbE.2 (by omega)
  rw [decide_eq_true hi.1,decide_eq_true hi.2,decide_eq_true a.1,decide_eq_true a.2.1,decide_eq_true (show i<(L.length:Int) by omega),hj,b,qaw (n:=i+1) (by omega)]
  show (bif eqP L i j then _ else _)=_
  unfold qMG
  cases eqP L i j
  ·cases mwB L i j<;>rfl
  ·rfl
def GS1 (fin:Bool) (vals:List SV) (m:Mem):Option (Bool×Ex×St) :=
 match vals,m with
 | [.row 0,.v (.int .i64 j),.v (.int .i64 nn),.v (.int .i64 k),.v (.int .i64 b),.v (.int .i64 i)],⟨[],[],[.live ⟨162,[.num .i64,.num .i64],L,own,mark⟩]⟩ =>
  bif fin then some (b==j&&(i==0&&(atG L j&&okJ L j)),.exit 2,XS1 nn k L own mark)
  else some (b==j&&(i==0&&(atG L j&&!okJ L j)),.ret,RS1 L own mark)
 | _,_=>none
def ΛS1 (fin:Bool):qao:=fun _ st=>qeb 0 1 kS1 (GS1 fin) st
theorem qvD (fin:Bool) (z:Base) (z1:z.L.length=0) (z2:z.U.length=1):qas (ΛS1 fin) Tryz.prog z qHL:=by
 refine qaF (Λ:=L0) (kx:=xS1) qIe mixed z1 z2 (fun b hb st t h=>by cases h) (G:=GS1 fin) (fun _=>rfl) ?_
 intro vals m e st' h
 unfold GS1 at h
 split at h
 ·rename_i j nn k b i L own mark
  cases fin
  ·simp only [cond_false] at h
   obtain ⟨h1,rfl,rfl⟩:=qaf h
   simp only [Bool.and_eq_true,beq_iff_eq,Bool.not_eq_true'] at h1
   obtain ⟨rfl,rfl,hj,hq⟩:=h1
   have:=qx6 b nn k L own mark hj
   rw [hq] at this
   exact ⟨b.toNat+1,this⟩
  ·simp only [cond_true] at h
   obtain ⟨h1,rfl,rfl⟩:=qaf h
   simp only [Bool.and_eq_true,beq_iff_eq] at h1
   obtain ⟨rfl,rfl,hj,hq⟩:=h1
   have:=qx6 b nn k L own mark hj
   rw [hq] at this
   exact ⟨b.toNat+1,this⟩
 ·cases h
theorem qq7:qak (Tryz.f297.body.getD .skip)=[qpj]:=by kernel_rfl
theorem qzY:qak qpj=[qHL]:=by kernel_rfl
def kS0:List Bool:=qam 43 [0,18,19]
def xS0 (e:Ex):List Bool:=match e with
 | .exit _=>qam 43 []
 | .ret=>qam 43 [2]
 | .normal=>qam 43 [0,18,19]
def KS0 (e:Ex) (st:St):Option (Ex×St):=some (e,qav 0 1 (xS0 e) st)
theorem qpA (nn k:Int) (L:List (List Dat)) (own mark:Bool) (nx:St→Option (Ex×St)):qdY ΓSi Tryz.prog (ΛS1 true) (qav 0 1 kS0) qpj (mk kS0 [.row 0,.v (I nn),.v (I k)] ⟨[],[],[rP L own mark]⟩) nx KS0 =
 (bif decide (k<nn) then (bif k==k&&(true&&(atG L k&&okJ L k)) then nx (mk kS0 [.row 0,.v (I nn),.v (I (wI (k+(1:Int))))] ⟨[],[],[.live ⟨162,[.num .i64,.num .i64],L,own,mark⟩]⟩) else none) else some ((.exit 0),mk (xS0 (.exit 0)) [] ⟨[],[],[.live ⟨162,[.num .i64,.num .i64],L,own,mark⟩]⟩)):=by kernel_rfl
theorem qpB (nn k:Int) (L:List (List Dat)) (own mark:Bool) (nx:St→Option (Ex×St)):qdY ΓSi Tryz.prog (ΛS1 false) (qav 0 1 kS0) qpj (mk kS0 [.row 0,.v (I nn),.v (I k)] ⟨[],[],[rP L own mark]⟩) nx KS0 =
 (bif decide (k<nn) then (bif k==k&&(true&&(atG L k&&!okJ L k)) then some (.ret,mk (xS0 .ret) [.v (Bo false)] ⟨[],[],[.live ⟨162,[.num .i64,.num .i64],L,own,mark⟩]⟩) else none) else some ((.exit 0),mk (xS0 (.exit 0)) [] ⟨[],[],[.live ⟨162,[.num .i64,.num .i64],L,own,mark⟩]⟩)):=by kernel_rfl
def ΛsS (L:List (List Dat)) (n:Nat):qao:=ΛS1 (okJ L ((L.length:Int) - n))
def ES0 (n:Nat) (k:Int) (L:List (List Dat)) (own mark:Bool):Option (Ex×St) :=
 qcT ΓSi Tryz.prog (ΛsS L) (qav 0 1 kS0) qpj n (mk kS0 [.row 0,.v (I (L.length:Int)),.v (I k)] ⟨[],[],[rP L own mark]⟩) KS0
def XS0 (L:List (List Dat)) (own mark:Bool):St:=mk (xS0 (.exit 0)) [] ⟨[],[],[rP L own mark]⟩
def RS0 (L:List (List Dat)) (own mark:Bool):St:=mk (xS0 .ret) [.v (Bo false)] ⟨[],[],[rP L own mark]⟩
def apB (L:List (List Dat)):Bool:=decide (ixF (fun j=>!okJ L j) L.length 0<0)
theorem qGf (L:List (List Dat)) (own mark:Bool) (hl:L.length≤1000000):ES0 (L.length+1) 0 L own mark=bif apB L then some (.exit 0,XS0 L own mark) else some (.ret,RS0 L own mark):=by
 refine qAf (fun j=>!okJ L j) (L.length:Int) (fun n k=>ES0 n k L own mark) (some (.exit 0,XS0 L own mark)) (fun i=>some (.ret,RS0 L own mark)) (fun n k hk=>?_) (fun n k hk hn=>?_) L.length 0 (by decide) (by omega)
 ·show qdY ΓSi Tryz.prog (ΛsS L n) (qav 0 1 kS0) qpj _ (fun st'=>qcT ΓSi Tryz.prog (ΛsS L) (qav 0 1 kS0) qpj n st' KS0) KS0=_
  unfold ΛsS
  cases okJ L ((L.length:Int) - n)
  ·refine (qpB (L.length:Int) k L own mark _).trans ?_
   rw [decide_eq_false hk]
   rfl
  ·refine (qpA (L.length:Int) k L own mark _).trans ?_
   rw [decide_eq_false hk]
   rfl
 ·have e:(L.length:Int) - n=k:=by omega
  have a:atG L k=true:=qbE.2 (by omega)
  show qdY ΓSi Tryz.prog (ΛS1 (okJ L ((L.length:Int) - n))) (qav 0 1 kS0) qpj _ (fun st'=>qcT ΓSi Tryz.prog (ΛsS L) (qav 0 1 kS0) qpj n st' KS0) KS0=bif !okJ L k then some (.ret,RS0 L own mark) else ES0 n (k+1) L own mark
  rw [e]
  cases hq:okJ L k
  ·refine (qpB (L.length:Int) k L own mark _).trans ?_
   rw [decide_eq_true hk.2,beq_self_eq_true,a,hq]
   rfl
  ·refine (qpA (L.length:Int) k L own mark _).trans ?_
   rw [decide_eq_true hk.2,beq_self_eq_true,a,hq,qaw (n:=k+1) (by omega)]
   rfl
def GS0 (fin:Bool) (vals:List SV) (m:Mem):Option (Bool×Ex×St) :=
 match vals,m with
 | [.row 0,.v (.int .i64 nn),.v (.int .i64 k)],⟨[],[],[.live ⟨162,[.num .i64,.num .i64],L,own,mark⟩]⟩ =>
  bif fin then some (nn==(L.length:Int)&&(k==0&&(Nat.ble L.length 1000000&&apB L)),.exit 0,XS0 L own mark)
  else some (nn==(L.length:Int)&&(k==0&&(Nat.ble L.length 1000000&&!apB L)),.ret,RS0 L own mark)
 | _,_=>none
def ΛS0 (fin:Bool):qao:=fun _ st=>qeb 0 1 kS0 (GS0 fin) st
theorem qnc (fin:Bool) (z:Base) (z1:z.L.length=0) (z2:z.U.length=1):qas (ΛS0 fin) Tryz.prog z qpj:=by
 refine qvA (kx:=xS0) qIe mixed z1 z2 (G:=GS0 fin) (fun _=>rfl) ?_
 intro vals m e st' h
 unfold GS0 at h
 split at h
 ·rename_i nn k L own mark
  have hx:=qGf L own mark
  have hΛ:∀ n,∀ b∈qak qpj,qas (ΛsS L n) Tryz.prog z b:=fun n=>qax qzY (qvD _ z z1 z2)
  cases fin
  ·simp only [cond_false] at h
   obtain ⟨h1,rfl,rfl⟩:=qaf h
   simp only [Bool.and_eq_true,beq_iff_eq,Bool.not_eq_true'] at h1
   obtain ⟨rfl,rfl,hl,hq⟩:=h1
   have:=hx (Nat.le_of_ble_eq_true hl)
   rw [hq] at this
   exact ⟨ΛsS L,hΛ,L.length+1,this⟩
  ·simp only [cond_true] at h
   obtain ⟨h1,rfl,rfl⟩:=qaf h
   simp only [Bool.and_eq_true,beq_iff_eq] at h1
   obtain ⟨rfl,rfl,hl,hq⟩:=h1
   have:=hx (Nat.le_of_ble_eq_true hl)
   rw [hq] at this
   exact ⟨ΛsS L,hΛ,L.length+1,this⟩
 ·cases h
theorem qy6 (L:List (List Dat)) (own mark:Bool):runG ΓSi (ΛS0 true) Tryz.prog Tryz.f297 [.row 0] ⟨[],[],[rP L own mark]⟩ =
 (bif decide ((L.length:Int)<(3:Int)) then some (.v (Bo false),⟨[],[],[.live ⟨162,[.num .i64,.num .i64],L,own,mark⟩]⟩) else (bif decide ((L.length:Int)>(8:Int)) then some (.v (Bo false),⟨[],[],[.live ⟨162,[.num .i64,.num .i64],L,own,mark⟩]⟩) else (bif L.length.ble (1000000) then (bif qxf (qfB L) L.length then some (.v (Bo false),⟨[],[],[.live ⟨162,[.num .i64,.num .i64],L,own,mark⟩]⟩) else (bif (L.length:Int)==(L.length:Int)&&(true&&(L.length.ble (1000000)&&apB L)) then some (.v (Bo true),⟨[],[],[.live ⟨162,[.num .i64,.num .i64],L,own,mark⟩]⟩) else none)) else none))):=by kernel_rfl
theorem qy7 (L:List (List Dat)) (own mark:Bool):runG ΓSi (ΛS0 false) Tryz.prog Tryz.f297 [.row 0] ⟨[],[],[rP L own mark]⟩ =
 (bif decide ((L.length:Int)<(3:Int)) then some (.v (Bo false),⟨[],[],[.live ⟨162,[.num .i64,.num .i64],L,own,mark⟩]⟩) else (bif decide ((L.length:Int)>(8:Int)) then some (.v (Bo false),⟨[],[],[.live ⟨162,[.num .i64,.num .i64],L,own,mark⟩]⟩) else (bif L.length.ble (1000000) then (bif qxf (qfB L) L.length then some (.v (Bo false),⟨[],[],[.live ⟨162,[.num .i64,.num .i64],L,own,mark⟩]⟩) else (bif (L.length:Int)==(L.length:Int)&&(true&&(L.length.ble (1000000)&&!apB L)) then some (.v (Bo false),⟨[],[],[.live ⟨162,[.num .i64,.num .i64],L,own,mark⟩]⟩) else none)) else none))):=by kernel_rfl
def qC7 (L:List (List Dat)):Bool:=bif decide ((L.length:Int)<3) then false else bif decide ((L.length:Int)>8) then false else bif qxf (qfB L) L.length then false else apB L
def qLp (xs:List SV) (m:Mem):Option (Bool×Value) :=
 match xs,m with
 | [.row 0],⟨[],[],[.live ⟨162,[.num .i64,.num .i64],L,own,mark⟩]⟩=>some (Nat.ble L.length 1000000,Bo (qC7 L))
 | _,_=>none
theorem qAO:CtR 297 qLp:=by
 intro xs m r h
 unfold qLp at h
 split at h
 ·rename_i L own mark
  obtain ⟨h1,rfl⟩:=qac h
  cases hq:apB L
  ·refine qal (Λ:=ΛS0 false) qIe Tryz.func297 rfl (fun z z1 z2=>qax qq7 (qnc false z z1 z2)) ?_
   refine (qy7 L own mark).trans ?_
   rw [h1,hq,beq_self_eq_true]
   unfold qC7
   rw [hq]
   cases decide ((L.length:Int)<3)<;>cases decide ((L.length:Int)>8)<;>cases qxf (qfB L) L.length<;>rfl
  ·refine qal (Λ:=ΛS0 true) qIe Tryz.func297 rfl (fun z z1 z2=>qax qq7 (qnc true z z1 z2)) ?_
   refine (qy6 L own mark).trans ?_
   rw [h1,hq,beq_self_eq_true]
   unfold qC7
   rw [hq]
   cases decide ((L.length:Int)<3)<;>cases decide ((L.length:Int)>8)<;>cases qxf (qfB L) L.length<;>rfl
 ·cases h
def ΓSj:Orc:=qay 297 qLp ΓSi
theorem qO6:ΓSj.Ok Tryz.prog:=qai qIe qAO
theorem qzC (L:List (List Dat)) (own mark:Bool):runG ΓSj L0 Tryz.prog Tryz.f238 [.row 0] ⟨[],[],[rP L own mark]⟩ =
 (bif L.length.ble (1000000) then (bif qC7 L then (bif L.length.ble (1000000) then some (.v (Bo (!qxf (qgK L) L.length)),⟨[],[],[.live ⟨162,[.num .i64,.num .i64],L,own,mark⟩]⟩) else none) else some (.v (Bo false),⟨[],[],[.live ⟨162,[.num .i64,.num .i64],L,own,mark⟩]⟩)) else none):=by kernel_rfl
def qe0 (L:List (List Dat)):Bool:=qC7 L&&!qxf (qgK L) L.length
def qB7 (xs:List SV) (m:Mem):Option (Bool×Value) :=
 match xs,m with
 | [.row 0],⟨[],[],[.live ⟨162,[.num .i64,.num .i64],L,own,mark⟩]⟩=>some (Nat.ble L.length 1000000,Bo (qe0 L))
 | _,_=>none
theorem qwF:CtR 238 qB7:=by
 intro xs m r h
 unfold qB7 at h
 split at h
 ·rename_i L own mark
  obtain ⟨h1,rfl⟩:=qac h
  refine qal (Λ:=L0) qO6 Tryz.func238 rfl l00 ?_
  refine (qzC L own mark).trans ?_
  rw [h1]
  unfold qe0
  cases qC7 L<;>rfl
 ·cases h
def ΓAr:Orc:=qay 238 qB7 ΓSj
theorem qJm:ΓAr.Ok Tryz.prog:=qai qO6 qwF
end Go.Proofs.YtainfdcfkgemhaaGreat
namespace Go.Proofs.YtainfdcfkgemhaaGreat
open Go Go.Proofs Go.Sx
set_option linter.unusedVariables false
def qDq:Code:=qaH (Tryz.f241.body.getD .skip) 0
def kSd:List Bool:=qam 39 [0,3,5,17,18]
def xSd (e:Ex):List Bool:=match e with
 | .exit _=>qam 39 [5]
 | .ret=>qam 39 [4]
 | .normal=>qam 39 [0,3,5,17,18]
def KSd (e:Ex) (st:St):Option (Ex×St):=some (e,qav 0 1 (xSd e) st)
def MSd (px py:Int) (L:List (List Dat)) (own mark:Bool):Mem:=⟨[[.v (I px),.v (I py)]],[true],[rP L own mark]⟩
theorem qxH (px py s nn k:Int) (L:List (List Dat)) (own mark:Bool) (n:Nat):qaj ΓAr Tryz.prog L0 (qav 0 1 kSd) qDq (n+1) (mk kSd [.row 0,.ptr 0 0,.v (I s),.v (I nn),.v (I k)] (MSd px py L own mark)) KSd =
 (bif decide (k<nn) then (bif atG L k then (bif onB px py (pX L k) (pY L k) (pX L (nx L k)) (pY L (nx L k)) then some (.ret,mk (xSd .ret) [.v (I 0)] ⟨[],[],[.live ⟨162,[.num .i64,.num .i64],L,own,mark⟩]⟩) else (bif rgO px py (pX L k) (pY L k) (pX L (nx L k)) (pY L (nx L k)) then qaj ΓAr Tryz.prog L0 (qav 0 1 kSd) qDq n (mk kSd [.row 0,.ptr 0 0,.v (I (wI ((0:Int) - s))),.v (I nn),.v (I (wI (k+(1:Int))))] ⟨[[.v (I px),.v (I py)]],[true],[.live ⟨162,[.num .i64,.num .i64],L,own,mark⟩]⟩) KSd else qaj ΓAr Tryz.prog L0 (qav 0 1 kSd) qDq n (mk kSd [.row 0,.ptr 0 0,.v (I s),.v (I nn),.v (I (wI (k+(1:Int))))] ⟨[[.v (I px),.v (I py)]],[true],[.live ⟨162,[.num .i64,.num .i64],L,own,mark⟩]⟩) KSd)) else none) else some ((.exit 0),mk (xSd (.exit 0)) [.v (I s)] ⟨[],[],[.live ⟨162,[.num .i64,.num .i64],L,own,mark⟩]⟩)):=by kernel_rfl
def qIP (px py:Int) (L:List (List Dat)) (k:Int):Bool:=onB px py (pX L k) (pY L k) (pX L (nx L k)) (pY L (nx L k))
def rgB (px py:Int) (L:List (List Dat)) (k:Int):Bool:=rgO px py (pX L k) (pY L k) (pX L (nx L k)) (pY L (nx L k))
def sdF (r:Int→Bool):Nat→Int→Int→Int
 | 0,_,s=>s
 | m+1,k,s=>sdF r m (k+1) (bif r k then -s else s)
theorem qEg {α:Type} (p r:Int→Bool) (N:Int) (E:Nat→Int→Int→Option α) (X:Int→Option α) (Y:Option α) (he:∀ n k s,¬ k<N→E (n+1) k s=X s) (hr:∀ n k s,0≤k∧k<N→(s=1∨s=-1)→E (n+1) k s=bif p k then Y else E n (k+1) (bif r k then -s else s)) :
  ∀ (m:Nat) (k s:Int),0≤k→k+m=N→(s=1∨s=-1)→E (m+1) k s=bif decide (ixF p m k<0) then X (sdF r m k s) else Y:=by
 intro m
 induction m with
 | zero =>
  intro k s h0 h1 hs
  exact he 0 k s (by omega)
 | succ m ih =>
  intro k s h0 h1 hs
  rw [hr (m+1) k s (by omega) hs]
  show _=bif decide ((bif p k then k else ixF p m (k+1))<0) then X (sdF r m (k+1) (bif r k then -s else s)) else Y
  cases p k
  ·refine ih (k+1) _ (by omega) (by omega) ?_
   cases r k
   ·exact hs
   ·show -s=1∨-s=-1
    omega
  ·show Y=bif decide (k<0) then X _ else Y
   rw [decide_eq_false (show ¬ k<0 by omega)]
   rfl
def ESd (n:Nat) (k s px py:Int) (L:List (List Dat)) (own mark:Bool):Option (Ex×St) :=
 qaj ΓAr Tryz.prog L0 (qav 0 1 kSd) qDq n (mk kSd [.row 0,.ptr 0 0,.v (I s),.v (I (L.length:Int)),.v (I k)] (MSd px py L own mark)) KSd
def XSd (s:Int) (L:List (List Dat)) (own mark:Bool):St:=mk (xSd (.exit 0)) [.v (I s)] ⟨[],[],[rP L own mark]⟩
def RSd (L:List (List Dat)) (own mark:Bool):St:=mk (xSd .ret) [.v (I 0)] ⟨[],[],[rP L own mark]⟩
def qlm (px py:Int) (L:List (List Dat)):Bool:=decide (ixF (qIP px py L) L.length 0<0)
theorem qGe (px py:Int) (L:List (List Dat)) (own mark:Bool) (hl:L.length≤1000000):ESd (L.length+1) 0 (-1) px py L own mark=bif qlm px py L then some (.exit 0,XSd (sdF (rgB px py L) L.length 0 (-1)) L own mark) else some (.ret,RSd L own mark):=by
 refine qEg (qIP px py L) (rgB px py L) (L.length:Int) (fun n k s=>ESd n k s px py L own mark) (fun s=>some (.exit 0,XSd s L own mark)) (some (.ret,RSd L own mark)) (fun n k s hk=>?_) (fun n k s hk hs=>?_) L.length 0 (-1) (by decide) (by omega) (.inr rfl)
 ·refine (qxH px py s (L.length:Int) k L own mark n).trans ?_
  rw [decide_eq_false hk]
  rfl
 ·refine (qxH px py s (L.length:Int) k L own mark n).trans ?_
  have a:atG L k=true:=qbE.2 (by omega)
  rw [decide_eq_true hk.2,a,qaw (n:=k+1) (by omega),qaw (n:=0 - s) (by omega),Int.zero_sub]
  show (bif qIP px py L k then _ else bif rgB px py L k then _ else _)=_
  cases qIP px py L k
  ·cases rgB px py L k<;>rfl
  ·rfl
theorem qq5:qak (Tryz.f241.body.getD .skip)=[qDq]:=by kernel_rfl
def GSd (fin:Bool) (vals:List SV) (m:Mem):Option (Bool×Ex×St) :=
 match vals,m with
 | [.row 0,.ptr 0 0,.v (.int .i64 s),.v (.int .i64 nn),.v (.int .i64 k)],⟨[[.v (.int .i64 px),.v (.int .i64 py)]],[true],[.live ⟨162,[.num .i64,.num .i64],L,own,mark⟩]⟩ =>
  bif fin then some (nn==(L.length:Int)&&(k==0&&(s==-1&&(Nat.ble L.length 1000000&&qlm px py L))),.exit 0,XSd (sdF (rgB px py L) L.length 0 (-1)) L own mark)
  else some (nn==(L.length:Int)&&(k==0&&(s==-1&&(Nat.ble L.length 1000000&&!qlm px py L))),.ret,RSd L own mark)
 | _,_=>none
def ΛSd (fin:Bool):qao:=fun _ st=>qeb 0 1 kSd (GSd fin) st
theorem qnb (fin:Bool) (z:Base) (z1:z.L.length=0) (z2:z.U.length=1):qas (ΛSd fin) Tryz.prog z qDq:=by
 refine qaF (Λ:=L0) (kx:=xSd) qJm mixed z1 z2 (fun b hb st t h=>by cases h) (G:=GSd fin) (fun _=>rfl) ?_
 intro vals m e st' h
 unfold GSd at h
 split at h
 ·rename_i s nn k px py L own mark
  have hx:=qGe px py L own mark
  cases fin
  ·simp only [cond_false] at h
   obtain ⟨h1,rfl,rfl⟩:=qaf h
   simp only [Bool.and_eq_true,beq_iff_eq,Bool.not_eq_true'] at h1
   obtain ⟨rfl,rfl,rfl,hl,hq⟩:=h1
   have:=hx (Nat.le_of_ble_eq_true hl)
   rw [hq] at this
   exact ⟨L.length+1,this⟩
  ·simp only [cond_true] at h
   obtain ⟨h1,rfl,rfl⟩:=qaf h
   simp only [Bool.and_eq_true,beq_iff_eq] at h1
   obtain ⟨rfl,rfl,rfl,hl,hq⟩:=h1
   have:=hx (Nat.le_of_ble_eq_true hl)
   rw [hq] at this
   exact ⟨L.length+1,this⟩
 ·cases h
theorem qEL (px py:Int) (L:List (List Dat)) (own mark:Bool):runG ΓAr (ΛSd true) Tryz.prog Tryz.f241 [.row 0,.v (.agg #[I px,I py])] ⟨[],[],[rP L own mark]⟩ =
 (bif L.length.ble (1000000) then (bif !qe0 L then some (.v (I (-1)),⟨[],[],[.live ⟨162,[.num .i64,.num .i64],L,own,mark⟩]⟩) else (bif !plR px py then some (.v (I (-1)),⟨[],[],[.live ⟨162,[.num .i64,.num .i64],L,own,mark⟩]⟩) else (bif (L.length:Int)==(L.length:Int)&&(true&&(true&&(L.length.ble (1000000)&&qlm px py L))) then some (.v (I (sdF (rgB px py L) L.length (0:Int) (-1:Int))),⟨[],[],[.live ⟨162,[.num .i64,.num .i64],L,own,mark⟩]⟩) else none))) else none):=by kernel_rfl
theorem qEM (px py:Int) (L:List (List Dat)) (own mark:Bool):runG ΓAr (ΛSd false) Tryz.prog Tryz.f241 [.row 0,.v (.agg #[I px,I py])] ⟨[],[],[rP L own mark]⟩ =
 (bif L.length.ble (1000000) then (bif !qe0 L then some (.v (I (-1)),⟨[],[],[.live ⟨162,[.num .i64,.num .i64],L,own,mark⟩]⟩) else (bif !plR px py then some (.v (I (-1)),⟨[],[],[.live ⟨162,[.num .i64,.num .i64],L,own,mark⟩]⟩) else (bif (L.length:Int)==(L.length:Int)&&(true&&(true&&(L.length.ble (1000000)&&!qlm px py L))) then some (.v (I 0),⟨[],[],[.live ⟨162,[.num .i64,.num .i64],L,own,mark⟩]⟩) else none))) else none):=by kernel_rfl
def qpI (L:List (List Dat)) (px py:Int):Int:=bif !qe0 L then -1 else bif !plR px py then -1 else bif qlm px py L then sdF (rgB px py L) L.length 0 (-1) else 0
def gSd (xs:List SV) (m:Mem):Option (Bool×Value) :=
 match xs,m with
 | [.row 0,.v (.agg ⟨[.int .i64 px,.int .i64 py]⟩)],⟨[],[],[.live ⟨162,[.num .i64,.num .i64],L,own,mark⟩]⟩=>some (Nat.ble L.length 1000000,I (qpI L px py))
 | _,_=>none
theorem qGP:CtR 241 gSd:=by
 intro xs m r h
 unfold gSd at h
 split at h
 ·rename_i px py L own mark
  obtain ⟨h1,rfl⟩:=qac h
  cases hq:qlm px py L
  ·refine qal (Λ:=ΛSd false) qJm Tryz.func241 rfl (fun z z1 z2=>qax qq5 (qnb false z z1 z2)) ?_
   refine (qEM px py L own mark).trans ?_
   rw [h1,hq,beq_self_eq_true]
   unfold qpI
   rw [hq]
   cases qe0 L<;>cases plR px py<;>rfl
  ·refine qal (Λ:=ΛSd true) qJm Tryz.func241 rfl (fun z z1 z2=>qax qq5 (qnb true z z1 z2)) ?_
   refine (qEL px py L own mark).trans ?_
   rw [h1,hq,beq_self_eq_true]
   unfold qpI
   rw [hq]
   cases qe0 L<;>cases plR px py<;>rfl
 ·cases h
def ΓSd:Orc:=qay 241 gSd ΓAr
theorem qO7:ΓSd.Ok Tryz.prog:=qai qJm qGP
end Go.Proofs.YtainfdcfkgemhaaGreat
namespace Go.Proofs.YtainfdcfkgemhaaGreat
open Go Go.Proofs Go.Sx
set_option linter.unusedVariables false
theorem qon (a b c d:Int):runG ΓSd L0 Tryz.prog Tryz.f338 [.v (.agg #[I a,I b,I c,I d])] M0 =
 (bif !boR a b c d then some (.row 0,⟨[],[],[.live ⟨162,[.num .i64,.num .i64],[],true,false⟩]⟩) else some (.row 0,⟨[],[],[.live ⟨162,[.num .i64,.num .i64],[[.n (a),.n (b)],[.n (c),.n (b)],[.n (c),.n (d)],[.n (a),.n (d)]],true,false⟩]⟩)):=by kernel_rfl
abbrev qMv (a b c d:Int):Mem:=⟨[],[],[.live ⟨162,[.num .i64,.num .i64],[[.n a,.n b],[.n c,.n b],[.n c,.n d],[.n a,.n d]],true,false⟩]⟩
def qMb (xs:List SV) (m:Mem):Option (Bool×SV×Mem) :=
 match xs,m with
 | [.v (.agg ⟨[.int .i64 a,.int .i64 b,.int .i64 c,.int .i64 d]⟩)],⟨[],[],[]⟩=>some (boR a b c d,.row 0,qMv a b c d)
 | _,_=>none
theorem qBT:CtC 338 qMb:=by
 intro xs m r m' h
 unfold qMb at h
 split at h
 ·rename_i a b c d
  obtain ⟨h1,rfl,rfl⟩:=qaf h
  refine qal (Λ:=L0) qO7 Tryz.func338 rfl l00 ?_
  refine (qon a b c d).trans ?_
  rw [h1]
  rfl
 ·cases h
def ΓMa:Orc:=qau 338 qMb ΓSd
theorem OkMa:ΓMa.Ok Tryz.prog:=qad qO7 qBT
def ΓMb:Orc:=ΓMa
theorem qPs:ΓMb.Ok Tryz.prog:=OkMa
theorem qzp (a b c d p1 p2 q1 q2:Int):runG ΓMb L0 Tryz.prog Tryz.f301 [.v (.agg #[I a,I b,I c,I d]),.v (.agg #[I p1,I p2]),.v (.agg #[I q1,I q2])] M0 =
 (bif boR a b c d then (bif qcb p1 p2 q1 q2 a b c b then some (.v (Bo true),M0) else (bif qcb p1 p2 q1 q2 c b c d then some (.v (Bo true),M0) else (bif qcb p1 p2 q1 q2 c d a d then some (.v (Bo true),M0) else (bif qcb p1 p2 q1 q2 a d a b then some (.v (Bo true),M0) else some (.v (Bo false),M0))))) else none):=by kernel_rfl
def msB (a b c d p1 p2 q1 q2:Int):Bool:=qcb p1 p2 q1 q2 a b c b||(qcb p1 p2 q1 q2 c b c d||(qcb p1 p2 q1 q2 c d a d||qcb p1 p2 q1 q2 a d a b))
def qLW (vs:List Value):Option (Bool×Value) :=
 match vs with
 | [.agg ⟨[.int .i64 a,.int .i64 b,.int .i64 c,.int .i64 d]⟩,.agg ⟨[.int .i64 p1,.int .i64 p2]⟩,.agg ⟨[.int .i64 q1,.int .i64 q2]⟩]=>some (boR a b c d,Bo (msB a b c d p1 p2 q1 q2))
 | _=>none
theorem qBw:CtV 301 qLW:=by
 intro vs r h
 unfold qLW at h
 split at h
 ·rename_i a b c d p1 p2 q1 q2
  obtain ⟨h1,rfl⟩:=qac h
  refine qaA (vs:=[.agg #[I a,I b,I c,I d],.agg #[I p1,I p2],.agg #[I q1,I q2]]) (Λ:=L0) (m':=M0) qPs Tryz.func301 rfl l00 ?_
  refine (qzp a b c d p1 p2 q1 q2).trans ?_
  rw [h1]
  unfold msB
  cases qcb p1 p2 q1 q2 a b c b<;>cases qcb p1 p2 q1 q2 c b c d<;>cases qcb p1 p2 q1 q2 c d a d<;>cases qcb p1 p2 q1 q2 a d a b<;>rfl
 ·cases h
def ΓMc:Orc:=qah 301 qLW ΓMb
theorem qPr:ΓMc.Ok Tryz.prog:=qaa qPs qBw
theorem qFj (a b c d p1 p2 q1 q2:Int):runG ΓMc L0 Tryz.prog Tryz.f239 [.v (.agg #[I a,I b,I c,I d]),.v (.agg #[I p1,I p2]),.v (.agg #[I q1,I q2])] M0 =
 (bif !boR a b c d then some (.v (Bo false),M0) else (bif !plR p1 p2 then some (.v (Bo false),M0) else (bif !plR q1 q2 then some (.v (Bo false),M0) else (bif qv2 a b c d p1 p2 then some (.v (Bo true),M0) else (bif boR a b c d then some (.v (Bo (msB a b c d p1 p2 q1 q2)),M0) else none))))):=by kernel_rfl
def mtB (a b c d p1 p2 q1 q2:Int):Bool:=boR a b c d&&(plR p1 p2&&(plR q1 q2&&(qv2 a b c d p1 p2||msB a b c d p1 p2 q1 q2)))
def qLV (vs:List Value):Option (Bool×Value) :=
 match vs with
 | [.agg ⟨[.int .i64 a,.int .i64 b,.int .i64 c,.int .i64 d]⟩,.agg ⟨[.int .i64 p1,.int .i64 p2]⟩,.agg ⟨[.int .i64 q1,.int .i64 q2]⟩]=>some (true,Bo (mtB a b c d p1 p2 q1 q2))
 | _=>none
theorem qBv:CtV 239 qLV:=by
 intro vs r h
 unfold qLV at h
 split at h
 ·rename_i a b c d p1 p2 q1 q2
  obtain ⟨h1,rfl⟩:=qac h
  refine qaA (vs:=[.agg #[I a,I b,I c,I d],.agg #[I p1,I p2],.agg #[I q1,I q2]]) (Λ:=L0) (m':=M0) qPr Tryz.func239 rfl l00 ?_
  refine (qFj a b c d p1 p2 q1 q2).trans ?_
  unfold mtB
  cases boR a b c d<;>cases plR p1 p2<;>cases plR q1 q2<;>cases qv2 a b c d p1 p2<;>rfl
 ·cases h
def ΓMt:Orc:=qah 239 qLV ΓMc
theorem OkMt:ΓMt.Ok Tryz.prog:=qaa qPr qBv
def ΓMr:Orc:=ΓMt
theorem qIq:ΓMr.Ok Tryz.prog:=OkMt
end Go.Proofs.YtainfdcfkgemhaaGreat
namespace Go.Proofs.YtainfdcfkgemhaaGreat
open Go Go.Proofs Go.Sx
set_option linter.unusedVariables false
def qxb:Code:=qaH (Tryz.f231.body.getD .skip) 0
def kRa:List Bool:=qam 100 [0,3,4]
def xRa (e:Ex):List Bool:=match e with
 | .exit _=>qam 100 [0,3]
 | .ret=>qam 100 [2]
 | .normal=>qam 100 [0,3,4]
def KRa (e:Ex) (st:St):Option (Ex×St):=some (e,qav 0 1 (xRa e) st)
theorem qxO (i:Int) (nn:Int) (L:List (List Dat)) (own:Bool) (mark:Bool) (n:Nat):qaj ΓMr Tryz.prog L0 (qav 0 1 kRa) qxb (n+1) (mk kRa [.row 0,.v (I nn),.v (I i)] ⟨[],[],[.live ⟨162,[.num .i64,.num .i64],L,own,mark⟩]⟩) KRa =
 (bif decide (i<nn) then (bif decide ((0:Int)≤i)&&decide (i<(L.length:Int)) then (bif !plR (pX L i) (pY L i) then some (.ret,mk (xRa .ret) [.v (Bo false)] ⟨[],[],[.live ⟨162,[.num .i64,.num .i64],L,own,mark⟩]⟩) else qaj ΓMr Tryz.prog L0 (qav 0 1 kRa) qxb n (mk kRa [.row 0,.v (I nn),.v (I (wI (i+(1:Int))))] ⟨[],[],[.live ⟨162,[.num .i64,.num .i64],L,own,mark⟩]⟩) KRa) else none) else some ((.exit 0),mk (xRa (.exit 0)) [.row 0,.v (I nn)] ⟨[],[],[.live ⟨162,[.num .i64,.num .i64],L,own,mark⟩]⟩)):=by kernel_rfl
def ERa (n:Nat) (i:Int) (nn:Int) (L:List (List Dat)) (own:Bool) (mark:Bool):Option (Ex×St) :=
 qaj ΓMr Tryz.prog L0 (qav 0 1 kRa) qxb n (mk kRa [.row 0,.v (I nn),.v (I i)] ⟨[],[],[.live ⟨162,[.num .i64,.num .i64],L,own,mark⟩]⟩) KRa
def qbP (p:Int→Bool):Nat→Int→Bool
 | 0,_=>false
 | m+1,k=>p k||qbP p m (k+1)
theorem qnP {p:Int→Bool}:∀ {m:Nat} {k:Int},qbP p m k=true↔∃ i,k≤i∧i<k+m∧p i=true
 | 0,k=>⟨fun h=>(by cases h),fun ⟨i,h1,h2,_⟩=>absurd h2 (by omega)⟩
 | m+1,k=>by
  show (p k||qbP p m (k+1))=true↔_
  rw [Bool.or_eq_true,qnP]
  constructor
  ·rintro (h|⟨i,h1,h2,h3⟩)
   ·exact ⟨k,by omega,by omega,h⟩
   ·exact ⟨i,by omega,by omega,h3⟩
  ·rintro ⟨i,h1,h2,h3⟩
   by_cases hi:i=k
   ·rw [hi] at h3;exact .inl h3
   ·exact .inr ⟨i,by omega,by omega,h3⟩
theorem qdu {α:Type} (p:Int→Bool) (N:Int) (E:Nat→Int→Option α) (X Y:Option α) (he:∀ n k,¬ k<N→E (n+1) k=X) (hr:∀ n k,0≤k∧k<N→E (n+1) k=bif p k then Y else E n (k+1)) :
  ∀ (m:Nat) (k:Int),0≤k→k+m=N→E (m+1) k=bif qbP p m k then Y else X:=by
 intro m
 induction m with
 | zero =>
  intro k h0 h1
  exact he 0 k (by omega)
 | succ m ih =>
  intro k h0 h1
  rw [hr (m+1) k (by omega)]
  show _=bif p k||qbP p m (k+1) then Y else X
  cases p k
  ·exact ih (k+1) (by omega) (by omega)
  ·rfl
def qKV (L:List (List Dat)) (nn:Int) (own mark:Bool):LT:=.br (qbP (qfB L) L.length 0) (.leaf .ret (mk (xRa .ret) [.v (Bo false)] ⟨[],[],[rP L own mark]⟩)) (.leaf (.exit 0) (mk (xRa (.exit 0)) [.row 0,.v (I nn)] ⟨[],[],[rP L own mark]⟩))
theorem qGn (L:List (List Dat)) (own mark:Bool) (hl:L.length≤1000000):ERa (L.length+1) 0 (L.length:Int) L own mark=some (qKV L (L.length:Int) own mark).pick:=by
 have h:=qdu (qfB L) (L.length:Int) (fun n k=>ERa n k (L.length:Int) L own mark) (some (.exit 0,mk (xRa (.exit 0)) [.row 0,.v (I (L.length:Int))] ⟨[],[],[rP L own mark]⟩)) (some (.ret,mk (xRa .ret) [.v (Bo false)] ⟨[],[],[rP L own mark]⟩)) (fun n k hk=>?_) (fun n k hk=>?_) L.length 0 (by decide) (by omega)
 ·refine h.trans ?_
  unfold qKV
  cases qbP (qfB L) L.length 0<;>rfl
 ·refine (qxO k (L.length:Int) L own mark n).trans ?_
  rw [decide_eq_false hk]
  rfl
 ·refine (qxO k (L.length:Int) L own mark n).trans ?_
  rw [decide_eq_true hk.1,decide_eq_true hk.2,qaw (n:=k+1) (by omega)]
  rfl
def GRa (vals:List SV) (m:Mem):Option (Bool×LT) :=
 match vals,m with
 | [.row 0,.v (.int .i64 nn),.v (.int .i64 i)],⟨[],[],[.live ⟨162,[.num .i64,.num .i64],L,own,mark⟩]⟩=>some (nn==(L.length:Int)&&(i==0&&Nat.ble L.length 1000000),qKV L nn own mark)
 | _,_=>none
def ΛRa:qao:=fun _ st=>qkN 0 1 kRa GRa st
theorem qvL (z:Base) (z1:z.L.length=0) (z2:z.U.length=1):qas ΛRa Tryz.prog z qxb:=by
 refine qa5 (Λ:=L0) (kx:=xRa) qIq mixed z1 z2 (fun b hb st t h=>by cases h) (G:=GRa) (fun _=>rfl) ?_
 intro vals m t h
 unfold GRa at h
 split at h
 ·rename_i nn i L own mark
  obtain ⟨h1,rfl⟩:=qac h
  simp only [Bool.and_eq_true,beq_iff_eq] at h1
  obtain ⟨rfl,rfl,hl⟩:=h1
  exact ⟨L.length+1,qGn L own mark (Nat.le_of_ble_eq_true hl)⟩
 ·cases h
def qyt:Code:=qaH (Tryz.f231.body.getD .skip) 1
def qys:Code:=qaH qyt 0
def kRc:List Bool:=qam 100 [0,3,5,6]
def xRc (e:Ex):List Bool:=match e with
 | .exit _=>qam 100 [0,3,5]
 | .ret=>qam 100 [2]
 | .normal=>qam 100 [0,3,5,6]
def KRc (e:Ex) (st:St):Option (Ex×St):=some (e,qav 0 1 (xRc e) st)
theorem qxM (i:Int) (k:Int) (nn:Int) (L:List (List Dat)) (own:Bool) (mark:Bool) (n:Nat):qaj ΓMr Tryz.prog L0 (qav 0 1 kRc) qys (n+1) (mk kRc [.row 0,.v (I nn),.v (I i),.v (I k)] ⟨[],[],[.live ⟨162,[.num .i64,.num .i64],L,own,mark⟩]⟩) KRc =
 (bif decide (k<nn) then (bif decide ((0:Int)≤i)&&decide (i<(L.length:Int)) then (bif atG L i then (bif decide ((0:Int)≤k)&&decide (k<(L.length:Int)) then (bif atG L k then (bif (pX L i)==(pX L k)&&((pY L i)==(pY L k)&&true) then some (.ret,mk (xRc .ret) [.v (Bo false)] ⟨[],[],[.live ⟨162,[.num .i64,.num .i64],L,own,mark⟩]⟩) else (bif k==wI (i+(1:Int)) then (bif onB (pX L (nx L k)) (pY L (nx L k)) (pX L i) (pY L i) (pX L (nx L i)) (pY L (nx L i)) then some (.ret,mk (xRc .ret) [.v (Bo false)] ⟨[],[],[.live ⟨162,[.num .i64,.num .i64],L,own,mark⟩]⟩) else (bif onB (pX L i) (pY L i) (pX L k) (pY L k) (pX L (nx L k)) (pY L (nx L k)) then some (.ret,mk (xRc .ret) [.v (Bo false)] ⟨[],[],[.live ⟨162,[.num .i64,.num .i64],L,own,mark⟩]⟩) else qaj ΓMr Tryz.prog L0 (qav 0 1 kRc) qys n (mk kRc [.row 0,.v (I nn),.v (I i),.v (I (wI (k+(1:Int))))] ⟨[],[],[.live ⟨162,[.num .i64,.num .i64],L,own,mark⟩]⟩) KRc)) else (bif i==(0:Int) then (bif k==wI (nn - (1:Int)) then (bif onB (pX L k) (pY L k) (pX L i) (pY L i) (pX L (nx L i)) (pY L (nx L i)) then some (.ret,mk (xRc .ret) [.v (Bo false)] ⟨[],[],[.live ⟨162,[.num .i64,.num .i64],L,own,mark⟩]⟩) else (bif onB (pX L (nx L i)) (pY L (nx L i)) (pX L k) (pY L k) (pX L (nx L k)) (pY L (nx L k)) then some (.ret,mk (xRc .ret) [.v (Bo false)] ⟨[],[],[.live ⟨162,[.num .i64,.num .i64],L,own,mark⟩]⟩) else qaj ΓMr Tryz.prog L0 (qav 0 1 kRc) qys n (mk kRc [.row 0,.v (I nn),.v (I i),.v (I (wI (k+(1:Int))))] ⟨[],[],[.live ⟨162,[.num .i64,.num .i64],L,own,mark⟩]⟩) KRc)) else (bif qcb (pX L i) (pY L i) (pX L (nx L i)) (pY L (nx L i)) (pX L k) (pY L k) (pX L (nx L k)) (pY L (nx L k)) then some (.ret,mk (xRc .ret) [.v (Bo false)] ⟨[],[],[.live ⟨162,[.num .i64,.num .i64],L,own,mark⟩]⟩) else qaj ΓMr Tryz.prog L0 (qav 0 1 kRc) qys n (mk kRc [.row 0,.v (I nn),.v (I i),.v (I (wI (k+(1:Int))))] ⟨[],[],[.live ⟨162,[.num .i64,.num .i64],L,own,mark⟩]⟩) KRc)) else (bif qcb (pX L i) (pY L i) (pX L (nx L i)) (pY L (nx L i)) (pX L k) (pY L k) (pX L (nx L k)) (pY L (nx L k)) then some (.ret,mk (xRc .ret) [.v (Bo false)] ⟨[],[],[.live ⟨162,[.num .i64,.num .i64],L,own,mark⟩]⟩) else qaj ΓMr Tryz.prog L0 (qav 0 1 kRc) qys n (mk kRc [.row 0,.v (I nn),.v (I i),.v (I (wI (k+(1:Int))))] ⟨[],[],[.live ⟨162,[.num .i64,.num .i64],L,own,mark⟩]⟩) KRc)))) else none) else none) else none) else none) else some ((.exit 4),mk (xRc (.exit 4)) [.row 0,.v (I nn),.v (I i)] ⟨[],[],[.live ⟨162,[.num .i64,.num .i64],L,own,mark⟩]⟩)):=by kernel_rfl
def ERc (n:Nat) (i:Int) (k:Int) (nn:Int) (L:List (List Dat)) (own:Bool) (mark:Bool):Option (Ex×St) :=
 qaj ΓMr Tryz.prog L0 (qav 0 1 kRc) qys n (mk kRc [.row 0,.v (I nn),.v (I i),.v (I k)] ⟨[],[],[.live ⟨162,[.num .i64,.num .i64],L,own,mark⟩]⟩) KRc
def rcB (L:List (List Dat)) (i k:Int):Bool:=eqP L i k||bif k==i+1 then onB (pX L (nx L k)) (pY L (nx L k)) (pX L i) (pY L i) (pX L (nx L i)) (pY L (nx L i))||onB (pX L i) (pY L i) (pX L k) (pY L k) (pX L (nx L k)) (pY L (nx L k))
 else bif i==0&&k==(L.length:Int) - 1 then onB (pX L k) (pY L k) (pX L i) (pY L i) (pX L (nx L i)) (pY L (nx L i))||onB (pX L (nx L i)) (pY L (nx L i)) (pX L k) (pY L k) (pX L (nx L k)) (pY L (nx L k))
 else qcb (pX L i) (pY L i) (pX L (nx L i)) (pY L (nx L i)) (pX L k) (pY L k) (pX L (nx L k)) (pY L (nx L k))
def rwB (L:List (List Dat)) (i:Int):Bool:=qbP (rcB L i) ((L.length:Int) - (i+1)).toNat (i+1)
def qKT (L:List (List Dat)) (i nn:Int) (own mark:Bool):LT:=.br (rwB L i) (.leaf .ret (mk (xRc .ret) [.v (Bo false)] ⟨[],[],[rP L own mark]⟩)) (.leaf (.exit 4) (mk (xRc (.exit 4)) [.row 0,.v (I nn),.v (I i)] ⟨[],[],[rP L own mark]⟩))
theorem qGl (i:Int) (L:List (List Dat)) (own mark:Bool) (hi:atG L i=true):ERc (((L.length:Int) - (i+1)).toNat+1) i (i+1) (L.length:Int) L own mark=some (qKT L i (L.length:Int) own mark).pick:=by
 have a:=qbE.1 hi
 have h:=qdu (rcB L i) (L.length:Int) (fun n k=>ERc n i k (L.length:Int) L own mark) (some (.exit 4,mk (xRc (.exit 4)) [.row 0,.v (I (L.length:Int)),.v (I i)] ⟨[],[],[rP L own mark]⟩)) (some (.ret,mk (xRc .ret) [.v (Bo false)] ⟨[],[],[rP L own mark]⟩)) (fun n k hk=>?_) (fun n k hk=>?_) ((L.length:Int) - (i+1)).toNat (i+1) (by omega) (by omega)
 ·refine h.trans ?_
  unfold qKT rwB
  cases qbP (rcB L i) ((L.length:Int) - (i+1)).toNat (i+1)<;>rfl
 ·refine (qxM i k (L.length:Int) L own mark n).trans ?_
  rw [decide_eq_false hk]
  rfl
 ·refine (qxM i k (L.length:Int) L own mark n).trans ?_
  have b:atG L k=true:=qbE.2 (by omega)
  rw [decide_eq_true hk.1,decide_eq_true hk.2,decide_eq_true a.1,decide_eq_true a.2.1,hi,b,qaw (n:=k+1) (by omega),qaw (n:=i+1) (by omega),qaw (n:=(L.length:Int) - 1) (by omega)]
  show (bif eqP L i k then _ else _)=_
  unfold rcB
  cases eqP L i k
  ·cases k==i+1
   ·cases i==0
    ·cases qcb (pX L i) (pY L i) (pX L (nx L i)) (pY L (nx L i)) (pX L k) (pY L k) (pX L (nx L k)) (pY L (nx L k))<;>rfl
    ·cases k==(L.length:Int) - 1
     ·cases qcb (pX L i) (pY L i) (pX L (nx L i)) (pY L (nx L i)) (pX L k) (pY L k) (pX L (nx L k)) (pY L (nx L k))<;>rfl
     ·cases onB (pX L k) (pY L k) (pX L i) (pY L i) (pX L (nx L i)) (pY L (nx L i))<;>cases onB (pX L (nx L i)) (pY L (nx L i)) (pX L k) (pY L k) (pX L (nx L k)) (pY L (nx L k))<;>rfl
   ·cases onB (pX L (nx L k)) (pY L (nx L k)) (pX L i) (pY L i) (pX L (nx L i)) (pY L (nx L i))<;>cases onB (pX L i) (pY L i) (pX L k) (pY L k) (pX L (nx L k)) (pY L (nx L k))<;>rfl
  ·rfl
def GRc (vals:List SV) (m:Mem):Option (Bool×LT) :=
 match vals,m with
 | [.row 0,.v (.int .i64 nn),.v (.int .i64 i),.v (.int .i64 k)],⟨[],[],[.live ⟨162,[.num .i64,.num .i64],L,own,mark⟩]⟩=>some (nn==(L.length:Int)&&(k==i+1&&atG L i),qKT L i nn own mark)
 | _,_=>none
def ΛRc:qao:=fun _ st=>qkN 0 1 kRc GRc st
theorem qvJ (z:Base) (z1:z.L.length=0) (z2:z.U.length=1):qas ΛRc Tryz.prog z qys:=by
 refine qa5 (Λ:=L0) (kx:=xRc) qIq mixed z1 z2 (fun b hb st t h=>by cases h) (G:=GRc) (fun _=>rfl) ?_
 intro vals m t h
 unfold GRc at h
 split at h
 ·rename_i nn i k L own mark
  obtain ⟨h1,rfl⟩:=qac h
  simp only [Bool.and_eq_true,beq_iff_eq] at h1
  obtain ⟨rfl,rfl,hi⟩:=h1
  exact ⟨_,qGl i L own mark hi⟩
 ·cases h
theorem qz4:qak qyt=[qys]:=by kernel_rfl
def kRb:List Bool:=qam 100 [0,3,5]
def xRb (e:Ex):List Bool:=match e with
 | .exit _=>qam 100 []
 | .ret=>qam 100 [2]
 | .normal=>qam 100 [0,3,5]
def KRb (e:Ex) (st:St):Option (Ex×St):=some (e,qav 0 1 (xRb e) st)
theorem qxN (i:Int) (nn:Int) (L:List (List Dat)) (own:Bool) (mark:Bool) (n:Nat):qaj ΓMr Tryz.prog ΛRc (qav 0 1 kRb) qyt (n+1) (mk kRb [.row 0,.v (I nn),.v (I i)] ⟨[],[],[.live ⟨162,[.num .i64,.num .i64],L,own,mark⟩]⟩) KRb =
 (bif decide (i<nn) then (bif nn==(L.length:Int)&&(wI (i+(1:Int))==i+(1:Int)&&atG L i) then (bif rwB L i then some (.ret,mk (xRb .ret) [.v (Bo false)] ⟨[],[],[.live ⟨162,[.num .i64,.num .i64],L,own,mark⟩]⟩) else qaj ΓMr Tryz.prog ΛRc (qav 0 1 kRb) qyt n (mk kRb [.row 0,.v (I nn),.v (I (wI (i+(1:Int))))] ⟨[],[],[.live ⟨162,[.num .i64,.num .i64],L,own,mark⟩]⟩) KRb) else none) else some ((.exit 2),mk (xRb (.exit 2)) [] ⟨[],[],[.live ⟨162,[.num .i64,.num .i64],L,own,mark⟩]⟩)):=by kernel_rfl
def ERb (n:Nat) (i:Int) (nn:Int) (L:List (List Dat)) (own:Bool) (mark:Bool):Option (Ex×St) :=
 qaj ΓMr Tryz.prog ΛRc (qav 0 1 kRb) qyt n (mk kRb [.row 0,.v (I nn),.v (I i)] ⟨[],[],[.live ⟨162,[.num .i64,.num .i64],L,own,mark⟩]⟩) KRb
def qKU (L:List (List Dat)) (own mark:Bool):LT:=.br (qbP (rwB L) L.length 0) (.leaf .ret (mk (xRb .ret) [.v (Bo false)] ⟨[],[],[rP L own mark]⟩)) (.leaf (.exit 2) (mk (xRb (.exit 2)) [] ⟨[],[],[rP L own mark]⟩))
theorem qGm (L:List (List Dat)) (own mark:Bool) (hl:L.length≤1000000):ERb (L.length+1) 0 (L.length:Int) L own mark=some (qKU L own mark).pick:=by
 have h:=qdu (rwB L) (L.length:Int) (fun n k=>ERb n k (L.length:Int) L own mark) (some (.exit 2,mk (xRb (.exit 2)) [] ⟨[],[],[rP L own mark]⟩)) (some (.ret,mk (xRb .ret) [.v (Bo false)] ⟨[],[],[rP L own mark]⟩)) (fun n k hk=>?_) (fun n k hk=>?_) L.length 0 (by omega) (by omega)
 ·refine h.trans ?_
  unfold qKU
  cases qbP (rwB L) L.length 0<;>rfl
 ·refine (qxN k (L.length:Int) L own mark n).trans ?_
  rw [decide_eq_false hk]
  rfl
 ·refine (qxN k (L.length:Int) L own mark n).trans ?_
  have b:atG L k=true:=qbE.2 (by omega)
  rw [decide_eq_true hk.2,b,qaw (n:=k+1) (by omega),beq_self_eq_true,beq_self_eq_true]
  show (bif rwB L k then _ else _)=_
  cases rwB L k<;>rfl
def GRb (vals:List SV) (m:Mem):Option (Bool×LT) :=
 match vals,m with
 | [.row 0,.v (.int .i64 nn),.v (.int .i64 i)],⟨[],[],[.live ⟨162,[.num .i64,.num .i64],L,own,mark⟩]⟩=>some (nn==(L.length:Int)&&(i==0&&Nat.ble L.length 1000000),qKU L own mark)
 | _,_=>none
def ΛRb:qao:=fun _ st=>qkN 0 1 kRb GRb st
theorem qvK (z:Base) (z1:z.L.length=0) (z2:z.U.length=1):qas ΛRb Tryz.prog z qyt:=by
 refine qa5 (Λ:=ΛRc) (kx:=xRb) qIq mixed z1 z2 (qax qz4 (qvJ z z1 z2)) (G:=GRb) (fun _=>rfl) ?_
 intro vals m t h
 unfold GRb at h
 split at h
 ·rename_i nn i L own mark
  obtain ⟨h1,rfl⟩:=qac h
  simp only [Bool.and_eq_true,beq_iff_eq] at h1
  obtain ⟨rfl,rfl,hl⟩:=h1
  exact ⟨_,qGm L own mark (Nat.le_of_ble_eq_true hl)⟩
 ·cases h
theorem qvw:qak (Tryz.f231.body.getD .skip)=[qxb,qyt]:=by kernel_rfl
theorem qJz:Nat.beq (qc4 qxb) (qc4 qxb)=true:=by kernel_rfl
theorem qJy:Nat.beq (qc4 qyt) (qc4 qxb)=false:=by kernel_rfl
def qkl (t:Code) (Λ1 Λ2:qao):qao:=fun b st=>match Nat.beq (qc4 b) (qc4 t) with
 | true=>Λ1 b st
 | false=>Λ2 b st
theorem qCm {t:Code} {Λ1 Λ2:qao} {b:Code} {z:Base} (h:Nat.beq (qc4 b) (qc4 t)=true) (h1:qas Λ1 Tryz.prog z b):qas (qkl t Λ1 Λ2) Tryz.prog z b:=fun st x hx=>h1 st x (by unfold qkl at hx;rw [h] at hx;exact hx)
theorem qCl {t:Code} {Λ1 Λ2:qao} {b:Code} {z:Base} (h:Nat.beq (qc4 b) (qc4 t)=false) (h1:qas Λ2 Tryz.prog z b):qas (qkl t Λ1 Λ2) Tryz.prog z b:=fun st x hx=>h1 st x (by unfold qkl at hx;rw [h] at hx;exact hx)
theorem qtJ {Λ:qao} {c b0 b1:Code} {z:Base} (h:qak c=[b0,b1]) (h0:qas Λ Tryz.prog z b0) (h1:qas Λ Tryz.prog z b1):∀ b∈qak c,qas Λ Tryz.prog z b:=by
 intro b hb
 rw [h] at hb
 simp only [List.mem_cons,List.not_mem_nil,or_false] at hb
 rcases hb with rfl|rfl
 ·exact h0
 ·exact h1
def ΛRab:qao:=qkl qxb ΛRa ΛRb
def qEf (L:List (List Dat)):Bool:=!(decide ((L.length:Int)<3)||decide ((L.length:Int)>8))&&(!qbP (qfB L) L.length 0&&!qbP (rwB L) L.length 0)
theorem qET (L:List (List Dat)) (own:Bool) (mark:Bool):runG ΓMr ΛRab Tryz.prog Tryz.f231 [.row 0] ⟨[],[],[rP L own mark]⟩ =
 (bif decide ((L.length:Int)<(3:Int)) then some (.v (Bo false),⟨[],[],[.live ⟨162,[.num .i64,.num .i64],L,own,mark⟩]⟩) else (bif decide ((L.length:Int)>(8:Int)) then some (.v (Bo false),⟨[],[],[.live ⟨162,[.num .i64,.num .i64],L,own,mark⟩]⟩) else (bif (L.length:Int)==(L.length:Int)&&(true&&L.length.ble (1000000)) then (bif qbP (qfB L) L.length (0:Int) then some (.v (Bo false),⟨[],[],[.live ⟨162,[.num .i64,.num .i64],L,own,mark⟩]⟩) else (bif (L.length:Int)==(L.length:Int)&&(true&&L.length.ble (1000000)) then (bif qbP (rwB L) L.length (0:Int) then some (.v (Bo false),⟨[],[],[.live ⟨162,[.num .i64,.num .i64],L,own,mark⟩]⟩) else some (.v (Bo true),⟨[],[],[.live ⟨162,[.num .i64,.num .i64],L,own,mark⟩]⟩)) else none)) else none))):=by kernel_rfl
def qLz (xs:List SV) (m:Mem):Option (Bool×Value) :=
 match xs,m with
 | [.row 0],⟨[],[],[.live ⟨162,[.num .i64,.num .i64],L,own,mark⟩]⟩=>some (Nat.ble L.length 1000000,Bo (qEf L))
 | _,_=>none
theorem qA3:CtR 231 qLz:=by
 intro xs m r h
 unfold qLz at h
 split at h
 ·rename_i L own mark
  obtain ⟨h1,rfl⟩:=qac h
  refine qal (Λ:=ΛRab) qIq Tryz.func231 rfl (fun z z1 z2=>qtJ qvw (qCm qJz (qvL z z1 z2)) (qCl qJy (qvK z z1 z2))) ?_
  refine (qET L own mark).trans ?_
  rw [h1,beq_self_eq_true]
  unfold qEf
  cases decide ((L.length:Int)<3)<;>cases decide ((L.length:Int)>8)<;>cases qbP (qfB L) L.length 0<;>cases qbP (rwB L) L.length 0<;>rfl
 ·cases h
def ΓRs1:Orc:=qay 231 qLz ΓMr
theorem qCU:ΓRs1.Ok Tryz.prog:=qai qIq qA3
def qHN:Code:=qaH (Tryz.f170.body.getD .skip) 0
def kRd:List Bool:=qam 47 [0,3]
def xRd (e:Ex):List Bool:=match e with
 | .exit _=>qam 47 [0]
 | .ret=>qam 47 [2]
 | .normal=>qam 47 [0,3]
def KRd (e:Ex) (st:St):Option (Ex×St):=some (e,qav 0 1 (xRd e) st)
theorem qpE (i:Int) (L:List (List Dat)) (own:Bool) (mark:Bool) (n:Nat):qaj ΓRs1 Tryz.prog L0 (qav 0 1 kRd) qHN (n+1) (mk kRd [.row 0,.v (I i)] ⟨[],[],[.live ⟨162,[.num .i64,.num .i64],L,own,mark⟩]⟩) KRd =
 (bif decide (i<(L.length:Int)) then (bif decide ((L.length:Int)≤(8:Int)) then (bif decide ((0:Int)≤i)&&decide (i<(L.length:Int)) then (bif decide ((pX L i)<(-1073741824:Int)) then some (.ret,mk (xRd .ret) [.v (Bo false)] ⟨[],[],[.live ⟨162,[.num .i64,.num .i64],L,own,mark⟩]⟩) else (bif decide ((0:Int)≤i)&&decide (i<(L.length:Int)) then (bif decide ((pX L i)>(1073741824:Int)) then some (.ret,mk (xRd .ret) [.v (Bo false)] ⟨[],[],[.live ⟨162,[.num .i64,.num .i64],L,own,mark⟩]⟩) else (bif decide ((0:Int)≤i)&&decide (i<(L.length:Int)) then (bif decide ((pY L i)<(-1073741824:Int)) then some (.ret,mk (xRd .ret) [.v (Bo false)] ⟨[],[],[.live ⟨162,[.num .i64,.num .i64],L,own,mark⟩]⟩) else (bif decide ((0:Int)≤i)&&decide (i<(L.length:Int)) then (bif decide ((pY L i)>(1073741824:Int)) then some (.ret,mk (xRd .ret) [.v (Bo false)] ⟨[],[],[.live ⟨162,[.num .i64,.num .i64],L,own,mark⟩]⟩) else qaj ΓRs1 Tryz.prog L0 (qav 0 1 kRd) qHN n (mk kRd [.row 0,.v (I (wI (i+(1:Int))))] ⟨[],[],[.live ⟨162,[.num .i64,.num .i64],L,own,mark⟩]⟩) KRd) else none)) else none)) else none)) else none) else some ((.exit 0),mk (xRd (.exit 0)) [.row 0] ⟨[],[],[.live ⟨162,[.num .i64,.num .i64],L,own,mark⟩]⟩)) else some ((.exit 0),mk (xRd (.exit 0)) [.row 0] ⟨[],[],[.live ⟨162,[.num .i64,.num .i64],L,own,mark⟩]⟩)):=by kernel_rfl
def ERd (n:Nat) (i:Int) (L:List (List Dat)) (own:Bool) (mark:Bool):Option (Ex×St) :=
 qaj ΓRs1 Tryz.prog L0 (qav 0 1 kRd) qHN n (mk kRd [.row 0,.v (I i)] ⟨[],[],[.live ⟨162,[.num .i64,.num .i64],L,own,mark⟩]⟩) KRd
def qIL (L:List (List Dat)) (own mark:Bool):LT:=.br (decide ((L.length:Int)≤8)&&qbP (qgK L) L.length 0) (.leaf .ret (mk (xRd .ret) [.v (Bo false)] ⟨[],[],[rP L own mark]⟩)) (.leaf (.exit 0) (mk (xRd (.exit 0)) [.row 0] ⟨[],[],[rP L own mark]⟩))
theorem qGk (L:List (List Dat)) (own mark:Bool) (hl:L.length≤1000000):ERd (L.length+1) 0 L own mark=some (qIL L own mark).pick:=by
 by_cases h8:(L.length:Int)≤8
 ·have h:=qdu (qgK L) (L.length:Int) (fun n k=>ERd n k L own mark) (some (.exit 0,mk (xRd (.exit 0)) [.row 0] ⟨[],[],[rP L own mark]⟩)) (some (.ret,mk (xRd .ret) [.v (Bo false)] ⟨[],[],[rP L own mark]⟩)) (fun n k hk=>?_) (fun n k hk=>?_) L.length 0 (by omega) (by omega)
  ·refine h.trans ?_
   unfold qIL
   rw [decide_eq_true h8]
   cases qbP (qgK L) L.length 0<;>rfl
  ·refine (qpE k L own mark n).trans ?_
   rw [decide_eq_false hk]
   rfl
  ·refine (qpE k L own mark n).trans ?_
   rw [decide_eq_true hk.2,decide_eq_true hk.1,decide_eq_true h8,qaw (n:=k+1) (by omega)]
   unfold qgK qpg
   cases decide (pX L k< -1073741824)<;>cases decide (pX L k>1073741824)<;>cases decide (pY L k< -1073741824)<;>cases decide (pY L k>1073741824)<;>rfl
 ·refine (qpE 0 L own mark L.length).trans ?_
  unfold qIL
  rw [decide_eq_false h8]
  cases decide ((0:Int)<(L.length:Int))<;>rfl
def GRd (vals:List SV) (m:Mem):Option (Bool×LT) :=
 match vals,m with
 | [.row 0,.v (.int .i64 i)],⟨[],[],[.live ⟨162,[.num .i64,.num .i64],L,own,mark⟩]⟩=>some (i==0&&Nat.ble L.length 1000000,qIL L own mark)
 | _,_=>none
def ΛRd:qao:=fun _ st=>qkN 0 1 kRd GRd st
theorem qvI (z:Base) (z1:z.L.length=0) (z2:z.U.length=1):qas ΛRd Tryz.prog z qHN:=by
 refine qa5 (Λ:=L0) (kx:=xRd) qCU mixed z1 z2 (fun b hb st t h=>by cases h) (G:=GRd) (fun _=>rfl) ?_
 intro vals m t h
 unfold GRd at h
 split at h
 ·rename_i i L own mark
  obtain ⟨h1,rfl⟩:=qac h
  simp only [Bool.and_eq_true,beq_iff_eq] at h1
  obtain ⟨rfl,hl⟩:=h1
  exact ⟨_,qGk L own mark (Nat.le_of_ble_eq_true hl)⟩
 ·cases h
theorem qz3:qak (Tryz.f170.body.getD .skip)=[qHN]:=by kernel_rfl
def qtb (L:List (List Dat)):Bool:=!(decide ((L.length:Int)≤8)&&qbP (qgK L) L.length 0)&&qEf L
theorem qE1 (L:List (List Dat)) (own:Bool) (mark:Bool):runG ΓRs1 ΛRd Tryz.prog Tryz.f170 [.row 0] ⟨[],[],[rP L own mark]⟩ =
 (bif true&&L.length.ble (1000000) then (bif decide ((L.length:Int)≤(8:Int))&&qbP (qgK L) L.length (0:Int) then some (.v (Bo false),⟨[],[],[.live ⟨162,[.num .i64,.num .i64],L,own,mark⟩]⟩) else (bif L.length.ble (1000000) then some (.v (Bo (qEf L)),⟨[],[],[.live ⟨162,[.num .i64,.num .i64],L,own,mark⟩]⟩) else none)) else none):=by kernel_rfl
def qLJ (xs:List SV) (m:Mem):Option (Bool×Value) :=
 match xs,m with
 | [.row 0],⟨[],[],[.live ⟨162,[.num .i64,.num .i64],L,own,mark⟩]⟩=>some (Nat.ble L.length 1000000,Bo (qtb L))
 | _,_=>none
theorem qBb:CtR 170 qLJ:=by
 intro xs m r h
 unfold qLJ at h
 split at h
 ·rename_i L own mark
  obtain ⟨h1,rfl⟩:=qac h
  refine qal (Λ:=ΛRd) qCU Tryz.func170 rfl (fun z z1 z2=>qax qz3 (qvI z z1 z2)) ?_
  refine (qE1 L own mark).trans ?_
  rw [h1]
  unfold qtb
  cases decide ((L.length:Int)≤8)<;>cases qbP (qgK L) L.length 0<;>cases qEf L<;>rfl
 ·cases h
def ΓRs2:Orc:=qay 170 qLJ ΓRs1
theorem qNo:ΓRs2.Ok Tryz.prog:=qai qCU qBb
def foF {σ:Type} (f:Int→σ→σ):Nat→Int→σ→σ
 | 0,_,s=>s
 | m+1,k,s=>foF f m (k+1) (f k s)
theorem qwI {α σ:Type} (p:Int→Bool) (f:Int→σ→σ) (I:Int→σ→Prop) (N:Int) (E:Nat→Int→σ→Option α) (X:σ→Option α) (Y:Option α) (he:∀ n k s,¬ k<N→I k s→E (n+1) k s=X s) (hI:∀ k s,0≤k∧k<N→I k s→I (k+1) (f k s)) (hr:∀ n k s,0≤k∧k<N→I k s→E (n+1) k s=bif p k then Y else E n (k+1) (f k s)) :
  ∀ (m:Nat) (k:Int) (s:σ),0≤k→k+m=N→I k s→E (m+1) k s=bif qbP p m k then Y else X (foF f m k s):=by
 intro m
 induction m with
 | zero =>
  intro k s h0 h1 hi
  exact he 0 k s (by omega) hi
 | succ m ih =>
  intro k s h0 h1 hi
  rw [hr (m+1) k s (by omega) hi]
  show _=bif p k||qbP p m (k+1) then Y else X (foF f m (k+1) (f k s))
  cases p k
  ·exact ih (k+1) (f k s) (by omega) (by omega) (hI k s (by omega) hi)
  ·rfl
theorem qhy:∀ (m:Nat) (k:Int),qbP (fun _=>false) m k=false
 | 0,_=>rfl
 | m+1,k=>qhy m (k+1)
theorem qCc {α σ:Type} (f:Int→σ→σ) (I:Int→σ→Prop) (N:Int) (E:Nat→Int→σ→Option α) (X:σ→Option α) (he:∀ n k s,¬ k<N→I k s→E (n+1) k s=X s) (hI:∀ k s,0≤k∧k<N→I k s→I (k+1) (f k s)) (hr:∀ n k s,0≤k∧k<N→I k s→E (n+1) k s=E n (k+1) (f k s))
  (m:Nat) (k:Int) (s:σ) (h0:0≤k) (h1:k+m=N) (hi:I k s):E (m+1) k s=X (foF f m k s):=by
 have:=qwI (fun _=>false) f I N E X none he hI (fun n k s hk hi=>hr n k s hk hi) m k s h0 h1 hi
 rwa [qhy] at this
def ΓRs:Orc:=ΓRs2
theorem OkRs:ΓRs.Ok Tryz.prog:=qNo
end Go.Proofs.YtainfdcfkgemhaaGreat
namespace Go.Proofs.YtainfdcfkgemhaaGreat
open Go Go.Proofs Go.Sx
set_option linter.unusedVariables false
def ΓRg1:Orc:=ΓRs
theorem qCW:ΓRg1.Ok Tryz.prog:=OkRs
def qHM:Code:=qaH (Tryz.f173.body.getD .skip) 0
def kRh:List Bool:=qam 33 [1,2,15,16,17]
def xRh (e:Ex):List Bool:=match e with
 | .exit _=>qam 33 [1,2]
 | .ret=>qam 33 [4]
 | .normal=>qam 33 [1,2,15,16,17]
def KRh (e:Ex) (st:St):Option (Ex×St):=some (e,qav 0 1 (xRh e) st)
theorem qxL (a:Int) (b:Int) (c:Int) (d:Int) (k:Int) (nn:Int) (L:List (List Dat)) (own:Bool) (mark:Bool) (n:Nat):qaj ΓRg1 Tryz.prog L0 (qav 0 1 kRh) qHM (n+1) (mk kRh [.row 0,.ptr 0 0,.row 0,.v (I nn),.v (I k)] ⟨[[.v (I a),.v (I b),.v (I c),.v (I d)]],[true],[rP L own mark]⟩) KRh =
 (bif decide (k<nn) then (bif decide ((0:Int)≤k)&&decide (k<(L.length:Int)) then (bif atG L k then (bif mtB a b c d (pX L k) (pY L k) (pX L (nx L k)) (pY L (nx L k)) then some (.ret,mk (xRh .ret) [.v (I 0)] ⟨[],[],[.live ⟨162,[.num .i64,.num .i64],L,own,mark⟩]⟩) else qaj ΓRg1 Tryz.prog L0 (qav 0 1 kRh) qHM n (mk kRh [.row 0,.ptr 0 0,.row 0,.v (I nn),.v (I (wI (k+(1:Int))))] ⟨[[.v (I a),.v (I b),.v (I c),.v (I d)]],[true],[.live ⟨162,[.num .i64,.num .i64],L,own,mark⟩]⟩) KRh) else none) else none) else some ((.exit 0),mk (xRh (.exit 0)) [.row 0,.ptr 0 0] ⟨[[.v (I a),.v (I b),.v (I c),.v (I d)]],[true],[.live ⟨162,[.num .i64,.num .i64],L,own,mark⟩]⟩)):=by kernel_rfl
def ERh (n:Nat) (a:Int) (b:Int) (c:Int) (d:Int) (k:Int) (nn:Int) (L:List (List Dat)) (own:Bool) (mark:Bool):Option (Ex×St) :=
 qaj ΓRg1 Tryz.prog L0 (qav 0 1 kRh) qHM n (mk kRh [.row 0,.ptr 0 0,.row 0,.v (I nn),.v (I k)] ⟨[[.v (I a),.v (I b),.v (I c),.v (I d)]],[true],[rP L own mark]⟩) KRh
def qxT (a b c d:Int) (L:List (List Dat)) (k:Int):Bool:=mtB a b c d (pX L k) (pY L k) (pX L (nx L k)) (pY L (nx L k))
def qKS (a b c d:Int) (L:List (List Dat)) (own mark:Bool):LT:=.br (qbP (qxT a b c d L) L.length 0) (.leaf .ret (mk (xRh .ret) [.v (I 0)] ⟨[],[],[rP L own mark]⟩)) (.leaf (.exit 0) (mk (xRh (.exit 0)) [.row 0,.ptr 0 0] ⟨[[.v (I a),.v (I b),.v (I c),.v (I d)]],[true],[rP L own mark]⟩))
theorem qGj (a b c d:Int) (L:List (List Dat)) (own mark:Bool) (hl:L.length≤1000000):ERh (L.length+1) a b c d 0 (L.length:Int) L own mark=some (qKS a b c d L own mark).pick:=by
 have h:=qdu (qxT a b c d L) (L.length:Int) (fun n k=>ERh n a b c d k (L.length:Int) L own mark) (some (.exit 0,mk (xRh (.exit 0)) [.row 0,.ptr 0 0] ⟨[[.v (I a),.v (I b),.v (I c),.v (I d)]],[true],[rP L own mark]⟩)) (some (.ret,mk (xRh .ret) [.v (I 0)] ⟨[],[],[rP L own mark]⟩)) (fun n k hk=>?_) (fun n k hk=>?_) L.length 0 (by omega) (by omega)
 ·refine h.trans ?_
  unfold qKS
  cases qbP (qxT a b c d L) L.length 0<;>rfl
 ·refine (qxL a b c d k (L.length:Int) L own mark n).trans ?_
  rw [decide_eq_false hk]
  rfl
 ·refine (qxL a b c d k (L.length:Int) L own mark n).trans ?_
  have e:atG L k=true:=qbE.2 (by omega)
  have n1:=qvp e
  rw [decide_eq_true hk.2,decide_eq_true hk.1,e,qaw (n:=k+1) (by omega)]
  show (bif qxT a b c d L k then _ else _)=_
  cases qxT a b c d L k<;>rfl
def GRh (vals:List SV) (m:Mem):Option (Bool×LT) :=
 match vals,m with
 | [.row 0,.ptr 0 0,.row 0,.v (.int .i64 nn),.v (.int .i64 k)],⟨[[.v (.int .i64 a),.v (.int .i64 b),.v (.int .i64 c),.v (.int .i64 d)]],[true],[.live ⟨162,[.num .i64,.num .i64],L,own,mark⟩]⟩=>some (nn==(L.length:Int)&&(k==0&&Nat.ble L.length 1000000),qKS a b c d L own mark)
 | _,_=>none
def ΛRh:qao:=fun _ st=>qkN 0 1 kRh GRh st
theorem qvH (z:Base) (z1:z.L.length=0) (z2:z.U.length=1):qas ΛRh Tryz.prog z qHM:=by
 refine qa5 (Λ:=L0) (kx:=xRh) qCW mixed z1 z2 (fun b hb st t h=>by cases h) (G:=GRh) (fun _=>rfl) ?_
 intro vals m t h
 unfold GRh at h
 split at h
 ·rename_i nn k a b c d L own mark
  obtain ⟨h1,rfl⟩:=qac h
  simp only [Bool.and_eq_true,beq_iff_eq] at h1
  obtain ⟨rfl,rfl,hl⟩:=h1
  exact ⟨_,qGj a b c d L own mark (Nat.le_of_ble_eq_true hl)⟩
 ·cases h
theorem qz2:qak (Tryz.f173.body.getD .skip)=[qHM]:=by kernel_rfl
def qlc (a b c d:Int) (L:List (List Dat)):Int:=bif !boR a b c d then -1 else bif !qe0 L then -1 else bif qbP (qxT a b c d L) L.length 0 then 0 else qpI L a b
theorem qE4 (a:Int) (b:Int) (c:Int) (d:Int) (L:List (List Dat)) (own:Bool) (mark:Bool):runG ΓRg1 ΛRh Tryz.prog Tryz.f173 [.v (.agg #[I a,I b,I c,I d]),.row 0] ⟨[],[],[rP L own mark]⟩ =
 (bif !boR a b c d then some (.v (I (-1)),⟨[],[],[.live ⟨162,[.num .i64,.num .i64],L,own,mark⟩]⟩) else (bif L.length.ble (1000000) then (bif !qe0 L then some (.v (I (-1)),⟨[],[],[.live ⟨162,[.num .i64,.num .i64],L,own,mark⟩]⟩) else (bif (L.length:Int)==(L.length:Int)&&(true&&L.length.ble (1000000)) then (bif qbP (qxT a b c d L) L.length (0:Int) then some (.v (I 0),⟨[],[],[.live ⟨162,[.num .i64,.num .i64],L,own,mark⟩]⟩) else (bif L.length.ble (1000000) then some (.v (I (qpI L a b)),⟨[],[],[.live ⟨162,[.num .i64,.num .i64],L,own,mark⟩]⟩) else none)) else none)) else none)):=by kernel_rfl
def qLM (xs:List SV) (m:Mem):Option (Bool×Value) :=
 match xs,m with
 | [.v (.agg ⟨[.int .i64 a,.int .i64 b,.int .i64 c,.int .i64 d]⟩),.row 0],⟨[],[],[.live ⟨162,[.num .i64,.num .i64],L,own,mark⟩]⟩=>some (Nat.ble L.length 1000000,I (qlc a b c d L))
 | _,_=>none
theorem qBg:CtR 173 qLM:=by
 intro xs m r h
 unfold qLM at h
 split at h
 ·rename_i a b c d L own mark
  obtain ⟨h1,rfl⟩:=qac h
  refine qal (Λ:=ΛRh) qCW Tryz.func173 rfl (fun z z1 z2=>qax qz2 (qvH z z1 z2)) ?_
  refine (qE4 a b c d L own mark).trans ?_
  rw [h1,beq_self_eq_true]
  unfold qlc
  cases boR a b c d<;>cases qe0 L<;>cases qbP (qxT a b c d L) L.length 0<;>rfl
 ·cases h
def ΓRg2:Orc:=qay 173 qLM ΓRg1
theorem qNp:ΓRg2.Ok Tryz.prog:=qai qCW qBg
def ΓRg3:Orc:=ΓRg2
theorem qCV:ΓRg3.Ok Tryz.prog:=qNp
end Go.Proofs.YtainfdcfkgemhaaGreat
