/-
  What is known of this program: contracts of poly and of box over rows of places,and of the document's.
-/
import Derived.Test.YtagaiddomhpdmaaGreatYa
import Derived.Test.YtagaiddomhpdmaaGreatSx
set_option maxRecDepth 100000
namespace Go.Proofs.YtagaiddomhpdmaaGreat
open Go Go.Proofs Go.Sx
set_option linter.unusedVariables false
def pX (L:List (List Dat)) (k:Int):Int:=((L.getD k.toNat []).headD (Dat.n 0)).toI
def pY (L:List (List Dat)) (k:Int):Int:=((L.getD k.toNat []).tail.headD (Dat.n 0)).toI
def nx (L:List (List Dat)) (i:Int):Int:=(wI (i+1)).tmod (L.length:Int)
abbrev rP (L:List (List Dat)) (own mark:Bool):RowS:=.live ⟨151,[.num .i64,.num .i64],L,own,mark⟩
theorem runBhd (i:Int) (L:List (List Dat)) (own mark:Bool):runG ΓBo L0 Tryz.prog Tryz.f226 [.row 0,.v (I i)] ⟨[],[],[rP L own mark]⟩ =
    (bif (L.length:Int)==(0:Int) then none else (bif decide ((0:Int)≤nx L i)&&decide (nx L i<(L.length:Int)) then some (.v (.agg #[(I (pX L (nx L i))),(I (pY L (nx L i)))]),⟨[],[],[.live ⟨151,[.num .i64,.num .i64],L,own,mark⟩]⟩) else none)):=by kernel_rfl
theorem runEdg (i:Int) (L:List (List Dat)) (own mark:Bool):runG ΓBo L0 Tryz.prog Tryz.f273 [.row 0,.v (I i)] ⟨[],[],[rP L own mark]⟩ =
    (bif decide ((0:Int)≤i)&&decide (i<(L.length:Int)) then (bif (L.length:Int)==(0:Int) then none else (bif decide ((0:Int)≤nx L i)&&decide (nx L i<(L.length:Int)) then some (.v (.tuple #[(.agg #[(I (pX L i)),(I (pY L i))]),(.agg #[(I (pX L (nx L i))),(I (pY L (nx L i)))])]),⟨[],[],[.live ⟨151,[.num .i64,.num .i64],L,own,mark⟩]⟩) else none)) else none):=by kernel_rfl
def atG (L:List (List Dat)) (i:Int):Bool:=decide (0≤i)&&(decide (i<(L.length:Int))&&Nat.ble L.length 1000000)
theorem atG_iff {L:List (List Dat)} {i:Int}:atG L i=true↔0≤i∧i<(L.length:Int)∧L.length≤1000000:=by
  unfold atG
  simp only [Bool.and_eq_true,decide_eq_true_eq]
  exact ⟨fun ⟨a,b,c⟩=>⟨a,b,Nat.le_of_ble_eq_true c⟩,fun ⟨a,b,c⟩=>⟨a,b,Nat.ble_eq_true_of_le c⟩⟩
theorem nx_in {L:List (List Dat)} {i:Int} (h:atG L i=true):0≤nx L i∧nx L i<(L.length:Int):=by
  have h:=atG_iff.1 h
  unfold nx
  rw [wI_id (by omega),Int.tmod_eq_emod_of_nonneg (by omega)]
  exact ⟨Int.emod_nonneg _ (by omega),Int.emod_lt_of_pos _ (by omega)⟩
def gBhd (xs:List SV) (m:Mem):Option (Bool×Value) :=
  match xs,m with
  | [.row 0,.v (.int .i64 i)],⟨[],[],[.live ⟨151,[.num .i64,.num .i64],L,own,mark⟩]⟩=>some (atG L i,.agg #[I (pX L (nx L i)),I (pY L (nx L i))])
  | _,_=>none
theorem gBhd_ok:CtR 226 gBhd:=by
  intro xs m r h
  unfold gBhd at h
  split at h
  · rename_i i L own mark
    obtain ⟨h1,rfl⟩:=some_t h
    refine runOk (Λ:=L0) OkBo Tryz.func226 rfl l00 ?_
    refine (runBhd i L own mark).trans ?_
    have n:=nx_in h1
    have a:=atG_iff.1 h1
    rw [beq_eq_false_iff_ne.2 (show (L.length:Int)≠0 by omega),decide_eq_true n.1,decide_eq_true n.2]
    rfl
  · cases h
def gEdg (xs:List SV) (m:Mem):Option (Bool×Value) :=
  match xs,m with
  | [.row 0,.v (.int .i64 i)],⟨[],[],[.live ⟨151,[.num .i64,.num .i64],L,own,mark⟩]⟩=>some (atG L i,.tuple #[.agg #[I (pX L i),I (pY L i)],.agg #[I (pX L (nx L i)),I (pY L (nx L i))]])
  | _,_=>none
theorem gEdg_ok:CtR 273 gEdg:=by
  intro xs m r h
  unfold gEdg at h
  split at h
  · rename_i i L own mark
    obtain ⟨h1,rfl⟩:=some_t h
    refine runOk (Λ:=L0) OkBo Tryz.func273 rfl l00 ?_
    refine (runEdg i L own mark).trans ?_
    have n:=nx_in h1
    have a:=atG_iff.1 h1
    rw [beq_eq_false_iff_ne.2 (show (L.length:Int)≠0 by omega),decide_eq_true n.1,decide_eq_true n.2,decide_eq_true a.1,decide_eq_true a.2.1]
    rfl
  · cases h
noncomputable def ΓRw1:Orc:=addRd 226 gBhd ΓBo
theorem OkRw1:ΓRw1.Ok Tryz.prog:=addRd_ok OkBo gBhd_ok
noncomputable def ΓRw2:Orc:=addRd 273 gEdg ΓRw1
theorem OkRw2:ΓRw2.Ok Tryz.prog:=addRd_ok OkRw1 gEdg_ok
noncomputable def ΓRo:Orc:=ΓRw2
theorem OkRo:ΓRo.Ok Tryz.prog:=OkRw2
end Go.Proofs.YtagaiddomhpdmaaGreat
namespace Go.Proofs.YtagaiddomhpdmaaGreat
open Go Go.Proofs Go.Sx
set_option linter.unusedVariables false
theorem runPFb (a1:Int) (a2:Int) (b1:Int) (b2:Int) (c1:Int) (c2:Int):runG ΓRo L0 Tryz.prog Tryz.f315 [.v (.agg #[I a1,I a2]),.v (.agg #[I b1,I b2]),.v (.agg #[I c1,I c2])] M0 =
    (bif onB c1 c2 a1 a2 b1 b2 then some (.v (Bo true),M0) else some (.v (Bo (onB a1 a2 b1 b2 c1 c2)),M0)):=by kernel_rfl
def gPFb (vs:List Value):Option (Bool×Value) :=
  match vs with
  | [.agg ⟨[.int .i64 a1,.int .i64 a2]⟩,.agg ⟨[.int .i64 b1,.int .i64 b2]⟩,.agg ⟨[.int .i64 c1,.int .i64 c2]⟩]=>some (true,Bo (onB c1 c2 a1 a2 b1 b2||onB a1 a2 b1 b2 c1 c2))
  | _=>none
theorem gPFb_ok:CtV 315 gPFb:=by
  intro vs r h
  unfold gPFb at h
  split at h
  · rename_i a1 a2 b1 b2 c1 c2
    obtain ⟨h1,rfl⟩:=some_t h
    refine runV (vs:=[.agg #[I a1,I a2],.agg #[I b1,I b2],.agg #[I c1,I c2]]) (Λ:=L0) (m':=M0) OkRo Tryz.func315 rfl l00 ?_
    exact (runPFb a1 a2 b1 b2 c1 c2).trans (by cases onB c1 c2 a1 a2 b1 b2<;>rfl)
  · cases h
noncomputable def ΓZ1:Orc:=addVal 315 gPFb ΓRo
theorem OkZ1:ΓZ1.Ok Tryz.prog:=addVal_ok OkRo gPFb_ok
theorem runMwr (i j:Int) (L:List (List Dat)) (own mark:Bool):runG ΓZ1 L0 Tryz.prog Tryz.f296 [.row 0,.v (I i),.v (I j)] ⟨[],[],[rP L own mark]⟩ =
    (bif atG L i then (bif atG L j then (bif wI (i+(1:Int))==j then some (.v (Bo (onB (pX L (nx L j)) (pY L (nx L j)) (pX L i) (pY L i) (pX L (nx L i)) (pY L (nx L i))||onB (pX L i) (pY L i) (pX L (nx L i)) (pY L (nx L i)) (pX L (nx L j)) (pY L (nx L j)))),⟨[],[],[.live ⟨151,[.num .i64,.num .i64],L,own,mark⟩]⟩) else (bif (L.length:Int)==(0:Int) then none else (bif (wI (j+(1:Int))).tmod (L.length:Int)==i then some (.v (Bo (onB (pX L (nx L i)) (pY L (nx L i)) (pX L j) (pY L j) (pX L (nx L j)) (pY L (nx L j))||onB (pX L j) (pY L j) (pX L (nx L j)) (pY L (nx L j)) (pX L (nx L i)) (pY L (nx L i)))),⟨[],[],[.live ⟨151,[.num .i64,.num .i64],L,own,mark⟩]⟩) else some (.v (Bo (meetB (pX L i) (pY L i) (pX L (nx L i)) (pY L (nx L i)) (pX L j) (pY L j) (pX L (nx L j)) (pY L (nx L j)))),⟨[],[],[.live ⟨151,[.num .i64,.num .i64],L,own,mark⟩]⟩)))) else none) else none):=by kernel_rfl
noncomputable def ΓPz:Orc:=ΓZ1
theorem OkPz:ΓPz.Ok Tryz.prog:=OkZ1
end Go.Proofs.YtagaiddomhpdmaaGreat
namespace Go.Proofs.YtagaiddomhpdmaaGreat
open Go Go.Proofs Go.Sx
set_option linter.unusedVariables false
def fovI (n:Int):Bool:=decide (n< -1073741824)||decide (n>1073741824)
def rgO (px py ax ay bx by1:Int):Bool:=bif decide (ay>by1) then decide (by1≤py)&&(decide (ay>py)&&decide (turnI bx by1 ax ay px py>0)) else decide (ay≤py)&&(decide (by1>py)&&decide (turnI ax ay bx by1 px py>0))
theorem runFov (n:Int):runG ΓPz L0 Tryz.prog Tryz.f298 [.v (I n)] M0 =
    (bif decide (n<(-1073741824:Int)) then some (.v (Bo true),M0) else some (.v (Bo (decide (n>(1073741824:Int)))),M0)):=by kernel_rfl
def gFov (vs:List Value):Option (Bool×Value) :=
  match vs with
  | [.int .i64 n]=>some (true,Bo (fovI n))
  | _=>none
theorem gFov_ok:CtV 298 gFov:=by
  intro vs r h
  unfold gFov at h
  split at h
  · rename_i n
    obtain ⟨h1,rfl⟩:=some_t h
    refine runV (vs:=[I n]) (Λ:=L0) (m':=M0) OkPz Tryz.func298 rfl l00 ?_
    exact (runFov n).trans (by unfold fovI;cases decide (n< -1073741824)<;>rfl)
  · cases h
noncomputable def ΓPv1:Orc:=addVal 298 gFov ΓPz
theorem OkPv1:ΓPv1.Ok Tryz.prog:=addVal_ok OkPz gFov_ok
theorem runFar (x:Int) (y:Int):runG ΓPv1 L0 Tryz.prog Tryz.f269 [.v (.agg #[I x,I y])] M0 =
    (bif fovI x then some (.v (Bo true),M0) else some (.v (Bo (fovI y)),M0)):=by kernel_rfl
def gFar (vs:List Value):Option (Bool×Value) :=
  match vs with
  | [.agg ⟨[.int .i64 x,.int .i64 y]⟩]=>some (true,Bo (fovI x||fovI y))
  | _=>none
theorem gFar_ok:CtV 269 gFar:=by
  intro vs r h
  unfold gFar at h
  split at h
  · rename_i x y
    obtain ⟨h1,rfl⟩:=some_t h
    refine runV (vs:=[.agg #[I x,I y]]) (Λ:=L0) (m':=M0) OkPv1 Tryz.func269 rfl l00 ?_
    exact (runFar x y).trans (by cases fovI x<;>rfl)
  · cases h
noncomputable def ΓPv2:Orc:=addVal 269 gFar ΓPv1
theorem OkPv2:ΓPv2.Ok Tryz.prog:=addVal_ok OkPv1 gFar_ok
theorem runNpl (x:Int) (y:Int):runG ΓPv2 L0 Tryz.prog Tryz.f272 [.v (.agg #[I x,I y])] M0 =
    some (.v (Bo (!plR x y)),M0):=by kernel_rfl
def gNpl (vs:List Value):Option (Bool×Value) :=
  match vs with
  | [.agg ⟨[.int .i64 x,.int .i64 y]⟩]=>some (true,Bo (!plR x y))
  | _=>none
theorem gNpl_ok:CtV 272 gNpl:=by
  intro vs r h
  unfold gNpl at h
  split at h
  · rename_i x y
    obtain ⟨h1,rfl⟩:=some_t h
    refine runV (vs:=[.agg #[I x,I y]]) (Λ:=L0) (m':=M0) OkPv2 Tryz.func272 rfl l00 ?_
    exact (runNpl x y).trans (rfl)
  · cases h
noncomputable def ΓPv3:Orc:=addVal 272 gNpl ΓPv2
theorem OkPv3:ΓPv3.Ok Tryz.prog:=addVal_ok OkPv2 gNpl_ok
theorem runRgo (px:Int) (py:Int) (ax:Int) (ay:Int) (bx:Int) (by1:Int):runG ΓPv3 L0 Tryz.prog Tryz.f275 [.v (.agg #[I px,I py]),.v (.agg #[I ax,I ay]),.v (.agg #[I bx,I by1])] M0 =
    (bif decide (ay>by1) then (bif decide (by1≤py) then (bif decide (ay>py) then some (.v (Bo (decide (turnI bx by1 ax ay px py>(0:Int)))),M0) else some (.v (Bo false),M0)) else some (.v (Bo false),M0)) else (bif decide (ay≤py) then (bif decide (by1>py) then some (.v (Bo (decide (turnI ax ay bx by1 px py>(0:Int)))),M0) else some (.v (Bo false),M0)) else some (.v (Bo false),M0))):=by kernel_rfl
def gRgo (vs:List Value):Option (Bool×Value) :=
  match vs with
  | [.agg ⟨[.int .i64 px,.int .i64 py]⟩,.agg ⟨[.int .i64 ax,.int .i64 ay]⟩,.agg ⟨[.int .i64 bx,.int .i64 by1]⟩]=>some (true,Bo (rgO px py ax ay bx by1))
  | _=>none
theorem gRgo_ok:CtV 275 gRgo:=by
  intro vs r h
  unfold gRgo at h
  split at h
  · rename_i px py ax ay bx by1
    obtain ⟨h1,rfl⟩:=some_t h
    refine runV (vs:=[.agg #[I px,I py],.agg #[I ax,I ay],.agg #[I bx,I by1]]) (Λ:=L0) (m':=M0) OkPv3 Tryz.func275 rfl l00 ?_
    exact (runRgo px py ax ay bx by1).trans (by unfold rgO;cases decide (ay>by1)<;>cases decide (by1≤py)<;>cases decide (ay>py)<;>cases decide (ay≤py)<;>cases decide (by1>py)<;>rfl)
  · cases h
noncomputable def ΓPv4:Orc:=addVal 275 gRgo ΓPv3
theorem OkPv4:ΓPv4.Ok Tryz.prog:=addVal_ok OkPv3 gRgo_ok
noncomputable def ΓPw:Orc:=ΓPv4
theorem OkPw:ΓPw.Ok Tryz.prog:=OkPv4
noncomputable def bdIx:Code:=loopAt (Tryz.f297.body.getD .skip) 0
def kIx:List Bool:=maskOf 19 [0,1,7,8]
def xIx (e:Ex):List Bool:=match e with
  | .exit _=>maskOf 19 []
  | .ret=>maskOf 19 [4]
  | .normal=>maskOf 19 [0,1,7,8]
def KIx (e:Ex) (st:St):Option (Ex×St):=some (e,cutC 0 1 (xIx e) st)
abbrev fV (f:Nat):Value:=.func (.func f) ⟨[]⟩ ⟨[]⟩
theorem stepIxNpl (k:Int) (L:List (List Dat)) (own mark:Bool) (n:Nat):evLoop ΓPw Tryz.prog L0 (cutC 0 1 kIx) bdIx (n+1) (mk kIx [.row 0,.v (fV 272),.v (I (L.length:Int)),.v (I k)] ⟨[],[],[rP L own mark]⟩) KIx =
    (bif decide (k<(L.length:Int)) then (bif decide ((0:Int)≤k)&&decide (k<(L.length:Int)) then (bif !plR (pX L k) (pY L k) then some (.ret,mk (xIx .ret) [.v (I k)] ⟨[],[],[.live ⟨151,[.num .i64,.num .i64],L,own,mark⟩]⟩) else evLoop ΓPw Tryz.prog L0 (cutC 0 1 kIx) bdIx n (mk kIx [.row 0,.v (Value.func (Fn.func (272:Nat)) { toList:=[]:Array Value } { toList:=[]:Array Value }),.v (I (L.length:Int)),.v (I (wI (k+(1:Int))))] ⟨[],[],[.live ⟨151,[.num .i64,.num .i64],L,own,mark⟩]⟩) KIx) else none) else some ((.exit 0),mk (xIx (.exit 0)) [] ⟨[],[],[.live ⟨151,[.num .i64,.num .i64],L,own,mark⟩]⟩)):=by kernel_rfl
theorem stepIxFar (k:Int) (L:List (List Dat)) (own mark:Bool) (n:Nat):evLoop ΓPw Tryz.prog L0 (cutC 0 1 kIx) bdIx (n+1) (mk kIx [.row 0,.v (fV 269),.v (I (L.length:Int)),.v (I k)] ⟨[],[],[rP L own mark]⟩) KIx =
    (bif decide (k<(L.length:Int)) then (bif decide ((0:Int)≤k)&&decide (k<(L.length:Int)) then (bif fovI (pX L k)||fovI (pY L k) then some (.ret,mk (xIx .ret) [.v (I k)] ⟨[],[],[.live ⟨151,[.num .i64,.num .i64],L,own,mark⟩]⟩) else evLoop ΓPw Tryz.prog L0 (cutC 0 1 kIx) bdIx n (mk kIx [.row 0,.v (Value.func (Fn.func (269:Nat)) { toList:=[]:Array Value } { toList:=[]:Array Value }),.v (I (L.length:Int)),.v (I (wI (k+(1:Int))))] ⟨[],[],[.live ⟨151,[.num .i64,.num .i64],L,own,mark⟩]⟩) KIx) else none) else some ((.exit 0),mk (xIx (.exit 0)) [] ⟨[],[],[.live ⟨151,[.num .i64,.num .i64],L,own,mark⟩]⟩)):=by kernel_rfl
end Go.Proofs.YtagaiddomhpdmaaGreat
namespace Go.Proofs.YtagaiddomhpdmaaGreat
open Go Go.Proofs Go.Sx
set_option linter.unusedVariables false
def ixF (p:Int→Bool):Nat→Int→Int
  | 0,_=>-1
  | m+1,k=>bif p k then k else ixF p m (k+1)
theorem ixLoop {α:Type} (p:Int→Bool) (N:Int) (E:Nat→Int→Option α) (X:Option α) (Y:Int→Option α) (he:∀ n k,¬ k<N→E (n+1) k=X) (hr:∀ n k,0≤k∧k<N→E (n+1) k=bif p k then Y k else E n (k+1)) :
    ∀ (m:Nat) (k:Int),0≤k→k+m=N→E (m+1) k=bif decide (ixF p m k<0) then X else Y (ixF p m k):=by
  intro m
  induction m with
  | zero =>
    intro k h0 h1
    exact he 0 k (by omega)
  | succ m ih =>
    intro k h0 h1
    rw [hr (m+1) k (by omega)]
    show _=bif decide ((bif p k then k else ixF p m (k+1))<0) then X else Y (bif p k then k else ixF p m (k+1))
    cases p k
    · exact ih (k+1) (by omega) (by omega)
    · show Y k=bif decide (k<0) then X else Y k
      rw [decide_eq_false (show ¬ k<0 by omega)]
      rfl
theorem ixF_neg {p:Int→Bool}:∀ {m:Nat} {k:Int},ixF p m k<0→0≤k→ixF p m k=-1
  | 0,_,_,_=>rfl
  | m+1,k,h,h0=>by
    revert h
    show (bif p k then k else ixF p m (k+1))<0→(bif p k then k else ixF p m (k+1))=-1
    cases p k
    · exact fun h=>ixF_neg (p:=p) h (by omega)
    · exact fun h=>absurd h (by show ¬ k<0;omega)
def XIx (L:List (List Dat)) (own mark:Bool):St:=mk (xIx (.exit 0)) [] ⟨[],[],[rP L own mark]⟩
def RIx (k:Int) (L:List (List Dat)) (own mark:Bool):St:=mk (xIx .ret) [.v (I k)] ⟨[],[],[rP L own mark]⟩
def pNpl (L:List (List Dat)) (k:Int):Bool:=!plR (pX L k) (pY L k)
def pFar (L:List (List Dat)) (k:Int):Bool:=fovI (pX L k)||fovI (pY L k)
theorem loopsIx:loopsOf (Tryz.f297.body.getD .skip)=[bdIx]:=by kernel_rfl
noncomputable def EIxNpl (n:Nat) (k:Int) (L:List (List Dat)) (own mark:Bool):Option (Ex×St) :=
  evLoop ΓPw Tryz.prog L0 (cutC 0 1 kIx) bdIx n (mk kIx [.row 0,.v (fV 272),.v (I (L.length:Int)),.v (I k)] ⟨[],[],[rP L own mark]⟩) KIx
theorem loopIxNpl (L:List (List Dat)) (own mark:Bool) (hl:L.length≤1000000):EIxNpl (L.length+1) 0 L own mark=bif decide (ixF (pNpl L) L.length 0<0) then some (.exit 0,XIx L own mark) else some (.ret,RIx (ixF (pNpl L) L.length 0) L own mark):=by
  refine ixLoop (pNpl L) (L.length:Int) (fun n k=>EIxNpl n k L own mark) (some (.exit 0,XIx L own mark)) (fun k=>some (.ret,RIx k L own mark)) (fun n k hk=>?_) (fun n k hk=>?_) L.length 0 (by decide) (by omega)
  · refine (stepIxNpl k L own mark n).trans ?_
    rw [decide_eq_false hk]
    rfl
  · refine (stepIxNpl k L own mark n).trans ?_
    rw [decide_eq_true hk.1,decide_eq_true hk.2,wI_id (n:=k+1) (by omega)]
    rfl
def GIxNpl (fin:Bool) (vals:List SV) (m:Mem):Option (Bool×Ex×St) :=
  match vals,m with
  | [.row 0,.v (.func (.func 272) ⟨[]⟩ ⟨[]⟩),.v (.int .i64 n),.v (.int .i64 k)],⟨[],[],[.live ⟨151,[.num .i64,.num .i64],L,own,mark⟩]⟩ =>
    bif fin then some (n==(L.length:Int)&&(k==0&&(Nat.ble L.length 1000000&&decide (ixF (pNpl L) L.length 0<0))),.exit 0,XIx L own mark)
    else some (n==(L.length:Int)&&(k==0&&(Nat.ble L.length 1000000&&!decide (ixF (pNpl L) L.length 0<0))),.ret,RIx (ixF (pNpl L) L.length 0) L own mark)
  | _,_=>none
noncomputable def ΛIxNpl (fin:Bool):LoopOrc:=fun _ st=>viaC 0 1 kIx (GIxNpl fin) st
theorem loopOkIxNpl (fin:Bool) (z:Base) (z1:z.L.length=0) (z2:z.U.length=1):LoopOk (ΛIxNpl fin) Tryz.prog z bdIx:=by
  refine loop_okC (Λ:=L0) (kx:=xIx) OkPw mixed z1 z2 (fun b hb st t h=>by cases h) (G:=GIxNpl fin) (fun _=>rfl) ?_
  intro vals m e st' h
  unfold GIxNpl at h
  split at h
  · rename_i n k L own mark
    have hx:=loopIxNpl L own mark
    cases fin
    · simp only [cond_false] at h
      obtain ⟨h1,rfl,rfl⟩:=some_t2 h
      simp only [Bool.and_eq_true,beq_iff_eq,Bool.not_eq_true'] at h1
      obtain ⟨rfl,rfl,hl,hq⟩:=h1
      have:=hx (Nat.le_of_ble_eq_true hl)
      rw [hq] at this
      exact ⟨L.length+1,this⟩
    · simp only [cond_true] at h
      obtain ⟨h1,rfl,rfl⟩:=some_t2 h
      simp only [Bool.and_eq_true,beq_iff_eq] at h1
      obtain ⟨rfl,rfl,hl,hq⟩:=h1
      have:=hx (Nat.le_of_ble_eq_true hl)
      rw [hq] at this
      exact ⟨L.length+1,this⟩
  · cases h
theorem runIxNplT (L:List (List Dat)) (own mark:Bool):runG ΓPw (ΛIxNpl true) Tryz.prog Tryz.f297 [.row 0,.v (fV 272)] ⟨[],[],[rP L own mark]⟩ =
    (bif (L.length:Int)==(L.length:Int)&&(true&&(L.length.ble (1000000)&&decide (ixF (pNpl L) L.length (0:Int)<(0:Int)))) then some (.v (I (-1)),⟨[],[],[.live ⟨151,[.num .i64,.num .i64],L,own,mark⟩]⟩) else none):=by kernel_rfl
theorem runIxNplF (L:List (List Dat)) (own mark:Bool):runG ΓPw (ΛIxNpl false) Tryz.prog Tryz.f297 [.row 0,.v (fV 272)] ⟨[],[],[rP L own mark]⟩ =
    (bif (L.length:Int)==(L.length:Int)&&(true&&(L.length.ble (1000000)&&!decide (ixF (pNpl L) L.length (0:Int)<(0:Int)))) then some (.v (I (ixF (pNpl L) L.length (0:Int))),⟨[],[],[.live ⟨151,[.num .i64,.num .i64],L,own,mark⟩]⟩) else none):=by kernel_rfl
noncomputable def EIxFar (n:Nat) (k:Int) (L:List (List Dat)) (own mark:Bool):Option (Ex×St) :=
  evLoop ΓPw Tryz.prog L0 (cutC 0 1 kIx) bdIx n (mk kIx [.row 0,.v (fV 269),.v (I (L.length:Int)),.v (I k)] ⟨[],[],[rP L own mark]⟩) KIx
theorem loopIxFar (L:List (List Dat)) (own mark:Bool) (hl:L.length≤1000000):EIxFar (L.length+1) 0 L own mark=bif decide (ixF (pFar L) L.length 0<0) then some (.exit 0,XIx L own mark) else some (.ret,RIx (ixF (pFar L) L.length 0) L own mark):=by
  refine ixLoop (pFar L) (L.length:Int) (fun n k=>EIxFar n k L own mark) (some (.exit 0,XIx L own mark)) (fun k=>some (.ret,RIx k L own mark)) (fun n k hk=>?_) (fun n k hk=>?_) L.length 0 (by decide) (by omega)
  · refine (stepIxFar k L own mark n).trans ?_
    rw [decide_eq_false hk]
    rfl
  · refine (stepIxFar k L own mark n).trans ?_
    rw [decide_eq_true hk.1,decide_eq_true hk.2,wI_id (n:=k+1) (by omega)]
    rfl
def GIxFar (fin:Bool) (vals:List SV) (m:Mem):Option (Bool×Ex×St) :=
  match vals,m with
  | [.row 0,.v (.func (.func 269) ⟨[]⟩ ⟨[]⟩),.v (.int .i64 n),.v (.int .i64 k)],⟨[],[],[.live ⟨151,[.num .i64,.num .i64],L,own,mark⟩]⟩ =>
    bif fin then some (n==(L.length:Int)&&(k==0&&(Nat.ble L.length 1000000&&decide (ixF (pFar L) L.length 0<0))),.exit 0,XIx L own mark)
    else some (n==(L.length:Int)&&(k==0&&(Nat.ble L.length 1000000&&!decide (ixF (pFar L) L.length 0<0))),.ret,RIx (ixF (pFar L) L.length 0) L own mark)
  | _,_=>none
noncomputable def ΛIxFar (fin:Bool):LoopOrc:=fun _ st=>viaC 0 1 kIx (GIxFar fin) st
theorem loopOkIxFar (fin:Bool) (z:Base) (z1:z.L.length=0) (z2:z.U.length=1):LoopOk (ΛIxFar fin) Tryz.prog z bdIx:=by
  refine loop_okC (Λ:=L0) (kx:=xIx) OkPw mixed z1 z2 (fun b hb st t h=>by cases h) (G:=GIxFar fin) (fun _=>rfl) ?_
  intro vals m e st' h
  unfold GIxFar at h
  split at h
  · rename_i n k L own mark
    have hx:=loopIxFar L own mark
    cases fin
    · simp only [cond_false] at h
      obtain ⟨h1,rfl,rfl⟩:=some_t2 h
      simp only [Bool.and_eq_true,beq_iff_eq,Bool.not_eq_true'] at h1
      obtain ⟨rfl,rfl,hl,hq⟩:=h1
      have:=hx (Nat.le_of_ble_eq_true hl)
      rw [hq] at this
      exact ⟨L.length+1,this⟩
    · simp only [cond_true] at h
      obtain ⟨h1,rfl,rfl⟩:=some_t2 h
      simp only [Bool.and_eq_true,beq_iff_eq] at h1
      obtain ⟨rfl,rfl,hl,hq⟩:=h1
      have:=hx (Nat.le_of_ble_eq_true hl)
      rw [hq] at this
      exact ⟨L.length+1,this⟩
  · cases h
theorem runIxFarT (L:List (List Dat)) (own mark:Bool):runG ΓPw (ΛIxFar true) Tryz.prog Tryz.f297 [.row 0,.v (fV 269)] ⟨[],[],[rP L own mark]⟩ =
    (bif (L.length:Int)==(L.length:Int)&&(true&&(L.length.ble (1000000)&&decide (ixF (pFar L) L.length (0:Int)<(0:Int)))) then some (.v (I (-1)),⟨[],[],[.live ⟨151,[.num .i64,.num .i64],L,own,mark⟩]⟩) else none):=by kernel_rfl
theorem runIxFarF (L:List (List Dat)) (own mark:Bool):runG ΓPw (ΛIxFar false) Tryz.prog Tryz.f297 [.row 0,.v (fV 269)] ⟨[],[],[rP L own mark]⟩ =
    (bif (L.length:Int)==(L.length:Int)&&(true&&(L.length.ble (1000000)&&!decide (ixF (pFar L) L.length (0:Int)<(0:Int)))) then some (.v (I (ixF (pFar L) L.length (0:Int))),⟨[],[],[.live ⟨151,[.num .i64,.num .i64],L,own,mark⟩]⟩) else none):=by kernel_rfl
def gIxNpl (xs:List SV) (m:Mem):Option (Bool×Value) :=
  match xs,m with
  | [.row 0,.v (.func (.func 272) ⟨[]⟩ ⟨[]⟩)],⟨[],[],[.live ⟨151,[.num .i64,.num .i64],L,own,mark⟩]⟩=>some (Nat.ble L.length 1000000,I (ixF (pNpl L) L.length 0))
  | _,_=>none
theorem gIxNpl_ok:CtR 297 gIxNpl:=by
  intro xs m r h
  unfold gIxNpl at h
  split at h
  · rename_i L own mark
    obtain ⟨h1,rfl⟩:=some_t h
    cases hq:decide (ixF (pNpl L) L.length 0<0)
    · refine runOk (Λ:=ΛIxNpl false) OkPw Tryz.func297 rfl (fun z z1 z2=>oneLoop loopsIx (loopOkIxNpl false z z1 z2)) ?_
      refine (runIxNplF L own mark).trans ?_
      rw [h1,hq,beq_self_eq_true]
      rfl
    · refine runOk (Λ:=ΛIxNpl true) OkPw Tryz.func297 rfl (fun z z1 z2=>oneLoop loopsIx (loopOkIxNpl true z z1 z2)) ?_
      refine (runIxNplT L own mark).trans ?_
      rw [h1,hq,beq_self_eq_true,ixF_neg (of_decide_eq_true hq) (by decide)]
      rfl
  · cases h
def gIxFar (xs:List SV) (m:Mem):Option (Bool×Value) :=
  match xs,m with
  | [.row 0,.v (.func (.func 269) ⟨[]⟩ ⟨[]⟩)],⟨[],[],[.live ⟨151,[.num .i64,.num .i64],L,own,mark⟩]⟩=>some (Nat.ble L.length 1000000,I (ixF (pFar L) L.length 0))
  | _,_=>none
theorem gIxFar_ok:CtR 297 gIxFar:=by
  intro xs m r h
  unfold gIxFar at h
  split at h
  · rename_i L own mark
    obtain ⟨h1,rfl⟩:=some_t h
    cases hq:decide (ixF (pFar L) L.length 0<0)
    · refine runOk (Λ:=ΛIxFar false) OkPw Tryz.func297 rfl (fun z z1 z2=>oneLoop loopsIx (loopOkIxFar false z z1 z2)) ?_
      refine (runIxFarF L own mark).trans ?_
      rw [h1,hq,beq_self_eq_true]
      rfl
    · refine runOk (Λ:=ΛIxFar true) OkPw Tryz.func297 rfl (fun z z1 z2=>oneLoop loopsIx (loopOkIxFar true z z1 z2)) ?_
      refine (runIxFarT L own mark).trans ?_
      rw [h1,hq,beq_self_eq_true,ixF_neg (of_decide_eq_true hq) (by decide)]
      rfl
  · cases h
noncomputable def ΓIy1:Orc:=addRd 297 gIxNpl ΓPw
theorem OkIy1:ΓIy1.Ok Tryz.prog:=addRd_ok OkPw gIxNpl_ok
noncomputable def ΓIy:Orc:=addRd 297 gIxFar ΓIy1
theorem OkIy:ΓIy.Ok Tryz.prog:=addRd_ok OkIy1 gIxFar_ok
theorem runCfNpl (L:List (List Dat)) (own mark:Bool):runG ΓIy L0 Tryz.prog Tryz.f268 [.row 0,.v (fV 272)] ⟨[],[],[rP L own mark]⟩ =
    (bif L.length.ble (1000000) then some (.v (Bo (decide (ixF (pNpl L) L.length (0:Int)≥(0:Int)))),⟨[],[],[.live ⟨151,[.num .i64,.num .i64],L,own,mark⟩]⟩) else none):=by kernel_rfl
theorem runCfFar (L:List (List Dat)) (own mark:Bool):runG ΓIy L0 Tryz.prog Tryz.f268 [.row 0,.v (fV 269)] ⟨[],[],[rP L own mark]⟩ =
    (bif L.length.ble (1000000) then some (.v (Bo (decide (ixF (pFar L) L.length (0:Int)≥(0:Int)))),⟨[],[],[.live ⟨151,[.num .i64,.num .i64],L,own,mark⟩]⟩) else none):=by kernel_rfl
end Go.Proofs.YtagaiddomhpdmaaGreat
namespace Go.Proofs.YtagaiddomhpdmaaGreat
open Go Go.Proofs Go.Sx
set_option linter.unusedVariables false
def anyF (p:Int→Bool) (m:Nat):Bool:=decide (ixF p m 0≥0)
def gCfNpl (xs:List SV) (m:Mem):Option (Bool×Value) :=
  match xs,m with
  | [.row 0,.v (.func (.func 272) ⟨[]⟩ ⟨[]⟩)],⟨[],[],[.live ⟨151,[.num .i64,.num .i64],L,own,mark⟩]⟩=>some (Nat.ble L.length 1000000,Bo (anyF (pNpl L) L.length))
  | _,_=>none
theorem gCfNpl_ok:CtR 268 gCfNpl:=by
  intro xs m r h
  unfold gCfNpl at h
  split at h
  · rename_i L own mark
    obtain ⟨h1,rfl⟩:=some_t h
    refine runOk (Λ:=L0) OkIy Tryz.func268 rfl l00 ?_
    refine (runCfNpl L own mark).trans ?_
    rw [h1]
    rfl
  · cases h
def gCfFar (xs:List SV) (m:Mem):Option (Bool×Value) :=
  match xs,m with
  | [.row 0,.v (.func (.func 269) ⟨[]⟩ ⟨[]⟩)],⟨[],[],[.live ⟨151,[.num .i64,.num .i64],L,own,mark⟩]⟩=>some (Nat.ble L.length 1000000,Bo (anyF (pFar L) L.length))
  | _,_=>none
theorem gCfFar_ok:CtR 268 gCfFar:=by
  intro xs m r h
  unfold gCfFar at h
  split at h
  · rename_i L own mark
    obtain ⟨h1,rfl⟩:=some_t h
    refine runOk (Λ:=L0) OkIy Tryz.func268 rfl l00 ?_
    refine (runCfFar L own mark).trans ?_
    rw [h1]
    rfl
  · cases h
noncomputable def ΓSi1:Orc:=addRd 268 gCfNpl ΓIy
theorem OkSi1:ΓSi1.Ok Tryz.prog:=addRd_ok OkIy gCfNpl_ok
noncomputable def ΓSi2:Orc:=addRd 268 gCfFar ΓSi1
theorem OkSi2:ΓSi2.Ok Tryz.prog:=addRd_ok OkSi1 gCfFar_ok
def mwB (L:List (List Dat)) (i j:Int):Bool :=
  bif wI (i+1)==j then onB (pX L (nx L j)) (pY L (nx L j)) (pX L i) (pY L i) (pX L (nx L i)) (pY L (nx L i))||onB (pX L i) (pY L i) (pX L (nx L i)) (pY L (nx L i)) (pX L (nx L j)) (pY L (nx L j))
  else bif nx L j==i then onB (pX L (nx L i)) (pY L (nx L i)) (pX L j) (pY L j) (pX L (nx L j)) (pY L (nx L j))||onB (pX L j) (pY L j) (pX L (nx L j)) (pY L (nx L j)) (pX L (nx L i)) (pY L (nx L i))
  else meetB (pX L i) (pY L i) (pX L (nx L i)) (pY L (nx L i)) (pX L j) (pY L j) (pX L (nx L j)) (pY L (nx L j))
def gMwr (xs:List SV) (m:Mem):Option (Bool×Value) :=
  match xs,m with
  | [.row 0,.v (.int .i64 i),.v (.int .i64 j)],⟨[],[],[.live ⟨151,[.num .i64,.num .i64],L,own,mark⟩]⟩=>some (atG L i&&atG L j,Bo (mwB L i j))
  | _,_=>none
theorem gMwr_ok:CtR 296 gMwr:=by
  intro xs m r h
  unfold gMwr at h
  split at h
  · rename_i i j L own mark
    obtain ⟨h1,rfl⟩:=some_t h
    rw [Bool.and_eq_true] at h1
    refine runOk (Λ:=L0) OkPz Tryz.func296 rfl l00 ?_
    refine (runMwr i j L own mark).trans ?_
    have a:=atG_iff.1 h1.1
    rw [h1.1,h1.2,beq_eq_false_iff_ne.2 (show (L.length:Int)≠0 by omega)]
    unfold mwB nx
    cases wI (i+1)==j<;>cases (wI (j+1)).tmod (L.length:Int)==i<;>rfl
  · cases h
noncomputable def ΓSi:Orc:=addRd 296 gMwr ΓSi2
theorem OkSi:ΓSi.Ok Tryz.prog:=addRd_ok OkSi2 gMwr_ok
noncomputable def bdS0:Code:=loopAt (Tryz.f267.body.getD .skip) 0
noncomputable def bdS1:Code:=loopAt bdS0 0
def kS1:List Bool:=maskOf 43 [0,3,18,19,22,23]
def xS1 (e:Ex):List Bool:=match e with
  | .exit _=>maskOf 43 [0,18,19]
  | .ret=>maskOf 43 [2]
  | .normal=>maskOf 43 [0,3,18,19,22,23]
def KS1 (e:Ex) (st:St):Option (Ex×St):=some (e,cutC 0 1 (xS1 e) st)
theorem stepS1 (j nn k b i:Int) (L:List (List Dat)) (own mark:Bool) (n:Nat):evLoop ΓSi Tryz.prog L0 (cutC 0 1 kS1) bdS1 (n+1) (mk kS1 [.row 0,.v (I j),.v (I nn),.v (I k),.v (I b),.v (I i)] ⟨[],[],[rP L own mark]⟩) KS1 =
    (bif decide (i<b) then (bif decide ((0:Int)≤i)&&decide (i<(L.length:Int)) then (bif decide ((0:Int)≤j)&&decide (j<(L.length:Int)) then (bif ((L.getD i.toNat []).headD (Dat.n (0:Int))).toI==((L.getD j.toNat []).headD (Dat.n (0:Int))).toI&&(((L.getD i.toNat []).tail.headD (Dat.n (0:Int))).toI==((L.getD j.toNat []).tail.headD (Dat.n (0:Int))).toI&&true) then some (.ret,mk (xS1 .ret) [.v (Bo false)] ⟨[],[],[.live ⟨151,[.num .i64,.num .i64],L,own,mark⟩]⟩) else (bif atG L i&&atG L j then (bif mwB L i j then some (.ret,mk (xS1 .ret) [.v (Bo false)] ⟨[],[],[.live ⟨151,[.num .i64,.num .i64],L,own,mark⟩]⟩) else evLoop ΓSi Tryz.prog L0 (cutC 0 1 kS1) bdS1 n (mk kS1 [.row 0,.v (I j),.v (I nn),.v (I k),.v (I b),.v (I (wI (i+(1:Int))))] ⟨[],[],[.live ⟨151,[.num .i64,.num .i64],L,own,mark⟩]⟩) KS1) else none)) else none) else none) else some ((.exit 2),mk (xS1 (.exit 2)) [.row 0,.v (I nn),.v (I k)] ⟨[],[],[.live ⟨151,[.num .i64,.num .i64],L,own,mark⟩]⟩)):=by kernel_rfl
def eqP (L:List (List Dat)) (i j:Int):Bool:=((L.getD i.toNat []).headD (Dat.n (0:Int))).toI==((L.getD j.toNat []).headD (Dat.n (0:Int))).toI&&(((L.getD i.toNat []).tail.headD (Dat.n (0:Int))).toI==((L.getD j.toNat []).tail.headD (Dat.n (0:Int))).toI&&true)
def badB (L:List (List Dat)) (j i:Int):Bool:=eqP L i j||mwB L i j
def okJ (L:List (List Dat)) (j:Int):Bool:=decide (ixF (badB L j) j.toNat 0<0)
theorem ixLoopN {α:Type} (p:Int→Bool) (N:Int) (E:Nat→Int→Option α) (X:Option α) (Y:Int→Option α) (he:∀ n k,¬ k<N→E (n+1) k=X) (hr:∀ (n:Nat) k,0≤k∧k<N→k+n=N→E (n+1) k=bif p k then Y k else E n (k+1)) :
    ∀ (m:Nat) (k:Int),0≤k→k+m=N→E (m+1) k=bif decide (ixF p m k<0) then X else Y (ixF p m k):=by
  intro m
  induction m with
  | zero =>
    intro k h0 h1
    exact he 0 k (by omega)
  | succ m ih =>
    intro k h0 h1
    rw [hr (m+1) k (by omega) h1]
    show _=bif decide ((bif p k then k else ixF p m (k+1))<0) then X else Y (bif p k then k else ixF p m (k+1))
    cases p k
    · exact ih (k+1) (by omega) (by omega)
    · show Y k=bif decide (k<0) then X else Y k
      rw [decide_eq_false (show ¬ k<0 by omega)]
      rfl
noncomputable def ES1 (n:Nat) (j nn k b i:Int) (L:List (List Dat)) (own mark:Bool):Option (Ex×St) :=
  evLoop ΓSi Tryz.prog L0 (cutC 0 1 kS1) bdS1 n (mk kS1 [.row 0,.v (I j),.v (I nn),.v (I k),.v (I b),.v (I i)] ⟨[],[],[rP L own mark]⟩) KS1
def XS1 (nn k:Int) (L:List (List Dat)) (own mark:Bool):St:=mk (xS1 (.exit 2)) [.row 0,.v (I nn),.v (I k)] ⟨[],[],[rP L own mark]⟩
def RS1 (L:List (List Dat)) (own mark:Bool):St:=mk (xS1 .ret) [.v (Bo false)] ⟨[],[],[rP L own mark]⟩
theorem loopS1 (j nn k:Int) (L:List (List Dat)) (own mark:Bool) (hj:atG L j=true):ES1 (j.toNat+1) j nn k j 0 L own mark=bif okJ L j then some (.exit 2,XS1 nn k L own mark) else some (.ret,RS1 L own mark):=by
  have a:=atG_iff.1 hj
  refine ixLoop (badB L j) j (fun n i=>ES1 n j nn k j i L own mark) (some (.exit 2,XS1 nn k L own mark)) (fun i=>some (.ret,RS1 L own mark)) (fun n i hi=>?_) (fun n i hi=>?_) j.toNat 0 (by decide) (by omega)
  · refine (stepS1 j nn k j i L own mark n).trans ?_
    rw [decide_eq_false hi]
    rfl
  · refine (stepS1 j nn k j i L own mark n).trans ?_
    have b:atG L i=true:=atG_iff.2 (by omega)
    rw [decide_eq_true hi.1,decide_eq_true hi.2,decide_eq_true a.1,decide_eq_true a.2.1,decide_eq_true (show i<(L.length:Int) by omega),hj,b,wI_id (n:=i+1) (by omega)]
    show (bif eqP L i j then _ else _)=_
    unfold badB
    cases eqP L i j
    · cases mwB L i j<;>rfl
    · rfl
def GS1 (fin:Bool) (vals:List SV) (m:Mem):Option (Bool×Ex×St) :=
  match vals,m with
  | [.row 0,.v (.int .i64 j),.v (.int .i64 nn),.v (.int .i64 k),.v (.int .i64 b),.v (.int .i64 i)],⟨[],[],[.live ⟨151,[.num .i64,.num .i64],L,own,mark⟩]⟩ =>
    bif fin then some (b==j&&(i==0&&(atG L j&&okJ L j)),.exit 2,XS1 nn k L own mark)
    else some (b==j&&(i==0&&(atG L j&&!okJ L j)),.ret,RS1 L own mark)
  | _,_=>none
noncomputable def ΛS1 (fin:Bool):LoopOrc:=fun _ st=>viaC 0 1 kS1 (GS1 fin) st
theorem loopOkS1 (fin:Bool) (z:Base) (z1:z.L.length=0) (z2:z.U.length=1):LoopOk (ΛS1 fin) Tryz.prog z bdS1:=by
  refine loop_okC (Λ:=L0) (kx:=xS1) OkSi mixed z1 z2 (fun b hb st t h=>by cases h) (G:=GS1 fin) (fun _=>rfl) ?_
  intro vals m e st' h
  unfold GS1 at h
  split at h
  · rename_i j nn k b i L own mark
    cases fin
    · simp only [cond_false] at h
      obtain ⟨h1,rfl,rfl⟩:=some_t2 h
      simp only [Bool.and_eq_true,beq_iff_eq,Bool.not_eq_true'] at h1
      obtain ⟨rfl,rfl,hj,hq⟩:=h1
      have:=loopS1 b nn k L own mark hj
      rw [hq] at this
      exact ⟨b.toNat+1,this⟩
    · simp only [cond_true] at h
      obtain ⟨h1,rfl,rfl⟩:=some_t2 h
      simp only [Bool.and_eq_true,beq_iff_eq] at h1
      obtain ⟨rfl,rfl,hj,hq⟩:=h1
      have:=loopS1 b nn k L own mark hj
      rw [hq] at this
      exact ⟨b.toNat+1,this⟩
  · cases h
theorem loopsS0:loopsOf (Tryz.f267.body.getD .skip)=[bdS0]:=by kernel_rfl
theorem loopsS1:loopsOf bdS0=[bdS1]:=by kernel_rfl
def kS0:List Bool:=maskOf 43 [0,18,19]
def xS0 (e:Ex):List Bool:=match e with
  | .exit _=>maskOf 43 []
  | .ret=>maskOf 43 [2]
  | .normal=>maskOf 43 [0,18,19]
def KS0 (e:Ex) (st:St):Option (Ex×St):=some (e,cutC 0 1 (xS0 e) st)
theorem stepS0T (nn k:Int) (L:List (List Dat)) (own mark:Bool) (nx:St→Option (Ex×St)):evRound ΓSi Tryz.prog (ΛS1 true) (cutC 0 1 kS0) bdS0 (mk kS0 [.row 0,.v (I nn),.v (I k)] ⟨[],[],[rP L own mark]⟩) nx KS0 =
    (bif decide (k<nn) then (bif k==k&&(true&&(atG L k&&okJ L k)) then nx (mk kS0 [.row 0,.v (I nn),.v (I (wI (k+(1:Int))))] ⟨[],[],[.live ⟨151,[.num .i64,.num .i64],L,own,mark⟩]⟩) else none) else some ((.exit 0),mk (xS0 (.exit 0)) [] ⟨[],[],[.live ⟨151,[.num .i64,.num .i64],L,own,mark⟩]⟩)):=by kernel_rfl
theorem stepS0F (nn k:Int) (L:List (List Dat)) (own mark:Bool) (nx:St→Option (Ex×St)):evRound ΓSi Tryz.prog (ΛS1 false) (cutC 0 1 kS0) bdS0 (mk kS0 [.row 0,.v (I nn),.v (I k)] ⟨[],[],[rP L own mark]⟩) nx KS0 =
    (bif decide (k<nn) then (bif k==k&&(true&&(atG L k&&!okJ L k)) then some (.ret,mk (xS0 .ret) [.v (Bo false)] ⟨[],[],[.live ⟨151,[.num .i64,.num .i64],L,own,mark⟩]⟩) else none) else some ((.exit 0),mk (xS0 (.exit 0)) [] ⟨[],[],[.live ⟨151,[.num .i64,.num .i64],L,own,mark⟩]⟩)):=by kernel_rfl
noncomputable def ΛsS (L:List (List Dat)) (n:Nat):LoopOrc:=ΛS1 (okJ L ((L.length:Int) - n))
noncomputable def ES0 (n:Nat) (k:Int) (L:List (List Dat)) (own mark:Bool):Option (Ex×St) :=
  evLoopN ΓSi Tryz.prog (ΛsS L) (cutC 0 1 kS0) bdS0 n (mk kS0 [.row 0,.v (I (L.length:Int)),.v (I k)] ⟨[],[],[rP L own mark]⟩) KS0
def XS0 (L:List (List Dat)) (own mark:Bool):St:=mk (xS0 (.exit 0)) [] ⟨[],[],[rP L own mark]⟩
def RS0 (L:List (List Dat)) (own mark:Bool):St:=mk (xS0 .ret) [.v (Bo false)] ⟨[],[],[rP L own mark]⟩
def apB (L:List (List Dat)):Bool:=decide (ixF (fun j=>!okJ L j) L.length 0<0)
theorem loopS0 (L:List (List Dat)) (own mark:Bool) (hl:L.length≤1000000):ES0 (L.length+1) 0 L own mark=bif apB L then some (.exit 0,XS0 L own mark) else some (.ret,RS0 L own mark):=by
  refine ixLoopN (fun j=>!okJ L j) (L.length:Int) (fun n k=>ES0 n k L own mark) (some (.exit 0,XS0 L own mark)) (fun i=>some (.ret,RS0 L own mark)) (fun n k hk=>?_) (fun n k hk hn=>?_) L.length 0 (by decide) (by omega)
  · show evRound ΓSi Tryz.prog (ΛsS L n) (cutC 0 1 kS0) bdS0 _ (fun st'=>evLoopN ΓSi Tryz.prog (ΛsS L) (cutC 0 1 kS0) bdS0 n st' KS0) KS0=_
    unfold ΛsS
    cases okJ L ((L.length:Int) - n)
    · refine (stepS0F (L.length:Int) k L own mark _).trans ?_
      rw [decide_eq_false hk]
      rfl
    · refine (stepS0T (L.length:Int) k L own mark _).trans ?_
      rw [decide_eq_false hk]
      rfl
  · have e:(L.length:Int) - n=k:=by omega
    have a:atG L k=true:=atG_iff.2 (by omega)
    show evRound ΓSi Tryz.prog (ΛS1 (okJ L ((L.length:Int) - n))) (cutC 0 1 kS0) bdS0 _ (fun st'=>evLoopN ΓSi Tryz.prog (ΛsS L) (cutC 0 1 kS0) bdS0 n st' KS0) KS0=bif !okJ L k then some (.ret,RS0 L own mark) else ES0 n (k+1) L own mark
    rw [e]
    cases hq:okJ L k
    · refine (stepS0F (L.length:Int) k L own mark _).trans ?_
      rw [decide_eq_true hk.2,beq_self_eq_true,a,hq]
      rfl
    · refine (stepS0T (L.length:Int) k L own mark _).trans ?_
      rw [decide_eq_true hk.2,beq_self_eq_true,a,hq,wI_id (n:=k+1) (by omega)]
      rfl
def GS0 (fin:Bool) (vals:List SV) (m:Mem):Option (Bool×Ex×St) :=
  match vals,m with
  | [.row 0,.v (.int .i64 nn),.v (.int .i64 k)],⟨[],[],[.live ⟨151,[.num .i64,.num .i64],L,own,mark⟩]⟩ =>
    bif fin then some (nn==(L.length:Int)&&(k==0&&(Nat.ble L.length 1000000&&apB L)),.exit 0,XS0 L own mark)
    else some (nn==(L.length:Int)&&(k==0&&(Nat.ble L.length 1000000&&!apB L)),.ret,RS0 L own mark)
  | _,_=>none
noncomputable def ΛS0 (fin:Bool):LoopOrc:=fun _ st=>viaC 0 1 kS0 (GS0 fin) st
theorem loopOkS0 (fin:Bool) (z:Base) (z1:z.L.length=0) (z2:z.U.length=1):LoopOk (ΛS0 fin) Tryz.prog z bdS0:=by
  refine loop_okN (kx:=xS0) OkSi mixed z1 z2 (G:=GS0 fin) (fun _=>rfl) ?_
  intro vals m e st' h
  unfold GS0 at h
  split at h
  · rename_i nn k L own mark
    have hx:=loopS0 L own mark
    have hΛ:∀ n,∀ b∈loopsOf bdS0,LoopOk (ΛsS L n) Tryz.prog z b:=fun n=>oneLoop loopsS1 (loopOkS1 _ z z1 z2)
    cases fin
    · simp only [cond_false] at h
      obtain ⟨h1,rfl,rfl⟩:=some_t2 h
      simp only [Bool.and_eq_true,beq_iff_eq,Bool.not_eq_true'] at h1
      obtain ⟨rfl,rfl,hl,hq⟩:=h1
      have:=hx (Nat.le_of_ble_eq_true hl)
      rw [hq] at this
      exact ⟨ΛsS L,hΛ,L.length+1,this⟩
    · simp only [cond_true] at h
      obtain ⟨h1,rfl,rfl⟩:=some_t2 h
      simp only [Bool.and_eq_true,beq_iff_eq] at h1
      obtain ⟨rfl,rfl,hl,hq⟩:=h1
      have:=hx (Nat.le_of_ble_eq_true hl)
      rw [hq] at this
      exact ⟨ΛsS L,hΛ,L.length+1,this⟩
  · cases h
theorem runSimT (L:List (List Dat)) (own mark:Bool):runG ΓSi (ΛS0 true) Tryz.prog Tryz.f267 [.row 0] ⟨[],[],[rP L own mark]⟩ =
    (bif decide ((L.length:Int)<(3:Int)) then some (.v (Bo false),⟨[],[],[.live ⟨151,[.num .i64,.num .i64],L,own,mark⟩]⟩) else (bif decide ((L.length:Int)>(8:Int)) then some (.v (Bo false),⟨[],[],[.live ⟨151,[.num .i64,.num .i64],L,own,mark⟩]⟩) else (bif L.length.ble (1000000) then (bif anyF (pNpl L) L.length then some (.v (Bo false),⟨[],[],[.live ⟨151,[.num .i64,.num .i64],L,own,mark⟩]⟩) else (bif (L.length:Int)==(L.length:Int)&&(true&&(L.length.ble (1000000)&&apB L)) then some (.v (Bo true),⟨[],[],[.live ⟨151,[.num .i64,.num .i64],L,own,mark⟩]⟩) else none)) else none))):=by kernel_rfl
theorem runSimF (L:List (List Dat)) (own mark:Bool):runG ΓSi (ΛS0 false) Tryz.prog Tryz.f267 [.row 0] ⟨[],[],[rP L own mark]⟩ =
    (bif decide ((L.length:Int)<(3:Int)) then some (.v (Bo false),⟨[],[],[.live ⟨151,[.num .i64,.num .i64],L,own,mark⟩]⟩) else (bif decide ((L.length:Int)>(8:Int)) then some (.v (Bo false),⟨[],[],[.live ⟨151,[.num .i64,.num .i64],L,own,mark⟩]⟩) else (bif L.length.ble (1000000) then (bif anyF (pNpl L) L.length then some (.v (Bo false),⟨[],[],[.live ⟨151,[.num .i64,.num .i64],L,own,mark⟩]⟩) else (bif (L.length:Int)==(L.length:Int)&&(true&&(L.length.ble (1000000)&&!apB L)) then some (.v (Bo false),⟨[],[],[.live ⟨151,[.num .i64,.num .i64],L,own,mark⟩]⟩) else none)) else none))):=by kernel_rfl
def simB (L:List (List Dat)):Bool:=bif decide ((L.length:Int)<3) then false else bif decide ((L.length:Int)>8) then false else bif anyF (pNpl L) L.length then false else apB L
def gSim (xs:List SV) (m:Mem):Option (Bool×Value) :=
  match xs,m with
  | [.row 0],⟨[],[],[.live ⟨151,[.num .i64,.num .i64],L,own,mark⟩]⟩=>some (Nat.ble L.length 1000000,Bo (simB L))
  | _,_=>none
theorem gSim_ok:CtR 267 gSim:=by
  intro xs m r h
  unfold gSim at h
  split at h
  · rename_i L own mark
    obtain ⟨h1,rfl⟩:=some_t h
    cases hq:apB L
    · refine runOk (Λ:=ΛS0 false) OkSi Tryz.func267 rfl (fun z z1 z2=>oneLoop loopsS0 (loopOkS0 false z z1 z2)) ?_
      refine (runSimF L own mark).trans ?_
      rw [h1,hq,beq_self_eq_true]
      unfold simB
      rw [hq]
      cases decide ((L.length:Int)<3)<;>cases decide ((L.length:Int)>8)<;>cases anyF (pNpl L) L.length<;>rfl
    · refine runOk (Λ:=ΛS0 true) OkSi Tryz.func267 rfl (fun z z1 z2=>oneLoop loopsS0 (loopOkS0 true z z1 z2)) ?_
      refine (runSimT L own mark).trans ?_
      rw [h1,hq,beq_self_eq_true]
      unfold simB
      rw [hq]
      cases decide ((L.length:Int)<3)<;>cases decide ((L.length:Int)>8)<;>cases anyF (pNpl L) L.length<;>rfl
  · cases h
noncomputable def ΓSj:Orc:=addRd 267 gSim ΓSi
theorem OkSj:ΓSj.Ok Tryz.prog:=addRd_ok OkSi gSim_ok
theorem runArea (L:List (List Dat)) (own mark:Bool):runG ΓSj L0 Tryz.prog Tryz.f224 [.row 0] ⟨[],[],[rP L own mark]⟩ =
    (bif L.length.ble (1000000) then (bif simB L then (bif L.length.ble (1000000) then some (.v (Bo (!anyF (pFar L) L.length)),⟨[],[],[.live ⟨151,[.num .i64,.num .i64],L,own,mark⟩]⟩) else none) else some (.v (Bo false),⟨[],[],[.live ⟨151,[.num .i64,.num .i64],L,own,mark⟩]⟩)) else none):=by kernel_rfl
def areaB (L:List (List Dat)):Bool:=simB L&&!anyF (pFar L) L.length
def gArea (xs:List SV) (m:Mem):Option (Bool×Value) :=
  match xs,m with
  | [.row 0],⟨[],[],[.live ⟨151,[.num .i64,.num .i64],L,own,mark⟩]⟩=>some (Nat.ble L.length 1000000,Bo (areaB L))
  | _,_=>none
theorem gArea_ok:CtR 224 gArea:=by
  intro xs m r h
  unfold gArea at h
  split at h
  · rename_i L own mark
    obtain ⟨h1,rfl⟩:=some_t h
    refine runOk (Λ:=L0) OkSj Tryz.func224 rfl l00 ?_
    refine (runArea L own mark).trans ?_
    rw [h1]
    unfold areaB
    cases simB L<;>rfl
  · cases h
noncomputable def ΓAr:Orc:=addRd 224 gArea ΓSj
theorem OkAr:ΓAr.Ok Tryz.prog:=addRd_ok OkSj gArea_ok
end Go.Proofs.YtagaiddomhpdmaaGreat
namespace Go.Proofs.YtagaiddomhpdmaaGreat
open Go Go.Proofs Go.Sx
set_option linter.unusedVariables false
noncomputable def bdSd:Code:=loopAt (Tryz.f227.body.getD .skip) 0
def kSd:List Bool:=maskOf 39 [0,3,5,17,18]
def xSd (e:Ex):List Bool:=match e with
  | .exit _=>maskOf 39 [5]
  | .ret=>maskOf 39 [4]
  | .normal=>maskOf 39 [0,3,5,17,18]
def KSd (e:Ex) (st:St):Option (Ex×St):=some (e,cutC 0 1 (xSd e) st)
def MSd (px py:Int) (L:List (List Dat)) (own mark:Bool):Mem:=⟨[[.v (I px),.v (I py)]],[true],[rP L own mark]⟩
theorem stepSd (px py s nn k:Int) (L:List (List Dat)) (own mark:Bool) (n:Nat):evLoop ΓAr Tryz.prog L0 (cutC 0 1 kSd) bdSd (n+1) (mk kSd [.row 0,.ptr 0 0,.v (I s),.v (I nn),.v (I k)] (MSd px py L own mark)) KSd =
    (bif decide (k<nn) then (bif atG L k then (bif onB px py (pX L k) (pY L k) (pX L (nx L k)) (pY L (nx L k)) then some (.ret,mk (xSd .ret) [.v (I 0)] ⟨[],[],[.live ⟨151,[.num .i64,.num .i64],L,own,mark⟩]⟩) else (bif rgO px py (pX L k) (pY L k) (pX L (nx L k)) (pY L (nx L k)) then evLoop ΓAr Tryz.prog L0 (cutC 0 1 kSd) bdSd n (mk kSd [.row 0,.ptr 0 0,.v (I (wI ((0:Int) - s))),.v (I nn),.v (I (wI (k+(1:Int))))] ⟨[[.v (I px),.v (I py)]],[true],[.live ⟨151,[.num .i64,.num .i64],L,own,mark⟩]⟩) KSd else evLoop ΓAr Tryz.prog L0 (cutC 0 1 kSd) bdSd n (mk kSd [.row 0,.ptr 0 0,.v (I s),.v (I nn),.v (I (wI (k+(1:Int))))] ⟨[[.v (I px),.v (I py)]],[true],[.live ⟨151,[.num .i64,.num .i64],L,own,mark⟩]⟩) KSd)) else none) else some ((.exit 0),mk (xSd (.exit 0)) [.v (I s)] ⟨[],[],[.live ⟨151,[.num .i64,.num .i64],L,own,mark⟩]⟩)):=by kernel_rfl
def hitB (px py:Int) (L:List (List Dat)) (k:Int):Bool:=onB px py (pX L k) (pY L k) (pX L (nx L k)) (pY L (nx L k))
def rgB (px py:Int) (L:List (List Dat)) (k:Int):Bool:=rgO px py (pX L k) (pY L k) (pX L (nx L k)) (pY L (nx L k))
def sdF (r:Int→Bool):Nat→Int→Int→Int
  | 0,_,s=>s
  | m+1,k,s=>sdF r m (k+1) (bif r k then -s else s)
theorem sdLoop {α:Type} (p r:Int→Bool) (N:Int) (E:Nat→Int→Int→Option α) (X:Int→Option α) (Y:Option α) (he:∀ n k s,¬ k<N→E (n+1) k s=X s) (hr:∀ n k s,0≤k∧k<N→(s=1∨s=-1)→E (n+1) k s=bif p k then Y else E n (k+1) (bif r k then -s else s)) :
    ∀ (m:Nat) (k s:Int),0≤k→k+m=N→(s=1∨s=-1)→E (m+1) k s=bif decide (ixF p m k<0) then X (sdF r m k s) else Y:=by
  intro m
  induction m with
  | zero =>
    intro k s h0 h1 hs
    exact he 0 k s (by omega)
  | succ m ih =>
    intro k s h0 h1 hs
    rw [hr (m+1) k s (by omega) hs]
    show _=bif decide ((bif p k then k else ixF p m (k+1))<0) then X (sdF r m (k+1) (bif r k then -s else s)) else Y
    cases p k
    · refine ih (k+1) _ (by omega) (by omega) ?_
      cases r k
      · exact hs
      · show -s=1∨-s=-1
        omega
    · show Y=bif decide (k<0) then X _ else Y
      rw [decide_eq_false (show ¬ k<0 by omega)]
      rfl
noncomputable def ESd (n:Nat) (k s px py:Int) (L:List (List Dat)) (own mark:Bool):Option (Ex×St) :=
  evLoop ΓAr Tryz.prog L0 (cutC 0 1 kSd) bdSd n (mk kSd [.row 0,.ptr 0 0,.v (I s),.v (I (L.length:Int)),.v (I k)] (MSd px py L own mark)) KSd
def XSd (s:Int) (L:List (List Dat)) (own mark:Bool):St:=mk (xSd (.exit 0)) [.v (I s)] ⟨[],[],[rP L own mark]⟩
def RSd (L:List (List Dat)) (own mark:Bool):St:=mk (xSd .ret) [.v (I 0)] ⟨[],[],[rP L own mark]⟩
def noHit (px py:Int) (L:List (List Dat)):Bool:=decide (ixF (hitB px py L) L.length 0<0)
theorem loopSd (px py:Int) (L:List (List Dat)) (own mark:Bool) (hl:L.length≤1000000):ESd (L.length+1) 0 (-1) px py L own mark=bif noHit px py L then some (.exit 0,XSd (sdF (rgB px py L) L.length 0 (-1)) L own mark) else some (.ret,RSd L own mark):=by
  refine sdLoop (hitB px py L) (rgB px py L) (L.length:Int) (fun n k s=>ESd n k s px py L own mark) (fun s=>some (.exit 0,XSd s L own mark)) (some (.ret,RSd L own mark)) (fun n k s hk=>?_) (fun n k s hk hs=>?_) L.length 0 (-1) (by decide) (by omega) (.inr rfl)
  · refine (stepSd px py s (L.length:Int) k L own mark n).trans ?_
    rw [decide_eq_false hk]
    rfl
  · refine (stepSd px py s (L.length:Int) k L own mark n).trans ?_
    have a:atG L k=true:=atG_iff.2 (by omega)
    rw [decide_eq_true hk.2,a,wI_id (n:=k+1) (by omega),wI_id (n:=0 - s) (by omega),Int.zero_sub]
    show (bif hitB px py L k then _ else bif rgB px py L k then _ else _)=_
    cases hitB px py L k
    · cases rgB px py L k<;>rfl
    · rfl
theorem loopsSd:loopsOf (Tryz.f227.body.getD .skip)=[bdSd]:=by kernel_rfl
def GSd (fin:Bool) (vals:List SV) (m:Mem):Option (Bool×Ex×St) :=
  match vals,m with
  | [.row 0,.ptr 0 0,.v (.int .i64 s),.v (.int .i64 nn),.v (.int .i64 k)],⟨[[.v (.int .i64 px),.v (.int .i64 py)]],[true],[.live ⟨151,[.num .i64,.num .i64],L,own,mark⟩]⟩ =>
    bif fin then some (nn==(L.length:Int)&&(k==0&&(s==-1&&(Nat.ble L.length 1000000&&noHit px py L))),.exit 0,XSd (sdF (rgB px py L) L.length 0 (-1)) L own mark)
    else some (nn==(L.length:Int)&&(k==0&&(s==-1&&(Nat.ble L.length 1000000&&!noHit px py L))),.ret,RSd L own mark)
  | _,_=>none
noncomputable def ΛSd (fin:Bool):LoopOrc:=fun _ st=>viaC 0 1 kSd (GSd fin) st
theorem loopOkSd (fin:Bool) (z:Base) (z1:z.L.length=0) (z2:z.U.length=1):LoopOk (ΛSd fin) Tryz.prog z bdSd:=by
  refine loop_okC (Λ:=L0) (kx:=xSd) OkAr mixed z1 z2 (fun b hb st t h=>by cases h) (G:=GSd fin) (fun _=>rfl) ?_
  intro vals m e st' h
  unfold GSd at h
  split at h
  · rename_i s nn k px py L own mark
    have hx:=loopSd px py L own mark
    cases fin
    · simp only [cond_false] at h
      obtain ⟨h1,rfl,rfl⟩:=some_t2 h
      simp only [Bool.and_eq_true,beq_iff_eq,Bool.not_eq_true'] at h1
      obtain ⟨rfl,rfl,rfl,hl,hq⟩:=h1
      have:=hx (Nat.le_of_ble_eq_true hl)
      rw [hq] at this
      exact ⟨L.length+1,this⟩
    · simp only [cond_true] at h
      obtain ⟨h1,rfl,rfl⟩:=some_t2 h
      simp only [Bool.and_eq_true,beq_iff_eq] at h1
      obtain ⟨rfl,rfl,rfl,hl,hq⟩:=h1
      have:=hx (Nat.le_of_ble_eq_true hl)
      rw [hq] at this
      exact ⟨L.length+1,this⟩
  · cases h
theorem runSdT (px py:Int) (L:List (List Dat)) (own mark:Bool):runG ΓAr (ΛSd true) Tryz.prog Tryz.f227 [.row 0,.v (.agg #[I px,I py])] ⟨[],[],[rP L own mark]⟩ =
    (bif L.length.ble (1000000) then (bif !areaB L then some (.v (I (-1)),⟨[],[],[.live ⟨151,[.num .i64,.num .i64],L,own,mark⟩]⟩) else (bif !plR px py then some (.v (I (-1)),⟨[],[],[.live ⟨151,[.num .i64,.num .i64],L,own,mark⟩]⟩) else (bif (L.length:Int)==(L.length:Int)&&(true&&(true&&(L.length.ble (1000000)&&noHit px py L))) then some (.v (I (sdF (rgB px py L) L.length (0:Int) (-1:Int))),⟨[],[],[.live ⟨151,[.num .i64,.num .i64],L,own,mark⟩]⟩) else none))) else none):=by kernel_rfl
theorem runSdF (px py:Int) (L:List (List Dat)) (own mark:Bool):runG ΓAr (ΛSd false) Tryz.prog Tryz.f227 [.row 0,.v (.agg #[I px,I py])] ⟨[],[],[rP L own mark]⟩ =
    (bif L.length.ble (1000000) then (bif !areaB L then some (.v (I (-1)),⟨[],[],[.live ⟨151,[.num .i64,.num .i64],L,own,mark⟩]⟩) else (bif !plR px py then some (.v (I (-1)),⟨[],[],[.live ⟨151,[.num .i64,.num .i64],L,own,mark⟩]⟩) else (bif (L.length:Int)==(L.length:Int)&&(true&&(true&&(L.length.ble (1000000)&&!noHit px py L))) then some (.v (I 0),⟨[],[],[.live ⟨151,[.num .i64,.num .i64],L,own,mark⟩]⟩) else none))) else none):=by kernel_rfl
def sideI (L:List (List Dat)) (px py:Int):Int:=bif !areaB L then -1 else bif !plR px py then -1 else bif noHit px py L then sdF (rgB px py L) L.length 0 (-1) else 0
def gSd (xs:List SV) (m:Mem):Option (Bool×Value) :=
  match xs,m with
  | [.row 0,.v (.agg ⟨[.int .i64 px,.int .i64 py]⟩)],⟨[],[],[.live ⟨151,[.num .i64,.num .i64],L,own,mark⟩]⟩=>some (Nat.ble L.length 1000000,I (sideI L px py))
  | _,_=>none
theorem gSd_ok:CtR 227 gSd:=by
  intro xs m r h
  unfold gSd at h
  split at h
  · rename_i px py L own mark
    obtain ⟨h1,rfl⟩:=some_t h
    cases hq:noHit px py L
    · refine runOk (Λ:=ΛSd false) OkAr Tryz.func227 rfl (fun z z1 z2=>oneLoop loopsSd (loopOkSd false z z1 z2)) ?_
      refine (runSdF px py L own mark).trans ?_
      rw [h1,hq,beq_self_eq_true]
      unfold sideI
      rw [hq]
      cases areaB L<;>cases plR px py<;>rfl
    · refine runOk (Λ:=ΛSd true) OkAr Tryz.func227 rfl (fun z z1 z2=>oneLoop loopsSd (loopOkSd true z z1 z2)) ?_
      refine (runSdT px py L own mark).trans ?_
      rw [h1,hq,beq_self_eq_true]
      unfold sideI
      rw [hq]
      cases areaB L<;>cases plR px py<;>rfl
  · cases h
noncomputable def ΓSd:Orc:=addRd 227 gSd ΓAr
theorem OkSd:ΓSd.Ok Tryz.prog:=addRd_ok OkAr gSd_ok
end Go.Proofs.YtagaiddomhpdmaaGreat
namespace Go.Proofs.YtagaiddomhpdmaaGreat
open Go Go.Proofs Go.Sx
set_option linter.unusedVariables false
theorem runCorners (a b c d:Int):runG ΓSd L0 Tryz.prog Tryz.f300 [.v (.agg #[I a,I b,I c,I d])] M0 =
    (bif !boR a b c d then some (.row 0,⟨[],[],[.live ⟨151,[.num .i64,.num .i64],[],true,false⟩]⟩) else some (.row 0,⟨[],[],[.live ⟨151,[.num .i64,.num .i64],[[.n (a),.n (b)],[.n (c),.n (b)],[.n (c),.n (d)],[.n (a),.n (d)]],true,false⟩]⟩)):=by kernel_rfl
abbrev cornM (a b c d:Int):Mem:=⟨[],[],[.live ⟨151,[.num .i64,.num .i64],[[.n a,.n b],[.n c,.n b],[.n c,.n d],[.n a,.n d]],true,false⟩]⟩
def gCor (xs:List SV) (m:Mem):Option (Bool×SV×Mem) :=
  match xs,m with
  | [.v (.agg ⟨[.int .i64 a,.int .i64 b,.int .i64 c,.int .i64 d]⟩)],⟨[],[],[]⟩=>some (boR a b c d,.row 0,cornM a b c d)
  | _,_=>none
theorem gCor_ok:CtC 300 gCor:=by
  intro xs m r m' h
  unfold gCor at h
  split at h
  · rename_i a b c d
    obtain ⟨h1,rfl,rfl⟩:=some_t2 h
    refine runOk (Λ:=L0) OkSd Tryz.func300 rfl l00 ?_
    refine (runCorners a b c d).trans ?_
    rw [h1]
    rfl
  · cases h
noncomputable def ΓMa:Orc:=addCl 300 gCor ΓSd
theorem OkMa:ΓMa.Ok Tryz.prog:=addCl_ok OkSd gCor_ok
noncomputable def ΓMb:Orc:=ΓMa
theorem OkMb:ΓMb.Ok Tryz.prog:=OkMa
theorem runMsd2 (a b c d p1 p2 q1 q2:Int):runG ΓMb L0 Tryz.prog Tryz.f271 [.v (.agg #[I a,I b,I c,I d]),.v (.agg #[I p1,I p2]),.v (.agg #[I q1,I q2])] M0 =
    (bif boR a b c d then (bif meetB p1 p2 q1 q2 a b c b then some (.v (Bo true),M0) else (bif meetB p1 p2 q1 q2 c b c d then some (.v (Bo true),M0) else (bif meetB p1 p2 q1 q2 c d a d then some (.v (Bo true),M0) else (bif meetB p1 p2 q1 q2 a d a b then some (.v (Bo true),M0) else some (.v (Bo false),M0))))) else none):=by kernel_rfl
def msB (a b c d p1 p2 q1 q2:Int):Bool:=meetB p1 p2 q1 q2 a b c b||(meetB p1 p2 q1 q2 c b c d||(meetB p1 p2 q1 q2 c d a d||meetB p1 p2 q1 q2 a d a b))
def gMsd (vs:List Value):Option (Bool×Value) :=
  match vs with
  | [.agg ⟨[.int .i64 a,.int .i64 b,.int .i64 c,.int .i64 d]⟩,.agg ⟨[.int .i64 p1,.int .i64 p2]⟩,.agg ⟨[.int .i64 q1,.int .i64 q2]⟩]=>some (boR a b c d,Bo (msB a b c d p1 p2 q1 q2))
  | _=>none
theorem gMsd_ok:CtV 271 gMsd:=by
  intro vs r h
  unfold gMsd at h
  split at h
  · rename_i a b c d p1 p2 q1 q2
    obtain ⟨h1,rfl⟩:=some_t h
    refine runV (vs:=[.agg #[I a,I b,I c,I d],.agg #[I p1,I p2],.agg #[I q1,I q2]]) (Λ:=L0) (m':=M0) OkMb Tryz.func271 rfl l00 ?_
    refine (runMsd2 a b c d p1 p2 q1 q2).trans ?_
    rw [h1]
    unfold msB
    cases meetB p1 p2 q1 q2 a b c b<;>cases meetB p1 p2 q1 q2 c b c d<;>cases meetB p1 p2 q1 q2 c d a d<;>cases meetB p1 p2 q1 q2 a d a b<;>rfl
  · cases h
noncomputable def ΓMc:Orc:=addVal 271 gMsd ΓMb
theorem OkMc:ΓMc.Ok Tryz.prog:=addVal_ok OkMb gMsd_ok
theorem runMts (a b c d p1 p2 q1 q2:Int):runG ΓMc L0 Tryz.prog Tryz.f225 [.v (.agg #[I a,I b,I c,I d]),.v (.agg #[I p1,I p2]),.v (.agg #[I q1,I q2])] M0 =
    (bif !boR a b c d then some (.v (Bo false),M0) else (bif !plR p1 p2 then some (.v (Bo false),M0) else (bif !plR q1 q2 then some (.v (Bo false),M0) else (bif hasB a b c d p1 p2 then some (.v (Bo true),M0) else (bif boR a b c d then some (.v (Bo (msB a b c d p1 p2 q1 q2)),M0) else none))))):=by kernel_rfl
def mtB (a b c d p1 p2 q1 q2:Int):Bool:=boR a b c d&&(plR p1 p2&&(plR q1 q2&&(hasB a b c d p1 p2||msB a b c d p1 p2 q1 q2)))
def gMts (vs:List Value):Option (Bool×Value) :=
  match vs with
  | [.agg ⟨[.int .i64 a,.int .i64 b,.int .i64 c,.int .i64 d]⟩,.agg ⟨[.int .i64 p1,.int .i64 p2]⟩,.agg ⟨[.int .i64 q1,.int .i64 q2]⟩]=>some (true,Bo (mtB a b c d p1 p2 q1 q2))
  | _=>none
theorem gMts_ok:CtV 225 gMts:=by
  intro vs r h
  unfold gMts at h
  split at h
  · rename_i a b c d p1 p2 q1 q2
    obtain ⟨h1,rfl⟩:=some_t h
    refine runV (vs:=[.agg #[I a,I b,I c,I d],.agg #[I p1,I p2],.agg #[I q1,I q2]]) (Λ:=L0) (m':=M0) OkMc Tryz.func225 rfl l00 ?_
    refine (runMts a b c d p1 p2 q1 q2).trans ?_
    unfold mtB
    cases boR a b c d<;>cases plR p1 p2<;>cases plR q1 q2<;>cases hasB a b c d p1 p2<;>rfl
  · cases h
noncomputable def ΓMt:Orc:=addVal 225 gMts ΓMc
theorem OkMt:ΓMt.Ok Tryz.prog:=addVal_ok OkMc gMts_ok
noncomputable def ΓMr:Orc:=ΓMt
theorem OkMr:ΓMr.Ok Tryz.prog:=OkMt
end Go.Proofs.YtagaiddomhpdmaaGreat
namespace Go.Proofs.YtagaiddomhpdmaaGreat
open Go Go.Proofs Go.Sx
set_option linter.unusedVariables false
def anyN (p:Int→Bool):Nat→Int→Bool
  | 0,_=>false
  | m+1,k=>p k||anyN p m (k+1)
theorem anyN_iff {p:Int→Bool}:∀ {m:Nat} {k:Int},anyN p m k=true↔∃ i,k≤i∧i<k+m∧p i=true
  | 0,k=>⟨fun h=>(by cases h),fun ⟨i,h1,h2,_⟩=>absurd h2 (by omega)⟩
  | m+1,k=>by
    show (p k||anyN p m (k+1))=true↔_
    rw [Bool.or_eq_true,anyN_iff]
    constructor
    · rintro (h|⟨i,h1,h2,h3⟩)
      · exact ⟨k,by omega,by omega,h⟩
      · exact ⟨i,by omega,by omega,h3⟩
    · rintro ⟨i,h1,h2,h3⟩
      by_cases hi:i=k
      · rw [hi] at h3;exact .inl h3
      · exact .inr ⟨i,by omega,by omega,h3⟩
theorem findLoop {α:Type} (p:Int→Bool) (N:Int) (E:Nat→Int→Option α) (X Y:Option α) (he:∀ n k,¬ k<N→E (n+1) k=X) (hr:∀ n k,0≤k∧k<N→E (n+1) k=bif p k then Y else E n (k+1)) :
    ∀ (m:Nat) (k:Int),0≤k→k+m=N→E (m+1) k=bif anyN p m k then Y else X:=by
  intro m
  induction m with
  | zero =>
    intro k h0 h1
    exact he 0 k (by omega)
  | succ m ih =>
    intro k h0 h1
    rw [hr (m+1) k (by omega)]
    show _=bif p k||anyN p m (k+1) then Y else X
    cases p k
    · exact ih (k+1) (by omega) (by omega)
    · rfl
def rcB (L:List (List Dat)) (i k:Int):Bool:=eqP L i k||bif k==i+1 then onB (pX L (nx L k)) (pY L (nx L k)) (pX L i) (pY L i) (pX L (nx L i)) (pY L (nx L i))||onB (pX L i) (pY L i) (pX L k) (pY L k) (pX L (nx L k)) (pY L (nx L k))
  else bif i==0&&k==(L.length:Int) - 1 then onB (pX L k) (pY L k) (pX L i) (pY L i) (pX L (nx L i)) (pY L (nx L i))||onB (pX L (nx L i)) (pY L (nx L i)) (pX L k) (pY L k) (pX L (nx L k)) (pY L (nx L k))
  else meetB (pX L i) (pY L i) (pX L (nx L i)) (pY L (nx L i)) (pX L k) (pY L k) (pX L (nx L k)) (pY L (nx L k))
def rwB (L:List (List Dat)) (i:Int):Bool:=anyN (rcB L i) ((L.length:Int) - (i+1)).toNat (i+1)
def simR (L:List (List Dat)):Bool:=!(decide ((L.length:Int)<3)||decide ((L.length:Int)>8))&&(!anyN (pNpl L) L.length 0&&!anyN (rwB L) L.length 0)
noncomputable def ΓRs1:Orc:=ΓMr
theorem OkRs1:ΓRs1.Ok Tryz.prog:=OkMr
def areaR (L:List (List Dat)):Bool:=!(decide ((L.length:Int)≤8)&&anyN (pFar L) L.length 0)&&simR L
noncomputable def ΓRs2:Orc:=ΓRs1
theorem OkRs2:ΓRs2.Ok Tryz.prog:=OkRs1
def foF {σ:Type} (f:Int→σ→σ):Nat→Int→σ→σ
  | 0,_,s=>s
  | m+1,k,s=>foF f m (k+1) (f k s)
theorem foldFind {α σ:Type} (p:Int→Bool) (f:Int→σ→σ) (I:Int→σ→Prop) (N:Int) (E:Nat→Int→σ→Option α) (X:σ→Option α) (Y:Option α) (he:∀ n k s,¬ k<N→I k s→E (n+1) k s=X s) (hI:∀ k s,0≤k∧k<N→I k s→I (k+1) (f k s)) (hr:∀ n k s,0≤k∧k<N→I k s→E (n+1) k s=bif p k then Y else E n (k+1) (f k s)) :
    ∀ (m:Nat) (k:Int) (s:σ),0≤k→k+m=N→I k s→E (m+1) k s=bif anyN p m k then Y else X (foF f m k s):=by
  intro m
  induction m with
  | zero =>
    intro k s h0 h1 hi
    exact he 0 k s (by omega) hi
  | succ m ih =>
    intro k s h0 h1 hi
    rw [hr (m+1) k s (by omega) hi]
    show _=bif p k||anyN p m (k+1) then Y else X (foF f m (k+1) (f k s))
    cases p k
    · exact ih (k+1) (f k s) (by omega) (by omega) (hI k s (by omega) hi)
    · rfl
theorem anyN_false:∀ (m:Nat) (k:Int),anyN (fun _=>false) m k=false
  | 0,_=>rfl
  | m+1,k=>anyN_false m (k+1)
theorem foldAll {α σ:Type} (f:Int→σ→σ) (I:Int→σ→Prop) (N:Int) (E:Nat→Int→σ→Option α) (X:σ→Option α) (he:∀ n k s,¬ k<N→I k s→E (n+1) k s=X s) (hI:∀ k s,0≤k∧k<N→I k s→I (k+1) (f k s)) (hr:∀ n k s,0≤k∧k<N→I k s→E (n+1) k s=E n (k+1) (f k s))
    (m:Nat) (k:Int) (s:σ) (h0:0≤k) (h1:k+m=N) (hi:I k s):E (m+1) k s=X (foF f m k s):=by
  have:=foldFind (fun _=>false) f I N E X none he hI (fun n k s hk hi=>hr n k s hk hi) m k s h0 h1 hi
  rwa [anyN_false] at this
noncomputable def ΓRs:Orc:=ΓRs2
theorem OkRs:ΓRs.Ok Tryz.prog:=OkRs2
end Go.Proofs.YtagaiddomhpdmaaGreat
namespace Go.Proofs.YtagaiddomhpdmaaGreat
open Go Go.Proofs Go.Sx
set_option linter.unusedVariables false
noncomputable def ΓRg1:Orc:=ΓRs
theorem OkRg1:ΓRg1.Ok Tryz.prog:=OkRs
noncomputable def bdRh:Code:=loopAt (Tryz.f167.body.getD .skip) 0
def kRh:List Bool:=maskOf 33 [1,2,15,16,17]
def xRh (e:Ex):List Bool:=match e with
  | .exit _=>maskOf 33 [1,2]
  | .ret=>maskOf 33 [4]
  | .normal=>maskOf 33 [1,2,15,16,17]
def KRh (e:Ex) (st:St):Option (Ex×St):=some (e,cutC 0 1 (xRh e) st)
theorem stepRh (a:Int) (b:Int) (c:Int) (d:Int) (k:Int) (nn:Int) (L:List (List Dat)) (own:Bool) (mark:Bool) (n:Nat):evLoop ΓRg1 Tryz.prog L0 (cutC 0 1 kRh) bdRh (n+1) (mk kRh [.row 0,.ptr 0 0,.row 0,.v (I nn),.v (I k)] ⟨[[.v (I a),.v (I b),.v (I c),.v (I d)]],[true],[rP L own mark]⟩) KRh =
    (bif decide (k<nn) then (bif decide ((0:Int)≤k)&&decide (k<(L.length:Int)) then (bif atG L k then (bif mtB a b c d (pX L k) (pY L k) (pX L (nx L k)) (pY L (nx L k)) then some (.ret,mk (xRh .ret) [.v (I 0)] ⟨[],[],[.live ⟨151,[.num .i64,.num .i64],L,own,mark⟩]⟩) else evLoop ΓRg1 Tryz.prog L0 (cutC 0 1 kRh) bdRh n (mk kRh [.row 0,.ptr 0 0,.row 0,.v (I nn),.v (I (wI (k+(1:Int))))] ⟨[[.v (I a),.v (I b),.v (I c),.v (I d)]],[true],[.live ⟨151,[.num .i64,.num .i64],L,own,mark⟩]⟩) KRh) else none) else none) else some ((.exit 0),mk (xRh (.exit 0)) [.row 0,.ptr 0 0] ⟨[[.v (I a),.v (I b),.v (I c),.v (I d)]],[true],[.live ⟨151,[.num .i64,.num .i64],L,own,mark⟩]⟩)):=by kernel_rfl
noncomputable def ERh (n:Nat) (a:Int) (b:Int) (c:Int) (d:Int) (k:Int) (nn:Int) (L:List (List Dat)) (own:Bool) (mark:Bool):Option (Ex×St) :=
  evLoop ΓRg1 Tryz.prog L0 (cutC 0 1 kRh) bdRh n (mk kRh [.row 0,.ptr 0 0,.row 0,.v (I nn),.v (I k)] ⟨[[.v (I a),.v (I b),.v (I c),.v (I d)]],[true],[rP L own mark]⟩) KRh
def rlBx (a b c d:Int) (L:List (List Dat)) (k:Int):Bool:=mtB a b c d (pX L k) (pY L k) (pX L (nx L k)) (pY L (nx L k))
def lfRh (a b c d:Int) (L:List (List Dat)) (own mark:Bool):LT:=.br (anyN (rlBx a b c d L) L.length 0) (.leaf .ret (mk (xRh .ret) [.v (I 0)] ⟨[],[],[rP L own mark]⟩)) (.leaf (.exit 0) (mk (xRh (.exit 0)) [.row 0,.ptr 0 0] ⟨[[.v (I a),.v (I b),.v (I c),.v (I d)]],[true],[rP L own mark]⟩))
theorem loopRh (a b c d:Int) (L:List (List Dat)) (own mark:Bool) (hl:L.length≤1000000):ERh (L.length+1) a b c d 0 (L.length:Int) L own mark=some (lfRh a b c d L own mark).pick:=by
  have h:=findLoop (rlBx a b c d L) (L.length:Int) (fun n k=>ERh n a b c d k (L.length:Int) L own mark) (some (.exit 0,mk (xRh (.exit 0)) [.row 0,.ptr 0 0] ⟨[[.v (I a),.v (I b),.v (I c),.v (I d)]],[true],[rP L own mark]⟩)) (some (.ret,mk (xRh .ret) [.v (I 0)] ⟨[],[],[rP L own mark]⟩)) (fun n k hk=>?_) (fun n k hk=>?_) L.length 0 (by omega) (by omega)
  · refine h.trans ?_
    unfold lfRh
    cases anyN (rlBx a b c d L) L.length 0<;>rfl
  · refine (stepRh a b c d k (L.length:Int) L own mark n).trans ?_
    rw [decide_eq_false hk]
    rfl
  · refine (stepRh a b c d k (L.length:Int) L own mark n).trans ?_
    have e:atG L k=true:=atG_iff.2 (by omega)
    have n1:=nx_in e
    rw [decide_eq_true hk.2,decide_eq_true hk.1,e,wI_id (n:=k+1) (by omega)]
    show (bif rlBx a b c d L k then _ else _)=_
    cases rlBx a b c d L k<;>rfl
def GRh (vals:List SV) (m:Mem):Option (Bool×LT) :=
  match vals,m with
  | [.row 0,.ptr 0 0,.row 0,.v (.int .i64 nn),.v (.int .i64 k)],⟨[[.v (.int .i64 a),.v (.int .i64 b),.v (.int .i64 c),.v (.int .i64 d)]],[true],[.live ⟨151,[.num .i64,.num .i64],L,own,mark⟩]⟩=>some (nn==(L.length:Int)&&(k==0&&Nat.ble L.length 1000000),lfRh a b c d L own mark)
  | _,_=>none
noncomputable def ΛRh:LoopOrc:=fun _ st=>viaT 0 1 kRh GRh st
theorem loopOkRh (z:Base) (z1:z.L.length=0) (z2:z.U.length=1):LoopOk ΛRh Tryz.prog z bdRh:=by
  refine loop_okT (Λ:=L0) (kx:=xRh) OkRg1 mixed z1 z2 (fun b hb st t h=>by cases h) (G:=GRh) (fun _=>rfl) ?_
  intro vals m t h
  unfold GRh at h
  split at h
  · rename_i nn k a b c d L own mark
    obtain ⟨h1,rfl⟩:=some_t h
    simp only [Bool.and_eq_true,beq_iff_eq] at h1
    obtain ⟨rfl,rfl,hl⟩:=h1
    exact ⟨_,loopRh a b c d L own mark (Nat.le_of_ble_eq_true hl)⟩
  · cases h
theorem loopsRh:loopsOf (Tryz.f167.body.getD .skip)=[bdRh]:=by kernel_rfl
def relBx (a b c d:Int) (L:List (List Dat)):Int:=bif !boR a b c d then -1 else bif !areaB L then -1 else bif anyN (rlBx a b c d L) L.length 0 then 0 else sideI L a b
theorem runRBx (a:Int) (b:Int) (c:Int) (d:Int) (L:List (List Dat)) (own:Bool) (mark:Bool):runG ΓRg1 ΛRh Tryz.prog Tryz.f167 [.v (.agg #[I a,I b,I c,I d]),.row 0] ⟨[],[],[rP L own mark]⟩ =
    (bif !boR a b c d then some (.v (I (-1)),⟨[],[],[.live ⟨151,[.num .i64,.num .i64],L,own,mark⟩]⟩) else (bif L.length.ble (1000000) then (bif !areaB L then some (.v (I (-1)),⟨[],[],[.live ⟨151,[.num .i64,.num .i64],L,own,mark⟩]⟩) else (bif (L.length:Int)==(L.length:Int)&&(true&&L.length.ble (1000000)) then (bif anyN (rlBx a b c d L) L.length (0:Int) then some (.v (I 0),⟨[],[],[.live ⟨151,[.num .i64,.num .i64],L,own,mark⟩]⟩) else (bif L.length.ble (1000000) then some (.v (I (sideI L a b)),⟨[],[],[.live ⟨151,[.num .i64,.num .i64],L,own,mark⟩]⟩) else none)) else none)) else none)):=by kernel_rfl
def gRBx (xs:List SV) (m:Mem):Option (Bool×Value) :=
  match xs,m with
  | [.v (.agg ⟨[.int .i64 a,.int .i64 b,.int .i64 c,.int .i64 d]⟩),.row 0],⟨[],[],[.live ⟨151,[.num .i64,.num .i64],L,own,mark⟩]⟩=>some (Nat.ble L.length 1000000,I (relBx a b c d L))
  | _,_=>none
theorem gRBx_ok:CtR 167 gRBx:=by
  intro xs m r h
  unfold gRBx at h
  split at h
  · rename_i a b c d L own mark
    obtain ⟨h1,rfl⟩:=some_t h
    refine runOk (Λ:=ΛRh) OkRg1 Tryz.func167 rfl (fun z z1 z2=>oneLoop loopsRh (loopOkRh z z1 z2)) ?_
    refine (runRBx a b c d L own mark).trans ?_
    rw [h1,beq_self_eq_true]
    unfold relBx
    cases boR a b c d<;>cases areaB L<;>cases anyN (rlBx a b c d L) L.length 0<;>rfl
  · cases h
noncomputable def ΓRg2:Orc:=addRd 167 gRBx ΓRg1
theorem OkRg2:ΓRg2.Ok Tryz.prog:=addRd_ok OkRg1 gRBx_ok
noncomputable def ΓRg3:Orc:=ΓRg2
theorem OkRg3:ΓRg3.Ok Tryz.prog:=OkRg2
end Go.Proofs.YtagaiddomhpdmaaGreat
