/-
  What is known of this program: contracts of poly and of box over rows of places,and of the document's.
-/
import Derived.Test.YtainfdcfkgemhaaGreatYa
import Derived.Test.YtainfdcfkgemhaaGreatSx
set_option maxRecDepth 100000
noncomputable section
open Go.Proofs.Tryz
namespace Go.Proofs.YtainfdcfkgemhaaGreat
open Go Go.Proofs Go.Sx
set_option linter.unusedVariables false
def pX (L:List (List Dat)) (k:Int):Int:=((L.getD k.toNat []).headD (Dat.n 0)).toI
def pY (L:List (List Dat)) (k:Int):Int:=((L.getD k.toNat []).tail.headD (Dat.n 0)).toI
def nx (L:List (List Dat)) (i:Int):Int:=(wI (i+1)).tmod (L.length:Int)
abbrev rP (L:List (List Dat)) (own mark:Bool):RowS:=.live ⟨162,[.num .i64,.num .i64],L,own,mark⟩
theorem ZV (i:Int) (L:List (List Dat)) (own mark:Bool):runG ΓBo L0 prog f240 [.row 0,.v (I i)] ⟨[],[],[rP L own mark]⟩ =
 (bif (L.length:Int)==(0:Int) then none else (bif decide ((0:Int)<=nx L i)&&decide (nx L i<(L.length:Int)) then some (.v (.agg #[(I (pX L (nx L i))),(I (pY L (nx L i)))]),⟨[],[],[.live ⟨162,[.num .i64,.num .i64],L,own,mark⟩]⟩) else none)):=by kernel_rfl
theorem Zk (i:Int) (L:List (List Dat)) (own mark:Bool):runG ΓBo L0 prog f303 [.row 0,.v (I i)] ⟨[],[],[rP L own mark]⟩ =
 (bif decide ((0:Int)<=i)&&decide (i<(L.length:Int)) then (bif (L.length:Int)==(0:Int) then none else (bif decide ((0:Int)<=nx L i)&&decide (nx L i<(L.length:Int)) then some (.v (.tuple #[(.agg #[(I (pX L i)),(I (pY L i))]),(.agg #[(I (pX L (nx L i))),(I (pY L (nx L i)))])]),⟨[],[],[.live ⟨162,[.num .i64,.num .i64],L,own,mark⟩]⟩) else none)) else none):=by kernel_rfl
theorem X4 (i:Int) (L:List (List Dat)) (own mark:Bool):runG ΓBo L0 prog f289 [.row 0,.v (I i)] ⟨[],[],[rP L own mark]⟩ =
 (bif (L.length:Int)==(0:Int) then none else (bif decide ((0:Int)<=nx L i)&&decide (nx L i<(L.length:Int)) then some (.v (.agg #[(I (pX L (nx L i))),(I (pY L (nx L i)))]),⟨[],[],[.live ⟨162,[.num .i64,.num .i64],L,own,mark⟩]⟩) else none)):=by kernel_rfl
def cl (L:List (List Dat)) (i:Int):Bool:=decide (0<=i)&&(decide (i<(L.length:Int))&&Nat.ble L.length 1000000)
theorem eh {L:List (List Dat)} {i:Int}:cl L i=true↔0<=i/\i<(L.length:Int)/\L.length<=1000000:=by
 unfold cl
 simp only [Bool.and_eq_true,decide_eq_true_eq]
 exact ⟨fun ⟨a,b,c⟩=>⟨a,b,Nat.le_of_ble_eq_true c⟩,fun ⟨a,b,c⟩=>⟨a,b,Nat.ble_eq_true_of_le c⟩⟩
theorem sN {L:List (List Dat)} {i:Int} (h:cl L i=true):0<=nx L i/\nx L i<(L.length:Int):=by
 have h:=eh.1 h
 unfold nx
 rw [aM (by omega),Int.tmod_eq_emod_of_nonneg (by omega)]
 exact ⟨Int.emod_nonneg _ (by omega),Int.emod_lt_of_pos _ (by omega)⟩
def ql (xs:List SV) (m:Mem):Option (Bool×Value) :=
 match xs,m with
 | [.row 0,.v (.int .i64 i)],⟨[],[],[.live ⟨162,[.num .i64,.num .i64],L,own,mark⟩]⟩=>some (cl L i,.agg #[I (pX L (nx L i)),I (pY L (nx L i))])
 | _,_=>none
theorem qgL:bi 240 ql:=by
 intro xs m r h
 unfold ql at h
 split at h
 ·rename_i i L own mark
  obtain ⟨h1,rfl⟩:=aa h
  refine aj (Λ:=L0) Ae func240 rfl af ?_
  refine (ZV i L own mark).trans ?_
  have n:=sN h1
  have a:=eh.1 h1
  rw [beq_eq_false_iff_ne.2 (show (L.length:Int)≠0 by omega),decide_eq_true n.1,decide_eq_true n.2]
  rfl
 ·cases h
theorem qfh:bi 289 ql:=by
 intro xs m r h
 unfold ql at h
 split at h
 ·rename_i i L own mark
  obtain ⟨h1,rfl⟩:=aa h
  refine aj (Λ:=L0) Ae func289 rfl af ?_
  refine (X4 i L own mark).trans ?_
  have n:=sN h1
  have a:=eh.1 h1
  rw [beq_eq_false_iff_ne.2 (show (L.length:Int)≠0 by omega),decide_eq_true n.1,decide_eq_true n.2]
  rfl
 ·cases h
def Gn (xs:List SV) (m:Mem):Option (Bool×Value) :=
 match xs,m with
 | [.row 0,.v (.int .i64 i)],⟨[],[],[.live ⟨162,[.num .i64,.num .i64],L,own,mark⟩]⟩=>some (cl L i,.tuple #[.agg #[I (pX L i),I (pY L i)],.agg #[I (pX L (nx L i)),I (pY L (nx L i))]])
 | _,_=>none
theorem qgg:bi 303 Gn:=by
 intro xs m r h
 unfold Gn at h
 split at h
 ·rename_i i L own mark
  obtain ⟨h1,rfl⟩:=aa h
  refine aj (Λ:=L0) Ae func303 rfl af ?_
  refine (Zk i L own mark).trans ?_
  have n:=sN h1
  have a:=eh.1 h1
  rw [beq_eq_false_iff_ne.2 (show (L.length:Int)≠0 by omega),decide_eq_true n.1,decide_eq_true n.2,decide_eq_true a.1,decide_eq_true a.2.1]
  rfl
 ·cases h
def ΓRw1:Orc:=aR 240 ql ΓBo
theorem qjC:ΓRw1.Ok prog:=aL Ae qgL
def ΓRw2:Orc:=aR 303 Gn ΓRw1
theorem qjB:ΓRw2.Ok prog:=aL qjC qgg
def ΓRo:Orc:=aR 289 ql ΓRw2
theorem RB:ΓRo.Ok prog:=aL qjB qfh
end Go.Proofs.YtainfdcfkgemhaaGreat
namespace Go.Proofs.YtainfdcfkgemhaaGreat
open Go Go.Proofs Go.Sx
set_option linter.unusedVariables false
theorem XW (a1:Int) (a2:Int) (b1:Int) (b2:Int) (c1:Int) (c2:Int):runG ΓRo L0 prog f359 [.v (.agg #[I a1,I a2]),.v (.agg #[I b1,I b2]),.v (.agg #[I c1,I c2])] M0 =
 (bif onB c1 c2 a1 a2 b1 b2 then some (.v (Bo true),M0) else some (.v (Bo (onB a1 a2 b1 b2 c1 c2)),M0)):=by kernel_rfl
def Fb (vs:List Value):Option (Bool×Value) :=
 match vs with
 | [.agg ⟨[.int .i64 a1,.int .i64 a2]⟩,.agg ⟨[.int .i64 b1,.int .i64 b2]⟩,.agg ⟨[.int .i64 c1,.int .i64 c2]⟩]=>some (true,Bo (onB c1 c2 a1 a2 b1 b2||onB a1 a2 b1 b2 c1 c2))
 | _=>none
theorem qfb:an 359 Fb:=by
 intro vs r h
 unfold Fb at h
 split at h
 ·rename_i a1 a2 b1 b2 c1 c2
  obtain ⟨h1,rfl⟩:=aa h
  refine am (vs:=[.agg #[I a1,I a2],.agg #[I b1,I b2],.agg #[I c1,I c2]]) (Λ:=L0) (m':=M0) RB func359 rfl af ?_
  exact (XW a1 a2 b1 b2 c1 c2).trans (by cases onB c1 c2 a1 a2 b1 b2<;>rfl)
 ·cases h
def ΓZ1:Orc:=ah 359 Fb ΓRo
theorem qjq:ΓZ1.Ok prog:=ac RB qfb
theorem Yh (i j:Int) (L:List (List Dat)) (own mark:Bool):runG ΓZ1 L0 prog f334 [.row 0,.v (I i),.v (I j)] ⟨[],[],[rP L own mark]⟩ =
 (bif cl L i then (bif cl L j then (bif wI (i+(1:Int))==j then some (.v (Bo (onB (pX L (nx L j)) (pY L (nx L j)) (pX L i) (pY L i) (pX L (nx L i)) (pY L (nx L i))||onB (pX L i) (pY L i) (pX L (nx L i)) (pY L (nx L i)) (pX L (nx L j)) (pY L (nx L j)))),⟨[],[],[.live ⟨162,[.num .i64,.num .i64],L,own,mark⟩]⟩) else (bif (L.length:Int)==(0:Int) then none else (bif (wI (j+(1:Int))).tmod (L.length:Int)==i then some (.v (Bo (onB (pX L (nx L i)) (pY L (nx L i)) (pX L j) (pY L j) (pX L (nx L j)) (pY L (nx L j))||onB (pX L j) (pY L j) (pX L (nx L j)) (pY L (nx L j)) (pX L (nx L i)) (pY L (nx L i)))),⟨[],[],[.live ⟨162,[.num .i64,.num .i64],L,own,mark⟩]⟩) else some (.v (Bo (ch (pX L i) (pY L i) (pX L (nx L i)) (pY L (nx L i)) (pX L j) (pY L j) (pX L (nx L j)) (pY L (nx L j)))),⟨[],[],[.live ⟨162,[.num .i64,.num .i64],L,own,mark⟩]⟩)))) else none) else none):=by kernel_rfl
def ΓPz:Orc:=ΓZ1
theorem IJ:ΓPz.Ok prog:=qjq
end Go.Proofs.YtainfdcfkgemhaaGreat
namespace Go.Proofs.YtainfdcfkgemhaaGreat
open Go Go.Proofs Go.Sx
set_option linter.unusedVariables false
def gf (n:Int):Bool:=decide (n< -1073741824)||decide (n>1073741824)
def pj (px py ax ay bx by1:Int):Bool:=bif decide (ay>by1) then decide (by1<=py)&&(decide (ay>py)&&decide (bC bx by1 ax ay px py>0)) else decide (ay<=py)&&(decide (by1>py)&&decide (bC ax ay bx by1 px py>0))
theorem YU (n:Int):runG ΓPz L0 prog f336 [.v (I n)] M0 =
 (bif decide (n<(-1073741824:Int)) then some (.v (Bo true),M0) else some (.v (Bo (decide (n>(1073741824:Int)))),M0)):=by kernel_rfl
def F4 (vs:List Value):Option (Bool×Value) :=
 match vs with
 | [.int .i64 n]=>some (true,Bo (gf n))
 | _=>none
theorem qfX:an 336 F4:=by
 intro vs r h
 unfold F4 at h
 split at h
 ·rename_i n
  obtain ⟨h1,rfl⟩:=aa h
  refine am (vs:=[I n]) (Λ:=L0) (m':=M0) IJ func336 rfl af ?_
  exact (YU n).trans (by unfold gf;cases decide (n< -1073741824)<;>rfl)
 ·cases h
def ΓPv1:Orc:=ah 336 F4 ΓPz
theorem RP:ΓPv1.Ok prog:=ac IJ qfX
theorem Y2 (x:Int) (y:Int):runG ΓPv1 L0 prog f299 [.v (.agg #[I x,I y])] M0 =
 (bif gf x then some (.v (Bo true),M0) else some (.v (Bo (gf y)),M0)):=by kernel_rfl
def Ga (vs:List Value):Option (Bool×Value) :=
 match vs with
 | [.agg ⟨[.int .i64 x,.int .i64 y]⟩]=>some (true,Bo (gf x||gf y))
 | _=>none
theorem qf3:an 299 Ga:=by
 intro vs r h
 unfold Ga at h
 split at h
 ·rename_i x y
  obtain ⟨h1,rfl⟩:=aa h
  refine am (vs:=[.agg #[I x,I y]]) (Λ:=L0) (m':=M0) RP func299 rfl af ?_
  exact (Y2 x y).trans (by cases gf x<;>rfl)
 ·cases h
def ΓPv2:Orc:=ah 299 Ga ΓPv1
theorem RO:ΓPv2.Ok prog:=ac RP qf3
theorem X9 (x:Int) (y:Int):runG ΓPv2 L0 prog f302 [.v (.agg #[I x,I y])] M0 =
 some (.v (Bo (!plR x y)),M0):=by kernel_rfl
def Fp (vs:List Value):Option (Bool×Value) :=
 match vs with
 | [.agg ⟨[.int .i64 x,.int .i64 y]⟩]=>some (true,Bo (!plR x y))
 | _=>none
theorem qfk:an 302 Fp:=by
 intro vs r h
 unfold Fp at h
 split at h
 ·rename_i x y
  obtain ⟨h1,rfl⟩:=aa h
  refine am (vs:=[.agg #[I x,I y]]) (Λ:=L0) (m':=M0) RO func302 rfl af ?_
  exact (X9 x y).trans (rfl)
 ·cases h
def ΓPv3:Orc:=ah 302 Fp ΓPv2
theorem RN:ΓPv3.Ok prog:=ac RO qfk
theorem Xg (px:Int) (py:Int) (ax:Int) (ay:Int) (bx:Int) (by1:Int):runG ΓPv3 L0 prog f305 [.v (.agg #[I px,I py]),.v (.agg #[I ax,I ay]),.v (.agg #[I bx,I by1])] M0 =
 (bif decide (ay>by1) then (bif decide (by1<=py) then (bif decide (ay>py) then some (.v (Bo (decide (bC bx by1 ax ay px py>(0:Int)))),M0) else some (.v (Bo false),M0)) else some (.v (Bo false),M0)) else (bif decide (ay<=py) then (bif decide (by1>py) then some (.v (Bo (decide (bC ax ay bx by1 px py>(0:Int)))),M0) else some (.v (Bo false),M0)) else some (.v (Bo false),M0))):=by kernel_rfl
def EL (vs:List Value):Option (Bool×Value) :=
 match vs with
 | [.agg ⟨[.int .i64 px,.int .i64 py]⟩,.agg ⟨[.int .i64 ax,.int .i64 ay]⟩,.agg ⟨[.int .i64 bx,.int .i64 by1]⟩]=>some (true,Bo (pj px py ax ay bx by1))
 | _=>none
theorem qeK:an 305 EL:=by
 intro vs r h
 unfold EL at h
 split at h
 ·rename_i px py ax ay bx by1
  obtain ⟨h1,rfl⟩:=aa h
  refine am (vs:=[.agg #[I px,I py],.agg #[I ax,I ay],.agg #[I bx,I by1]]) (Λ:=L0) (m':=M0) RN func305 rfl af ?_
  exact (Xg px py ax ay bx by1).trans (by unfold pj;cases decide (ay>by1)<;>cases decide (by1<=py)<;>cases decide (ay>py)<;>cases decide (ay<=py)<;>cases decide (by1>py)<;>rfl)
 ·cases h
def ΓPv4:Orc:=ah 305 EL ΓPv3
theorem qjS:ΓPv4.Ok prog:=ac RN qeK
def ΓPw:Orc:=ΓPv4
theorem oD:ΓPw.Ok prog:=qjS
def kS:Code:=bX (f335.body.getD .skip) 0
def gd:List Bool:=aB 19 [0,1,7,8]
def j5 (e:Ex):List Bool:=match e with
 | .exit _=>aB 19 []
 | .ret=>aB 19 [4]
 | .normal=>aB 19 [0,1,7,8]
def rf (e:Ex) (st:St):Option (Ex×St):=some (e,ab 0 1 (j5 e) st)
abbrev fV (f:Nat):Value:=.func (.func f) ⟨[]⟩ ⟨[]⟩
theorem Lr (k:Int) (L:List (List Dat)) (own mark:Bool) (n:Nat):ao ΓPw prog L0 (ab 0 1 gd) kS (n+1) (mk gd [.row 0,.v (fV 302),.v (I (L.length:Int)),.v (I k)] ⟨[],[],[rP L own mark]⟩) rf =
 (bif decide (k<(L.length:Int)) then (bif decide ((0:Int)<=k)&&decide (k<(L.length:Int)) then (bif !plR (pX L k) (pY L k) then some (.ret,mk (j5 .ret) [.v (I k)] ⟨[],[],[.live ⟨162,[.num .i64,.num .i64],L,own,mark⟩]⟩) else ao ΓPw prog L0 (ab 0 1 gd) kS n (mk gd [.row 0,.v (Value.func (Fn.func (302:Nat)) { toList:=[]:Array Value } { toList:=[]:Array Value }),.v (I (L.length:Int)),.v (I (wI (k+(1:Int))))] ⟨[],[],[.live ⟨162,[.num .i64,.num .i64],L,own,mark⟩]⟩) rf) else none) else some ((.exit 0),mk (j5 (.exit 0)) [] ⟨[],[],[.live ⟨162,[.num .i64,.num .i64],L,own,mark⟩]⟩)):=by kernel_rfl
theorem Ls (k:Int) (L:List (List Dat)) (own mark:Bool) (n:Nat):ao ΓPw prog L0 (ab 0 1 gd) kS (n+1) (mk gd [.row 0,.v (fV 299),.v (I (L.length:Int)),.v (I k)] ⟨[],[],[rP L own mark]⟩) rf =
 (bif decide (k<(L.length:Int)) then (bif decide ((0:Int)<=k)&&decide (k<(L.length:Int)) then (bif gf (pX L k)||gf (pY L k) then some (.ret,mk (j5 .ret) [.v (I k)] ⟨[],[],[.live ⟨162,[.num .i64,.num .i64],L,own,mark⟩]⟩) else ao ΓPw prog L0 (ab 0 1 gd) kS n (mk gd [.row 0,.v (Value.func (Fn.func (299:Nat)) { toList:=[]:Array Value } { toList:=[]:Array Value }),.v (I (L.length:Int)),.v (I (wI (k+(1:Int))))] ⟨[],[],[.live ⟨162,[.num .i64,.num .i64],L,own,mark⟩]⟩) rf) else none) else some ((.exit 0),mk (j5 (.exit 0)) [] ⟨[],[],[.live ⟨162,[.num .i64,.num .i64],L,own,mark⟩]⟩)):=by kernel_rfl
end Go.Proofs.YtainfdcfkgemhaaGreat
namespace Go.Proofs.YtainfdcfkgemhaaGreat
open Go Go.Proofs Go.Sx
set_option linter.unusedVariables false
def bD (p:Int->Bool):Nat->Int->Int
 | 0,_=>-1
 | m+1,k=>bif p k then k else bD p m (k+1)
theorem C3 {α:Type} (p:Int->Bool) (N:Int) (E:Nat->Int->Option α) (X:Option α) (Y:Int->Option α) (he:∀ n k,¬ k<N->E (n+1) k=X) (hr:∀ n k,0<=k/\k<N->E (n+1) k=bif p k then Y k else E n (k+1)) :
  ∀ (m:Nat) (k:Int),0<=k->k+m=N->E (m+1) k=bif decide (bD p m k<0) then X else Y (bD p m k):=by
 intro m
 induction m with
 | zero =>
  intro k h0 h1
  exact he 0 k (by omega)
 | succ m ih =>
  intro k h0 h1
  rw [hr (m+1) k (by omega)]
  show _=bif decide ((bif p k then k else bD p m (k+1))<0) then X else Y (bif p k then k else bD p m (k+1))
  cases p k
  ·exact ih (k+1) (by omega) (by omega)
  ·show Y k=bif decide (k<0) then X else Y k
   rw [decide_eq_false (show ¬ k<0 by omega)]
   rfl
theorem qc {p:Int->Bool}:∀ {m:Nat} {k:Int},0<=k->(bD p m k<0↔∀ i,k<=i->i<k+m->p i=false)
 | 0,k,_=>⟨fun _ i h1 h2=>absurd h2 (by omega),fun _=>(by decide:(-1:Int)<0)⟩
 | m+1,k,h0=>by
  show (bif p k then k else bD p m (k+1))<0↔_
  cases hp:p k
  ·refine (qc (p:=p) (m:=m) (k:=k+1) (by omega)).trans ⟨fun h i h1 h2=>?_,fun h i h1 h2=>h i (by omega) (by omega)⟩
   by_cases hi:i=k
   ·rw [hi,hp]
   ·exact h i (by omega) (by omega)
  ·refine ⟨fun h=>absurd h (by show ¬ k<0;omega),fun h=>?_⟩
   have:=h k (Int.le_refl _) (by omega)
   rw [hp] at this
   cases this
theorem C4 {p:Int->Bool}:∀ {m:Nat} {k:Int},bD p m k<0->0<=k->bD p m k=-1
 | 0,_,_,_=>rfl
 | m+1,k,h,h0=>by
  revert h
  show (bif p k then k else bD p m (k+1))<0->(bif p k then k else bD p m (k+1))=-1
  cases p k
  ·exact fun h=>C4 (p:=p) h (by omega)
  ·exact fun h=>absurd h (by show ¬ k<0;omega)
def qT (L:List (List Dat)) (own mark:Bool):St:=mk (j5 (.exit 0)) [] ⟨[],[],[rP L own mark]⟩
def qU (k:Int) (L:List (List Dat)) (own mark:Bool):St:=mk (j5 .ret) [.v (I k)] ⟨[],[],[rP L own mark]⟩
def cK (L:List (List Dat)) (k:Int):Bool:=!plR (pX L k) (pY L k)
def cQ (L:List (List Dat)) (k:Int):Bool:=gf (pX L k)||gf (pY L k)
theorem xd:loopsOf (f335.body.getD .skip)=[kS]:=by kernel_rfl
def SX (n:Nat) (k:Int) (L:List (List Dat)) (own mark:Bool):Option (Ex×St) :=
 ao ΓPw prog L0 (ab 0 1 gd) kS n (mk gd [.row 0,.v (fV 302),.v (I (L.length:Int)),.v (I k)] ⟨[],[],[rP L own mark]⟩) rf
theorem qcZ (L:List (List Dat)) (own mark:Bool) (hl:L.length<=1000000):SX (L.length+1) 0 L own mark=bif decide (bD (cK L) L.length 0<0) then some (.exit 0,qT L own mark) else some (.ret,qU (bD (cK L) L.length 0) L own mark):=by
 refine C3 (cK L) (L.length:Int) (fun n k=>SX n k L own mark) (some (.exit 0,qT L own mark)) (fun k=>some (.ret,qU k L own mark)) (fun n k hk=>?_) (fun n k hk=>?_) L.length 0 (by decide) (by omega)
 ·refine (Lr k L own mark n).trans ?_
  rw [decide_eq_false hk]
  rfl
 ·refine (Lr k L own mark n).trans ?_
  rw [decide_eq_true hk.1,decide_eq_true hk.2,aM (n:=k+1) (by omega)]
  rfl
def JV (fin:Bool) (vals:List SV) (m:Mem):Option (Bool×Ex×St) :=
 match vals,m with
 | [.row 0,.v (.func (.func 302) ⟨[]⟩ ⟨[]⟩),.v (.int .i64 n),.v (.int .i64 k)],⟨[],[],[.live ⟨162,[.num .i64,.num .i64],L,own,mark⟩]⟩ =>
  bif fin then some (n==(L.length:Int)&&(k==0&&(Nat.ble L.length 1000000&&decide (bD (cK L) L.length 0<0))),.exit 0,qT L own mark)
  else some (n==(L.length:Int)&&(k==0&&(Nat.ble L.length 1000000&&!decide (bD (cK L) L.length 0<0))),.ret,qU (bD (cK L) L.length 0) L own mark)
 | _,_=>none
def ΛIxNpl (fin:Bool):aV:=fun _ st=>cE 0 1 gd (JV fin) st
theorem NC (fin:Bool) (z:Base) (z1:z.L.length=0) (z2:z.U.length=1):aQ (ΛIxNpl fin) prog z kS:=by
 refine di (Λ:=L0) (kx:=j5) oD mixed z1 z2 (fun b hb st t h=>by cases h) (G:=JV fin) (fun _=>rfl) ?_
 intro vals m e st' h
 unfold JV at h
 split at h
 ·rename_i n k L own mark
  have hx:=qcZ L own mark
  cases fin
  ·simp only [cond_false] at h
   obtain ⟨h1,rfl,rfl⟩:=az h
   simp only [Bool.and_eq_true,beq_iff_eq,Bool.not_eq_true'] at h1
   obtain ⟨rfl,rfl,hl,hq⟩:=h1
   have:=hx (Nat.le_of_ble_eq_true hl)
   rw [hq] at this
   exact ⟨L.length+1,this⟩
  ·simp only [cond_true] at h
   obtain ⟨h1,rfl,rfl⟩:=az h
   simp only [Bool.and_eq_true,beq_iff_eq] at h1
   obtain ⟨rfl,rfl,hl,hq⟩:=h1
   have:=hx (Nat.le_of_ble_eq_true hl)
   rw [hq] at this
   exact ⟨L.length+1,this⟩
 ·cases h
theorem YB (L:List (List Dat)) (own mark:Bool):runG ΓPw (ΛIxNpl true) prog f335 [.row 0,.v (fV 302)] ⟨[],[],[rP L own mark]⟩ =
 (bif (L.length:Int)==(L.length:Int)&&(true&&(L.length.ble (1000000)&&decide (bD (cK L) L.length (0:Int)<(0:Int)))) then some (.v (I (-1)),⟨[],[],[.live ⟨162,[.num .i64,.num .i64],L,own,mark⟩]⟩) else none):=by kernel_rfl
theorem YC (L:List (List Dat)) (own mark:Bool):runG ΓPw (ΛIxNpl false) prog f335 [.row 0,.v (fV 302)] ⟨[],[],[rP L own mark]⟩ =
 (bif (L.length:Int)==(L.length:Int)&&(true&&(L.length.ble (1000000)&&!decide (bD (cK L) L.length (0:Int)<(0:Int)))) then some (.v (I (bD (cK L) L.length (0:Int))),⟨[],[],[.live ⟨162,[.num .i64,.num .i64],L,own,mark⟩]⟩) else none):=by kernel_rfl
def SY (n:Nat) (k:Int) (L:List (List Dat)) (own mark:Bool):Option (Ex×St) :=
 ao ΓPw prog L0 (ab 0 1 gd) kS n (mk gd [.row 0,.v (fV 299),.v (I (L.length:Int)),.v (I k)] ⟨[],[],[rP L own mark]⟩) rf
theorem qc0 (L:List (List Dat)) (own mark:Bool) (hl:L.length<=1000000):SY (L.length+1) 0 L own mark=bif decide (bD (cQ L) L.length 0<0) then some (.exit 0,qT L own mark) else some (.ret,qU (bD (cQ L) L.length 0) L own mark):=by
 refine C3 (cQ L) (L.length:Int) (fun n k=>SY n k L own mark) (some (.exit 0,qT L own mark)) (fun k=>some (.ret,qU k L own mark)) (fun n k hk=>?_) (fun n k hk=>?_) L.length 0 (by decide) (by omega)
 ·refine (Ls k L own mark n).trans ?_
  rw [decide_eq_false hk]
  rfl
 ·refine (Ls k L own mark n).trans ?_
  rw [decide_eq_true hk.1,decide_eq_true hk.2,aM (n:=k+1) (by omega)]
  rfl
def JW (fin:Bool) (vals:List SV) (m:Mem):Option (Bool×Ex×St) :=
 match vals,m with
 | [.row 0,.v (.func (.func 299) ⟨[]⟩ ⟨[]⟩),.v (.int .i64 n),.v (.int .i64 k)],⟨[],[],[.live ⟨162,[.num .i64,.num .i64],L,own,mark⟩]⟩ =>
  bif fin then some (n==(L.length:Int)&&(k==0&&(Nat.ble L.length 1000000&&decide (bD (cQ L) L.length 0<0))),.exit 0,qT L own mark)
  else some (n==(L.length:Int)&&(k==0&&(Nat.ble L.length 1000000&&!decide (bD (cQ L) L.length 0<0))),.ret,qU (bD (cQ L) L.length 0) L own mark)
 | _,_=>none
def ΛIxFar (fin:Bool):aV:=fun _ st=>cE 0 1 gd (JW fin) st
theorem ND (fin:Bool) (z:Base) (z1:z.L.length=0) (z2:z.U.length=1):aQ (ΛIxFar fin) prog z kS:=by
 refine di (Λ:=L0) (kx:=j5) oD mixed z1 z2 (fun b hb st t h=>by cases h) (G:=JW fin) (fun _=>rfl) ?_
 intro vals m e st' h
 unfold JW at h
 split at h
 ·rename_i n k L own mark
  have hx:=qc0 L own mark
  cases fin
  ·simp only [cond_false] at h
   obtain ⟨h1,rfl,rfl⟩:=az h
   simp only [Bool.and_eq_true,beq_iff_eq,Bool.not_eq_true'] at h1
   obtain ⟨rfl,rfl,hl,hq⟩:=h1
   have:=hx (Nat.le_of_ble_eq_true hl)
   rw [hq] at this
   exact ⟨L.length+1,this⟩
  ·simp only [cond_true] at h
   obtain ⟨h1,rfl,rfl⟩:=az h
   simp only [Bool.and_eq_true,beq_iff_eq] at h1
   obtain ⟨rfl,rfl,hl,hq⟩:=h1
   have:=hx (Nat.le_of_ble_eq_true hl)
   rw [hq] at this
   exact ⟨L.length+1,this⟩
 ·cases h
theorem YD (L:List (List Dat)) (own mark:Bool):runG ΓPw (ΛIxFar true) prog f335 [.row 0,.v (fV 299)] ⟨[],[],[rP L own mark]⟩ =
 (bif (L.length:Int)==(L.length:Int)&&(true&&(L.length.ble (1000000)&&decide (bD (cQ L) L.length (0:Int)<(0:Int)))) then some (.v (I (-1)),⟨[],[],[.live ⟨162,[.num .i64,.num .i64],L,own,mark⟩]⟩) else none):=by kernel_rfl
theorem YE (L:List (List Dat)) (own mark:Bool):runG ΓPw (ΛIxFar false) prog f335 [.row 0,.v (fV 299)] ⟨[],[],[rP L own mark]⟩ =
 (bif (L.length:Int)==(L.length:Int)&&(true&&(L.length.ble (1000000)&&!decide (bD (cQ L) L.length (0:Int)<(0:Int)))) then some (.v (I (bD (cQ L) L.length (0:Int))),⟨[],[],[.live ⟨162,[.num .i64,.num .i64],L,own,mark⟩]⟩) else none):=by kernel_rfl
def FO (xs:List SV) (m:Mem):Option (Bool×Value) :=
 match xs,m with
 | [.row 0,.v (.func (.func 302) ⟨[]⟩ ⟨[]⟩)],⟨[],[],[.live ⟨162,[.num .i64,.num .i64],L,own,mark⟩]⟩=>some (Nat.ble L.length 1000000,I (bD (cK L) L.length 0))
 | _,_=>none
theorem qfJ:bi 335 FO:=by
 intro xs m r h
 unfold FO at h
 split at h
 ·rename_i L own mark
  obtain ⟨h1,rfl⟩:=aa h
  cases hq:decide (bD (cK L) L.length 0<0)
  ·refine aj (Λ:=ΛIxNpl false) oD func335 rfl (fun z z1 z2=>bW xd (NC false z z1 z2)) ?_
   refine (YC L own mark).trans ?_
   rw [h1,hq,beq_self_eq_true]
   rfl
  ·refine aj (Λ:=ΛIxNpl true) oD func335 rfl (fun z z1 z2=>bW xd (NC true z z1 z2)) ?_
   refine (YB L own mark).trans ?_
   rw [h1,hq,beq_self_eq_true,C4 (of_decide_eq_true hq) (by decide)]
   rfl
 ·cases h
def FP (xs:List SV) (m:Mem):Option (Bool×Value) :=
 match xs,m with
 | [.row 0,.v (.func (.func 299) ⟨[]⟩ ⟨[]⟩)],⟨[],[],[.live ⟨162,[.num .i64,.num .i64],L,own,mark⟩]⟩=>some (Nat.ble L.length 1000000,I (bD (cQ L) L.length 0))
 | _,_=>none
theorem qfK:bi 335 FP:=by
 intro xs m r h
 unfold FP at h
 split at h
 ·rename_i L own mark
  obtain ⟨h1,rfl⟩:=aa h
  cases hq:decide (bD (cQ L) L.length 0<0)
  ·refine aj (Λ:=ΛIxFar false) oD func335 rfl (fun z z1 z2=>bW xd (ND false z z1 z2)) ?_
   refine (YE L own mark).trans ?_
   rw [h1,hq,beq_self_eq_true]
   rfl
  ·refine aj (Λ:=ΛIxFar true) oD func335 rfl (fun z z1 z2=>bW xd (ND true z z1 z2)) ?_
   refine (YD L own mark).trans ?_
   rw [h1,hq,beq_self_eq_true,C4 (of_decide_eq_true hq) (by decide)]
   rfl
 ·cases h
def ΓIy1:Orc:=aR 335 FO ΓPw
theorem qkf:ΓIy1.Ok prog:=aL oD qfJ
def ΓIy:Orc:=aR 335 FP ΓIy1
theorem IY:ΓIy.Ok prog:=aL qkf qfK
theorem ZA (L:List (List Dat)) (own mark:Bool):runG ΓIy L0 prog f298 [.row 0,.v (fV 302)] ⟨[],[],[rP L own mark]⟩ =
 (bif L.length.ble (1000000) then some (.v (Bo (decide (bD (cK L) L.length (0:Int)>=(0:Int)))),⟨[],[],[.live ⟨162,[.num .i64,.num .i64],L,own,mark⟩]⟩) else none):=by kernel_rfl
theorem ZB (L:List (List Dat)) (own mark:Bool):runG ΓIy L0 prog f298 [.row 0,.v (fV 299)] ⟨[],[],[rP L own mark]⟩ =
 (bif L.length.ble (1000000) then some (.v (Bo (decide (bD (cQ L) L.length (0:Int)>=(0:Int)))),⟨[],[],[.live ⟨162,[.num .i64,.num .i64],L,own,mark⟩]⟩) else none):=by kernel_rfl
end Go.Proofs.YtainfdcfkgemhaaGreat
namespace Go.Proofs.YtainfdcfkgemhaaGreat
open Go Go.Proofs Go.Sx
set_option linter.unusedVariables false
def ij (p:Int->Bool) (m:Nat):Bool:=decide (bD p m 0>=0)
def GG (xs:List SV) (m:Mem):Option (Bool×Value) :=
 match xs,m with
 | [.row 0,.v (.func (.func 302) ⟨[]⟩ ⟨[]⟩)],⟨[],[],[.live ⟨162,[.num .i64,.num .i64],L,own,mark⟩]⟩=>some (Nat.ble L.length 1000000,Bo (ij (cK L) L.length))
 | _,_=>none
theorem qgz:bi 298 GG:=by
 intro xs m r h
 unfold GG at h
 split at h
 ·rename_i L own mark
  obtain ⟨h1,rfl⟩:=aa h
  refine aj (Λ:=L0) IY func298 rfl af ?_
  refine (ZA L own mark).trans ?_
  rw [h1]
  rfl
 ·cases h
def GH (xs:List SV) (m:Mem):Option (Bool×Value) :=
 match xs,m with
 | [.row 0,.v (.func (.func 299) ⟨[]⟩ ⟨[]⟩)],⟨[],[],[.live ⟨162,[.num .i64,.num .i64],L,own,mark⟩]⟩=>some (Nat.ble L.length 1000000,Bo (ij (cQ L) L.length))
 | _,_=>none
theorem qgA:bi 298 GH:=by
 intro xs m r h
 unfold GH at h
 split at h
 ·rename_i L own mark
  obtain ⟨h1,rfl⟩:=aa h
  refine aj (Λ:=L0) IY func298 rfl af ?_
  refine (ZB L own mark).trans ?_
  rw [h1]
  rfl
 ·cases h
def ΓSi1:Orc:=aR 298 GG ΓIy
theorem qjA:ΓSi1.Ok prog:=aL IY qgz
def ΓSi2:Orc:=aR 298 GH ΓSi1
theorem qjz:ΓSi2.Ok prog:=aL qjA qgA
def pM (L:List (List Dat)) (i j:Int):Bool :=
 bif wI (i+1)==j then onB (pX L (nx L j)) (pY L (nx L j)) (pX L i) (pY L i) (pX L (nx L i)) (pY L (nx L i))||onB (pX L i) (pY L i) (pX L (nx L i)) (pY L (nx L i)) (pX L (nx L j)) (pY L (nx L j))
 else bif nx L j==i then onB (pX L (nx L i)) (pY L (nx L i)) (pX L j) (pY L j) (pX L (nx L j)) (pY L (nx L j))||onB (pX L j) (pY L j) (pX L (nx L j)) (pY L (nx L j)) (pX L (nx L i)) (pY L (nx L i))
 else ch (pX L i) (pY L i) (pX L (nx L i)) (pY L (nx L i)) (pX L j) (pY L j) (pX L (nx L j)) (pY L (nx L j))
def Fx (xs:List SV) (m:Mem):Option (Bool×Value) :=
 match xs,m with
 | [.row 0,.v (.int .i64 i),.v (.int .i64 j)],⟨[],[],[.live ⟨162,[.num .i64,.num .i64],L,own,mark⟩]⟩=>some (cl L i&&cl L j,Bo (pM L i j))
 | _,_=>none
theorem qfr:bi 334 Fx:=by
 intro xs m r h
 unfold Fx at h
 split at h
 ·rename_i i j L own mark
  obtain ⟨h1,rfl⟩:=aa h
  rw [Bool.and_eq_true] at h1
  refine aj (Λ:=L0) IJ func334 rfl af ?_
  refine (Yh i j L own mark).trans ?_
  have a:=eh.1 h1.1
  rw [h1.1,h1.2,beq_eq_false_iff_ne.2 (show (L.length:Int)≠0 by omega)]
  unfold pM nx
  cases wI (i+1)==j<;>cases (wI (j+1)).tmod (L.length:Int)==i<;>rfl
 ·cases h
def ΓSi:Orc:=aR 334 Fx ΓSi2
theorem uv:ΓSi.Ok prog:=aL qjz qfr
def ib:Code:=bX (f297.body.getD .skip) 0
def ua:Code:=bX ib 0
def nz:List Bool:=aB 43 [0,3,18,19,22,23]
def mH (e:Ex):List Bool:=match e with
 | .exit _=>aB 43 [0,18,19]
 | .ret=>aB 43 [2]
 | .normal=>aB 43 [0,3,18,19,22,23]
def Jf (e:Ex) (st:St):Option (Ex×St):=some (e,ab 0 1 (mH e) st)
theorem Lc (j nn k b i:Int) (L:List (List Dat)) (own mark:Bool) (n:Nat):ao ΓSi prog L0 (ab 0 1 nz) ua (n+1) (mk nz [.row 0,.v (I j),.v (I nn),.v (I k),.v (I b),.v (I i)] ⟨[],[],[rP L own mark]⟩) Jf =
 (bif decide (i<b) then (bif decide ((0:Int)<=i)&&decide (i<(L.length:Int)) then (bif decide ((0:Int)<=j)&&decide (j<(L.length:Int)) then (bif ((L.getD i.toNat []).headD (Dat.n (0:Int))).toI==((L.getD j.toNat []).headD (Dat.n (0:Int))).toI&&(((L.getD i.toNat []).tail.headD (Dat.n (0:Int))).toI==((L.getD j.toNat []).tail.headD (Dat.n (0:Int))).toI&&true) then some (.ret,mk (mH .ret) [.v (Bo false)] ⟨[],[],[.live ⟨162,[.num .i64,.num .i64],L,own,mark⟩]⟩) else (bif cl L i&&cl L j then (bif pM L i j then some (.ret,mk (mH .ret) [.v (Bo false)] ⟨[],[],[.live ⟨162,[.num .i64,.num .i64],L,own,mark⟩]⟩) else ao ΓSi prog L0 (ab 0 1 nz) ua n (mk nz [.row 0,.v (I j),.v (I nn),.v (I k),.v (I b),.v (I (wI (i+(1:Int))))] ⟨[],[],[.live ⟨162,[.num .i64,.num .i64],L,own,mark⟩]⟩) Jf) else none)) else none) else none) else some ((.exit 2),mk (mH (.exit 2)) [.row 0,.v (I nn),.v (I k)] ⟨[],[],[.live ⟨162,[.num .i64,.num .i64],L,own,mark⟩]⟩)):=by kernel_rfl
def kJ (L:List (List Dat)) (i j:Int):Bool:=((L.getD i.toNat []).headD (Dat.n (0:Int))).toI==((L.getD j.toNat []).headD (Dat.n (0:Int))).toI&&(((L.getD i.toNat []).tail.headD (Dat.n (0:Int))).toI==((L.getD j.toNat []).tail.headD (Dat.n (0:Int))).toI&&true)
def qL (L:List (List Dat)) (j i:Int):Bool:=kJ L i j||pM L i j
def okJ (L:List (List Dat)) (j:Int):Bool:=decide (bD (qL L j) j.toNat 0<0)
theorem qde {α:Type} (p:Int->Bool) (N:Int) (E:Nat->Int->Option α) (X:Option α) (Y:Int->Option α) (he:∀ n k,¬ k<N->E (n+1) k=X) (hr:∀ (n:Nat) k,0<=k/\k<N->k+n=N->E (n+1) k=bif p k then Y k else E n (k+1)) :
  ∀ (m:Nat) (k:Int),0<=k->k+m=N->E (m+1) k=bif decide (bD p m k<0) then X else Y (bD p m k):=by
 intro m
 induction m with
 | zero =>
  intro k h0 h1
  exact he 0 k (by omega)
 | succ m ih =>
  intro k h0 h1
  rw [hr (m+1) k (by omega) h1]
  show _=bif decide ((bif p k then k else bD p m (k+1))<0) then X else Y (bif p k then k else bD p m (k+1))
  cases p k
  ·exact ih (k+1) (by omega) (by omega)
  ·show Y k=bif decide (k<0) then X else Y k
   rw [decide_eq_false (show ¬ k<0 by omega)]
   rfl
def SP (n:Nat) (j nn k b i:Int) (L:List (List Dat)) (own mark:Bool):Option (Ex×St) :=
 ao ΓSi prog L0 (ab 0 1 nz) ua n (mk nz [.row 0,.v (I j),.v (I nn),.v (I k),.v (I b),.v (I i)] ⟨[],[],[rP L own mark]⟩) Jf
def Ia (nn k:Int) (L:List (List Dat)) (own mark:Bool):St:=mk (mH (.exit 2)) [.row 0,.v (I nn),.v (I k)] ⟨[],[],[rP L own mark]⟩
def Ih (L:List (List Dat)) (own mark:Bool):St:=mk (mH .ret) [.v (Bo false)] ⟨[],[],[rP L own mark]⟩
theorem Ny (j nn k:Int) (L:List (List Dat)) (own mark:Bool) (hj:cl L j=true):SP (j.toNat+1) j nn k j 0 L own mark=bif okJ L j then some (.exit 2,Ia nn k L own mark) else some (.ret,Ih L own mark):=by
 have a:=eh.1 hj
 refine C3 (qL L j) j (fun n i=>SP n j nn k j i L own mark) (some (.exit 2,Ia nn k L own mark)) (fun i=>some (.ret,Ih L own mark)) (fun n i hi=>?_) (fun n i hi=>?_) j.toNat 0 (by decide) (by omega)
 ·refine (Lc j nn k j i L own mark n).trans ?_
  rw [decide_eq_false hi]
  rfl
 ·refine (Lc j nn k j i L own mark n).trans ?_
  have b:cl L i=true:=eh.2 (by omega)
  rw [decide_eq_true hi.1,decide_eq_true hi.2,decide_eq_true a.1,decide_eq_true a.2.1,decide_eq_true (show i<(L.length:Int) by omega),hj,b,aM (n:=i+1) (by omega)]
  show (bif kJ L i j then _ else _)=_
  unfold qL
  cases kJ L i j
  ·cases pM L i j<;>rfl
  ·rfl
def JE (fin:Bool) (vals:List SV) (m:Mem):Option (Bool×Ex×St) :=
 match vals,m with
 | [.row 0,.v (.int .i64 j),.v (.int .i64 nn),.v (.int .i64 k),.v (.int .i64 b),.v (.int .i64 i)],⟨[],[],[.live ⟨162,[.num .i64,.num .i64],L,own,mark⟩]⟩ =>
  bif fin then some (b==j&&(i==0&&(cl L j&&okJ L j)),.exit 2,Ia nn k L own mark)
  else some (b==j&&(i==0&&(cl L j&&!okJ L j)),.ret,Ih L own mark)
 | _,_=>none
def ΛS1 (fin:Bool):aV:=fun _ st=>cE 0 1 nz (JE fin) st
theorem qcB (fin:Bool) (z:Base) (z1:z.L.length=0) (z2:z.U.length=1):aQ (ΛS1 fin) prog z ua:=by
 refine di (Λ:=L0) (kx:=mH) uv mixed z1 z2 (fun b hb st t h=>by cases h) (G:=JE fin) (fun _=>rfl) ?_
 intro vals m e st' h
 unfold JE at h
 split at h
 ·rename_i j nn k b i L own mark
  cases fin
  ·simp only [cond_false] at h
   obtain ⟨h1,rfl,rfl⟩:=az h
   simp only [Bool.and_eq_true,beq_iff_eq,Bool.not_eq_true'] at h1
   obtain ⟨rfl,rfl,hj,hq⟩:=h1
   have:=Ny b nn k L own mark hj
   rw [hq] at this
   exact ⟨b.toNat+1,this⟩
  ·simp only [cond_true] at h
   obtain ⟨h1,rfl,rfl⟩:=az h
   simp only [Bool.and_eq_true,beq_iff_eq] at h1
   obtain ⟨rfl,rfl,hj,hq⟩:=h1
   have:=Ny b nn k L own mark hj
   rw [hq] at this
   exact ⟨b.toNat+1,this⟩
 ·cases h
theorem Nu:loopsOf (f297.body.getD .skip)=[ib]:=by kernel_rfl
theorem qbM:loopsOf ib=[ua]:=by kernel_rfl
def gW:List Bool:=aB 43 [0,18,19]
def mI (e:Ex):List Bool:=match e with
 | .exit _=>aB 43 []
 | .ret=>aB 43 [2]
 | .normal=>aB 43 [0,18,19]
def oF (e:Ex) (st:St):Option (Ex×St):=some (e,ab 0 1 (mI e) st)
theorem Ld (nn k:Int) (L:List (List Dat)) (own mark:Bool) (nx:St->Option (Ex×St)):nU ΓSi prog (ΛS1 true) (ab 0 1 gW) ib (mk gW [.row 0,.v (I nn),.v (I k)] ⟨[],[],[rP L own mark]⟩) nx oF =
 (bif decide (k<nn) then (bif k==k&&(true&&(cl L k&&okJ L k)) then nx (mk gW [.row 0,.v (I nn),.v (I (wI (k+(1:Int))))] ⟨[],[],[.live ⟨162,[.num .i64,.num .i64],L,own,mark⟩]⟩) else none) else some ((.exit 0),mk (mI (.exit 0)) [] ⟨[],[],[.live ⟨162,[.num .i64,.num .i64],L,own,mark⟩]⟩)):=by kernel_rfl
theorem Lf (nn k:Int) (L:List (List Dat)) (own mark:Bool) (nx:St->Option (Ex×St)):nU ΓSi prog (ΛS1 false) (ab 0 1 gW) ib (mk gW [.row 0,.v (I nn),.v (I k)] ⟨[],[],[rP L own mark]⟩) nx oF =
 (bif decide (k<nn) then (bif k==k&&(true&&(cl L k&&!okJ L k)) then some (.ret,mk (mI .ret) [.v (Bo false)] ⟨[],[],[.live ⟨162,[.num .i64,.num .i64],L,own,mark⟩]⟩) else none) else some ((.exit 0),mk (mI (.exit 0)) [] ⟨[],[],[.live ⟨162,[.num .i64,.num .i64],L,own,mark⟩]⟩)):=by kernel_rfl
def ΛsS (L:List (List Dat)) (n:Nat):aV:=ΛS1 (okJ L ((L.length:Int) - n))
def J7 (n:Nat) (k:Int) (L:List (List Dat)) (own mark:Bool):Option (Ex×St) :=
 kH ΓSi prog (ΛsS L) (ab 0 1 gW) ib n (mk gW [.row 0,.v (I (L.length:Int)),.v (I k)] ⟨[],[],[rP L own mark]⟩) oF
def Ib (L:List (List Dat)) (own mark:Bool):St:=mk (mI (.exit 0)) [] ⟨[],[],[rP L own mark]⟩
def zQ (L:List (List Dat)) (own mark:Bool):St:=mk (mI .ret) [.v (Bo false)] ⟨[],[],[rP L own mark]⟩
def ig (L:List (List Dat)):Bool:=decide (bD (fun j=>!okJ L j) L.length 0<0)
theorem qcn (L:List (List Dat)) (own mark:Bool) (hl:L.length<=1000000):J7 (L.length+1) 0 L own mark=bif ig L then some (.exit 0,Ib L own mark) else some (.ret,zQ L own mark):=by
 refine qde (fun j=>!okJ L j) (L.length:Int) (fun n k=>J7 n k L own mark) (some (.exit 0,Ib L own mark)) (fun i=>some (.ret,zQ L own mark)) (fun n k hk=>?_) (fun n k hk hn=>?_) L.length 0 (by decide) (by omega)
 ·show nU ΓSi prog (ΛsS L n) (ab 0 1 gW) ib _ (fun st'=>kH ΓSi prog (ΛsS L) (ab 0 1 gW) ib n st' oF) oF=_
  unfold ΛsS
  cases okJ L ((L.length:Int) - n)
  ·refine (Lf (L.length:Int) k L own mark _).trans ?_
   rw [decide_eq_false hk]
   rfl
  ·refine (Ld (L.length:Int) k L own mark _).trans ?_
   rw [decide_eq_false hk]
   rfl
 ·have e:(L.length:Int) - n=k:=by omega
  have a:cl L k=true:=eh.2 (by omega)
  show nU ΓSi prog (ΛS1 (okJ L ((L.length:Int) - n))) (ab 0 1 gW) ib _ (fun st'=>kH ΓSi prog (ΛsS L) (ab 0 1 gW) ib n st' oF) oF=bif !okJ L k then some (.ret,zQ L own mark) else J7 n (k+1) L own mark
  rw [e]
  cases hq:okJ L k
  ·refine (Lf (L.length:Int) k L own mark _).trans ?_
   rw [decide_eq_true hk.2,beq_self_eq_true,a,hq]
   rfl
  ·refine (Ld (L.length:Int) k L own mark _).trans ?_
   rw [decide_eq_true hk.2,beq_self_eq_true,a,hq,aM (n:=k+1) (by omega)]
   rfl
def JF (fin:Bool) (vals:List SV) (m:Mem):Option (Bool×Ex×St) :=
 match vals,m with
 | [.row 0,.v (.int .i64 nn),.v (.int .i64 k)],⟨[],[],[.live ⟨162,[.num .i64,.num .i64],L,own,mark⟩]⟩ =>
  bif fin then some (nn==(L.length:Int)&&(k==0&&(Nat.ble L.length 1000000&&ig L)),.exit 0,Ib L own mark)
  else some (nn==(L.length:Int)&&(k==0&&(Nat.ble L.length 1000000&&!ig L)),.ret,zQ L own mark)
 | _,_=>none
def ΛS0 (fin:Bool):aV:=fun _ st=>cE 0 1 gW (JF fin) st
theorem NA (fin:Bool) (z:Base) (z1:z.L.length=0) (z2:z.U.length=1):aQ (ΛS0 fin) prog z ib:=by
 refine qcl (kx:=mI) uv mixed z1 z2 (G:=JF fin) (fun _=>rfl) ?_
 intro vals m e st' h
 unfold JF at h
 split at h
 ·rename_i nn k L own mark
  have hx:=qcn L own mark
  have hΛ:∀ n,∀ b∈loopsOf ib,aQ (ΛsS L n) prog z b:=fun n=>bW qbM (qcB _ z z1 z2)
  cases fin
  ·simp only [cond_false] at h
   obtain ⟨h1,rfl,rfl⟩:=az h
   simp only [Bool.and_eq_true,beq_iff_eq,Bool.not_eq_true'] at h1
   obtain ⟨rfl,rfl,hl,hq⟩:=h1
   have:=hx (Nat.le_of_ble_eq_true hl)
   rw [hq] at this
   exact ⟨ΛsS L,hΛ,L.length+1,this⟩
  ·simp only [cond_true] at h
   obtain ⟨h1,rfl,rfl⟩:=az h
   simp only [Bool.and_eq_true,beq_iff_eq] at h1
   obtain ⟨rfl,rfl,hl,hq⟩:=h1
   have:=hx (Nat.le_of_ble_eq_true hl)
   rw [hq] at this
   exact ⟨ΛsS L,hΛ,L.length+1,this⟩
 ·cases h
theorem Wv (L:List (List Dat)) (own mark:Bool):runG ΓSi (ΛS0 true) prog f297 [.row 0] ⟨[],[],[rP L own mark]⟩ =
 (bif decide ((L.length:Int)<(3:Int)) then some (.v (Bo false),⟨[],[],[.live ⟨162,[.num .i64,.num .i64],L,own,mark⟩]⟩) else (bif decide ((L.length:Int)>(8:Int)) then some (.v (Bo false),⟨[],[],[.live ⟨162,[.num .i64,.num .i64],L,own,mark⟩]⟩) else (bif L.length.ble (1000000) then (bif ij (cK L) L.length then some (.v (Bo false),⟨[],[],[.live ⟨162,[.num .i64,.num .i64],L,own,mark⟩]⟩) else (bif (L.length:Int)==(L.length:Int)&&(true&&(L.length.ble (1000000)&&ig L)) then some (.v (Bo true),⟨[],[],[.live ⟨162,[.num .i64,.num .i64],L,own,mark⟩]⟩) else none)) else none))):=by kernel_rfl
theorem Ww (L:List (List Dat)) (own mark:Bool):runG ΓSi (ΛS0 false) prog f297 [.row 0] ⟨[],[],[rP L own mark]⟩ =
 (bif decide ((L.length:Int)<(3:Int)) then some (.v (Bo false),⟨[],[],[.live ⟨162,[.num .i64,.num .i64],L,own,mark⟩]⟩) else (bif decide ((L.length:Int)>(8:Int)) then some (.v (Bo false),⟨[],[],[.live ⟨162,[.num .i64,.num .i64],L,own,mark⟩]⟩) else (bif L.length.ble (1000000) then (bif ij (cK L) L.length then some (.v (Bo false),⟨[],[],[.live ⟨162,[.num .i64,.num .i64],L,own,mark⟩]⟩) else (bif (L.length:Int)==(L.length:Int)&&(true&&(L.length.ble (1000000)&&!ig L)) then some (.v (Bo false),⟨[],[],[.live ⟨162,[.num .i64,.num .i64],L,own,mark⟩]⟩) else none)) else none))):=by kernel_rfl
def gM (L:List (List Dat)):Bool:=bif decide ((L.length:Int)<3) then false else bif decide ((L.length:Int)>8) then false else bif ij (cK L) L.length then false else ig L
def Eg (xs:List SV) (m:Mem):Option (Bool×Value) :=
 match xs,m with
 | [.row 0],⟨[],[],[.live ⟨162,[.num .i64,.num .i64],L,own,mark⟩]⟩=>some (Nat.ble L.length 1000000,Bo (gM L))
 | _,_=>none
theorem qen:bi 297 Eg:=by
 intro xs m r h
 unfold Eg at h
 split at h
 ·rename_i L own mark
  obtain ⟨h1,rfl⟩:=aa h
  cases hq:ig L
  ·refine aj (Λ:=ΛS0 false) uv func297 rfl (fun z z1 z2=>bW Nu (NA false z z1 z2)) ?_
   refine (Ww L own mark).trans ?_
   rw [h1,hq,beq_self_eq_true]
   unfold gM
   rw [hq]
   cases decide ((L.length:Int)<3)<;>cases decide ((L.length:Int)>8)<;>cases ij (cK L) L.length<;>rfl
  ·refine aj (Λ:=ΛS0 true) uv func297 rfl (fun z z1 z2=>bW Nu (NA true z z1 z2)) ?_
   refine (Wv L own mark).trans ?_
   rw [h1,hq,beq_self_eq_true]
   unfold gM
   rw [hq]
   cases decide ((L.length:Int)<3)<;>cases decide ((L.length:Int)>8)<;>cases ij (cK L) L.length<;>rfl
 ·cases h
def ΓSj:Orc:=aR 297 Eg ΓSi
theorem Rx:ΓSj.Ok prog:=aL uv qen
theorem Z6 (L:List (List Dat)) (own mark:Bool):runG ΓSj L0 prog f238 [.row 0] ⟨[],[],[rP L own mark]⟩ =
 (bif L.length.ble (1000000) then (bif gM L then (bif L.length.ble (1000000) then some (.v (Bo (!ij (cQ L) L.length)),⟨[],[],[.live ⟨162,[.num .i64,.num .i64],L,own,mark⟩]⟩) else none) else some (.v (Bo false),⟨[],[],[.live ⟨162,[.num .i64,.num .i64],L,own,mark⟩]⟩)) else none):=by kernel_rfl
def cM (L:List (List Dat)):Bool:=gM L&&!ij (cQ L) L.length
def G4 (xs:List SV) (m:Mem):Option (Bool×Value) :=
 match xs,m with
 | [.row 0],⟨[],[],[.live ⟨162,[.num .i64,.num .i64],L,own,mark⟩]⟩=>some (Nat.ble L.length 1000000,Bo (cM L))
 | _,_=>none
theorem qgW:bi 238 G4:=by
 intro xs m r h
 unfold G4 at h
 split at h
 ·rename_i L own mark
  obtain ⟨h1,rfl⟩:=aa h
  refine aj (Λ:=L0) Rx func238 rfl af ?_
  refine (Z6 L own mark).trans ?_
  rw [h1]
  unfold cM
  cases gM L<;>rfl
 ·cases h
def ΓAr:Orc:=aR 238 G4 ΓSj
theorem Af:ΓAr.Ok prog:=aL Rx qgW
end Go.Proofs.YtainfdcfkgemhaaGreat
namespace Go.Proofs.YtainfdcfkgemhaaGreat
open Go Go.Proofs Go.Sx
set_option linter.unusedVariables false
def qJ:Code:=bX (f241.body.getD .skip) 0
def kz:List Bool:=aB 39 [0,3,5,17,18]
def oH (e:Ex):List Bool:=match e with
 | .exit _=>aB 39 [5]
 | .ret=>aB 39 [4]
 | .normal=>aB 39 [0,3,5,17,18]
def Ai (e:Ex) (st:St):Option (Ex×St):=some (e,ab 0 1 (oH e) st)
def SL (px py:Int) (L:List (List Dat)) (own mark:Bool):Mem:=⟨[[.v (I px),.v (I py)]],[true],[rP L own mark]⟩
theorem Lb (px py s nn k:Int) (L:List (List Dat)) (own mark:Bool) (n:Nat):ao ΓAr prog L0 (ab 0 1 kz) qJ (n+1) (mk kz [.row 0,.ptr 0 0,.v (I s),.v (I nn),.v (I k)] (SL px py L own mark)) Ai =
 (bif decide (k<nn) then (bif cl L k then (bif onB px py (pX L k) (pY L k) (pX L (nx L k)) (pY L (nx L k)) then some (.ret,mk (oH .ret) [.v (I 0)] ⟨[],[],[.live ⟨162,[.num .i64,.num .i64],L,own,mark⟩]⟩) else (bif pj px py (pX L k) (pY L k) (pX L (nx L k)) (pY L (nx L k)) then ao ΓAr prog L0 (ab 0 1 kz) qJ n (mk kz [.row 0,.ptr 0 0,.v (I (wI ((0:Int) - s))),.v (I nn),.v (I (wI (k+(1:Int))))] ⟨[[.v (I px),.v (I py)]],[true],[.live ⟨162,[.num .i64,.num .i64],L,own,mark⟩]⟩) Ai else ao ΓAr prog L0 (ab 0 1 kz) qJ n (mk kz [.row 0,.ptr 0 0,.v (I s),.v (I nn),.v (I (wI (k+(1:Int))))] ⟨[[.v (I px),.v (I py)]],[true],[.live ⟨162,[.num .i64,.num .i64],L,own,mark⟩]⟩) Ai)) else none) else some ((.exit 0),mk (oH (.exit 0)) [.v (I s)] ⟨[],[],[.live ⟨162,[.num .i64,.num .i64],L,own,mark⟩]⟩)):=by kernel_rfl
def gy (px py:Int) (L:List (List Dat)) (k:Int):Bool:=onB px py (pX L k) (pY L k) (pX L (nx L k)) (pY L (nx L k))
def ji (px py:Int) (L:List (List Dat)) (k:Int):Bool:=pj px py (pX L k) (pY L k) (pX L (nx L k)) (pY L (nx L k))
def kd (r:Int->Bool):Nat->Int->Int->Int
 | 0,_,s=>s
 | m+1,k,s=>kd r m (k+1) (bif r k then -s else s)
theorem Vb {α:Type} (p r:Int->Bool) (N:Int) (E:Nat->Int->Int->Option α) (X:Int->Option α) (Y:Option α) (he:∀ n k s,¬ k<N->E (n+1) k s=X s) (hr:∀ n k s,0<=k/\k<N->(s=1\/s=-1)->E (n+1) k s=bif p k then Y else E n (k+1) (bif r k then -s else s)) :
  ∀ (m:Nat) (k s:Int),0<=k->k+m=N->(s=1\/s=-1)->E (m+1) k s=bif decide (bD p m k<0) then X (kd r m k s) else Y:=by
 intro m
 induction m with
 | zero =>
  intro k s h0 h1 hs
  exact he 0 k s (by omega)
 | succ m ih =>
  intro k s h0 h1 hs
  rw [hr (m+1) k s (by omega) hs]
  show _=bif decide ((bif p k then k else bD p m (k+1))<0) then X (kd r m (k+1) (bif r k then -s else s)) else Y
  cases p k
  ·refine ih (k+1) _ (by omega) (by omega) ?_
   cases r k
   ·exact hs
   ·show -s=1\/-s=-1
    omega
  ·show Y=bif decide (k<0) then X _ else Y
   rw [decide_eq_false (show ¬ k<0 by omega)]
   rfl
def SO (n:Nat) (k s px py:Int) (L:List (List Dat)) (own mark:Bool):Option (Ex×St) :=
 ao ΓAr prog L0 (ab 0 1 kz) qJ n (mk kz [.row 0,.ptr 0 0,.v (I s),.v (I (L.length:Int)),.v (I k)] (SL px py L own mark)) Ai
def H9 (s:Int) (L:List (List Dat)) (own mark:Bool):St:=mk (oH (.exit 0)) [.v (I s)] ⟨[],[],[rP L own mark]⟩
def Ig (L:List (List Dat)) (own mark:Bool):St:=mk (oH .ret) [.v (I 0)] ⟨[],[],[rP L own mark]⟩
def kr (px py:Int) (L:List (List Dat)):Bool:=decide (bD (gy px py L) L.length 0<0)
theorem qcm (px py:Int) (L:List (List Dat)) (own mark:Bool) (hl:L.length<=1000000):SO (L.length+1) 0 (-1) px py L own mark=bif kr px py L then some (.exit 0,H9 (kd (ji px py L) L.length 0 (-1)) L own mark) else some (.ret,Ig L own mark):=by
 refine Vb (gy px py L) (ji px py L) (L.length:Int) (fun n k s=>SO n k s px py L own mark) (fun s=>some (.exit 0,H9 s L own mark)) (some (.ret,Ig L own mark)) (fun n k s hk=>?_) (fun n k s hk hs=>?_) L.length 0 (-1) (by decide) (by omega) (.inr rfl)
 ·refine (Lb px py s (L.length:Int) k L own mark n).trans ?_
  rw [decide_eq_false hk]
  rfl
 ·refine (Lb px py s (L.length:Int) k L own mark n).trans ?_
  have a:cl L k=true:=eh.2 (by omega)
  rw [decide_eq_true hk.2,a,aM (n:=k+1) (by omega),aM (n:=0 - s) (by omega),Int.zero_sub]
  show (bif gy px py L k then _ else bif ji px py L k then _ else _)=_
  cases gy px py L k
  ·cases ji px py L k<;>rfl
  ·rfl
theorem Nt:loopsOf (f241.body.getD .skip)=[qJ]:=by kernel_rfl
def JD (fin:Bool) (vals:List SV) (m:Mem):Option (Bool×Ex×St) :=
 match vals,m with
 | [.row 0,.ptr 0 0,.v (.int .i64 s),.v (.int .i64 nn),.v (.int .i64 k)],⟨[[.v (.int .i64 px),.v (.int .i64 py)]],[true],[.live ⟨162,[.num .i64,.num .i64],L,own,mark⟩]⟩ =>
  bif fin then some (nn==(L.length:Int)&&(k==0&&(s==-1&&(Nat.ble L.length 1000000&&kr px py L))),.exit 0,H9 (kd (ji px py L) L.length 0 (-1)) L own mark)
  else some (nn==(L.length:Int)&&(k==0&&(s==-1&&(Nat.ble L.length 1000000&&!kr px py L))),.ret,Ig L own mark)
 | _,_=>none
def ΛSd (fin:Bool):aV:=fun _ st=>cE 0 1 kz (JD fin) st
theorem Nz (fin:Bool) (z:Base) (z1:z.L.length=0) (z2:z.U.length=1):aQ (ΛSd fin) prog z qJ:=by
 refine di (Λ:=L0) (kx:=oH) Af mixed z1 z2 (fun b hb st t h=>by cases h) (G:=JD fin) (fun _=>rfl) ?_
 intro vals m e st' h
 unfold JD at h
 split at h
 ·rename_i s nn k px py L own mark
  have hx:=qcm px py L own mark
  cases fin
  ·simp only [cond_false] at h
   obtain ⟨h1,rfl,rfl⟩:=az h
   simp only [Bool.and_eq_true,beq_iff_eq,Bool.not_eq_true'] at h1
   obtain ⟨rfl,rfl,rfl,hl,hq⟩:=h1
   have:=hx (Nat.le_of_ble_eq_true hl)
   rw [hq] at this
   exact ⟨L.length+1,this⟩
  ·simp only [cond_true] at h
   obtain ⟨h1,rfl,rfl⟩:=az h
   simp only [Bool.and_eq_true,beq_iff_eq] at h1
   obtain ⟨rfl,rfl,rfl,hl,hq⟩:=h1
   have:=hx (Nat.le_of_ble_eq_true hl)
   rw [hq] at this
   exact ⟨L.length+1,this⟩
 ·cases h
theorem WC (px py:Int) (L:List (List Dat)) (own mark:Bool):runG ΓAr (ΛSd true) prog f241 [.row 0,.v (.agg #[I px,I py])] ⟨[],[],[rP L own mark]⟩ =
 (bif L.length.ble (1000000) then (bif !cM L then some (.v (I (-1)),⟨[],[],[.live ⟨162,[.num .i64,.num .i64],L,own,mark⟩]⟩) else (bif !plR px py then some (.v (I (-1)),⟨[],[],[.live ⟨162,[.num .i64,.num .i64],L,own,mark⟩]⟩) else (bif (L.length:Int)==(L.length:Int)&&(true&&(true&&(L.length.ble (1000000)&&kr px py L))) then some (.v (I (kd (ji px py L) L.length (0:Int) (-1:Int))),⟨[],[],[.live ⟨162,[.num .i64,.num .i64],L,own,mark⟩]⟩) else none))) else none):=by kernel_rfl
theorem WD (px py:Int) (L:List (List Dat)) (own mark:Bool):runG ΓAr (ΛSd false) prog f241 [.row 0,.v (.agg #[I px,I py])] ⟨[],[],[rP L own mark]⟩ =
 (bif L.length.ble (1000000) then (bif !cM L then some (.v (I (-1)),⟨[],[],[.live ⟨162,[.num .i64,.num .i64],L,own,mark⟩]⟩) else (bif !plR px py then some (.v (I (-1)),⟨[],[],[.live ⟨162,[.num .i64,.num .i64],L,own,mark⟩]⟩) else (bif (L.length:Int)==(L.length:Int)&&(true&&(true&&(L.length.ble (1000000)&&!kr px py L))) then some (.v (I 0),⟨[],[],[.live ⟨162,[.num .i64,.num .i64],L,own,mark⟩]⟩) else none))) else none):=by kernel_rfl
def eJ (L:List (List Dat)) (px py:Int):Int:=bif !cM L then -1 else bif !plR px py then -1 else bif kr px py L then kd (ji px py L) L.length 0 (-1) else 0
def Em (xs:List SV) (m:Mem):Option (Bool×Value) :=
 match xs,m with
 | [.row 0,.v (.agg ⟨[.int .i64 px,.int .i64 py]⟩)],⟨[],[],[.live ⟨162,[.num .i64,.num .i64],L,own,mark⟩]⟩=>some (Nat.ble L.length 1000000,I (eJ L px py))
 | _,_=>none
theorem qet:bi 241 Em:=by
 intro xs m r h
 unfold Em at h
 split at h
 ·rename_i px py L own mark
  obtain ⟨h1,rfl⟩:=aa h
  cases hq:kr px py L
  ·refine aj (Λ:=ΛSd false) Af func241 rfl (fun z z1 z2=>bW Nt (Nz false z z1 z2)) ?_
   refine (WD px py L own mark).trans ?_
   rw [h1,hq,beq_self_eq_true]
   unfold eJ
   rw [hq]
   cases cM L<;>cases plR px py<;>rfl
  ·refine aj (Λ:=ΛSd true) Af func241 rfl (fun z z1 z2=>bW Nt (Nz true z z1 z2)) ?_
   refine (WC px py L own mark).trans ?_
   rw [h1,hq,beq_self_eq_true]
   unfold eJ
   rw [hq]
   cases cM L<;>cases plR px py<;>rfl
 ·cases h
def ΓSd:Orc:=aR 241 Em ΓAr
theorem Ry:ΓSd.Ok prog:=aL Af qet
end Go.Proofs.YtainfdcfkgemhaaGreat
namespace Go.Proofs.YtainfdcfkgemhaaGreat
open Go Go.Proofs Go.Sx
set_option linter.unusedVariables false
theorem Zt (a b c d:Int):runG ΓSd L0 prog f338 [.v (.agg #[I a,I b,I c,I d])] M0 =
 (bif !aU a b c d then some (.row 0,⟨[],[],[.live ⟨162,[.num .i64,.num .i64],[],true,false⟩]⟩) else some (.row 0,⟨[],[],[.live ⟨162,[.num .i64,.num .i64],[[.n (a),.n (b)],[.n (c),.n (b)],[.n (c),.n (d)],[.n (a),.n (d)]],true,false⟩]⟩)):=by kernel_rfl
abbrev qhE (a b c d:Int):Mem:=⟨[],[],[.live ⟨162,[.num .i64,.num .i64],[[.n a,.n b],[.n c,.n b],[.n c,.n d],[.n a,.n d]],true,false⟩]⟩
def Gx (xs:List SV) (m:Mem):Option (Bool×SV×Mem) :=
 match xs,m with
 | [.v (.agg ⟨[.int .i64 a,.int .i64 b,.int .i64 c,.int .i64 d]⟩)],⟨[],[],[]⟩=>some (aU a b c d,.row 0,qhE a b c d)
 | _,_=>none
theorem qgq:aT 338 Gx:=by
 intro xs m r m' h
 unfold Gx at h
 split at h
 ·rename_i a b c d
  obtain ⟨h1,rfl,rfl⟩:=az h
  refine aj (Λ:=L0) Ry func338 rfl af ?_
  refine (Zt a b c d).trans ?_
  rw [h1]
  rfl
 ·cases h
def ΓMa:Orc:=aE 338 Gx ΓSd
theorem qj0:ΓMa.Ok prog:=aA Ry qgq
def ΓMb:Orc:=ΓMa
theorem R5:ΓMb.Ok prog:=qj0
theorem Yl (a b c d p1 p2 q1 q2:Int):runG ΓMb L0 prog f301 [.v (.agg #[I a,I b,I c,I d]),.v (.agg #[I p1,I p2]),.v (.agg #[I q1,I q2])] M0 =
 (bif aU a b c d then (bif ch p1 p2 q1 q2 a b c b then some (.v (Bo true),M0) else (bif ch p1 p2 q1 q2 c b c d then some (.v (Bo true),M0) else (bif ch p1 p2 q1 q2 c d a d then some (.v (Bo true),M0) else (bif ch p1 p2 q1 q2 a d a b then some (.v (Bo true),M0) else some (.v (Bo false),M0))))) else none):=by kernel_rfl
def nr (a b c d p1 p2 q1 q2:Int):Bool:=ch p1 p2 q1 q2 a b c b||(ch p1 p2 q1 q2 c b c d||(ch p1 p2 q1 q2 c d a d||ch p1 p2 q1 q2 a d a b))
def FB (vs:List Value):Option (Bool×Value) :=
 match vs with
 | [.agg ⟨[.int .i64 a,.int .i64 b,.int .i64 c,.int .i64 d]⟩,.agg ⟨[.int .i64 p1,.int .i64 p2]⟩,.agg ⟨[.int .i64 q1,.int .i64 q2]⟩]=>some (aU a b c d,Bo (nr a b c d p1 p2 q1 q2))
 | _=>none
theorem qfv:an 301 FB:=by
 intro vs r h
 unfold FB at h
 split at h
 ·rename_i a b c d p1 p2 q1 q2
  obtain ⟨h1,rfl⟩:=aa h
  refine am (vs:=[.agg #[I a,I b,I c,I d],.agg #[I p1,I p2],.agg #[I q1,I q2]]) (Λ:=L0) (m':=M0) R5 func301 rfl af ?_
  refine (Yl a b c d p1 p2 q1 q2).trans ?_
  rw [h1]
  unfold nr
  cases ch p1 p2 q1 q2 a b c b<;>cases ch p1 p2 q1 q2 c b c d<;>cases ch p1 p2 q1 q2 c d a d<;>cases ch p1 p2 q1 q2 a d a b<;>rfl
 ·cases h
def ΓMc:Orc:=ah 301 FB ΓMb
theorem R4:ΓMc.Ok prog:=ac R5 qfv
theorem Yk (a b c d p1 p2 q1 q2:Int):runG ΓMc L0 prog f239 [.v (.agg #[I a,I b,I c,I d]),.v (.agg #[I p1,I p2]),.v (.agg #[I q1,I q2])] M0 =
 (bif !aU a b c d then some (.v (Bo false),M0) else (bif !plR p1 p2 then some (.v (Bo false),M0) else (bif !plR q1 q2 then some (.v (Bo false),M0) else (bif gX a b c d p1 p2 then some (.v (Bo true),M0) else (bif aU a b c d then some (.v (Bo (nr a b c d p1 p2 q1 q2)),M0) else none))))):=by kernel_rfl
def pP (a b c d p1 p2 q1 q2:Int):Bool:=aU a b c d&&(plR p1 p2&&(plR q1 q2&&(gX a b c d p1 p2||nr a b c d p1 p2 q1 q2)))
def FA (vs:List Value):Option (Bool×Value) :=
 match vs with
 | [.agg ⟨[.int .i64 a,.int .i64 b,.int .i64 c,.int .i64 d]⟩,.agg ⟨[.int .i64 p1,.int .i64 p2]⟩,.agg ⟨[.int .i64 q1,.int .i64 q2]⟩]=>some (true,Bo (pP a b c d p1 p2 q1 q2))
 | _=>none
theorem qfu:an 239 FA:=by
 intro vs r h
 unfold FA at h
 split at h
 ·rename_i a b c d p1 p2 q1 q2
  obtain ⟨h1,rfl⟩:=aa h
  refine am (vs:=[.agg #[I a,I b,I c,I d],.agg #[I p1,I p2],.agg #[I q1,I q2]]) (Λ:=L0) (m':=M0) R4 func239 rfl af ?_
  refine (Yk a b c d p1 p2 q1 q2).trans ?_
  unfold pP
  cases aU a b c d<;>cases plR p1 p2<;>cases plR q1 q2<;>cases gX a b c d p1 p2<;>rfl
 ·cases h
def ΓMt:Orc:=ah 239 FA ΓMc
theorem qjZ:ΓMt.Ok prog:=ac R4 qfu
def ΓMr:Orc:=ΓMt
theorem uw:ΓMr.Ok prog:=qjZ
end Go.Proofs.YtainfdcfkgemhaaGreat
namespace Go.Proofs.YtainfdcfkgemhaaGreat
open Go Go.Proofs Go.Sx
set_option linter.unusedVariables false
def kR:Code:=bX (f231.body.getD .skip) 0
def nE:List Bool:=aB 100 [0,3,4]
def lm (e:Ex):List Bool:=match e with
 | .exit _=>aB 100 [0,3]
 | .ret=>aB 100 [2]
 | .normal=>aB 100 [0,3,4]
def Jj (e:Ex) (st:St):Option (Ex×St):=some (e,ab 0 1 (lm e) st)
theorem Ln (i:Int) (nn:Int) (L:List (List Dat)) (own:Bool) (mark:Bool) (n:Nat):ao ΓMr prog L0 (ab 0 1 nE) kR (n+1) (mk nE [.row 0,.v (I nn),.v (I i)] ⟨[],[],[.live ⟨162,[.num .i64,.num .i64],L,own,mark⟩]⟩) Jj =
 (bif decide (i<nn) then (bif decide ((0:Int)<=i)&&decide (i<(L.length:Int)) then (bif !plR (pX L i) (pY L i) then some (.ret,mk (lm .ret) [.v (Bo false)] ⟨[],[],[.live ⟨162,[.num .i64,.num .i64],L,own,mark⟩]⟩) else ao ΓMr prog L0 (ab 0 1 nE) kR n (mk nE [.row 0,.v (I nn),.v (I (wI (i+(1:Int))))] ⟨[],[],[.live ⟨162,[.num .i64,.num .i64],L,own,mark⟩]⟩) Jj) else none) else some ((.exit 0),mk (lm (.exit 0)) [.row 0,.v (I nn)] ⟨[],[],[.live ⟨162,[.num .i64,.num .i64],L,own,mark⟩]⟩)):=by kernel_rfl
def SW (n:Nat) (i:Int) (nn:Int) (L:List (List Dat)) (own:Bool) (mark:Bool):Option (Ex×St) :=
 ao ΓMr prog L0 (ab 0 1 nE) kR n (mk nE [.row 0,.v (I nn),.v (I i)] ⟨[],[],[.live ⟨162,[.num .i64,.num .i64],L,own,mark⟩]⟩) Jj
def a7 (p:Int->Bool):Nat->Int->Bool
 | 0,_=>false
 | m+1,k=>p k||a7 p m (k+1)
theorem my {p:Int->Bool}:∀ {m:Nat} {k:Int},a7 p m k=true↔∃ i,k<=i/\i<k+m/\p i=true
 | 0,k=>⟨fun h=>(by cases h),fun ⟨i,h1,h2,_⟩=>absurd h2 (by omega)⟩
 | m+1,k=>by
  show (p k||a7 p m (k+1))=true↔_
  rw [Bool.or_eq_true,my]
  constructor
  ·rintro (h|⟨i,h1,h2,h3⟩)
   ·exact ⟨k,by omega,by omega,h⟩
   ·exact ⟨i,by omega,by omega,h3⟩
  ·rintro ⟨i,h1,h2,h3⟩
   by_cases hi:i=k
   ·rw [hi] at h3;exact .inl h3
   ·exact .inr ⟨i,by omega,by omega,h3⟩
theorem tE {α:Type} (p:Int->Bool) (N:Int) (E:Nat->Int->Option α) (X Y:Option α) (he:∀ n k,¬ k<N->E (n+1) k=X) (hr:∀ n k,0<=k/\k<N->E (n+1) k=bif p k then Y else E n (k+1)) :
  ∀ (m:Nat) (k:Int),0<=k->k+m=N->E (m+1) k=bif a7 p m k then Y else X:=by
 intro m
 induction m with
 | zero =>
  intro k h0 h1
  exact he 0 k (by omega)
 | succ m ih =>
  intro k h0 h1
  rw [hr (m+1) k (by omega)]
  show _=bif p k||a7 p m (k+1) then Y else X
  cases p k
  ·exact ih (k+1) (by omega) (by omega)
  ·rfl
def CP (L:List (List Dat)) (nn:Int) (own mark:Bool):LT:=.br (a7 (cK L) L.length 0) (.leaf .ret (mk (lm .ret) [.v (Bo false)] ⟨[],[],[rP L own mark]⟩)) (.leaf (.exit 0) (mk (lm (.exit 0)) [.row 0,.v (I nn)] ⟨[],[],[rP L own mark]⟩))
theorem qcv (L:List (List Dat)) (own mark:Bool) (hl:L.length<=1000000):SW (L.length+1) 0 (L.length:Int) L own mark=some (CP L (L.length:Int) own mark).pick:=by
 have h:=tE (cK L) (L.length:Int) (fun n k=>SW n k (L.length:Int) L own mark) (some (.exit 0,mk (lm (.exit 0)) [.row 0,.v (I (L.length:Int))] ⟨[],[],[rP L own mark]⟩)) (some (.ret,mk (lm .ret) [.v (Bo false)] ⟨[],[],[rP L own mark]⟩)) (fun n k hk=>?_) (fun n k hk=>?_) L.length 0 (by decide) (by omega)
 ·refine h.trans ?_
  unfold CP
  cases a7 (cK L) L.length 0<;>rfl
 ·refine (Ln k (L.length:Int) L own mark n).trans ?_
  rw [decide_eq_false hk]
  rfl
 ·refine (Ln k (L.length:Int) L own mark n).trans ?_
  rw [decide_eq_true hk.1,decide_eq_true hk.2,aM (n:=k+1) (by omega)]
  rfl
def JO (vals:List SV) (m:Mem):Option (Bool×LT) :=
 match vals,m with
 | [.row 0,.v (.int .i64 nn),.v (.int .i64 i)],⟨[],[],[.live ⟨162,[.num .i64,.num .i64],L,own,mark⟩]⟩=>some (nn==(L.length:Int)&&(i==0&&Nat.ble L.length 1000000),CP L nn own mark)
 | _,_=>none
def ΛRa:aV:=fun _ st=>fR 0 1 nE JO st
theorem qcJ (z:Base) (z1:z.L.length=0) (z2:z.U.length=1):aQ ΛRa prog z kR:=by
 refine gV (Λ:=L0) (kx:=lm) uw mixed z1 z2 (fun b hb st t h=>by cases h) (G:=JO) (fun _=>rfl) ?_
 intro vals m t h
 unfold JO at h
 split at h
 ·rename_i nn i L own mark
  obtain ⟨h1,rfl⟩:=aa h
  simp only [Bool.and_eq_true,beq_iff_eq] at h1
  obtain ⟨rfl,rfl,hl⟩:=h1
  exact ⟨L.length+1,qcv L own mark (Nat.le_of_ble_eq_true hl)⟩
 ·cases h
def mu:Code:=bX (f231.body.getD .skip) 1
def ms:Code:=bX mu 0
def gu:List Bool:=aB 100 [0,3,5,6]
def fP (e:Ex):List Bool:=match e with
 | .exit _=>aB 100 [0,3,5]
 | .ret=>aB 100 [2]
 | .normal=>aB 100 [0,3,5,6]
def re (e:Ex) (st:St):Option (Ex×St):=some (e,ab 0 1 (fP e) st)
theorem Ll (i:Int) (k:Int) (nn:Int) (L:List (List Dat)) (own:Bool) (mark:Bool) (n:Nat):ao ΓMr prog L0 (ab 0 1 gu) ms (n+1) (mk gu [.row 0,.v (I nn),.v (I i),.v (I k)] ⟨[],[],[.live ⟨162,[.num .i64,.num .i64],L,own,mark⟩]⟩) re =
 (bif decide (k<nn) then (bif decide ((0:Int)<=i)&&decide (i<(L.length:Int)) then (bif cl L i then (bif decide ((0:Int)<=k)&&decide (k<(L.length:Int)) then (bif cl L k then (bif (pX L i)==(pX L k)&&((pY L i)==(pY L k)&&true) then some (.ret,mk (fP .ret) [.v (Bo false)] ⟨[],[],[.live ⟨162,[.num .i64,.num .i64],L,own,mark⟩]⟩) else (bif k==wI (i+(1:Int)) then (bif onB (pX L (nx L k)) (pY L (nx L k)) (pX L i) (pY L i) (pX L (nx L i)) (pY L (nx L i)) then some (.ret,mk (fP .ret) [.v (Bo false)] ⟨[],[],[.live ⟨162,[.num .i64,.num .i64],L,own,mark⟩]⟩) else (bif onB (pX L i) (pY L i) (pX L k) (pY L k) (pX L (nx L k)) (pY L (nx L k)) then some (.ret,mk (fP .ret) [.v (Bo false)] ⟨[],[],[.live ⟨162,[.num .i64,.num .i64],L,own,mark⟩]⟩) else ao ΓMr prog L0 (ab 0 1 gu) ms n (mk gu [.row 0,.v (I nn),.v (I i),.v (I (wI (k+(1:Int))))] ⟨[],[],[.live ⟨162,[.num .i64,.num .i64],L,own,mark⟩]⟩) re)) else (bif i==(0:Int) then (bif k==wI (nn - (1:Int)) then (bif onB (pX L k) (pY L k) (pX L i) (pY L i) (pX L (nx L i)) (pY L (nx L i)) then some (.ret,mk (fP .ret) [.v (Bo false)] ⟨[],[],[.live ⟨162,[.num .i64,.num .i64],L,own,mark⟩]⟩) else (bif onB (pX L (nx L i)) (pY L (nx L i)) (pX L k) (pY L k) (pX L (nx L k)) (pY L (nx L k)) then some (.ret,mk (fP .ret) [.v (Bo false)] ⟨[],[],[.live ⟨162,[.num .i64,.num .i64],L,own,mark⟩]⟩) else ao ΓMr prog L0 (ab 0 1 gu) ms n (mk gu [.row 0,.v (I nn),.v (I i),.v (I (wI (k+(1:Int))))] ⟨[],[],[.live ⟨162,[.num .i64,.num .i64],L,own,mark⟩]⟩) re)) else (bif ch (pX L i) (pY L i) (pX L (nx L i)) (pY L (nx L i)) (pX L k) (pY L k) (pX L (nx L k)) (pY L (nx L k)) then some (.ret,mk (fP .ret) [.v (Bo false)] ⟨[],[],[.live ⟨162,[.num .i64,.num .i64],L,own,mark⟩]⟩) else ao ΓMr prog L0 (ab 0 1 gu) ms n (mk gu [.row 0,.v (I nn),.v (I i),.v (I (wI (k+(1:Int))))] ⟨[],[],[.live ⟨162,[.num .i64,.num .i64],L,own,mark⟩]⟩) re)) else (bif ch (pX L i) (pY L i) (pX L (nx L i)) (pY L (nx L i)) (pX L k) (pY L k) (pX L (nx L k)) (pY L (nx L k)) then some (.ret,mk (fP .ret) [.v (Bo false)] ⟨[],[],[.live ⟨162,[.num .i64,.num .i64],L,own,mark⟩]⟩) else ao ΓMr prog L0 (ab 0 1 gu) ms n (mk gu [.row 0,.v (I nn),.v (I i),.v (I (wI (k+(1:Int))))] ⟨[],[],[.live ⟨162,[.num .i64,.num .i64],L,own,mark⟩]⟩) re)))) else none) else none) else none) else none) else some ((.exit 4),mk (fP (.exit 4)) [.row 0,.v (I nn),.v (I i)] ⟨[],[],[.live ⟨162,[.num .i64,.num .i64],L,own,mark⟩]⟩)):=by kernel_rfl
def ST (n:Nat) (i:Int) (k:Int) (nn:Int) (L:List (List Dat)) (own:Bool) (mark:Bool):Option (Ex×St) :=
 ao ΓMr prog L0 (ab 0 1 gu) ms n (mk gu [.row 0,.v (I nn),.v (I i),.v (I k)] ⟨[],[],[.live ⟨162,[.num .i64,.num .i64],L,own,mark⟩]⟩) re
def ng (L:List (List Dat)) (i k:Int):Bool:=kJ L i k||bif k==i+1 then onB (pX L (nx L k)) (pY L (nx L k)) (pX L i) (pY L i) (pX L (nx L i)) (pY L (nx L i))||onB (pX L i) (pY L i) (pX L k) (pY L k) (pX L (nx L k)) (pY L (nx L k))
 else bif i==0&&k==(L.length:Int) - 1 then onB (pX L k) (pY L k) (pX L i) (pY L i) (pX L (nx L i)) (pY L (nx L i))||onB (pX L (nx L i)) (pY L (nx L i)) (pX L k) (pY L k) (pX L (nx L k)) (pY L (nx L k))
 else ch (pX L i) (pY L i) (pX L (nx L i)) (pY L (nx L i)) (pX L k) (pY L k) (pX L (nx L k)) (pY L (nx L k))
def eK (L:List (List Dat)) (i:Int):Bool:=a7 (ng L i) ((L.length:Int) - (i+1)).toNat (i+1)
def CN (L:List (List Dat)) (i nn:Int) (own mark:Bool):LT:=.br (eK L i) (.leaf .ret (mk (fP .ret) [.v (Bo false)] ⟨[],[],[rP L own mark]⟩)) (.leaf (.exit 4) (mk (fP (.exit 4)) [.row 0,.v (I nn),.v (I i)] ⟨[],[],[rP L own mark]⟩))
theorem qct (i:Int) (L:List (List Dat)) (own mark:Bool) (hi:cl L i=true):ST (((L.length:Int) - (i+1)).toNat+1) i (i+1) (L.length:Int) L own mark=some (CN L i (L.length:Int) own mark).pick:=by
 have a:=eh.1 hi
 have h:=tE (ng L i) (L.length:Int) (fun n k=>ST n i k (L.length:Int) L own mark) (some (.exit 4,mk (fP (.exit 4)) [.row 0,.v (I (L.length:Int)),.v (I i)] ⟨[],[],[rP L own mark]⟩)) (some (.ret,mk (fP .ret) [.v (Bo false)] ⟨[],[],[rP L own mark]⟩)) (fun n k hk=>?_) (fun n k hk=>?_) ((L.length:Int) - (i+1)).toNat (i+1) (by omega) (by omega)
 ·refine h.trans ?_
  unfold CN eK
  cases a7 (ng L i) ((L.length:Int) - (i+1)).toNat (i+1)<;>rfl
 ·refine (Ll i k (L.length:Int) L own mark n).trans ?_
  rw [decide_eq_false hk]
  rfl
 ·refine (Ll i k (L.length:Int) L own mark n).trans ?_
  have b:cl L k=true:=eh.2 (by omega)
  rw [decide_eq_true hk.1,decide_eq_true hk.2,decide_eq_true a.1,decide_eq_true a.2.1,hi,b,aM (n:=k+1) (by omega),aM (n:=i+1) (by omega),aM (n:=(L.length:Int) - 1) (by omega)]
  show (bif kJ L i k then _ else _)=_
  unfold ng
  cases kJ L i k
  ·cases k==i+1
   ·cases i==0
    ·cases ch (pX L i) (pY L i) (pX L (nx L i)) (pY L (nx L i)) (pX L k) (pY L k) (pX L (nx L k)) (pY L (nx L k))<;>rfl
    ·cases k==(L.length:Int) - 1
     ·cases ch (pX L i) (pY L i) (pX L (nx L i)) (pY L (nx L i)) (pX L k) (pY L k) (pX L (nx L k)) (pY L (nx L k))<;>rfl
     ·cases onB (pX L k) (pY L k) (pX L i) (pY L i) (pX L (nx L i)) (pY L (nx L i))<;>cases onB (pX L (nx L i)) (pY L (nx L i)) (pX L k) (pY L k) (pX L (nx L k)) (pY L (nx L k))<;>rfl
   ·cases onB (pX L (nx L k)) (pY L (nx L k)) (pX L i) (pY L i) (pX L (nx L i)) (pY L (nx L i))<;>cases onB (pX L i) (pY L i) (pX L k) (pY L k) (pX L (nx L k)) (pY L (nx L k))<;>rfl
  ·rfl
def JM (vals:List SV) (m:Mem):Option (Bool×LT) :=
 match vals,m with
 | [.row 0,.v (.int .i64 nn),.v (.int .i64 i),.v (.int .i64 k)],⟨[],[],[.live ⟨162,[.num .i64,.num .i64],L,own,mark⟩]⟩=>some (nn==(L.length:Int)&&(k==i+1&&cl L i),CN L i nn own mark)
 | _,_=>none
def ΛRc:aV:=fun _ st=>fR 0 1 gu JM st
theorem qcH (z:Base) (z1:z.L.length=0) (z2:z.U.length=1):aQ ΛRc prog z ms:=by
 refine gV (Λ:=L0) (kx:=fP) uw mixed z1 z2 (fun b hb st t h=>by cases h) (G:=JM) (fun _=>rfl) ?_
 intro vals m t h
 unfold JM at h
 split at h
 ·rename_i nn i k L own mark
  obtain ⟨h1,rfl⟩:=aa h
  simp only [Bool.and_eq_true,beq_iff_eq] at h1
  obtain ⟨rfl,rfl,hi⟩:=h1
  exact ⟨_,qct i L own mark hi⟩
 ·cases h
theorem qbT:loopsOf mu=[ms]:=by kernel_rfl
def nD:List Bool:=aB 100 [0,3,5]
def lk (e:Ex):List Bool:=match e with
 | .exit _=>aB 100 []
 | .ret=>aB 100 [2]
 | .normal=>aB 100 [0,3,5]
def Ji (e:Ex) (st:St):Option (Ex×St):=some (e,ab 0 1 (lk e) st)
theorem Lm (i:Int) (nn:Int) (L:List (List Dat)) (own:Bool) (mark:Bool) (n:Nat):ao ΓMr prog ΛRc (ab 0 1 nD) mu (n+1) (mk nD [.row 0,.v (I nn),.v (I i)] ⟨[],[],[.live ⟨162,[.num .i64,.num .i64],L,own,mark⟩]⟩) Ji =
 (bif decide (i<nn) then (bif nn==(L.length:Int)&&(wI (i+(1:Int))==i+(1:Int)&&cl L i) then (bif eK L i then some (.ret,mk (lk .ret) [.v (Bo false)] ⟨[],[],[.live ⟨162,[.num .i64,.num .i64],L,own,mark⟩]⟩) else ao ΓMr prog ΛRc (ab 0 1 nD) mu n (mk nD [.row 0,.v (I nn),.v (I (wI (i+(1:Int))))] ⟨[],[],[.live ⟨162,[.num .i64,.num .i64],L,own,mark⟩]⟩) Ji) else none) else some ((.exit 2),mk (lk (.exit 2)) [] ⟨[],[],[.live ⟨162,[.num .i64,.num .i64],L,own,mark⟩]⟩)):=by kernel_rfl
def SU (n:Nat) (i:Int) (nn:Int) (L:List (List Dat)) (own:Bool) (mark:Bool):Option (Ex×St) :=
 ao ΓMr prog ΛRc (ab 0 1 nD) mu n (mk nD [.row 0,.v (I nn),.v (I i)] ⟨[],[],[.live ⟨162,[.num .i64,.num .i64],L,own,mark⟩]⟩) Ji
def CO (L:List (List Dat)) (own mark:Bool):LT:=.br (a7 (eK L) L.length 0) (.leaf .ret (mk (lk .ret) [.v (Bo false)] ⟨[],[],[rP L own mark]⟩)) (.leaf (.exit 2) (mk (lk (.exit 2)) [] ⟨[],[],[rP L own mark]⟩))
theorem qcu (L:List (List Dat)) (own mark:Bool) (hl:L.length<=1000000):SU (L.length+1) 0 (L.length:Int) L own mark=some (CO L own mark).pick:=by
 have h:=tE (eK L) (L.length:Int) (fun n k=>SU n k (L.length:Int) L own mark) (some (.exit 2,mk (lk (.exit 2)) [] ⟨[],[],[rP L own mark]⟩)) (some (.ret,mk (lk .ret) [.v (Bo false)] ⟨[],[],[rP L own mark]⟩)) (fun n k hk=>?_) (fun n k hk=>?_) L.length 0 (by omega) (by omega)
 ·refine h.trans ?_
  unfold CO
  cases a7 (eK L) L.length 0<;>rfl
 ·refine (Lm k (L.length:Int) L own mark n).trans ?_
  rw [decide_eq_false hk]
  rfl
 ·refine (Lm k (L.length:Int) L own mark n).trans ?_
  have b:cl L k=true:=eh.2 (by omega)
  rw [decide_eq_true hk.2,b,aM (n:=k+1) (by omega),beq_self_eq_true,beq_self_eq_true]
  show (bif eK L k then _ else _)=_
  cases eK L k<;>rfl
def JN (vals:List SV) (m:Mem):Option (Bool×LT) :=
 match vals,m with
 | [.row 0,.v (.int .i64 nn),.v (.int .i64 i)],⟨[],[],[.live ⟨162,[.num .i64,.num .i64],L,own,mark⟩]⟩=>some (nn==(L.length:Int)&&(i==0&&Nat.ble L.length 1000000),CO L own mark)
 | _,_=>none
def ΛRb:aV:=fun _ st=>fR 0 1 nD JN st
theorem qcI (z:Base) (z1:z.L.length=0) (z2:z.U.length=1):aQ ΛRb prog z mu:=by
 refine gV (Λ:=ΛRc) (kx:=lk) uw mixed z1 z2 (bW qbT (qcH z z1 z2)) (G:=JN) (fun _=>rfl) ?_
 intro vals m t h
 unfold JN at h
 split at h
 ·rename_i nn i L own mark
  obtain ⟨h1,rfl⟩:=aa h
  simp only [Bool.and_eq_true,beq_iff_eq] at h1
  obtain ⟨rfl,rfl,hl⟩:=h1
  exact ⟨_,qcu L own mark (Nat.le_of_ble_eq_true hl)⟩
 ·cases h
theorem qbU:loopsOf (f231.body.getD .skip)=[kR,mu]:=by kernel_rfl
theorem Uc:Nat.beq (cH kR) (cH kR)=true:=by kernel_rfl
theorem Ub:Nat.beq (cH mu) (cH kR)=false:=by kernel_rfl
def either (t:Code) (Λ1 Λ2:aV):aV:=fun b st=>match Nat.beq (cH b) (cH t) with
 | true=>Λ1 b st
 | false=>Λ2 b st
theorem eitherL {t:Code} {Λ1 Λ2:aV} {b:Code} {z:Base} (h:Nat.beq (cH b) (cH t)=true) (h1:aQ Λ1 prog z b):aQ (either t Λ1 Λ2) prog z b:=fun st x hx=>h1 st x (by unfold either at hx;rw [h] at hx;exact hx)
theorem eitherR {t:Code} {Λ1 Λ2:aV} {b:Code} {z:Base} (h:Nat.beq (cH b) (cH t)=false) (h1:aQ Λ2 prog z b):aQ (either t Λ1 Λ2) prog z b:=fun st x hx=>h1 st x (by unfold either at hx;rw [h] at hx;exact hx)
theorem twoLoops {Λ:aV} {c b0 b1:Code} {z:Base} (h:loopsOf c=[b0,b1]) (h0:aQ Λ prog z b0) (h1:aQ Λ prog z b1):∀ b∈loopsOf c,aQ Λ prog z b:=by
 intro b hb
 rw [h] at hb
 simp only [List.mem_cons,List.not_mem_nil,or_false] at hb
 rcases hb with rfl|rfl
 ·exact h0
 ·exact h1
def ΛRab:aV:=either kR ΛRa ΛRb
def m6 (L:List (List Dat)):Bool:=!(decide ((L.length:Int)<3)||decide ((L.length:Int)>8))&&(!a7 (cK L) L.length 0&&!a7 (eK L) L.length 0)
theorem W6 (L:List (List Dat)) (own:Bool) (mark:Bool):runG ΓMr ΛRab prog f231 [.row 0] ⟨[],[],[rP L own mark]⟩ =
 (bif decide ((L.length:Int)<(3:Int)) then some (.v (Bo false),⟨[],[],[.live ⟨162,[.num .i64,.num .i64],L,own,mark⟩]⟩) else (bif decide ((L.length:Int)>(8:Int)) then some (.v (Bo false),⟨[],[],[.live ⟨162,[.num .i64,.num .i64],L,own,mark⟩]⟩) else (bif (L.length:Int)==(L.length:Int)&&(true&&L.length.ble (1000000)) then (bif a7 (cK L) L.length (0:Int) then some (.v (Bo false),⟨[],[],[.live ⟨162,[.num .i64,.num .i64],L,own,mark⟩]⟩) else (bif (L.length:Int)==(L.length:Int)&&(true&&L.length.ble (1000000)) then (bif a7 (eK L) L.length (0:Int) then some (.v (Bo false),⟨[],[],[.live ⟨162,[.num .i64,.num .i64],L,own,mark⟩]⟩) else some (.v (Bo true),⟨[],[],[.live ⟨162,[.num .i64,.num .i64],L,own,mark⟩]⟩)) else none)) else none))):=by kernel_rfl
def Ez (xs:List SV) (m:Mem):Option (Bool×Value) :=
 match xs,m with
 | [.row 0],⟨[],[],[.live ⟨162,[.num .i64,.num .i64],L,own,mark⟩]⟩=>some (Nat.ble L.length 1000000,Bo (m6 L))
 | _,_=>none
theorem qeE:bi 231 Ez:=by
 intro xs m r h
 unfold Ez at h
 split at h
 ·rename_i L own mark
  obtain ⟨h1,rfl⟩:=aa h
  refine aj (Λ:=ΛRab) uw func231 rfl (fun z z1 z2=>twoLoops qbU (eitherL Uc (qcJ z z1 z2)) (eitherR Ub (qcI z z1 z2))) ?_
  refine (W6 L own mark).trans ?_
  rw [h1,beq_self_eq_true]
  unfold m6
  cases decide ((L.length:Int)<3)<;>cases decide ((L.length:Int)>8)<;>cases a7 (cK L) L.length 0<;>cases a7 (eK L) L.length 0<;>rfl
 ·cases h
def ΓRs1:Orc:=aR 231 Ez ΓMr
theorem IG:ΓRs1.Ok prog:=aL uw qeE
def uc:Code:=bX (f170.body.getD .skip) 0
def nC:List Bool:=aB 47 [0,3]
def gJ (e:Ex):List Bool:=match e with
 | .exit _=>aB 47 [0]
 | .ret=>aB 47 [2]
 | .normal=>aB 47 [0,3]
def Jh (e:Ex) (st:St):Option (Ex×St):=some (e,ab 0 1 (gJ e) st)
theorem Bz (i:Int) (L:List (List Dat)) (own:Bool) (mark:Bool) (n:Nat):ao ΓRs1 prog L0 (ab 0 1 nC) uc (n+1) (mk nC [.row 0,.v (I i)] ⟨[],[],[.live ⟨162,[.num .i64,.num .i64],L,own,mark⟩]⟩) Jh =
 (bif decide (i<(L.length:Int)) then (bif decide ((L.length:Int)<=(8:Int)) then (bif decide ((0:Int)<=i)&&decide (i<(L.length:Int)) then (bif decide ((pX L i)<(-1073741824:Int)) then some (.ret,mk (gJ .ret) [.v (Bo false)] ⟨[],[],[.live ⟨162,[.num .i64,.num .i64],L,own,mark⟩]⟩) else (bif decide ((0:Int)<=i)&&decide (i<(L.length:Int)) then (bif decide ((pX L i)>(1073741824:Int)) then some (.ret,mk (gJ .ret) [.v (Bo false)] ⟨[],[],[.live ⟨162,[.num .i64,.num .i64],L,own,mark⟩]⟩) else (bif decide ((0:Int)<=i)&&decide (i<(L.length:Int)) then (bif decide ((pY L i)<(-1073741824:Int)) then some (.ret,mk (gJ .ret) [.v (Bo false)] ⟨[],[],[.live ⟨162,[.num .i64,.num .i64],L,own,mark⟩]⟩) else (bif decide ((0:Int)<=i)&&decide (i<(L.length:Int)) then (bif decide ((pY L i)>(1073741824:Int)) then some (.ret,mk (gJ .ret) [.v (Bo false)] ⟨[],[],[.live ⟨162,[.num .i64,.num .i64],L,own,mark⟩]⟩) else ao ΓRs1 prog L0 (ab 0 1 nC) uc n (mk nC [.row 0,.v (I (wI (i+(1:Int))))] ⟨[],[],[.live ⟨162,[.num .i64,.num .i64],L,own,mark⟩]⟩) Jh) else none)) else none)) else none)) else none) else some ((.exit 0),mk (gJ (.exit 0)) [.row 0] ⟨[],[],[.live ⟨162,[.num .i64,.num .i64],L,own,mark⟩]⟩)) else some ((.exit 0),mk (gJ (.exit 0)) [.row 0] ⟨[],[],[.live ⟨162,[.num .i64,.num .i64],L,own,mark⟩]⟩)):=by kernel_rfl
def SS (n:Nat) (i:Int) (L:List (List Dat)) (own:Bool) (mark:Bool):Option (Ex×St) :=
 ao ΓRs1 prog L0 (ab 0 1 nC) uc n (mk nC [.row 0,.v (I i)] ⟨[],[],[.live ⟨162,[.num .i64,.num .i64],L,own,mark⟩]⟩) Jh
def xh (L:List (List Dat)) (own mark:Bool):LT:=.br (decide ((L.length:Int)<=8)&&a7 (cQ L) L.length 0) (.leaf .ret (mk (gJ .ret) [.v (Bo false)] ⟨[],[],[rP L own mark]⟩)) (.leaf (.exit 0) (mk (gJ (.exit 0)) [.row 0] ⟨[],[],[rP L own mark]⟩))
theorem qcs (L:List (List Dat)) (own mark:Bool) (hl:L.length<=1000000):SS (L.length+1) 0 L own mark=some (xh L own mark).pick:=by
 by_cases h8:(L.length:Int)<=8
 ·have h:=tE (cQ L) (L.length:Int) (fun n k=>SS n k L own mark) (some (.exit 0,mk (gJ (.exit 0)) [.row 0] ⟨[],[],[rP L own mark]⟩)) (some (.ret,mk (gJ .ret) [.v (Bo false)] ⟨[],[],[rP L own mark]⟩)) (fun n k hk=>?_) (fun n k hk=>?_) L.length 0 (by omega) (by omega)
  ·refine h.trans ?_
   unfold xh
   rw [decide_eq_true h8]
   cases a7 (cQ L) L.length 0<;>rfl
  ·refine (Bz k L own mark n).trans ?_
   rw [decide_eq_false hk]
   rfl
  ·refine (Bz k L own mark n).trans ?_
   rw [decide_eq_true hk.2,decide_eq_true hk.1,decide_eq_true h8,aM (n:=k+1) (by omega)]
   unfold cQ gf
   cases decide (pX L k< -1073741824)<;>cases decide (pX L k>1073741824)<;>cases decide (pY L k< -1073741824)<;>cases decide (pY L k>1073741824)<;>rfl
 ·refine (Bz 0 L own mark L.length).trans ?_
  unfold xh
  rw [decide_eq_false h8]
  cases decide ((0:Int)<(L.length:Int))<;>rfl
def JL (vals:List SV) (m:Mem):Option (Bool×LT) :=
 match vals,m with
 | [.row 0,.v (.int .i64 i)],⟨[],[],[.live ⟨162,[.num .i64,.num .i64],L,own,mark⟩]⟩=>some (i==0&&Nat.ble L.length 1000000,xh L own mark)
 | _,_=>none
def ΛRd:aV:=fun _ st=>fR 0 1 nC JL st
theorem qcG (z:Base) (z1:z.L.length=0) (z2:z.U.length=1):aQ ΛRd prog z uc:=by
 refine gV (Λ:=L0) (kx:=gJ) IG mixed z1 z2 (fun b hb st t h=>by cases h) (G:=JL) (fun _=>rfl) ?_
 intro vals m t h
 unfold JL at h
 split at h
 ·rename_i i L own mark
  obtain ⟨h1,rfl⟩:=aa h
  simp only [Bool.and_eq_true,beq_iff_eq] at h1
  obtain ⟨rfl,hl⟩:=h1
  exact ⟨_,qcs L own mark (Nat.le_of_ble_eq_true hl)⟩
 ·cases h
theorem qbS:loopsOf (f170.body.getD .skip)=[uc]:=by kernel_rfl
def kT (L:List (List Dat)):Bool:=!(decide ((L.length:Int)<=8)&&a7 (cQ L) L.length 0)&&m6 L
theorem Xm (L:List (List Dat)) (own:Bool) (mark:Bool):runG ΓRs1 ΛRd prog f170 [.row 0] ⟨[],[],[rP L own mark]⟩ =
 (bif true&&L.length.ble (1000000) then (bif decide ((L.length:Int)<=(8:Int))&&a7 (cQ L) L.length (0:Int) then some (.v (Bo false),⟨[],[],[.live ⟨162,[.num .i64,.num .i64],L,own,mark⟩]⟩) else (bif L.length.ble (1000000) then some (.v (Bo (m6 L)),⟨[],[],[.live ⟨162,[.num .i64,.num .i64],L,own,mark⟩]⟩) else none)) else none):=by kernel_rfl
def EP (xs:List SV) (m:Mem):Option (Bool×Value) :=
 match xs,m with
 | [.row 0],⟨[],[],[.live ⟨162,[.num .i64,.num .i64],L,own,mark⟩]⟩=>some (Nat.ble L.length 1000000,Bo (kT L))
 | _,_=>none
theorem qeP:bi 170 EP:=by
 intro xs m r h
 unfold EP at h
 split at h
 ·rename_i L own mark
  obtain ⟨h1,rfl⟩:=aa h
  refine aj (Λ:=ΛRd) IG func170 rfl (fun z z1 z2=>bW qbS (qcG z z1 z2)) ?_
  refine (Xm L own mark).trans ?_
  rw [h1]
  unfold kT
  cases decide ((L.length:Int)<=8)<;>cases a7 (cQ L) L.length 0<;>cases m6 L<;>rfl
 ·cases h
def ΓRs2:Orc:=aR 170 EP ΓRs1
theorem qjE:ΓRs2.Ok prog:=aL IG qeP
def fH {σ:Type} (f:Int->σ->σ):Nat->Int->σ->σ
 | 0,_,s=>s
 | m+1,k,s=>fH f m (k+1) (f k s)
theorem qg3 {α σ:Type} (p:Int->Bool) (f:Int->σ->σ) (I:Int->σ->Prop) (N:Int) (E:Nat->Int->σ->Option α) (X:σ->Option α) (Y:Option α) (he:∀ n k s,¬ k<N->I k s->E (n+1) k s=X s) (hI:∀ k s,0<=k/\k<N->I k s->I (k+1) (f k s)) (hr:∀ n k s,0<=k/\k<N->I k s->E (n+1) k s=bif p k then Y else E n (k+1) (f k s)) :
  ∀ (m:Nat) (k:Int) (s:σ),0<=k->k+m=N->I k s->E (m+1) k s=bif a7 p m k then Y else X (fH f m k s):=by
 intro m
 induction m with
 | zero =>
  intro k s h0 h1 hi
  exact he 0 k s (by omega) hi
 | succ m ih =>
  intro k s h0 h1 hi
  rw [hr (m+1) k s (by omega) hi]
  show _=bif p k||a7 p m (k+1) then Y else X (fH f m (k+1) (f k s))
  cases p k
  ·exact ih (k+1) (f k s) (by omega) (by omega) (hI k s (by omega) hi)
  ·rfl
theorem Qp:∀ (m:Nat) (k:Int),a7 (fun _=>false) m k=false
 | 0,_=>rfl
 | m+1,k=>Qp m (k+1)
theorem qg4 {α σ:Type} (f:Int->σ->σ) (I:Int->σ->Prop) (N:Int) (E:Nat->Int->σ->Option α) (X:σ->Option α) (he:∀ n k s,¬ k<N->I k s->E (n+1) k s=X s) (hI:∀ k s,0<=k/\k<N->I k s->I (k+1) (f k s)) (hr:∀ n k s,0<=k/\k<N->I k s->E (n+1) k s=E n (k+1) (f k s))
  (m:Nat) (k:Int) (s:σ) (h0:0<=k) (h1:k+m=N) (hi:I k s):E (m+1) k s=X (fH f m k s):=by
 have:=qg3 (fun _=>false) f I N E X none he hI (fun n k s hk hi=>hr n k s hk hi) m k s h0 h1 hi
 rwa [Qp] at this
def lO (px py:Int) (L:List (List Dat)):Bool:=fH (fun k s=>s ^^ ji px py L k) L.length 0 false
def ΓRs:Orc:=ΓRs2
theorem qjF:ΓRs.Ok prog:=qjE
def vD (L:List (List Dat)) (px py:Int):Int:=bif !kT L then -1 else bif !plR px py then -1 else bif a7 (gy px py L) L.length 0 then 0 else bif lO px py L then 1 else -1
end Go.Proofs.YtainfdcfkgemhaaGreat
namespace Go.Proofs.YtainfdcfkgemhaaGreat
open Go Go.Proofs Go.Sx
set_option linter.unusedVariables false
def ΓRg1:Orc:=ΓRs
theorem II:ΓRg1.Ok prog:=qjF
def ub:Code:=bX (f173.body.getD .skip) 0
def nA:List Bool:=aB 33 [1,2,15,16,17]
def lj (e:Ex):List Bool:=match e with
 | .exit _=>aB 33 [1,2]
 | .ret=>aB 33 [4]
 | .normal=>aB 33 [1,2,15,16,17]
def Jg (e:Ex) (st:St):Option (Ex×St):=some (e,ab 0 1 (lj e) st)
theorem Lk (a:Int) (b:Int) (c:Int) (d:Int) (k:Int) (nn:Int) (L:List (List Dat)) (own:Bool) (mark:Bool) (n:Nat):ao ΓRg1 prog L0 (ab 0 1 nA) ub (n+1) (mk nA [.row 0,.ptr 0 0,.row 0,.v (I nn),.v (I k)] ⟨[[.v (I a),.v (I b),.v (I c),.v (I d)]],[true],[rP L own mark]⟩) Jg =
 (bif decide (k<nn) then (bif decide ((0:Int)<=k)&&decide (k<(L.length:Int)) then (bif cl L k then (bif pP a b c d (pX L k) (pY L k) (pX L (nx L k)) (pY L (nx L k)) then some (.ret,mk (lj .ret) [.v (I 0)] ⟨[],[],[.live ⟨162,[.num .i64,.num .i64],L,own,mark⟩]⟩) else ao ΓRg1 prog L0 (ab 0 1 nA) ub n (mk nA [.row 0,.ptr 0 0,.row 0,.v (I nn),.v (I (wI (k+(1:Int))))] ⟨[[.v (I a),.v (I b),.v (I c),.v (I d)]],[true],[.live ⟨162,[.num .i64,.num .i64],L,own,mark⟩]⟩) Jg) else none) else none) else some ((.exit 0),mk (lj (.exit 0)) [.row 0,.ptr 0 0] ⟨[[.v (I a),.v (I b),.v (I c),.v (I d)]],[true],[.live ⟨162,[.num .i64,.num .i64],L,own,mark⟩]⟩)):=by kernel_rfl
def SR (n:Nat) (a:Int) (b:Int) (c:Int) (d:Int) (k:Int) (nn:Int) (L:List (List Dat)) (own:Bool) (mark:Bool):Option (Ex×St) :=
 ao ΓRg1 prog L0 (ab 0 1 nA) ub n (mk nA [.row 0,.ptr 0 0,.row 0,.v (I nn),.v (I k)] ⟨[[.v (I a),.v (I b),.v (I c),.v (I d)]],[true],[rP L own mark]⟩) Jg
def er (a b c d:Int) (L:List (List Dat)) (k:Int):Bool:=pP a b c d (pX L k) (pY L k) (pX L (nx L k)) (pY L (nx L k))
def CM (a b c d:Int) (L:List (List Dat)) (own mark:Bool):LT:=.br (a7 (er a b c d L) L.length 0) (.leaf .ret (mk (lj .ret) [.v (I 0)] ⟨[],[],[rP L own mark]⟩)) (.leaf (.exit 0) (mk (lj (.exit 0)) [.row 0,.ptr 0 0] ⟨[[.v (I a),.v (I b),.v (I c),.v (I d)]],[true],[rP L own mark]⟩))
theorem qcr (a b c d:Int) (L:List (List Dat)) (own mark:Bool) (hl:L.length<=1000000):SR (L.length+1) a b c d 0 (L.length:Int) L own mark=some (CM a b c d L own mark).pick:=by
 have h:=tE (er a b c d L) (L.length:Int) (fun n k=>SR n a b c d k (L.length:Int) L own mark) (some (.exit 0,mk (lj (.exit 0)) [.row 0,.ptr 0 0] ⟨[[.v (I a),.v (I b),.v (I c),.v (I d)]],[true],[rP L own mark]⟩)) (some (.ret,mk (lj .ret) [.v (I 0)] ⟨[],[],[rP L own mark]⟩)) (fun n k hk=>?_) (fun n k hk=>?_) L.length 0 (by omega) (by omega)
 ·refine h.trans ?_
  unfold CM
  cases a7 (er a b c d L) L.length 0<;>rfl
 ·refine (Lk a b c d k (L.length:Int) L own mark n).trans ?_
  rw [decide_eq_false hk]
  rfl
 ·refine (Lk a b c d k (L.length:Int) L own mark n).trans ?_
  have e:cl L k=true:=eh.2 (by omega)
  have n1:=sN e
  rw [decide_eq_true hk.2,decide_eq_true hk.1,e,aM (n:=k+1) (by omega)]
  show (bif er a b c d L k then _ else _)=_
  cases er a b c d L k<;>rfl
def JK (vals:List SV) (m:Mem):Option (Bool×LT) :=
 match vals,m with
 | [.row 0,.ptr 0 0,.row 0,.v (.int .i64 nn),.v (.int .i64 k)],⟨[[.v (.int .i64 a),.v (.int .i64 b),.v (.int .i64 c),.v (.int .i64 d)]],[true],[.live ⟨162,[.num .i64,.num .i64],L,own,mark⟩]⟩=>some (nn==(L.length:Int)&&(k==0&&Nat.ble L.length 1000000),CM a b c d L own mark)
 | _,_=>none
def ΛRh:aV:=fun _ st=>fR 0 1 nA JK st
theorem qcF (z:Base) (z1:z.L.length=0) (z2:z.U.length=1):aQ ΛRh prog z ub:=by
 refine gV (Λ:=L0) (kx:=lj) II mixed z1 z2 (fun b hb st t h=>by cases h) (G:=JK) (fun _=>rfl) ?_
 intro vals m t h
 unfold JK at h
 split at h
 ·rename_i nn k a b c d L own mark
  obtain ⟨h1,rfl⟩:=aa h
  simp only [Bool.and_eq_true,beq_iff_eq] at h1
  obtain ⟨rfl,rfl,hl⟩:=h1
  exact ⟨_,qcr a b c d L own mark (Nat.le_of_ble_eq_true hl)⟩
 ·cases h
theorem qbR:loopsOf (f173.body.getD .skip)=[ub]:=by kernel_rfl
def iv (a b c d:Int) (L:List (List Dat)):Int:=bif !aU a b c d then -1 else bif !cM L then -1 else bif a7 (er a b c d L) L.length 0 then 0 else eJ L a b
theorem XF (a:Int) (b:Int) (c:Int) (d:Int) (L:List (List Dat)) (own:Bool) (mark:Bool):runG ΓRg1 ΛRh prog f173 [.v (.agg #[I a,I b,I c,I d]),.row 0] ⟨[],[],[rP L own mark]⟩ =
 (bif !aU a b c d then some (.v (I (-1)),⟨[],[],[.live ⟨162,[.num .i64,.num .i64],L,own,mark⟩]⟩) else (bif L.length.ble (1000000) then (bif !cM L then some (.v (I (-1)),⟨[],[],[.live ⟨162,[.num .i64,.num .i64],L,own,mark⟩]⟩) else (bif (L.length:Int)==(L.length:Int)&&(true&&L.length.ble (1000000)) then (bif a7 (er a b c d L) L.length (0:Int) then some (.v (I 0),⟨[],[],[.live ⟨162,[.num .i64,.num .i64],L,own,mark⟩]⟩) else (bif L.length.ble (1000000) then some (.v (I (eJ L a b)),⟨[],[],[.live ⟨162,[.num .i64,.num .i64],L,own,mark⟩]⟩) else none)) else none)) else none)):=by kernel_rfl
def E5 (xs:List SV) (m:Mem):Option (Bool×Value) :=
 match xs,m with
 | [.v (.agg ⟨[.int .i64 a,.int .i64 b,.int .i64 c,.int .i64 d]⟩),.row 0],⟨[],[],[.live ⟨162,[.num .i64,.num .i64],L,own,mark⟩]⟩=>some (Nat.ble L.length 1000000,I (iv a b c d L))
 | _,_=>none
theorem qe5:bi 173 E5:=by
 intro xs m r h
 unfold E5 at h
 split at h
 ·rename_i a b c d L own mark
  obtain ⟨h1,rfl⟩:=aa h
  refine aj (Λ:=ΛRh) II func173 rfl (fun z z1 z2=>bW qbR (qcF z z1 z2)) ?_
  refine (XF a b c d L own mark).trans ?_
  rw [h1,beq_self_eq_true]
  unfold iv
  cases aU a b c d<;>cases cM L<;>cases a7 (er a b c d L) L.length 0<;>rfl
 ·cases h
def ΓRg2:Orc:=aR 173 E5 ΓRg1
theorem qjG:ΓRg2.Ok prog:=aL II qe5
def ΓRg3:Orc:=ΓRg2
theorem IH:ΓRg3.Ok prog:=qjG
end Go.Proofs.YtainfdcfkgemhaaGreat
