/-
  What is known of this program: contracts of poly and of box over rows of places,and of the document's.
-/
import Derived.Test.YtainfdcfkgemhaaGreatYa
import Derived.Test.YtainfdcfkgemhaaGreatSx
set_option maxRecDepth 100000
noncomputable section
open Go.Proofs.Tryz
namespace Go.Proofs.YtainfdcfkgemhaaGreat
open Go Go.Proofs Go.Sx
set_option linter.unusedVariables false
def pX (L:List (List Dat)) (k:Int):Int:=((L.getD k.toNat []).headD (Dat.n 0)).toI
def pY (L:List (List Dat)) (k:Int):Int:=((L.getD k.toNat []).tail.headD (Dat.n 0)).toI
def nx (L:List (List Dat)) (i:Int):Int:=(wI (i+1)).tmod (L.length:Int)
abbrev rP (L:List (List Dat)) (own mark:Bool):RowS:=.live ⟨162,[.num .i64,.num .i64],L,own,mark⟩
theorem Z9 (i:Int) (L:List (List Dat)) (own mark:Bool):runG ΓBo L0 prog f240 [.row 0,.v (I i)] ⟨[],[],[rP L own mark]⟩ =
 (bif (L.length:Int)==(0:Int) then none else (bif decide ((0:Int)<=nx L i)&&decide (nx L i<(L.length:Int)) then some (.v (.agg #[(I (pX L (nx L i))),(I (pY L (nx L i)))]),⟨[],[],[.live ⟨162,[.num .i64,.num .i64],L,own,mark⟩]⟩) else none)):=by kernel_rfl
theorem Zx (i:Int) (L:List (List Dat)) (own mark:Bool):runG ΓBo L0 prog f303 [.row 0,.v (I i)] ⟨[],[],[rP L own mark]⟩ =
 (bif decide ((0:Int)<=i)&&decide (i<(L.length:Int)) then (bif (L.length:Int)==(0:Int) then none else (bif decide ((0:Int)<=nx L i)&&decide (nx L i<(L.length:Int)) then some (.v (.tuple #[(.agg #[(I (pX L i)),(I (pY L i))]),(.agg #[(I (pX L (nx L i))),(I (pY L (nx L i)))])]),⟨[],[],[.live ⟨162,[.num .i64,.num .i64],L,own,mark⟩]⟩) else none)) else none):=by kernel_rfl
theorem Yd (i:Int) (L:List (List Dat)) (own mark:Bool):runG ΓBo L0 prog f289 [.row 0,.v (I i)] ⟨[],[],[rP L own mark]⟩ =
 (bif (L.length:Int)==(0:Int) then none else (bif decide ((0:Int)<=nx L i)&&decide (nx L i<(L.length:Int)) then some (.v (.agg #[(I (pX L (nx L i))),(I (pY L (nx L i)))]),⟨[],[],[.live ⟨162,[.num .i64,.num .i64],L,own,mark⟩]⟩) else none)):=by kernel_rfl
def cM (L:List (List Dat)) (i:Int):Bool:=decide (0<=i)&&(decide (i<(L.length:Int))&&Nat.ble L.length 1000000)
theorem ie {L:List (List Dat)} {i:Int}:cM L i=true↔0<=i/\i<(L.length:Int)/\L.length<=1000000:=by
 unfold cM
 simp only [Bool.and_eq_true,decide_eq_true_eq]
 exact ⟨fun ⟨a,b,c⟩=>⟨a,b,Nat.le_of_ble_eq_true c⟩,fun ⟨a,b,c⟩=>⟨a,b,Nat.ble_eq_true_of_le c⟩⟩
theorem wJ {L:List (List Dat)} {i:Int} (h:cM L i=true):0<=nx L i/\nx L i<(L.length:Int):=by
 have h:=ie.1 h
 unfold nx
 rw [az (by omega),Int.tmod_eq_emod_of_nonneg (by omega)]
 exact ⟨Int.emod_nonneg _ (by omega),Int.emod_lt_of_pos _ (by omega)⟩
def ql (xs:List SV) (m:Mem):Option (Bool×Value) :=
 match xs,m with
 | [.row 0,.v (.int .i64 i)],⟨[],[],[.live ⟨162,[.num .i64,.num .i64],L,own,mark⟩]⟩=>some (cM L i,.agg #[I (pX L (nx L i)),I (pY L (nx L i))])
 | _,_=>none
theorem qhi:bk 240 ql:=by
 intro xs m r h
 unfold ql at h
 split at h
 ·rename_i i L own mark
  obtain ⟨h1,rfl⟩:=ab h
  refine aj (Λ:=L0) zV func240 rfl ai ?_
  refine (Z9 i L own mark).trans ?_
  have n:=wJ h1
  have a:=ie.1 h1
  rw [beq_eq_false_iff_ne.2 (show (L.length:Int)≠0 by omega),decide_eq_true n.1,decide_eq_true n.2]
  rfl
 ·cases h
theorem qfP:bk 289 ql:=by
 intro xs m r h
 unfold ql at h
 split at h
 ·rename_i i L own mark
  obtain ⟨h1,rfl⟩:=ab h
  refine aj (Λ:=L0) zV func289 rfl ai ?_
  refine (Yd i L own mark).trans ?_
  have n:=wJ h1
  have a:=ie.1 h1
  rw [beq_eq_false_iff_ne.2 (show (L.length:Int)≠0 by omega),decide_eq_true n.1,decide_eq_true n.2]
  rfl
 ·cases h
def F8 (xs:List SV) (m:Mem):Option (Bool×Value) :=
 match xs,m with
 | [.row 0,.v (.int .i64 i)],⟨[],[],[.live ⟨162,[.num .i64,.num .i64],L,own,mark⟩]⟩=>some (cM L i,.tuple #[.agg #[I (pX L i),I (pY L i)],.agg #[I (pX L (nx L i)),I (pY L (nx L i))]])
 | _,_=>none
theorem qgQ:bk 303 F8:=by
 intro xs m r h
 unfold F8 at h
 split at h
 ·rename_i i L own mark
  obtain ⟨h1,rfl⟩:=ab h
  refine aj (Λ:=L0) zV func303 rfl ai ?_
  refine (Zx i L own mark).trans ?_
  have n:=wJ h1
  have a:=ie.1 h1
  rw [beq_eq_false_iff_ne.2 (show (L.length:Int)≠0 by omega),decide_eq_true n.1,decide_eq_true n.2,decide_eq_true a.1,decide_eq_true a.2.1]
  rfl
 ·cases h
def ΓRw1:Orc:=aU 240 ql ΓBo
theorem qkw:ΓRw1.Ok prog:=aO zV qhi
def ΓRw2:Orc:=aU 303 F8 ΓRw1
theorem qkv:ΓRw2.Ok prog:=aO qkw qgQ
def ΓRo:Orc:=aU 289 ql ΓRw2
theorem Rq:ΓRo.Ok prog:=aO qkv qfP
end Go.Proofs.YtainfdcfkgemhaaGreat
namespace Go.Proofs.YtainfdcfkgemhaaGreat
open Go Go.Proofs Go.Sx
set_option linter.unusedVariables false
theorem X6 (a1:Int) (a2:Int) (b1:Int) (b2:Int) (c1:Int) (c2:Int):runG ΓRo L0 prog f359 [.v (.agg #[I a1,I a2]),.v (.agg #[I b1,I b2]),.v (.agg #[I c1,I c2])] M0 =
 (bif onB c1 c2 a1 a2 b1 b2 then some (.v (Bo true),M0) else some (.v (Bo (onB a1 a2 b1 b2 c1 c2)),M0)):=by kernel_rfl
def EY (vs:List Value):Option (Bool×Value) :=
 match vs with
 | [.agg ⟨[.int .i64 a1,.int .i64 a2]⟩,.agg ⟨[.int .i64 b1,.int .i64 b2]⟩,.agg ⟨[.int .i64 c1,.int .i64 c2]⟩]=>some (true,Bo (onB c1 c2 a1 a2 b1 b2||onB a1 a2 b1 b2 c1 c2))
 | _=>none
theorem qfI:am 359 EY:=by
 intro vs r h
 unfold EY at h
 split at h
 ·rename_i a1 a2 b1 b2 c1 c2
  obtain ⟨h1,rfl⟩:=ab h
  refine ak (vs:=[.agg #[I a1,I a2],.agg #[I b1,I b2],.agg #[I c1,I c2]]) (Λ:=L0) (m':=M0) Rq func359 rfl ai ?_
  exact (X6 a1 a2 b1 b2 c1 c2).trans (by cases onB c1 c2 a1 a2 b1 b2<;>rfl)
 ·cases h
def ΓZ1:Orc:=ah 359 EY ΓRo
theorem qkj:ΓZ1.Ok prog:=af Rq qfI
theorem Yq (i j:Int) (L:List (List Dat)) (own mark:Bool):runG ΓZ1 L0 prog f334 [.row 0,.v (I i),.v (I j)] ⟨[],[],[rP L own mark]⟩ =
 (bif cM L i then (bif cM L j then (bif wI (i+(1:Int))==j then some (.v (Bo (onB (pX L (nx L j)) (pY L (nx L j)) (pX L i) (pY L i) (pX L (nx L i)) (pY L (nx L i))||onB (pX L i) (pY L i) (pX L (nx L i)) (pY L (nx L i)) (pX L (nx L j)) (pY L (nx L j)))),⟨[],[],[.live ⟨162,[.num .i64,.num .i64],L,own,mark⟩]⟩) else (bif (L.length:Int)==(0:Int) then none else (bif (wI (j+(1:Int))).tmod (L.length:Int)==i then some (.v (Bo (onB (pX L (nx L i)) (pY L (nx L i)) (pX L j) (pY L j) (pX L (nx L j)) (pY L (nx L j))||onB (pX L j) (pY L j) (pX L (nx L j)) (pY L (nx L j)) (pX L (nx L i)) (pY L (nx L i)))),⟨[],[],[.live ⟨162,[.num .i64,.num .i64],L,own,mark⟩]⟩) else some (.v (Bo (dE (pX L i) (pY L i) (pX L (nx L i)) (pY L (nx L i)) (pX L j) (pY L j) (pX L (nx L j)) (pY L (nx L j)))),⟨[],[],[.live ⟨162,[.num .i64,.num .i64],L,own,mark⟩]⟩)))) else none) else none):=by kernel_rfl
def ΓPz:Orc:=ΓZ1
theorem Iz:ΓPz.Ok prog:=qkj
end Go.Proofs.YtainfdcfkgemhaaGreat
namespace Go.Proofs.YtainfdcfkgemhaaGreat
open Go Go.Proofs Go.Sx
set_option linter.unusedVariables false
def iJ (n:Int):Bool:=decide (n< -1073741824)||decide (n>1073741824)
def v6 (px py ax ay bx by1:Int):Bool:=bif decide (ay>by1) then decide (by1<=py)&&(decide (ay>py)&&decide (co bx by1 ax ay px py>0)) else decide (ay<=py)&&(decide (by1>py)&&decide (co ax ay bx by1 px py>0))
theorem Y3 (n:Int):runG ΓPz L0 prog f336 [.v (I n)] M0 =
 (bif decide (n<(-1073741824:Int)) then some (.v (Bo true),M0) else some (.v (Bo (decide (n>(1073741824:Int)))),M0)):=by kernel_rfl
def FN (vs:List Value):Option (Bool×Value) :=
 match vs with
 | [.int .i64 n]=>some (true,Bo (iJ n))
 | _=>none
theorem qgv:am 336 FN:=by
 intro vs r h
 unfold FN at h
 split at h
 ·rename_i n
  obtain ⟨h1,rfl⟩:=ab h
  refine ak (vs:=[I n]) (Λ:=L0) (m':=M0) Iz func336 rfl ai ?_
  exact (Y3 n).trans (by unfold iJ;cases decide (n< -1073741824)<;>rfl)
 ·cases h
def ΓPv1:Orc:=ah 336 FN ΓPz
theorem RE:ΓPv1.Ok prog:=af Iz qgv
theorem Zc (x:Int) (y:Int):runG ΓPv1 L0 prog f299 [.v (.agg #[I x,I y])] M0 =
 (bif iJ x then some (.v (Bo true),M0) else some (.v (Bo (iJ y)),M0)):=by kernel_rfl
def FU (vs:List Value):Option (Bool×Value) :=
 match vs with
 | [.agg ⟨[.int .i64 x,.int .i64 y]⟩]=>some (true,Bo (iJ x||iJ y))
 | _=>none
theorem qgC:am 299 FU:=by
 intro vs r h
 unfold FU at h
 split at h
 ·rename_i x y
  obtain ⟨h1,rfl⟩:=ab h
  refine ak (vs:=[.agg #[I x,I y]]) (Λ:=L0) (m':=M0) RE func299 rfl ai ?_
  exact (Zc x y).trans (by cases iJ x<;>rfl)
 ·cases h
def ΓPv2:Orc:=ah 299 FU ΓPv1
theorem RD:ΓPv2.Ok prog:=af RE qgC
theorem Yi (x:Int) (y:Int):runG ΓPv2 L0 prog f302 [.v (.agg #[I x,I y])] M0 =
 some (.v (Bo (!plR x y)),M0):=by kernel_rfl
def E8 (vs:List Value):Option (Bool×Value) :=
 match vs with
 | [.agg ⟨[.int .i64 x,.int .i64 y]⟩]=>some (true,Bo (!plR x y))
 | _=>none
theorem qfT:am 302 E8:=by
 intro vs r h
 unfold E8 at h
 split at h
 ·rename_i x y
  obtain ⟨h1,rfl⟩:=ab h
  refine ak (vs:=[.agg #[I x,I y]]) (Λ:=L0) (m':=M0) RD func302 rfl ai ?_
  exact (Yi x y).trans (rfl)
 ·cases h
def ΓPv3:Orc:=ah 302 E8 ΓPv2
theorem RC:ΓPv3.Ok prog:=af RD qfT
theorem Xl (px:Int) (py:Int) (ax:Int) (ay:Int) (bx:Int) (by1:Int):runG ΓPv3 L0 prog f305 [.v (.agg #[I px,I py]),.v (.agg #[I ax,I ay]),.v (.agg #[I bx,I by1])] M0 =
 (bif decide (ay>by1) then (bif decide (by1<=py) then (bif decide (ay>py) then some (.v (Bo (decide (co bx by1 ax ay px py>(0:Int)))),M0) else some (.v (Bo false),M0)) else some (.v (Bo false),M0)) else (bif decide (ay<=py) then (bif decide (by1>py) then some (.v (Bo (decide (co ax ay bx by1 px py>(0:Int)))),M0) else some (.v (Bo false),M0)) else some (.v (Bo false),M0))):=by kernel_rfl
def Es (vs:List Value):Option (Bool×Value) :=
 match vs with
 | [.agg ⟨[.int .i64 px,.int .i64 py]⟩,.agg ⟨[.int .i64 ax,.int .i64 ay]⟩,.agg ⟨[.int .i64 bx,.int .i64 by1]⟩]=>some (true,Bo (v6 px py ax ay bx by1))
 | _=>none
theorem qfc:am 305 Es:=by
 intro vs r h
 unfold Es at h
 split at h
 ·rename_i px py ax ay bx by1
  obtain ⟨h1,rfl⟩:=ab h
  refine ak (vs:=[.agg #[I px,I py],.agg #[I ax,I ay],.agg #[I bx,I by1]]) (Λ:=L0) (m':=M0) RC func305 rfl ai ?_
  exact (Xl px py ax ay bx by1).trans (by unfold v6;cases decide (ay>by1)<;>cases decide (by1<=py)<;>cases decide (ay>py)<;>cases decide (ay<=py)<;>cases decide (by1>py)<;>rfl)
 ·cases h
def ΓPv4:Orc:=ah 305 Es ΓPv3
theorem qkM:ΓPv4.Ok prog:=af RC qfc
def ΓPw:Orc:=ΓPv4
theorem oR:ΓPw.Ok prog:=qkM
def lx:Code:=ch (f335.body.getD .skip) 0
def gC:List Bool:=aB 19 [0,1,7,8]
def kq (e:Ex):List Bool:=match e with
 | .exit _=>aB 19 []
 | .ret=>aB 19 [4]
 | .normal=>aB 19 [0,1,7,8]
def rg (e:Ex) (st:St):Option (Ex×St):=some (e,ac 0 1 (kq e) st)
abbrev fV (f:Nat):Value:=.func (.func f) ⟨[]⟩ ⟨[]⟩
theorem Lc (k:Int) (L:List (List Dat)) (own mark:Bool) (n:Nat):an ΓPw prog L0 (ac 0 1 gC) lx (n+1) (mk gC [.row 0,.v (fV 302),.v (I (L.length:Int)),.v (I k)] ⟨[],[],[rP L own mark]⟩) rg =
 (bif decide (k<(L.length:Int)) then (bif decide ((0:Int)<=k)&&decide (k<(L.length:Int)) then (bif !plR (pX L k) (pY L k) then some (.ret,mk (kq .ret) [.v (I k)] ⟨[],[],[.live ⟨162,[.num .i64,.num .i64],L,own,mark⟩]⟩) else an ΓPw prog L0 (ac 0 1 gC) lx n (mk gC [.row 0,.v (Value.func (Fn.func (302:Nat)) { toList:=[]:Array Value } { toList:=[]:Array Value }),.v (I (L.length:Int)),.v (I (wI (k+(1:Int))))] ⟨[],[],[.live ⟨162,[.num .i64,.num .i64],L,own,mark⟩]⟩) rg) else none) else some ((.exit 0),mk (kq (.exit 0)) [] ⟨[],[],[.live ⟨162,[.num .i64,.num .i64],L,own,mark⟩]⟩)):=by kernel_rfl
theorem Ld (k:Int) (L:List (List Dat)) (own mark:Bool) (n:Nat):an ΓPw prog L0 (ac 0 1 gC) lx (n+1) (mk gC [.row 0,.v (fV 299),.v (I (L.length:Int)),.v (I k)] ⟨[],[],[rP L own mark]⟩) rg =
 (bif decide (k<(L.length:Int)) then (bif decide ((0:Int)<=k)&&decide (k<(L.length:Int)) then (bif iJ (pX L k)||iJ (pY L k) then some (.ret,mk (kq .ret) [.v (I k)] ⟨[],[],[.live ⟨162,[.num .i64,.num .i64],L,own,mark⟩]⟩) else an ΓPw prog L0 (ac 0 1 gC) lx n (mk gC [.row 0,.v (Value.func (Fn.func (299:Nat)) { toList:=[]:Array Value } { toList:=[]:Array Value }),.v (I (L.length:Int)),.v (I (wI (k+(1:Int))))] ⟨[],[],[.live ⟨162,[.num .i64,.num .i64],L,own,mark⟩]⟩) rg) else none) else some ((.exit 0),mk (kq (.exit 0)) [] ⟨[],[],[.live ⟨162,[.num .i64,.num .i64],L,own,mark⟩]⟩)):=by kernel_rfl
end Go.Proofs.YtainfdcfkgemhaaGreat
namespace Go.Proofs.YtainfdcfkgemhaaGreat
open Go Go.Proofs Go.Sx
set_option linter.unusedVariables false
def bP (p:Int->Bool):Nat->Int->Int
 | 0,_=>-1
 | m+1,k=>bif p k then k else bP p m (k+1)
theorem CI {α:Type} (p:Int->Bool) (N:Int) (E:Nat->Int->Option α) (X:Option α) (Y:Int->Option α) (he:∀ n k,¬ k<N->E (n+1) k=X) (hr:∀ n k,0<=k/\k<N->E (n+1) k=bif p k then Y k else E n (k+1)) :
  ∀ (m:Nat) (k:Int),0<=k->k+m=N->E (m+1) k=bif decide (bP p m k<0) then X else Y (bP p m k):=by
 intro m
 induction m with
 | zero =>
  intro k h0 h1
  exact he 0 k (by omega)
 | succ m ih =>
  intro k h0 h1
  rw [hr (m+1) k (by omega)]
  show _=bif decide ((bif p k then k else bP p m (k+1))<0) then X else Y (bif p k then k else bP p m (k+1))
  cases p k
  ·exact ih (k+1) (by omega) (by omega)
  ·show Y k=bif decide (k<0) then X else Y k
   rw [decide_eq_false (show ¬ k<0 by omega)]
   rfl
theorem CJ {p:Int->Bool}:∀ {m:Nat} {k:Int},bP p m k<0->0<=k->bP p m k=-1
 | 0,_,_,_=>rfl
 | m+1,k,h,h0=>by
  revert h
  show (bif p k then k else bP p m (k+1))<0->(bif p k then k else bP p m (k+1))=-1
  cases p k
  ·exact fun h=>CJ (p:=p) h (by omega)
  ·exact fun h=>absurd h (by show ¬ k<0;omega)
def qY (L:List (List Dat)) (own mark:Bool):St:=mk (kq (.exit 0)) [] ⟨[],[],[rP L own mark]⟩
def qZ (k:Int) (L:List (List Dat)) (own mark:Bool):St:=mk (kq .ret) [.v (I k)] ⟨[],[],[rP L own mark]⟩
def dk (L:List (List Dat)) (k:Int):Bool:=!plR (pX L k) (pY L k)
def dK (L:List (List Dat)) (k:Int):Bool:=iJ (pX L k)||iJ (pY L k)
theorem wZ:aF (f335.body.getD .skip)=[lx]:=by kernel_rfl
def SY (n:Nat) (k:Int) (L:List (List Dat)) (own mark:Bool):Option (Ex×St) :=
 an ΓPw prog L0 (ac 0 1 gC) lx n (mk gC [.row 0,.v (fV 302),.v (I (L.length:Int)),.v (I k)] ⟨[],[],[rP L own mark]⟩) rg
theorem qdr (L:List (List Dat)) (own mark:Bool) (hl:L.length<=1000000):SY (L.length+1) 0 L own mark=bif decide (bP (dk L) L.length 0<0) then some (.exit 0,qY L own mark) else some (.ret,qZ (bP (dk L) L.length 0) L own mark):=by
 refine CI (dk L) (L.length:Int) (fun n k=>SY n k L own mark) (some (.exit 0,qY L own mark)) (fun k=>some (.ret,qZ k L own mark)) (fun n k hk=>?_) (fun n k hk=>?_) L.length 0 (by decide) (by omega)
 ·refine (Lc k L own mark n).trans ?_
  rw [decide_eq_false hk]
  rfl
 ·refine (Lc k L own mark n).trans ?_
  rw [decide_eq_true hk.1,decide_eq_true hk.2,az (n:=k+1) (by omega)]
  rfl
def JO (fin:Bool) (vals:List SV) (m:Mem):Option (Bool×Ex×St) :=
 match vals,m with
 | [.row 0,.v (.func (.func 302) ⟨[]⟩ ⟨[]⟩),.v (.int .i64 n),.v (.int .i64 k)],⟨[],[],[.live ⟨162,[.num .i64,.num .i64],L,own,mark⟩]⟩ =>
  bif fin then some (n==(L.length:Int)&&(k==0&&(Nat.ble L.length 1000000&&decide (bP (dk L) L.length 0<0))),.exit 0,qY L own mark)
  else some (n==(L.length:Int)&&(k==0&&(Nat.ble L.length 1000000&&!decide (bP (dk L) L.length 0<0))),.ret,qZ (bP (dk L) L.length 0) L own mark)
 | _,_=>none
def ΛIxNpl (fin:Bool):aV:=fun _ st=>cJ 0 1 gC (JO fin) st
theorem Ng (fin:Bool) (z:Base) (z1:z.L.length=0) (z2:z.U.length=1):aS (ΛIxNpl fin) prog z lx:=by
 refine du (Λ:=L0) (kx:=kq) oR mixed z1 z2 (fun b hb st t h=>by cases h) (G:=JO fin) (fun _=>rfl) ?_
 intro vals m e st' h
 unfold JO at h
 split at h
 ·rename_i n k L own mark
  have hx:=qdr L own mark
  cases fin
  ·simp only [cond_false] at h
   obtain ⟨h1,rfl,rfl⟩:=aw h
   simp only [Bool.and_eq_true,beq_iff_eq,Bool.not_eq_true'] at h1
   obtain ⟨rfl,rfl,hl,hq⟩:=h1
   have:=hx (Nat.le_of_ble_eq_true hl)
   rw [hq] at this
   exact ⟨L.length+1,this⟩
  ·simp only [cond_true] at h
   obtain ⟨h1,rfl,rfl⟩:=aw h
   simp only [Bool.and_eq_true,beq_iff_eq] at h1
   obtain ⟨rfl,rfl,hl,hq⟩:=h1
   have:=hx (Nat.le_of_ble_eq_true hl)
   rw [hq] at this
   exact ⟨L.length+1,this⟩
 ·cases h
theorem YJ (L:List (List Dat)) (own mark:Bool):runG ΓPw (ΛIxNpl true) prog f335 [.row 0,.v (fV 302)] ⟨[],[],[rP L own mark]⟩ =
 (bif (L.length:Int)==(L.length:Int)&&(true&&(L.length.ble (1000000)&&decide (bP (dk L) L.length (0:Int)<(0:Int)))) then some (.v (I (-1)),⟨[],[],[.live ⟨162,[.num .i64,.num .i64],L,own,mark⟩]⟩) else none):=by kernel_rfl
theorem YK (L:List (List Dat)) (own mark:Bool):runG ΓPw (ΛIxNpl false) prog f335 [.row 0,.v (fV 302)] ⟨[],[],[rP L own mark]⟩ =
 (bif (L.length:Int)==(L.length:Int)&&(true&&(L.length.ble (1000000)&&!decide (bP (dk L) L.length (0:Int)<(0:Int)))) then some (.v (I (bP (dk L) L.length (0:Int))),⟨[],[],[.live ⟨162,[.num .i64,.num .i64],L,own,mark⟩]⟩) else none):=by kernel_rfl
def SZ (n:Nat) (k:Int) (L:List (List Dat)) (own mark:Bool):Option (Ex×St) :=
 an ΓPw prog L0 (ac 0 1 gC) lx n (mk gC [.row 0,.v (fV 299),.v (I (L.length:Int)),.v (I k)] ⟨[],[],[rP L own mark]⟩) rg
theorem qds (L:List (List Dat)) (own mark:Bool) (hl:L.length<=1000000):SZ (L.length+1) 0 L own mark=bif decide (bP (dK L) L.length 0<0) then some (.exit 0,qY L own mark) else some (.ret,qZ (bP (dK L) L.length 0) L own mark):=by
 refine CI (dK L) (L.length:Int) (fun n k=>SZ n k L own mark) (some (.exit 0,qY L own mark)) (fun k=>some (.ret,qZ k L own mark)) (fun n k hk=>?_) (fun n k hk=>?_) L.length 0 (by decide) (by omega)
 ·refine (Ld k L own mark n).trans ?_
  rw [decide_eq_false hk]
  rfl
 ·refine (Ld k L own mark n).trans ?_
  rw [decide_eq_true hk.1,decide_eq_true hk.2,az (n:=k+1) (by omega)]
  rfl
def JP (fin:Bool) (vals:List SV) (m:Mem):Option (Bool×Ex×St) :=
 match vals,m with
 | [.row 0,.v (.func (.func 299) ⟨[]⟩ ⟨[]⟩),.v (.int .i64 n),.v (.int .i64 k)],⟨[],[],[.live ⟨162,[.num .i64,.num .i64],L,own,mark⟩]⟩ =>
  bif fin then some (n==(L.length:Int)&&(k==0&&(Nat.ble L.length 1000000&&decide (bP (dK L) L.length 0<0))),.exit 0,qY L own mark)
  else some (n==(L.length:Int)&&(k==0&&(Nat.ble L.length 1000000&&!decide (bP (dK L) L.length 0<0))),.ret,qZ (bP (dK L) L.length 0) L own mark)
 | _,_=>none
def ΛIxFar (fin:Bool):aV:=fun _ st=>cJ 0 1 gC (JP fin) st
theorem Nh (fin:Bool) (z:Base) (z1:z.L.length=0) (z2:z.U.length=1):aS (ΛIxFar fin) prog z lx:=by
 refine du (Λ:=L0) (kx:=kq) oR mixed z1 z2 (fun b hb st t h=>by cases h) (G:=JP fin) (fun _=>rfl) ?_
 intro vals m e st' h
 unfold JP at h
 split at h
 ·rename_i n k L own mark
  have hx:=qds L own mark
  cases fin
  ·simp only [cond_false] at h
   obtain ⟨h1,rfl,rfl⟩:=aw h
   simp only [Bool.and_eq_true,beq_iff_eq,Bool.not_eq_true'] at h1
   obtain ⟨rfl,rfl,hl,hq⟩:=h1
   have:=hx (Nat.le_of_ble_eq_true hl)
   rw [hq] at this
   exact ⟨L.length+1,this⟩
  ·simp only [cond_true] at h
   obtain ⟨h1,rfl,rfl⟩:=aw h
   simp only [Bool.and_eq_true,beq_iff_eq] at h1
   obtain ⟨rfl,rfl,hl,hq⟩:=h1
   have:=hx (Nat.le_of_ble_eq_true hl)
   rw [hq] at this
   exact ⟨L.length+1,this⟩
 ·cases h
theorem YL (L:List (List Dat)) (own mark:Bool):runG ΓPw (ΛIxFar true) prog f335 [.row 0,.v (fV 299)] ⟨[],[],[rP L own mark]⟩ =
 (bif (L.length:Int)==(L.length:Int)&&(true&&(L.length.ble (1000000)&&decide (bP (dK L) L.length (0:Int)<(0:Int)))) then some (.v (I (-1)),⟨[],[],[.live ⟨162,[.num .i64,.num .i64],L,own,mark⟩]⟩) else none):=by kernel_rfl
theorem YM (L:List (List Dat)) (own mark:Bool):runG ΓPw (ΛIxFar false) prog f335 [.row 0,.v (fV 299)] ⟨[],[],[rP L own mark]⟩ =
 (bif (L.length:Int)==(L.length:Int)&&(true&&(L.length.ble (1000000)&&!decide (bP (dK L) L.length (0:Int)<(0:Int)))) then some (.v (I (bP (dK L) L.length (0:Int))),⟨[],[],[.live ⟨162,[.num .i64,.num .i64],L,own,mark⟩]⟩) else none):=by kernel_rfl
def Fw (xs:List SV) (m:Mem):Option (Bool×Value) :=
 match xs,m with
 | [.row 0,.v (.func (.func 302) ⟨[]⟩ ⟨[]⟩)],⟨[],[],[.live ⟨162,[.num .i64,.num .i64],L,own,mark⟩]⟩=>some (Nat.ble L.length 1000000,I (bP (dk L) L.length 0))
 | _,_=>none
theorem qgf:bk 335 Fw:=by
 intro xs m r h
 unfold Fw at h
 split at h
 ·rename_i L own mark
  obtain ⟨h1,rfl⟩:=ab h
  cases hq:decide (bP (dk L) L.length 0<0)
  ·refine aj (Λ:=ΛIxNpl false) oR func335 rfl (fun z z1 z2=>bR wZ (Ng false z z1 z2)) ?_
   refine (YK L own mark).trans ?_
   rw [h1,hq,beq_self_eq_true]
   rfl
  ·refine aj (Λ:=ΛIxNpl true) oR func335 rfl (fun z z1 z2=>bR wZ (Ng true z z1 z2)) ?_
   refine (YJ L own mark).trans ?_
   rw [h1,hq,beq_self_eq_true,CJ (of_decide_eq_true hq) (by decide)]
   rfl
 ·cases h
def Fx (xs:List SV) (m:Mem):Option (Bool×Value) :=
 match xs,m with
 | [.row 0,.v (.func (.func 299) ⟨[]⟩ ⟨[]⟩)],⟨[],[],[.live ⟨162,[.num .i64,.num .i64],L,own,mark⟩]⟩=>some (Nat.ble L.length 1000000,I (bP (dK L) L.length 0))
 | _,_=>none
theorem qgg:bk 335 Fx:=by
 intro xs m r h
 unfold Fx at h
 split at h
 ·rename_i L own mark
  obtain ⟨h1,rfl⟩:=ab h
  cases hq:decide (bP (dK L) L.length 0<0)
  ·refine aj (Λ:=ΛIxFar false) oR func335 rfl (fun z z1 z2=>bR wZ (Nh false z z1 z2)) ?_
   refine (YM L own mark).trans ?_
   rw [h1,hq,beq_self_eq_true]
   rfl
  ·refine aj (Λ:=ΛIxFar true) oR func335 rfl (fun z z1 z2=>bR wZ (Nh true z z1 z2)) ?_
   refine (YL L own mark).trans ?_
   rw [h1,hq,beq_self_eq_true,CJ (of_decide_eq_true hq) (by decide)]
   rfl
 ·cases h
def ΓIy1:Orc:=aU 335 Fw ΓPw
theorem qk7:ΓIy1.Ok prog:=aO oR qgf
def ΓIy:Orc:=aU 335 Fx ΓIy1
theorem IP:ΓIy.Ok prog:=aO qk7 qgg
theorem ZM (L:List (List Dat)) (own mark:Bool):runG ΓIy L0 prog f298 [.row 0,.v (fV 302)] ⟨[],[],[rP L own mark]⟩ =
 (bif L.length.ble (1000000) then some (.v (Bo (decide (bP (dk L) L.length (0:Int)>=(0:Int)))),⟨[],[],[.live ⟨162,[.num .i64,.num .i64],L,own,mark⟩]⟩) else none):=by kernel_rfl
theorem ZN (L:List (List Dat)) (own mark:Bool):runG ΓIy L0 prog f298 [.row 0,.v (fV 299)] ⟨[],[],[rP L own mark]⟩ =
 (bif L.length.ble (1000000) then some (.v (Bo (decide (bP (dK L) L.length (0:Int)>=(0:Int)))),⟨[],[],[.live ⟨162,[.num .i64,.num .i64],L,own,mark⟩]⟩) else none):=by kernel_rfl
end Go.Proofs.YtainfdcfkgemhaaGreat
namespace Go.Proofs.YtainfdcfkgemhaaGreat
open Go Go.Proofs Go.Sx
set_option linter.unusedVariables false
def ly (p:Int->Bool) (m:Nat):Bool:=decide (bP p m 0>=0)
def Gr (xs:List SV) (m:Mem):Option (Bool×Value) :=
 match xs,m with
 | [.row 0,.v (.func (.func 302) ⟨[]⟩ ⟨[]⟩)],⟨[],[],[.live ⟨162,[.num .i64,.num .i64],L,own,mark⟩]⟩=>some (Nat.ble L.length 1000000,Bo (ly (dk L) L.length))
 | _,_=>none
theorem qg8:bk 298 Gr:=by
 intro xs m r h
 unfold Gr at h
 split at h
 ·rename_i L own mark
  obtain ⟨h1,rfl⟩:=ab h
  refine aj (Λ:=L0) IP func298 rfl ai ?_
  refine (ZM L own mark).trans ?_
  rw [h1]
  rfl
 ·cases h
def Gs (xs:List SV) (m:Mem):Option (Bool×Value) :=
 match xs,m with
 | [.row 0,.v (.func (.func 299) ⟨[]⟩ ⟨[]⟩)],⟨[],[],[.live ⟨162,[.num .i64,.num .i64],L,own,mark⟩]⟩=>some (Nat.ble L.length 1000000,Bo (ly (dK L) L.length))
 | _,_=>none
theorem qg9:bk 298 Gs:=by
 intro xs m r h
 unfold Gs at h
 split at h
 ·rename_i L own mark
  obtain ⟨h1,rfl⟩:=ab h
  refine aj (Λ:=L0) IP func298 rfl ai ?_
  refine (ZN L own mark).trans ?_
  rw [h1]
  rfl
 ·cases h
def ΓSi1:Orc:=aU 298 Gr ΓIy
theorem qku:ΓSi1.Ok prog:=aO IP qg8
def ΓSi2:Orc:=aU 298 Gs ΓSi1
theorem qkt:ΓSi2.Ok prog:=aO qku qg9
def sG (L:List (List Dat)) (i j:Int):Bool :=
 bif wI (i+1)==j then onB (pX L (nx L j)) (pY L (nx L j)) (pX L i) (pY L i) (pX L (nx L i)) (pY L (nx L i))||onB (pX L i) (pY L i) (pX L (nx L i)) (pY L (nx L i)) (pX L (nx L j)) (pY L (nx L j))
 else bif nx L j==i then onB (pX L (nx L i)) (pY L (nx L i)) (pX L j) (pY L j) (pX L (nx L j)) (pY L (nx L j))||onB (pX L j) (pY L j) (pX L (nx L j)) (pY L (nx L j)) (pX L (nx L i)) (pY L (nx L i))
 else dE (pX L i) (pY L i) (pX L (nx L i)) (pY L (nx L i)) (pX L j) (pY L j) (pX L (nx L j)) (pY L (nx L j))
def Ff (xs:List SV) (m:Mem):Option (Bool×Value) :=
 match xs,m with
 | [.row 0,.v (.int .i64 i),.v (.int .i64 j)],⟨[],[],[.live ⟨162,[.num .i64,.num .i64],L,own,mark⟩]⟩=>some (cM L i&&cM L j,Bo (sG L i j))
 | _,_=>none
theorem qf0:bk 334 Ff:=by
 intro xs m r h
 unfold Ff at h
 split at h
 ·rename_i i j L own mark
  obtain ⟨h1,rfl⟩:=ab h
  rw [Bool.and_eq_true] at h1
  refine aj (Λ:=L0) Iz func334 rfl ai ?_
  refine (Yq i j L own mark).trans ?_
  have a:=ie.1 h1.1
  rw [h1.1,h1.2,beq_eq_false_iff_ne.2 (show (L.length:Int)≠0 by omega)]
  unfold sG nx
  cases wI (i+1)==j<;>cases (wI (j+1)).tmod (L.length:Int)==i<;>rfl
 ·cases h
def ΓSi:Orc:=aU 334 Ff ΓSi2
theorem uB:ΓSi.Ok prog:=aO qkt qf0
def iP:Code:=ch (f297.body.getD .skip) 0
def uk:Code:=ch iP 0
def nM:List Bool:=aB 43 [0,3,18,19,22,23]
def m6 (e:Ex):List Bool:=match e with
 | .exit _=>aB 43 [0,18,19]
 | .ret=>aB 43 [2]
 | .normal=>aB 43 [0,3,18,19,22,23]
def I5 (e:Ex) (st:St):Option (Ex×St):=some (e,ac 0 1 (m6 e) st)
theorem KX (j nn k b i:Int) (L:List (List Dat)) (own mark:Bool) (n:Nat):an ΓSi prog L0 (ac 0 1 nM) uk (n+1) (mk nM [.row 0,.v (I j),.v (I nn),.v (I k),.v (I b),.v (I i)] ⟨[],[],[rP L own mark]⟩) I5 =
 (bif decide (i<b) then (bif decide ((0:Int)<=i)&&decide (i<(L.length:Int)) then (bif decide ((0:Int)<=j)&&decide (j<(L.length:Int)) then (bif ((L.getD i.toNat []).headD (Dat.n (0:Int))).toI==((L.getD j.toNat []).headD (Dat.n (0:Int))).toI&&(((L.getD i.toNat []).tail.headD (Dat.n (0:Int))).toI==((L.getD j.toNat []).tail.headD (Dat.n (0:Int))).toI&&true) then some (.ret,mk (m6 .ret) [.v (Bo false)] ⟨[],[],[.live ⟨162,[.num .i64,.num .i64],L,own,mark⟩]⟩) else (bif cM L i&&cM L j then (bif sG L i j then some (.ret,mk (m6 .ret) [.v (Bo false)] ⟨[],[],[.live ⟨162,[.num .i64,.num .i64],L,own,mark⟩]⟩) else an ΓSi prog L0 (ac 0 1 nM) uk n (mk nM [.row 0,.v (I j),.v (I nn),.v (I k),.v (I b),.v (I (wI (i+(1:Int))))] ⟨[],[],[.live ⟨162,[.num .i64,.num .i64],L,own,mark⟩]⟩) I5) else none)) else none) else none) else some ((.exit 2),mk (m6 (.exit 2)) [.row 0,.v (I nn),.v (I k)] ⟨[],[],[.live ⟨162,[.num .i64,.num .i64],L,own,mark⟩]⟩)):=by kernel_rfl
def qy (L:List (List Dat)) (i j:Int):Bool:=((L.getD i.toNat []).headD (Dat.n (0:Int))).toI==((L.getD j.toNat []).headD (Dat.n (0:Int))).toI&&(((L.getD i.toNat []).tail.headD (Dat.n (0:Int))).toI==((L.getD j.toNat []).tail.headD (Dat.n (0:Int))).toI&&true)
def HJ (L:List (List Dat)) (j i:Int):Bool:=qy L i j||sG L i j
def okJ (L:List (List Dat)) (j:Int):Bool:=decide (bP (HJ L j) j.toNat 0<0)
theorem qdH {α:Type} (p:Int->Bool) (N:Int) (E:Nat->Int->Option α) (X:Option α) (Y:Int->Option α) (he:∀ n k,¬ k<N->E (n+1) k=X) (hr:∀ (n:Nat) k,0<=k/\k<N->k+n=N->E (n+1) k=bif p k then Y k else E n (k+1)) :
  ∀ (m:Nat) (k:Int),0<=k->k+m=N->E (m+1) k=bif decide (bP p m k<0) then X else Y (bP p m k):=by
 intro m
 induction m with
 | zero =>
  intro k h0 h1
  exact he 0 k (by omega)
 | succ m ih =>
  intro k h0 h1
  rw [hr (m+1) k (by omega) h1]
  show _=bif decide ((bif p k then k else bP p m (k+1))<0) then X else Y (bif p k then k else bP p m (k+1))
  cases p k
  ·exact ih (k+1) (by omega) (by omega)
  ·show Y k=bif decide (k<0) then X else Y k
   rw [decide_eq_false (show ¬ k<0 by omega)]
   rfl
def SQ (n:Nat) (j nn k b i:Int) (L:List (List Dat)) (own mark:Bool):Option (Ex×St) :=
 an ΓSi prog L0 (ac 0 1 nM) uk n (mk nM [.row 0,.v (I j),.v (I nn),.v (I k),.v (I b),.v (I i)] ⟨[],[],[rP L own mark]⟩) I5
def HX (nn k:Int) (L:List (List Dat)) (own mark:Bool):St:=mk (m6 (.exit 2)) [.row 0,.v (I nn),.v (I k)] ⟨[],[],[rP L own mark]⟩
def H5 (L:List (List Dat)) (own mark:Bool):St:=mk (m6 .ret) [.v (Bo false)] ⟨[],[],[rP L own mark]⟩
theorem Na (j nn k:Int) (L:List (List Dat)) (own mark:Bool) (hj:cM L j=true):SQ (j.toNat+1) j nn k j 0 L own mark=bif okJ L j then some (.exit 2,HX nn k L own mark) else some (.ret,H5 L own mark):=by
 have a:=ie.1 hj
 refine CI (HJ L j) j (fun n i=>SQ n j nn k j i L own mark) (some (.exit 2,HX nn k L own mark)) (fun i=>some (.ret,H5 L own mark)) (fun n i hi=>?_) (fun n i hi=>?_) j.toNat 0 (by decide) (by omega)
 ·refine (KX j nn k j i L own mark n).trans ?_
  rw [decide_eq_false hi]
  rfl
 ·refine (KX j nn k j i L own mark n).trans ?_
  have b:cM L i=true:=ie.2 (by omega)
  rw [decide_eq_true hi.1,decide_eq_true hi.2,decide_eq_true a.1,decide_eq_true a.2.1,decide_eq_true (show i<(L.length:Int) by omega),hj,b,az (n:=i+1) (by omega)]
  show (bif qy L i j then _ else _)=_
  unfold HJ
  cases qy L i j
  ·cases sG L i j<;>rfl
  ·rfl
def Jw (fin:Bool) (vals:List SV) (m:Mem):Option (Bool×Ex×St) :=
 match vals,m with
 | [.row 0,.v (.int .i64 j),.v (.int .i64 nn),.v (.int .i64 k),.v (.int .i64 b),.v (.int .i64 i)],⟨[],[],[.live ⟨162,[.num .i64,.num .i64],L,own,mark⟩]⟩ =>
  bif fin then some (b==j&&(i==0&&(cM L j&&okJ L j)),.exit 2,HX nn k L own mark)
  else some (b==j&&(i==0&&(cM L j&&!okJ L j)),.ret,H5 L own mark)
 | _,_=>none
def ΛS1 (fin:Bool):aV:=fun _ st=>cJ 0 1 nM (Jw fin) st
theorem qc0 (fin:Bool) (z:Base) (z1:z.L.length=0) (z2:z.U.length=1):aS (ΛS1 fin) prog z uk:=by
 refine du (Λ:=L0) (kx:=m6) uB mixed z1 z2 (fun b hb st t h=>by cases h) (G:=Jw fin) (fun _=>rfl) ?_
 intro vals m e st' h
 unfold Jw at h
 split at h
 ·rename_i j nn k b i L own mark
  cases fin
  ·simp only [cond_false] at h
   obtain ⟨h1,rfl,rfl⟩:=aw h
   simp only [Bool.and_eq_true,beq_iff_eq,Bool.not_eq_true'] at h1
   obtain ⟨rfl,rfl,hj,hq⟩:=h1
   have:=Na b nn k L own mark hj
   rw [hq] at this
   exact ⟨b.toNat+1,this⟩
  ·simp only [cond_true] at h
   obtain ⟨h1,rfl,rfl⟩:=aw h
   simp only [Bool.and_eq_true,beq_iff_eq] at h1
   obtain ⟨rfl,rfl,hj,hq⟩:=h1
   have:=Na b nn k L own mark hj
   rw [hq] at this
   exact ⟨b.toNat+1,this⟩
 ·cases h
theorem M8:aF (f297.body.getD .skip)=[iP]:=by kernel_rfl
theorem qb8:aF iP=[uk]:=by kernel_rfl
def iF:List Bool:=aB 43 [0,18,19]
def m7 (e:Ex):List Bool:=match e with
 | .exit _=>aB 43 []
 | .ret=>aB 43 [2]
 | .normal=>aB 43 [0,18,19]
def oT (e:Ex) (st:St):Option (Ex×St):=some (e,ac 0 1 (m7 e) st)
theorem KY (nn k:Int) (L:List (List Dat)) (own mark:Bool) (nx:St->Option (Ex×St)):oh ΓSi prog (ΛS1 true) (ac 0 1 iF) iP (mk iF [.row 0,.v (I nn),.v (I k)] ⟨[],[],[rP L own mark]⟩) nx oT =
 (bif decide (k<nn) then (bif k==k&&(true&&(cM L k&&okJ L k)) then nx (mk iF [.row 0,.v (I nn),.v (I (wI (k+(1:Int))))] ⟨[],[],[.live ⟨162,[.num .i64,.num .i64],L,own,mark⟩]⟩) else none) else some ((.exit 0),mk (m7 (.exit 0)) [] ⟨[],[],[.live ⟨162,[.num .i64,.num .i64],L,own,mark⟩]⟩)):=by kernel_rfl
theorem KZ (nn k:Int) (L:List (List Dat)) (own mark:Bool) (nx:St->Option (Ex×St)):oh ΓSi prog (ΛS1 false) (ac 0 1 iF) iP (mk iF [.row 0,.v (I nn),.v (I k)] ⟨[],[],[rP L own mark]⟩) nx oT =
 (bif decide (k<nn) then (bif k==k&&(true&&(cM L k&&!okJ L k)) then some (.ret,mk (m7 .ret) [.v (Bo false)] ⟨[],[],[.live ⟨162,[.num .i64,.num .i64],L,own,mark⟩]⟩) else none) else some ((.exit 0),mk (m7 (.exit 0)) [] ⟨[],[],[.live ⟨162,[.num .i64,.num .i64],L,own,mark⟩]⟩)):=by kernel_rfl
def ΛsS (L:List (List Dat)) (n:Nat):aV:=ΛS1 (okJ L ((L.length:Int) - n))
def J1 (n:Nat) (k:Int) (L:List (List Dat)) (own mark:Bool):Option (Ex×St) :=
 li ΓSi prog (ΛsS L) (ac 0 1 iF) iP n (mk iF [.row 0,.v (I (L.length:Int)),.v (I k)] ⟨[],[],[rP L own mark]⟩) oT
def HY (L:List (List Dat)) (own mark:Bool):St:=mk (m7 (.exit 0)) [] ⟨[],[],[rP L own mark]⟩
def zA (L:List (List Dat)) (own mark:Bool):St:=mk (m7 .ret) [.v (Bo false)] ⟨[],[],[rP L own mark]⟩
def oN (L:List (List Dat)):Bool:=decide (bP (fun j=>!okJ L j) L.length 0<0)
theorem qcL (L:List (List Dat)) (own mark:Bool) (hl:L.length<=1000000):J1 (L.length+1) 0 L own mark=bif oN L then some (.exit 0,HY L own mark) else some (.ret,zA L own mark):=by
 refine qdH (fun j=>!okJ L j) (L.length:Int) (fun n k=>J1 n k L own mark) (some (.exit 0,HY L own mark)) (fun i=>some (.ret,zA L own mark)) (fun n k hk=>?_) (fun n k hk hn=>?_) L.length 0 (by decide) (by omega)
 ·show oh ΓSi prog (ΛsS L n) (ac 0 1 iF) iP _ (fun st'=>li ΓSi prog (ΛsS L) (ac 0 1 iF) iP n st' oT) oT=_
  unfold ΛsS
  cases okJ L ((L.length:Int) - n)
  ·refine (KZ (L.length:Int) k L own mark _).trans ?_
   rw [decide_eq_false hk]
   rfl
  ·refine (KY (L.length:Int) k L own mark _).trans ?_
   rw [decide_eq_false hk]
   rfl
 ·have e:(L.length:Int) - n=k:=by omega
  have a:cM L k=true:=ie.2 (by omega)
  show oh ΓSi prog (ΛS1 (okJ L ((L.length:Int) - n))) (ac 0 1 iF) iP _ (fun st'=>li ΓSi prog (ΛsS L) (ac 0 1 iF) iP n st' oT) oT=bif !okJ L k then some (.ret,zA L own mark) else J1 n (k+1) L own mark
  rw [e]
  cases hq:okJ L k
  ·refine (KZ (L.length:Int) k L own mark _).trans ?_
   rw [decide_eq_true hk.2,beq_self_eq_true,a,hq]
   rfl
  ·refine (KY (L.length:Int) k L own mark _).trans ?_
   rw [decide_eq_true hk.2,beq_self_eq_true,a,hq,az (n:=k+1) (by omega)]
   rfl
def Jx (fin:Bool) (vals:List SV) (m:Mem):Option (Bool×Ex×St) :=
 match vals,m with
 | [.row 0,.v (.int .i64 nn),.v (.int .i64 k)],⟨[],[],[.live ⟨162,[.num .i64,.num .i64],L,own,mark⟩]⟩ =>
  bif fin then some (nn==(L.length:Int)&&(k==0&&(Nat.ble L.length 1000000&&oN L)),.exit 0,HY L own mark)
  else some (nn==(L.length:Int)&&(k==0&&(Nat.ble L.length 1000000&&!oN L)),.ret,zA L own mark)
 | _,_=>none
def ΛS0 (fin:Bool):aV:=fun _ st=>cJ 0 1 iF (Jx fin) st
theorem Nd (fin:Bool) (z:Base) (z1:z.L.length=0) (z2:z.U.length=1):aS (ΛS0 fin) prog z iP:=by
 refine qcJ (kx:=m7) uB mixed z1 z2 (G:=Jx fin) (fun _=>rfl) ?_
 intro vals m e st' h
 unfold Jx at h
 split at h
 ·rename_i nn k L own mark
  have hx:=qcL L own mark
  have hΛ:∀ n,∀ b∈aF iP,aS (ΛsS L n) prog z b:=fun n=>bR qb8 (qc0 _ z z1 z2)
  cases fin
  ·simp only [cond_false] at h
   obtain ⟨h1,rfl,rfl⟩:=aw h
   simp only [Bool.and_eq_true,beq_iff_eq,Bool.not_eq_true'] at h1
   obtain ⟨rfl,rfl,hl,hq⟩:=h1
   have:=hx (Nat.le_of_ble_eq_true hl)
   rw [hq] at this
   exact ⟨ΛsS L,hΛ,L.length+1,this⟩
  ·simp only [cond_true] at h
   obtain ⟨h1,rfl,rfl⟩:=aw h
   simp only [Bool.and_eq_true,beq_iff_eq] at h1
   obtain ⟨rfl,rfl,hl,hq⟩:=h1
   have:=hx (Nat.le_of_ble_eq_true hl)
   rw [hq] at this
   exact ⟨ΛsS L,hΛ,L.length+1,this⟩
 ·cases h
theorem Wz (L:List (List Dat)) (own mark:Bool):runG ΓSi (ΛS0 true) prog f297 [.row 0] ⟨[],[],[rP L own mark]⟩ =
 (bif decide ((L.length:Int)<(3:Int)) then some (.v (Bo false),⟨[],[],[.live ⟨162,[.num .i64,.num .i64],L,own,mark⟩]⟩) else (bif decide ((L.length:Int)>(8:Int)) then some (.v (Bo false),⟨[],[],[.live ⟨162,[.num .i64,.num .i64],L,own,mark⟩]⟩) else (bif L.length.ble (1000000) then (bif ly (dk L) L.length then some (.v (Bo false),⟨[],[],[.live ⟨162,[.num .i64,.num .i64],L,own,mark⟩]⟩) else (bif (L.length:Int)==(L.length:Int)&&(true&&(L.length.ble (1000000)&&oN L)) then some (.v (Bo true),⟨[],[],[.live ⟨162,[.num .i64,.num .i64],L,own,mark⟩]⟩) else none)) else none))):=by kernel_rfl
theorem WA (L:List (List Dat)) (own mark:Bool):runG ΓSi (ΛS0 false) prog f297 [.row 0] ⟨[],[],[rP L own mark]⟩ =
 (bif decide ((L.length:Int)<(3:Int)) then some (.v (Bo false),⟨[],[],[.live ⟨162,[.num .i64,.num .i64],L,own,mark⟩]⟩) else (bif decide ((L.length:Int)>(8:Int)) then some (.v (Bo false),⟨[],[],[.live ⟨162,[.num .i64,.num .i64],L,own,mark⟩]⟩) else (bif L.length.ble (1000000) then (bif ly (dk L) L.length then some (.v (Bo false),⟨[],[],[.live ⟨162,[.num .i64,.num .i64],L,own,mark⟩]⟩) else (bif (L.length:Int)==(L.length:Int)&&(true&&(L.length.ble (1000000)&&!oN L)) then some (.v (Bo false),⟨[],[],[.live ⟨162,[.num .i64,.num .i64],L,own,mark⟩]⟩) else none)) else none))):=by kernel_rfl
def pn (L:List (List Dat)):Bool:=bif decide ((L.length:Int)<3) then false else bif decide ((L.length:Int)>8) then false else bif ly (dk L) L.length then false else oN L
def DW (xs:List SV) (m:Mem):Option (Bool×Value) :=
 match xs,m with
 | [.row 0],⟨[],[],[.live ⟨162,[.num .i64,.num .i64],L,own,mark⟩]⟩=>some (Nat.ble L.length 1000000,Bo (pn L))
 | _,_=>none
theorem qeO:bk 297 DW:=by
 intro xs m r h
 unfold DW at h
 split at h
 ·rename_i L own mark
  obtain ⟨h1,rfl⟩:=ab h
  cases hq:oN L
  ·refine aj (Λ:=ΛS0 false) uB func297 rfl (fun z z1 z2=>bR M8 (Nd false z z1 z2)) ?_
   refine (WA L own mark).trans ?_
   rw [h1,hq,beq_self_eq_true]
   unfold pn
   rw [hq]
   cases decide ((L.length:Int)<3)<;>cases decide ((L.length:Int)>8)<;>cases ly (dk L) L.length<;>rfl
  ·refine aj (Λ:=ΛS0 true) uB func297 rfl (fun z z1 z2=>bR M8 (Nd true z z1 z2)) ?_
   refine (Wz L own mark).trans ?_
   rw [h1,hq,beq_self_eq_true]
   unfold pn
   rw [hq]
   cases decide ((L.length:Int)<3)<;>cases decide ((L.length:Int)>8)<;>cases ly (dk L) L.length<;>rfl
 ·cases h
def ΓSj:Orc:=aU 297 DW ΓSi
theorem Rm:ΓSj.Ok prog:=aO uB qeO
theorem qah (L:List (List Dat)) (own mark:Bool):runG ΓSj L0 prog f238 [.row 0] ⟨[],[],[rP L own mark]⟩ =
 (bif L.length.ble (1000000) then (bif pn L then (bif L.length.ble (1000000) then some (.v (Bo (!ly (dK L) L.length)),⟨[],[],[.live ⟨162,[.num .i64,.num .i64],L,own,mark⟩]⟩) else none) else some (.v (Bo false),⟨[],[],[.live ⟨162,[.num .i64,.num .i64],L,own,mark⟩]⟩)) else none):=by kernel_rfl
def ig (L:List (List Dat)):Bool:=pn L&&!ly (dK L) L.length
def GK (xs:List SV) (m:Mem):Option (Bool×Value) :=
 match xs,m with
 | [.row 0],⟨[],[],[.live ⟨162,[.num .i64,.num .i64],L,own,mark⟩]⟩=>some (Nat.ble L.length 1000000,Bo (ig L))
 | _,_=>none
theorem qhq:bk 238 GK:=by
 intro xs m r h
 unfold GK at h
 split at h
 ·rename_i L own mark
  obtain ⟨h1,rfl⟩:=ab h
  refine aj (Λ:=L0) Rm func238 rfl ai ?_
  refine (qah L own mark).trans ?_
  rw [h1]
  unfold ig
  cases pn L<;>rfl
 ·cases h
def ΓAr:Orc:=aU 238 GK ΓSj
theorem zW:ΓAr.Ok prog:=aO Rm qhq
end Go.Proofs.YtainfdcfkgemhaaGreat
namespace Go.Proofs.YtainfdcfkgemhaaGreat
open Go Go.Proofs Go.Sx
set_option linter.unusedVariables false
def qO:Code:=ch (f241.body.getD .skip) 0
def kR:List Bool:=aB 39 [0,3,5,17,18]
def oX (e:Ex):List Bool:=match e with
 | .exit _=>aB 39 [5]
 | .ret=>aB 39 [4]
 | .normal=>aB 39 [0,3,5,17,18]
def zY (e:Ex) (st:St):Option (Ex×St):=some (e,ac 0 1 (oX e) st)
def SJ (px py:Int) (L:List (List Dat)) (own mark:Bool):Mem:=⟨[[.v (I px),.v (I py)]],[true],[rP L own mark]⟩
theorem KW (px py s nn k:Int) (L:List (List Dat)) (own mark:Bool) (n:Nat):an ΓAr prog L0 (ac 0 1 kR) qO (n+1) (mk kR [.row 0,.ptr 0 0,.v (I s),.v (I nn),.v (I k)] (SJ px py L own mark)) zY =
 (bif decide (k<nn) then (bif cM L k then (bif onB px py (pX L k) (pY L k) (pX L (nx L k)) (pY L (nx L k)) then some (.ret,mk (oX .ret) [.v (I 0)] ⟨[],[],[.live ⟨162,[.num .i64,.num .i64],L,own,mark⟩]⟩) else (bif v6 px py (pX L k) (pY L k) (pX L (nx L k)) (pY L (nx L k)) then an ΓAr prog L0 (ac 0 1 kR) qO n (mk kR [.row 0,.ptr 0 0,.v (I (wI ((0:Int) - s))),.v (I nn),.v (I (wI (k+(1:Int))))] ⟨[[.v (I px),.v (I py)]],[true],[.live ⟨162,[.num .i64,.num .i64],L,own,mark⟩]⟩) zY else an ΓAr prog L0 (ac 0 1 kR) qO n (mk kR [.row 0,.ptr 0 0,.v (I s),.v (I nn),.v (I (wI (k+(1:Int))))] ⟨[[.v (I px),.v (I py)]],[true],[.live ⟨162,[.num .i64,.num .i64],L,own,mark⟩]⟩) zY)) else none) else some ((.exit 0),mk (oX (.exit 0)) [.v (I s)] ⟨[],[],[.live ⟨162,[.num .i64,.num .i64],L,own,mark⟩]⟩)):=by kernel_rfl
def xy (px py:Int) (L:List (List Dat)) (k:Int):Bool:=onB px py (pX L k) (pY L k) (pX L (nx L k)) (pY L (nx L k))
def ns (px py:Int) (L:List (List Dat)) (k:Int):Bool:=v6 px py (pX L k) (pY L k) (pX L (nx L k)) (pY L (nx L k))
def np (r:Int->Bool):Nat->Int->Int->Int
 | 0,_,s=>s
 | m+1,k,s=>np r m (k+1) (bif r k then -s else s)
theorem Vb {α:Type} (p r:Int->Bool) (N:Int) (E:Nat->Int->Int->Option α) (X:Int->Option α) (Y:Option α) (he:∀ n k s,¬ k<N->E (n+1) k s=X s) (hr:∀ n k s,0<=k/\k<N->(s=1\/s=-1)->E (n+1) k s=bif p k then Y else E n (k+1) (bif r k then -s else s)) :
  ∀ (m:Nat) (k s:Int),0<=k->k+m=N->(s=1\/s=-1)->E (m+1) k s=bif decide (bP p m k<0) then X (np r m k s) else Y:=by
 intro m
 induction m with
 | zero =>
  intro k s h0 h1 hs
  exact he 0 k s (by omega)
 | succ m ih =>
  intro k s h0 h1 hs
  rw [hr (m+1) k s (by omega) hs]
  show _=bif decide ((bif p k then k else bP p m (k+1))<0) then X (np r m (k+1) (bif r k then -s else s)) else Y
  cases p k
  ·refine ih (k+1) _ (by omega) (by omega) ?_
   cases r k
   ·exact hs
   ·show -s=1\/-s=-1
    omega
  ·show Y=bif decide (k<0) then X _ else Y
   rw [decide_eq_false (show ¬ k<0 by omega)]
   rfl
def SP (n:Nat) (k s px py:Int) (L:List (List Dat)) (own mark:Bool):Option (Ex×St) :=
 an ΓAr prog L0 (ac 0 1 kR) qO n (mk kR [.row 0,.ptr 0 0,.v (I s),.v (I (L.length:Int)),.v (I k)] (SJ px py L own mark)) zY
def HW (s:Int) (L:List (List Dat)) (own mark:Bool):St:=mk (oX (.exit 0)) [.v (I s)] ⟨[],[],[rP L own mark]⟩
def H4 (L:List (List Dat)) (own mark:Bool):St:=mk (oX .ret) [.v (I 0)] ⟨[],[],[rP L own mark]⟩
def nD (px py:Int) (L:List (List Dat)):Bool:=decide (bP (xy px py L) L.length 0<0)
theorem qcK (px py:Int) (L:List (List Dat)) (own mark:Bool) (hl:L.length<=1000000):SP (L.length+1) 0 (-1) px py L own mark=bif nD px py L then some (.exit 0,HW (np (ns px py L) L.length 0 (-1)) L own mark) else some (.ret,H4 L own mark):=by
 refine Vb (xy px py L) (ns px py L) (L.length:Int) (fun n k s=>SP n k s px py L own mark) (fun s=>some (.exit 0,HW s L own mark)) (some (.ret,H4 L own mark)) (fun n k s hk=>?_) (fun n k s hk hs=>?_) L.length 0 (-1) (by decide) (by omega) (.inr rfl)
 ·refine (KW px py s (L.length:Int) k L own mark n).trans ?_
  rw [decide_eq_false hk]
  rfl
 ·refine (KW px py s (L.length:Int) k L own mark n).trans ?_
  have a:cM L k=true:=ie.2 (by omega)
  rw [decide_eq_true hk.2,a,az (n:=k+1) (by omega),az (n:=0 - s) (by omega),Int.zero_sub]
  show (bif xy px py L k then _ else bif ns px py L k then _ else _)=_
  cases xy px py L k
  ·cases ns px py L k<;>rfl
  ·rfl
theorem M7:aF (f241.body.getD .skip)=[qO]:=by kernel_rfl
def Ju (fin:Bool) (vals:List SV) (m:Mem):Option (Bool×Ex×St) :=
 match vals,m with
 | [.row 0,.ptr 0 0,.v (.int .i64 s),.v (.int .i64 nn),.v (.int .i64 k)],⟨[[.v (.int .i64 px),.v (.int .i64 py)]],[true],[.live ⟨162,[.num .i64,.num .i64],L,own,mark⟩]⟩ =>
  bif fin then some (nn==(L.length:Int)&&(k==0&&(s==-1&&(Nat.ble L.length 1000000&&nD px py L))),.exit 0,HW (np (ns px py L) L.length 0 (-1)) L own mark)
  else some (nn==(L.length:Int)&&(k==0&&(s==-1&&(Nat.ble L.length 1000000&&!nD px py L))),.ret,H4 L own mark)
 | _,_=>none
def ΛSd (fin:Bool):aV:=fun _ st=>cJ 0 1 kR (Ju fin) st
theorem Nc (fin:Bool) (z:Base) (z1:z.L.length=0) (z2:z.U.length=1):aS (ΛSd fin) prog z qO:=by
 refine du (Λ:=L0) (kx:=oX) zW mixed z1 z2 (fun b hb st t h=>by cases h) (G:=Ju fin) (fun _=>rfl) ?_
 intro vals m e st' h
 unfold Ju at h
 split at h
 ·rename_i s nn k px py L own mark
  have hx:=qcK px py L own mark
  cases fin
  ·simp only [cond_false] at h
   obtain ⟨h1,rfl,rfl⟩:=aw h
   simp only [Bool.and_eq_true,beq_iff_eq,Bool.not_eq_true'] at h1
   obtain ⟨rfl,rfl,rfl,hl,hq⟩:=h1
   have:=hx (Nat.le_of_ble_eq_true hl)
   rw [hq] at this
   exact ⟨L.length+1,this⟩
  ·simp only [cond_true] at h
   obtain ⟨h1,rfl,rfl⟩:=aw h
   simp only [Bool.and_eq_true,beq_iff_eq] at h1
   obtain ⟨rfl,rfl,rfl,hl,hq⟩:=h1
   have:=hx (Nat.le_of_ble_eq_true hl)
   rw [hq] at this
   exact ⟨L.length+1,this⟩
 ·cases h
theorem WG (px py:Int) (L:List (List Dat)) (own mark:Bool):runG ΓAr (ΛSd true) prog f241 [.row 0,.v (.agg #[I px,I py])] ⟨[],[],[rP L own mark]⟩ =
 (bif L.length.ble (1000000) then (bif !ig L then some (.v (I (-1)),⟨[],[],[.live ⟨162,[.num .i64,.num .i64],L,own,mark⟩]⟩) else (bif !plR px py then some (.v (I (-1)),⟨[],[],[.live ⟨162,[.num .i64,.num .i64],L,own,mark⟩]⟩) else (bif (L.length:Int)==(L.length:Int)&&(true&&(true&&(L.length.ble (1000000)&&nD px py L))) then some (.v (I (np (ns px py L) L.length (0:Int) (-1:Int))),⟨[],[],[.live ⟨162,[.num .i64,.num .i64],L,own,mark⟩]⟩) else none))) else none):=by kernel_rfl
theorem WH (px py:Int) (L:List (List Dat)) (own mark:Bool):runG ΓAr (ΛSd false) prog f241 [.row 0,.v (.agg #[I px,I py])] ⟨[],[],[rP L own mark]⟩ =
 (bif L.length.ble (1000000) then (bif !ig L then some (.v (I (-1)),⟨[],[],[.live ⟨162,[.num .i64,.num .i64],L,own,mark⟩]⟩) else (bif !plR px py then some (.v (I (-1)),⟨[],[],[.live ⟨162,[.num .i64,.num .i64],L,own,mark⟩]⟩) else (bif (L.length:Int)==(L.length:Int)&&(true&&(true&&(L.length.ble (1000000)&&!nD px py L))) then some (.v (I 0),⟨[],[],[.live ⟨162,[.num .i64,.num .i64],L,own,mark⟩]⟩) else none))) else none):=by kernel_rfl
def rZ (L:List (List Dat)) (px py:Int):Int:=bif !ig L then -1 else bif !plR px py then -1 else bif nD px py L then np (ns px py L) L.length 0 (-1) else 0
def D2 (xs:List SV) (m:Mem):Option (Bool×Value) :=
 match xs,m with
 | [.row 0,.v (.agg ⟨[.int .i64 px,.int .i64 py]⟩)],⟨[],[],[.live ⟨162,[.num .i64,.num .i64],L,own,mark⟩]⟩=>some (Nat.ble L.length 1000000,I (rZ L px py))
 | _,_=>none
theorem qeU:bk 241 D2:=by
 intro xs m r h
 unfold D2 at h
 split at h
 ·rename_i px py L own mark
  obtain ⟨h1,rfl⟩:=ab h
  cases hq:nD px py L
  ·refine aj (Λ:=ΛSd false) zW func241 rfl (fun z z1 z2=>bR M7 (Nc false z z1 z2)) ?_
   refine (WH px py L own mark).trans ?_
   rw [h1,hq,beq_self_eq_true]
   unfold rZ
   rw [hq]
   cases ig L<;>cases plR px py<;>rfl
  ·refine aj (Λ:=ΛSd true) zW func241 rfl (fun z z1 z2=>bR M7 (Nc true z z1 z2)) ?_
   refine (WG px py L own mark).trans ?_
   rw [h1,hq,beq_self_eq_true]
   unfold rZ
   rw [hq]
   cases ig L<;>cases plR px py<;>rfl
 ·cases h
def ΓSd:Orc:=aU 241 D2 ΓAr
theorem Rn:ΓSd.Ok prog:=aO zW qeU
end Go.Proofs.YtainfdcfkgemhaaGreat
namespace Go.Proofs.YtainfdcfkgemhaaGreat
open Go Go.Proofs Go.Sx
set_option linter.unusedVariables false
theorem ZF (a b c d:Int):runG ΓSd L0 prog f338 [.v (.agg #[I a,I b,I c,I d])] M0 =
 (bif !bi a b c d then some (.row 0,⟨[],[],[.live ⟨162,[.num .i64,.num .i64],[],true,false⟩]⟩) else some (.row 0,⟨[],[],[.live ⟨162,[.num .i64,.num .i64],[[.n (a),.n (b)],[.n (c),.n (b)],[.n (c),.n (d)],[.n (a),.n (d)]],true,false⟩]⟩)):=by kernel_rfl
abbrev qio (a b c d:Int):Mem:=⟨[],[],[.live ⟨162,[.num .i64,.num .i64],[[.n a,.n b],[.n c,.n b],[.n c,.n d],[.n a,.n d]],true,false⟩]⟩
def Gh (xs:List SV) (m:Mem):Option (Bool×SV×Mem) :=
 match xs,m with
 | [.v (.agg ⟨[.int .i64 a,.int .i64 b,.int .i64 c,.int .i64 d]⟩)],⟨[],[],[]⟩=>some (bi a b c d,.row 0,qio a b c d)
 | _,_=>none
theorem qgZ:aQ 338 Gh:=by
 intro xs m r m' h
 unfold Gh at h
 split at h
 ·rename_i a b c d
  obtain ⟨h1,rfl,rfl⟩:=aw h
  refine aj (Λ:=L0) Rn func338 rfl ai ?_
  refine (ZF a b c d).trans ?_
  rw [h1]
  rfl
 ·cases h
def ΓMa:Orc:=aC 338 Gh ΓSd
theorem qkU:ΓMa.Ok prog:=aA Rn qgZ
def ΓMb:Orc:=ΓMa
theorem R2:ΓMb.Ok prog:=qkU
theorem Yu (a b c d p1 p2 q1 q2:Int):runG ΓMb L0 prog f301 [.v (.agg #[I a,I b,I c,I d]),.v (.agg #[I p1,I p2]),.v (.agg #[I q1,I q2])] M0 =
 (bif bi a b c d then (bif dE p1 p2 q1 q2 a b c b then some (.v (Bo true),M0) else (bif dE p1 p2 q1 q2 c b c d then some (.v (Bo true),M0) else (bif dE p1 p2 q1 q2 c d a d then some (.v (Bo true),M0) else (bif dE p1 p2 q1 q2 a d a b then some (.v (Bo true),M0) else some (.v (Bo false),M0))))) else none):=by kernel_rfl
def wT (a b c d p1 p2 q1 q2:Int):Bool:=dE p1 p2 q1 q2 a b c b||(dE p1 p2 q1 q2 c b c d||(dE p1 p2 q1 q2 c d a d||dE p1 p2 q1 q2 a d a b))
def Fj (vs:List Value):Option (Bool×Value) :=
 match vs with
 | [.agg ⟨[.int .i64 a,.int .i64 b,.int .i64 c,.int .i64 d]⟩,.agg ⟨[.int .i64 p1,.int .i64 p2]⟩,.agg ⟨[.int .i64 q1,.int .i64 q2]⟩]=>some (bi a b c d,Bo (wT a b c d p1 p2 q1 q2))
 | _=>none
theorem qf4:am 301 Fj:=by
 intro vs r h
 unfold Fj at h
 split at h
 ·rename_i a b c d p1 p2 q1 q2
  obtain ⟨h1,rfl⟩:=ab h
  refine ak (vs:=[.agg #[I a,I b,I c,I d],.agg #[I p1,I p2],.agg #[I q1,I q2]]) (Λ:=L0) (m':=M0) R2 func301 rfl ai ?_
  refine (Yu a b c d p1 p2 q1 q2).trans ?_
  rw [h1]
  unfold wT
  cases dE p1 p2 q1 q2 a b c b<;>cases dE p1 p2 q1 q2 c b c d<;>cases dE p1 p2 q1 q2 c d a d<;>cases dE p1 p2 q1 q2 a d a b<;>rfl
 ·cases h
def ΓMc:Orc:=ah 301 Fj ΓMb
theorem R1:ΓMc.Ok prog:=af R2 qf4
theorem Yt (a b c d p1 p2 q1 q2:Int):runG ΓMc L0 prog f239 [.v (.agg #[I a,I b,I c,I d]),.v (.agg #[I p1,I p2]),.v (.agg #[I q1,I q2])] M0 =
 (bif !bi a b c d then some (.v (Bo false),M0) else (bif !plR p1 p2 then some (.v (Bo false),M0) else (bif !plR q1 q2 then some (.v (Bo false),M0) else (bif kY a b c d p1 p2 then some (.v (Bo true),M0) else (bif bi a b c d then some (.v (Bo (wT a b c d p1 p2 q1 q2)),M0) else none))))):=by kernel_rfl
def wS (a b c d p1 p2 q1 q2:Int):Bool:=bi a b c d&&(plR p1 p2&&(plR q1 q2&&(kY a b c d p1 p2||wT a b c d p1 p2 q1 q2)))
def Fi (vs:List Value):Option (Bool×Value) :=
 match vs with
 | [.agg ⟨[.int .i64 a,.int .i64 b,.int .i64 c,.int .i64 d]⟩,.agg ⟨[.int .i64 p1,.int .i64 p2]⟩,.agg ⟨[.int .i64 q1,.int .i64 q2]⟩]=>some (true,Bo (wS a b c d p1 p2 q1 q2))
 | _=>none
theorem qf3:am 239 Fi:=by
 intro vs r h
 unfold Fi at h
 split at h
 ·rename_i a b c d p1 p2 q1 q2
  obtain ⟨h1,rfl⟩:=ab h
  refine ak (vs:=[.agg #[I a,I b,I c,I d],.agg #[I p1,I p2],.agg #[I q1,I q2]]) (Λ:=L0) (m':=M0) R1 func239 rfl ai ?_
  refine (Yt a b c d p1 p2 q1 q2).trans ?_
  unfold wS
  cases bi a b c d<;>cases plR p1 p2<;>cases plR q1 q2<;>cases kY a b c d p1 p2<;>rfl
 ·cases h
def ΓMt:Orc:=ah 239 Fi ΓMc
theorem qkT:ΓMt.Ok prog:=af R1 qf3
def ΓMr:Orc:=ΓMt
theorem uD:ΓMr.Ok prog:=qkT
end Go.Proofs.YtainfdcfkgemhaaGreat
namespace Go.Proofs.YtainfdcfkgemhaaGreat
open Go Go.Proofs Go.Sx
set_option linter.unusedVariables false
def lw:Code:=ch (f231.body.getD .skip) 0
def nR:List Bool:=aB 100 [0,3,4]
def lI (e:Ex):List Bool:=match e with
 | .exit _=>aB 100 [0,3]
 | .ret=>aB 100 [2]
 | .normal=>aB 100 [0,3,4]
def I9 (e:Ex) (st:St):Option (Ex×St):=some (e,ac 0 1 (lI e) st)
theorem K7 (i:Int) (nn:Int) (L:List (List Dat)) (own:Bool) (mark:Bool) (n:Nat):an ΓMr prog L0 (ac 0 1 nR) lw (n+1) (mk nR [.row 0,.v (I nn),.v (I i)] ⟨[],[],[.live ⟨162,[.num .i64,.num .i64],L,own,mark⟩]⟩) I9 =
 (bif decide (i<nn) then (bif decide ((0:Int)<=i)&&decide (i<(L.length:Int)) then (bif !plR (pX L i) (pY L i) then some (.ret,mk (lI .ret) [.v (Bo false)] ⟨[],[],[.live ⟨162,[.num .i64,.num .i64],L,own,mark⟩]⟩) else an ΓMr prog L0 (ac 0 1 nR) lw n (mk nR [.row 0,.v (I nn),.v (I (wI (i+(1:Int))))] ⟨[],[],[.live ⟨162,[.num .i64,.num .i64],L,own,mark⟩]⟩) I9) else none) else some ((.exit 0),mk (lI (.exit 0)) [.row 0,.v (I nn)] ⟨[],[],[.live ⟨162,[.num .i64,.num .i64],L,own,mark⟩]⟩)):=by kernel_rfl
def SX (n:Nat) (i:Int) (nn:Int) (L:List (List Dat)) (own:Bool) (mark:Bool):Option (Ex×St) :=
 an ΓMr prog L0 (ac 0 1 nR) lw n (mk nR [.row 0,.v (I nn),.v (I i)] ⟨[],[],[.live ⟨162,[.num .i64,.num .i64],L,own,mark⟩]⟩) I9
def bA (p:Int->Bool):Nat->Int->Bool
 | 0,_=>false
 | m+1,k=>p k||bA p m (k+1)
theorem Qh {p:Int->Bool}:∀ {m:Nat} {k:Int},bA p m k=true↔∃ i,k<=i/\i<k+m/\p i=true
 | 0,k=>⟨fun h=>(by cases h),fun ⟨i,h1,h2,_⟩=>absurd h2 (by omega)⟩
 | m+1,k=>by
  show (p k||bA p m (k+1))=true↔_
  rw [Bool.or_eq_true,Qh]
  constructor
  ·rintro (h|⟨i,h1,h2,h3⟩)
   ·exact ⟨k,by omega,by omega,h⟩
   ·exact ⟨i,by omega,by omega,h3⟩
  ·rintro ⟨i,h1,h2,h3⟩
   by_cases hi:i=k
   ·rw [hi] at h3;exact .inl h3
   ·exact .inr ⟨i,by omega,by omega,h3⟩
theorem qn {α:Type} (p:Int->Bool) (N:Int) (E:Nat->Int->Option α) (X Y:Option α) (he:∀ n k,¬ k<N->E (n+1) k=X) (hr:∀ n k,0<=k/\k<N->E (n+1) k=bif p k then Y else E n (k+1)) :
  ∀ (m:Nat) (k:Int),0<=k->k+m=N->E (m+1) k=bif bA p m k then Y else X:=by
 intro m
 induction m with
 | zero =>
  intro k h0 h1
  exact he 0 k (by omega)
 | succ m ih =>
  intro k h0 h1
  rw [hr (m+1) k (by omega)]
  show _=bif p k||bA p m (k+1) then Y else X
  cases p k
  ·exact ih (k+1) (by omega) (by omega)
  ·rfl
def Cu (L:List (List Dat)) (nn:Int) (own mark:Bool):LT:=.br (bA (dk L) L.length 0) (.leaf .ret (mk (lI .ret) [.v (Bo false)] ⟨[],[],[rP L own mark]⟩)) (.leaf (.exit 0) (mk (lI (.exit 0)) [.row 0,.v (I nn)] ⟨[],[],[rP L own mark]⟩))
theorem qcT (L:List (List Dat)) (own mark:Bool) (hl:L.length<=1000000):SX (L.length+1) 0 (L.length:Int) L own mark=some (Cu L (L.length:Int) own mark).pick:=by
 have h:=qn (dk L) (L.length:Int) (fun n k=>SX n k (L.length:Int) L own mark) (some (.exit 0,mk (lI (.exit 0)) [.row 0,.v (I (L.length:Int))] ⟨[],[],[rP L own mark]⟩)) (some (.ret,mk (lI .ret) [.v (Bo false)] ⟨[],[],[rP L own mark]⟩)) (fun n k hk=>?_) (fun n k hk=>?_) L.length 0 (by decide) (by omega)
 ·refine h.trans ?_
  unfold Cu
  cases bA (dk L) L.length 0<;>rfl
 ·refine (K7 k (L.length:Int) L own mark n).trans ?_
  rw [decide_eq_false hk]
  rfl
 ·refine (K7 k (L.length:Int) L own mark n).trans ?_
  rw [decide_eq_true hk.1,decide_eq_true hk.2,az (n:=k+1) (by omega)]
  rfl
def JG (vals:List SV) (m:Mem):Option (Bool×LT) :=
 match vals,m with
 | [.row 0,.v (.int .i64 nn),.v (.int .i64 i)],⟨[],[],[.live ⟨162,[.num .i64,.num .i64],L,own,mark⟩]⟩=>some (nn==(L.length:Int)&&(i==0&&Nat.ble L.length 1000000),Cu L nn own mark)
 | _,_=>none
def ΛRa:aV:=fun _ st=>fW 0 1 nR JG st
theorem qc8 (z:Base) (z1:z.L.length=0) (z2:z.U.length=1):aS ΛRa prog z lw:=by
 refine gV (Λ:=L0) (kx:=lI) uD mixed z1 z2 (fun b hb st t h=>by cases h) (G:=JG) (fun _=>rfl) ?_
 intro vals m t h
 unfold JG at h
 split at h
 ·rename_i nn i L own mark
  obtain ⟨h1,rfl⟩:=ab h
  simp only [Bool.and_eq_true,beq_iff_eq] at h1
  obtain ⟨rfl,rfl,hl⟩:=h1
  exact ⟨L.length+1,qcT L own mark (Nat.le_of_ble_eq_true hl)⟩
 ·cases h
def mQ:Code:=ch (f231.body.getD .skip) 1
def mO:Code:=ch mQ 0
def gX:List Bool:=aB 100 [0,3,5,6]
def gl (e:Ex):List Bool:=match e with
 | .exit _=>aB 100 [0,3,5]
 | .ret=>aB 100 [2]
 | .normal=>aB 100 [0,3,5,6]
def re (e:Ex) (st:St):Option (Ex×St):=some (e,ac 0 1 (gl e) st)
theorem K5 (i:Int) (k:Int) (nn:Int) (L:List (List Dat)) (own:Bool) (mark:Bool) (n:Nat):an ΓMr prog L0 (ac 0 1 gX) mO (n+1) (mk gX [.row 0,.v (I nn),.v (I i),.v (I k)] ⟨[],[],[.live ⟨162,[.num .i64,.num .i64],L,own,mark⟩]⟩) re =
 (bif decide (k<nn) then (bif decide ((0:Int)<=i)&&decide (i<(L.length:Int)) then (bif cM L i then (bif decide ((0:Int)<=k)&&decide (k<(L.length:Int)) then (bif cM L k then (bif (pX L i)==(pX L k)&&((pY L i)==(pY L k)&&true) then some (.ret,mk (gl .ret) [.v (Bo false)] ⟨[],[],[.live ⟨162,[.num .i64,.num .i64],L,own,mark⟩]⟩) else (bif k==wI (i+(1:Int)) then (bif onB (pX L (nx L k)) (pY L (nx L k)) (pX L i) (pY L i) (pX L (nx L i)) (pY L (nx L i)) then some (.ret,mk (gl .ret) [.v (Bo false)] ⟨[],[],[.live ⟨162,[.num .i64,.num .i64],L,own,mark⟩]⟩) else (bif onB (pX L i) (pY L i) (pX L k) (pY L k) (pX L (nx L k)) (pY L (nx L k)) then some (.ret,mk (gl .ret) [.v (Bo false)] ⟨[],[],[.live ⟨162,[.num .i64,.num .i64],L,own,mark⟩]⟩) else an ΓMr prog L0 (ac 0 1 gX) mO n (mk gX [.row 0,.v (I nn),.v (I i),.v (I (wI (k+(1:Int))))] ⟨[],[],[.live ⟨162,[.num .i64,.num .i64],L,own,mark⟩]⟩) re)) else (bif i==(0:Int) then (bif k==wI (nn - (1:Int)) then (bif onB (pX L k) (pY L k) (pX L i) (pY L i) (pX L (nx L i)) (pY L (nx L i)) then some (.ret,mk (gl .ret) [.v (Bo false)] ⟨[],[],[.live ⟨162,[.num .i64,.num .i64],L,own,mark⟩]⟩) else (bif onB (pX L (nx L i)) (pY L (nx L i)) (pX L k) (pY L k) (pX L (nx L k)) (pY L (nx L k)) then some (.ret,mk (gl .ret) [.v (Bo false)] ⟨[],[],[.live ⟨162,[.num .i64,.num .i64],L,own,mark⟩]⟩) else an ΓMr prog L0 (ac 0 1 gX) mO n (mk gX [.row 0,.v (I nn),.v (I i),.v (I (wI (k+(1:Int))))] ⟨[],[],[.live ⟨162,[.num .i64,.num .i64],L,own,mark⟩]⟩) re)) else (bif dE (pX L i) (pY L i) (pX L (nx L i)) (pY L (nx L i)) (pX L k) (pY L k) (pX L (nx L k)) (pY L (nx L k)) then some (.ret,mk (gl .ret) [.v (Bo false)] ⟨[],[],[.live ⟨162,[.num .i64,.num .i64],L,own,mark⟩]⟩) else an ΓMr prog L0 (ac 0 1 gX) mO n (mk gX [.row 0,.v (I nn),.v (I i),.v (I (wI (k+(1:Int))))] ⟨[],[],[.live ⟨162,[.num .i64,.num .i64],L,own,mark⟩]⟩) re)) else (bif dE (pX L i) (pY L i) (pX L (nx L i)) (pY L (nx L i)) (pX L k) (pY L k) (pX L (nx L k)) (pY L (nx L k)) then some (.ret,mk (gl .ret) [.v (Bo false)] ⟨[],[],[.live ⟨162,[.num .i64,.num .i64],L,own,mark⟩]⟩) else an ΓMr prog L0 (ac 0 1 gX) mO n (mk gX [.row 0,.v (I nn),.v (I i),.v (I (wI (k+(1:Int))))] ⟨[],[],[.live ⟨162,[.num .i64,.num .i64],L,own,mark⟩]⟩) re)))) else none) else none) else none) else none) else some ((.exit 4),mk (gl (.exit 4)) [.row 0,.v (I nn),.v (I i)] ⟨[],[],[.live ⟨162,[.num .i64,.num .i64],L,own,mark⟩]⟩)):=by kernel_rfl
def SU (n:Nat) (i:Int) (k:Int) (nn:Int) (L:List (List Dat)) (own:Bool) (mark:Bool):Option (Ex×St) :=
 an ΓMr prog L0 (ac 0 1 gX) mO n (mk gX [.row 0,.v (I nn),.v (I i),.v (I k)] ⟨[],[],[.live ⟨162,[.num .i64,.num .i64],L,own,mark⟩]⟩) re
def wk (L:List (List Dat)) (i k:Int):Bool:=qy L i k||bif k==i+1 then onB (pX L (nx L k)) (pY L (nx L k)) (pX L i) (pY L i) (pX L (nx L i)) (pY L (nx L i))||onB (pX L i) (pY L i) (pX L k) (pY L k) (pX L (nx L k)) (pY L (nx L k))
 else bif i==0&&k==(L.length:Int) - 1 then onB (pX L k) (pY L k) (pX L i) (pY L i) (pX L (nx L i)) (pY L (nx L i))||onB (pX L (nx L i)) (pY L (nx L i)) (pX L k) (pY L k) (pX L (nx L k)) (pY L (nx L k))
 else dE (pX L i) (pY L i) (pX L (nx L i)) (pY L (nx L i)) (pX L k) (pY L k) (pX L (nx L k)) (pY L (nx L k))
def iX (L:List (List Dat)) (i:Int):Bool:=bA (wk L i) ((L.length:Int) - (i+1)).toNat (i+1)
def Cs (L:List (List Dat)) (i nn:Int) (own mark:Bool):LT:=.br (iX L i) (.leaf .ret (mk (gl .ret) [.v (Bo false)] ⟨[],[],[rP L own mark]⟩)) (.leaf (.exit 4) (mk (gl (.exit 4)) [.row 0,.v (I nn),.v (I i)] ⟨[],[],[rP L own mark]⟩))
theorem qcR (i:Int) (L:List (List Dat)) (own mark:Bool) (hi:cM L i=true):SU (((L.length:Int) - (i+1)).toNat+1) i (i+1) (L.length:Int) L own mark=some (Cs L i (L.length:Int) own mark).pick:=by
 have a:=ie.1 hi
 have h:=qn (wk L i) (L.length:Int) (fun n k=>SU n i k (L.length:Int) L own mark) (some (.exit 4,mk (gl (.exit 4)) [.row 0,.v (I (L.length:Int)),.v (I i)] ⟨[],[],[rP L own mark]⟩)) (some (.ret,mk (gl .ret) [.v (Bo false)] ⟨[],[],[rP L own mark]⟩)) (fun n k hk=>?_) (fun n k hk=>?_) ((L.length:Int) - (i+1)).toNat (i+1) (by omega) (by omega)
 ·refine h.trans ?_
  unfold Cs iX
  cases bA (wk L i) ((L.length:Int) - (i+1)).toNat (i+1)<;>rfl
 ·refine (K5 i k (L.length:Int) L own mark n).trans ?_
  rw [decide_eq_false hk]
  rfl
 ·refine (K5 i k (L.length:Int) L own mark n).trans ?_
  have b:cM L k=true:=ie.2 (by omega)
  rw [decide_eq_true hk.1,decide_eq_true hk.2,decide_eq_true a.1,decide_eq_true a.2.1,hi,b,az (n:=k+1) (by omega),az (n:=i+1) (by omega),az (n:=(L.length:Int) - 1) (by omega)]
  show (bif qy L i k then _ else _)=_
  unfold wk
  cases qy L i k
  ·cases k==i+1
   ·cases i==0
    ·cases dE (pX L i) (pY L i) (pX L (nx L i)) (pY L (nx L i)) (pX L k) (pY L k) (pX L (nx L k)) (pY L (nx L k))<;>rfl
    ·cases k==(L.length:Int) - 1
     ·cases dE (pX L i) (pY L i) (pX L (nx L i)) (pY L (nx L i)) (pX L k) (pY L k) (pX L (nx L k)) (pY L (nx L k))<;>rfl
     ·cases onB (pX L k) (pY L k) (pX L i) (pY L i) (pX L (nx L i)) (pY L (nx L i))<;>cases onB (pX L (nx L i)) (pY L (nx L i)) (pX L k) (pY L k) (pX L (nx L k)) (pY L (nx L k))<;>rfl
   ·cases onB (pX L (nx L k)) (pY L (nx L k)) (pX L i) (pY L i) (pX L (nx L i)) (pY L (nx L i))<;>cases onB (pX L i) (pY L i) (pX L k) (pY L k) (pX L (nx L k)) (pY L (nx L k))<;>rfl
  ·rfl
def JE (vals:List SV) (m:Mem):Option (Bool×LT) :=
 match vals,m with
 | [.row 0,.v (.int .i64 nn),.v (.int .i64 i),.v (.int .i64 k)],⟨[],[],[.live ⟨162,[.num .i64,.num .i64],L,own,mark⟩]⟩=>some (nn==(L.length:Int)&&(k==i+1&&cM L i),Cs L i nn own mark)
 | _,_=>none
def ΛRc:aV:=fun _ st=>fW 0 1 gX JE st
theorem qc6 (z:Base) (z1:z.L.length=0) (z2:z.U.length=1):aS ΛRc prog z mO:=by
 refine gV (Λ:=L0) (kx:=gl) uD mixed z1 z2 (fun b hb st t h=>by cases h) (G:=JE) (fun _=>rfl) ?_
 intro vals m t h
 unfold JE at h
 split at h
 ·rename_i nn i k L own mark
  obtain ⟨h1,rfl⟩:=ab h
  simp only [Bool.and_eq_true,beq_iff_eq] at h1
  obtain ⟨rfl,rfl,hi⟩:=h1
  exact ⟨_,qcR i L own mark hi⟩
 ·cases h
theorem qcf:aF mQ=[mO]:=by kernel_rfl
def nQ:List Bool:=aB 100 [0,3,5]
def lH (e:Ex):List Bool:=match e with
 | .exit _=>aB 100 []
 | .ret=>aB 100 [2]
 | .normal=>aB 100 [0,3,5]
def I8 (e:Ex) (st:St):Option (Ex×St):=some (e,ac 0 1 (lH e) st)
theorem K6 (i:Int) (nn:Int) (L:List (List Dat)) (own:Bool) (mark:Bool) (n:Nat):an ΓMr prog ΛRc (ac 0 1 nQ) mQ (n+1) (mk nQ [.row 0,.v (I nn),.v (I i)] ⟨[],[],[.live ⟨162,[.num .i64,.num .i64],L,own,mark⟩]⟩) I8 =
 (bif decide (i<nn) then (bif nn==(L.length:Int)&&(wI (i+(1:Int))==i+(1:Int)&&cM L i) then (bif iX L i then some (.ret,mk (lH .ret) [.v (Bo false)] ⟨[],[],[.live ⟨162,[.num .i64,.num .i64],L,own,mark⟩]⟩) else an ΓMr prog ΛRc (ac 0 1 nQ) mQ n (mk nQ [.row 0,.v (I nn),.v (I (wI (i+(1:Int))))] ⟨[],[],[.live ⟨162,[.num .i64,.num .i64],L,own,mark⟩]⟩) I8) else none) else some ((.exit 2),mk (lH (.exit 2)) [] ⟨[],[],[.live ⟨162,[.num .i64,.num .i64],L,own,mark⟩]⟩)):=by kernel_rfl
def SW (n:Nat) (i:Int) (nn:Int) (L:List (List Dat)) (own:Bool) (mark:Bool):Option (Ex×St) :=
 an ΓMr prog ΛRc (ac 0 1 nQ) mQ n (mk nQ [.row 0,.v (I nn),.v (I i)] ⟨[],[],[.live ⟨162,[.num .i64,.num .i64],L,own,mark⟩]⟩) I8
def Ct (L:List (List Dat)) (own mark:Bool):LT:=.br (bA (iX L) L.length 0) (.leaf .ret (mk (lH .ret) [.v (Bo false)] ⟨[],[],[rP L own mark]⟩)) (.leaf (.exit 2) (mk (lH (.exit 2)) [] ⟨[],[],[rP L own mark]⟩))
theorem qcS (L:List (List Dat)) (own mark:Bool) (hl:L.length<=1000000):SW (L.length+1) 0 (L.length:Int) L own mark=some (Ct L own mark).pick:=by
 have h:=qn (iX L) (L.length:Int) (fun n k=>SW n k (L.length:Int) L own mark) (some (.exit 2,mk (lH (.exit 2)) [] ⟨[],[],[rP L own mark]⟩)) (some (.ret,mk (lH .ret) [.v (Bo false)] ⟨[],[],[rP L own mark]⟩)) (fun n k hk=>?_) (fun n k hk=>?_) L.length 0 (by omega) (by omega)
 ·refine h.trans ?_
  unfold Ct
  cases bA (iX L) L.length 0<;>rfl
 ·refine (K6 k (L.length:Int) L own mark n).trans ?_
  rw [decide_eq_false hk]
  rfl
 ·refine (K6 k (L.length:Int) L own mark n).trans ?_
  have b:cM L k=true:=ie.2 (by omega)
  rw [decide_eq_true hk.2,b,az (n:=k+1) (by omega),beq_self_eq_true,beq_self_eq_true]
  show (bif iX L k then _ else _)=_
  cases iX L k<;>rfl
def JF (vals:List SV) (m:Mem):Option (Bool×LT) :=
 match vals,m with
 | [.row 0,.v (.int .i64 nn),.v (.int .i64 i)],⟨[],[],[.live ⟨162,[.num .i64,.num .i64],L,own,mark⟩]⟩=>some (nn==(L.length:Int)&&(i==0&&Nat.ble L.length 1000000),Ct L own mark)
 | _,_=>none
def ΛRb:aV:=fun _ st=>fW 0 1 nQ JF st
theorem qc7 (z:Base) (z1:z.L.length=0) (z2:z.U.length=1):aS ΛRb prog z mQ:=by
 refine gV (Λ:=ΛRc) (kx:=lH) uD mixed z1 z2 (bR qcf (qc6 z z1 z2)) (G:=JF) (fun _=>rfl) ?_
 intro vals m t h
 unfold JF at h
 split at h
 ·rename_i nn i L own mark
  obtain ⟨h1,rfl⟩:=ab h
  simp only [Bool.and_eq_true,beq_iff_eq] at h1
  obtain ⟨rfl,rfl,hl⟩:=h1
  exact ⟨_,qcS L own mark (Nat.le_of_ble_eq_true hl)⟩
 ·cases h
theorem qcg:aF (f231.body.getD .skip)=[lw,mQ]:=by kernel_rfl
theorem T8:Nat.beq (eT lw) (eT lw)=true:=by kernel_rfl
theorem T7:Nat.beq (eT mQ) (eT lw)=false:=by kernel_rfl
def tN (t:Code) (Λ1 Λ2:aV):aV:=fun b st=>match Nat.beq (eT b) (eT t) with
 | true=>Λ1 b st
 | false=>Λ2 b st
theorem qh1 {t:Code} {Λ1 Λ2:aV} {b:Code} {z:Base} (h:Nat.beq (eT b) (eT t)=true) (h1:aS Λ1 prog z b):aS (tN t Λ1 Λ2) prog z b:=fun st x hx=>h1 st x (by unfold tN at hx;rw [h] at hx;exact hx)
theorem qh0 {t:Code} {Λ1 Λ2:aV} {b:Code} {z:Base} (h:Nat.beq (eT b) (eT t)=false) (h1:aS Λ2 prog z b):aS (tN t Λ1 Λ2) prog z b:=fun st x hx=>h1 st x (by unfold tN at hx;rw [h] at hx;exact hx)
theorem TY {Λ:aV} {c b0 b1:Code} {z:Base} (h:aF c=[b0,b1]) (h0:aS Λ prog z b0) (h1:aS Λ prog z b1):∀ b∈aF c,aS Λ prog z b:=by
 intro b hb
 rw [h] at hb
 simp only [List.mem_cons,List.not_mem_nil,or_false] at hb
 rcases hb with rfl|rfl
 ·exact h0
 ·exact h1
def ΛRab:aV:=tN lw ΛRa ΛRb
def rY (L:List (List Dat)):Bool:=!(decide ((L.length:Int)<3)||decide ((L.length:Int)>8))&&(!bA (dk L) L.length 0&&!bA (iX L) L.length 0)
theorem Xb (L:List (List Dat)) (own:Bool) (mark:Bool):runG ΓMr ΛRab prog f231 [.row 0] ⟨[],[],[rP L own mark]⟩ =
 (bif decide ((L.length:Int)<(3:Int)) then some (.v (Bo false),⟨[],[],[.live ⟨162,[.num .i64,.num .i64],L,own,mark⟩]⟩) else (bif decide ((L.length:Int)>(8:Int)) then some (.v (Bo false),⟨[],[],[.live ⟨162,[.num .i64,.num .i64],L,own,mark⟩]⟩) else (bif (L.length:Int)==(L.length:Int)&&(true&&L.length.ble (1000000)) then (bif bA (dk L) L.length (0:Int) then some (.v (Bo false),⟨[],[],[.live ⟨162,[.num .i64,.num .i64],L,own,mark⟩]⟩) else (bif (L.length:Int)==(L.length:Int)&&(true&&L.length.ble (1000000)) then (bif bA (iX L) L.length (0:Int) then some (.v (Bo false),⟨[],[],[.live ⟨162,[.num .i64,.num .i64],L,own,mark⟩]⟩) else some (.v (Bo true),⟨[],[],[.live ⟨162,[.num .i64,.num .i64],L,own,mark⟩]⟩)) else none)) else none))):=by kernel_rfl
def Ef (xs:List SV) (m:Mem):Option (Bool×Value) :=
 match xs,m with
 | [.row 0],⟨[],[],[.live ⟨162,[.num .i64,.num .i64],L,own,mark⟩]⟩=>some (Nat.ble L.length 1000000,Bo (rY L))
 | _,_=>none
theorem qe6:bk 231 Ef:=by
 intro xs m r h
 unfold Ef at h
 split at h
 ·rename_i L own mark
  obtain ⟨h1,rfl⟩:=ab h
  refine aj (Λ:=ΛRab) uD func231 rfl (fun z z1 z2=>TY qcg (qh1 T8 (qc8 z z1 z2)) (qh0 T7 (qc7 z z1 z2))) ?_
  refine (Xb L own mark).trans ?_
  rw [h1,beq_self_eq_true]
  unfold rY
  cases decide ((L.length:Int)<3)<;>cases decide ((L.length:Int)>8)<;>cases bA (dk L) L.length 0<;>cases bA (iX L) L.length 0<;>rfl
 ·cases h
def ΓRs1:Orc:=aU 231 Ef ΓMr
theorem Iu:ΓRs1.Ok prog:=aO uD qe6
def uo:Code:=ch (f170.body.getD .skip) 0
def nO:List Bool:=aB 47 [0,3]
def io (e:Ex):List Bool:=match e with
 | .exit _=>aB 47 [0]
 | .ret=>aB 47 [2]
 | .normal=>aB 47 [0,3]
def I7 (e:Ex) (st:St):Option (Ex×St):=some (e,ac 0 1 (io e) st)
theorem Bi (i:Int) (L:List (List Dat)) (own:Bool) (mark:Bool) (n:Nat):an ΓRs1 prog L0 (ac 0 1 nO) uo (n+1) (mk nO [.row 0,.v (I i)] ⟨[],[],[.live ⟨162,[.num .i64,.num .i64],L,own,mark⟩]⟩) I7 =
 (bif decide (i<(L.length:Int)) then (bif decide ((L.length:Int)<=(8:Int)) then (bif decide ((0:Int)<=i)&&decide (i<(L.length:Int)) then (bif decide ((pX L i)<(-1073741824:Int)) then some (.ret,mk (io .ret) [.v (Bo false)] ⟨[],[],[.live ⟨162,[.num .i64,.num .i64],L,own,mark⟩]⟩) else (bif decide ((0:Int)<=i)&&decide (i<(L.length:Int)) then (bif decide ((pX L i)>(1073741824:Int)) then some (.ret,mk (io .ret) [.v (Bo false)] ⟨[],[],[.live ⟨162,[.num .i64,.num .i64],L,own,mark⟩]⟩) else (bif decide ((0:Int)<=i)&&decide (i<(L.length:Int)) then (bif decide ((pY L i)<(-1073741824:Int)) then some (.ret,mk (io .ret) [.v (Bo false)] ⟨[],[],[.live ⟨162,[.num .i64,.num .i64],L,own,mark⟩]⟩) else (bif decide ((0:Int)<=i)&&decide (i<(L.length:Int)) then (bif decide ((pY L i)>(1073741824:Int)) then some (.ret,mk (io .ret) [.v (Bo false)] ⟨[],[],[.live ⟨162,[.num .i64,.num .i64],L,own,mark⟩]⟩) else an ΓRs1 prog L0 (ac 0 1 nO) uo n (mk nO [.row 0,.v (I (wI (i+(1:Int))))] ⟨[],[],[.live ⟨162,[.num .i64,.num .i64],L,own,mark⟩]⟩) I7) else none)) else none)) else none)) else none) else some ((.exit 0),mk (io (.exit 0)) [.row 0] ⟨[],[],[.live ⟨162,[.num .i64,.num .i64],L,own,mark⟩]⟩)) else some ((.exit 0),mk (io (.exit 0)) [.row 0] ⟨[],[],[.live ⟨162,[.num .i64,.num .i64],L,own,mark⟩]⟩)):=by kernel_rfl
def ST (n:Nat) (i:Int) (L:List (List Dat)) (own:Bool) (mark:Bool):Option (Ex×St) :=
 an ΓRs1 prog L0 (ac 0 1 nO) uo n (mk nO [.row 0,.v (I i)] ⟨[],[],[.live ⟨162,[.num .i64,.num .i64],L,own,mark⟩]⟩) I7
def xf (L:List (List Dat)) (own mark:Bool):LT:=.br (decide ((L.length:Int)<=8)&&bA (dK L) L.length 0) (.leaf .ret (mk (io .ret) [.v (Bo false)] ⟨[],[],[rP L own mark]⟩)) (.leaf (.exit 0) (mk (io (.exit 0)) [.row 0] ⟨[],[],[rP L own mark]⟩))
theorem qcQ (L:List (List Dat)) (own mark:Bool) (hl:L.length<=1000000):ST (L.length+1) 0 L own mark=some (xf L own mark).pick:=by
 by_cases h8:(L.length:Int)<=8
 ·have h:=qn (dK L) (L.length:Int) (fun n k=>ST n k L own mark) (some (.exit 0,mk (io (.exit 0)) [.row 0] ⟨[],[],[rP L own mark]⟩)) (some (.ret,mk (io .ret) [.v (Bo false)] ⟨[],[],[rP L own mark]⟩)) (fun n k hk=>?_) (fun n k hk=>?_) L.length 0 (by omega) (by omega)
  ·refine h.trans ?_
   unfold xf
   rw [decide_eq_true h8]
   cases bA (dK L) L.length 0<;>rfl
  ·refine (Bi k L own mark n).trans ?_
   rw [decide_eq_false hk]
   rfl
  ·refine (Bi k L own mark n).trans ?_
   rw [decide_eq_true hk.2,decide_eq_true hk.1,decide_eq_true h8,az (n:=k+1) (by omega)]
   unfold dK iJ
   cases decide (pX L k< -1073741824)<;>cases decide (pX L k>1073741824)<;>cases decide (pY L k< -1073741824)<;>cases decide (pY L k>1073741824)<;>rfl
 ·refine (Bi 0 L own mark L.length).trans ?_
  unfold xf
  rw [decide_eq_false h8]
  cases decide ((0:Int)<(L.length:Int))<;>rfl
def JD (vals:List SV) (m:Mem):Option (Bool×LT) :=
 match vals,m with
 | [.row 0,.v (.int .i64 i)],⟨[],[],[.live ⟨162,[.num .i64,.num .i64],L,own,mark⟩]⟩=>some (i==0&&Nat.ble L.length 1000000,xf L own mark)
 | _,_=>none
def ΛRd:aV:=fun _ st=>fW 0 1 nO JD st
theorem qc5 (z:Base) (z1:z.L.length=0) (z2:z.U.length=1):aS ΛRd prog z uo:=by
 refine gV (Λ:=L0) (kx:=io) Iu mixed z1 z2 (fun b hb st t h=>by cases h) (G:=JD) (fun _=>rfl) ?_
 intro vals m t h
 unfold JD at h
 split at h
 ·rename_i i L own mark
  obtain ⟨h1,rfl⟩:=ab h
  simp only [Bool.and_eq_true,beq_iff_eq] at h1
  obtain ⟨rfl,hl⟩:=h1
  exact ⟨_,qcQ L own mark (Nat.le_of_ble_eq_true hl)⟩
 ·cases h
theorem qce:aF (f170.body.getD .skip)=[uo]:=by kernel_rfl
def ut (L:List (List Dat)):Bool:=!(decide ((L.length:Int)<=8)&&bA (dK L) L.length 0)&&rY L
theorem Xr (L:List (List Dat)) (own:Bool) (mark:Bool):runG ΓRs1 ΛRd prog f170 [.row 0] ⟨[],[],[rP L own mark]⟩ =
 (bif true&&L.length.ble (1000000) then (bif decide ((L.length:Int)<=(8:Int))&&bA (dK L) L.length (0:Int) then some (.v (Bo false),⟨[],[],[.live ⟨162,[.num .i64,.num .i64],L,own,mark⟩]⟩) else (bif L.length.ble (1000000) then some (.v (Bo (rY L)),⟨[],[],[.live ⟨162,[.num .i64,.num .i64],L,own,mark⟩]⟩) else none)) else none):=by kernel_rfl
def Ew (xs:List SV) (m:Mem):Option (Bool×Value) :=
 match xs,m with
 | [.row 0],⟨[],[],[.live ⟨162,[.num .i64,.num .i64],L,own,mark⟩]⟩=>some (Nat.ble L.length 1000000,Bo (ut L))
 | _,_=>none
theorem qfh:bk 170 Ew:=by
 intro xs m r h
 unfold Ew at h
 split at h
 ·rename_i L own mark
  obtain ⟨h1,rfl⟩:=ab h
  refine aj (Λ:=ΛRd) Iu func170 rfl (fun z z1 z2=>bR qce (qc5 z z1 z2)) ?_
  refine (Xr L own mark).trans ?_
  rw [h1]
  unfold ut
  cases decide ((L.length:Int)<=8)<;>cases bA (dK L) L.length 0<;>cases rY L<;>rfl
 ·cases h
def ΓRs2:Orc:=aU 170 Ew ΓRs1
theorem qky:ΓRs2.Ok prog:=aO Iu qfh
def yv {σ:Type} (f:Int->σ->σ):Nat->Int->σ->σ
 | 0,_,s=>s
 | m+1,k,s=>yv f m (k+1) (f k s)
theorem qhv {α σ:Type} (p:Int->Bool) (f:Int->σ->σ) (I:Int->σ->Prop) (N:Int) (E:Nat->Int->σ->Option α) (X:σ->Option α) (Y:Option α) (he:∀ n k s,¬ k<N->I k s->E (n+1) k s=X s) (hI:∀ k s,0<=k/\k<N->I k s->I (k+1) (f k s)) (hr:∀ n k s,0<=k/\k<N->I k s->E (n+1) k s=bif p k then Y else E n (k+1) (f k s)) :
  ∀ (m:Nat) (k:Int) (s:σ),0<=k->k+m=N->I k s->E (m+1) k s=bif bA p m k then Y else X (yv f m k s):=by
 intro m
 induction m with
 | zero =>
  intro k s h0 h1 hi
  exact he 0 k s (by omega) hi
 | succ m ih =>
  intro k s h0 h1 hi
  rw [hr (m+1) k s (by omega) hi]
  show _=bif p k||bA p m (k+1) then Y else X (yv f m (k+1) (f k s))
  cases p k
  ·exact ih (k+1) (f k s) (by omega) (by omega) (hI k s (by omega) hi)
  ·rfl
theorem Qi:∀ (m:Nat) (k:Int),bA (fun _=>false) m k=false
 | 0,_=>rfl
 | m+1,k=>Qi m (k+1)
theorem qhw {α σ:Type} (f:Int->σ->σ) (I:Int->σ->Prop) (N:Int) (E:Nat->Int->σ->Option α) (X:σ->Option α) (he:∀ n k s,¬ k<N->I k s->E (n+1) k s=X s) (hI:∀ k s,0<=k/\k<N->I k s->I (k+1) (f k s)) (hr:∀ n k s,0<=k/\k<N->I k s->E (n+1) k s=E n (k+1) (f k s))
  (m:Nat) (k:Int) (s:σ) (h0:0<=k) (h1:k+m=N) (hi:I k s):E (m+1) k s=X (yv f m k s):=by
 have:=qhv (fun _=>false) f I N E X none he hI (fun n k s hk hi=>hr n k s hk hi) m k s h0 h1 hi
 rwa [Qi] at this
def ΓRs:Orc:=ΓRs2
theorem qkz:ΓRs.Ok prog:=qky
end Go.Proofs.YtainfdcfkgemhaaGreat
namespace Go.Proofs.YtainfdcfkgemhaaGreat
open Go Go.Proofs Go.Sx
set_option linter.unusedVariables false
def ΓRg1:Orc:=ΓRs
theorem Ix:ΓRg1.Ok prog:=qkz
def um:Code:=ch (f173.body.getD .skip) 0
def nN:List Bool:=aB 33 [1,2,15,16,17]
def lG (e:Ex):List Bool:=match e with
 | .exit _=>aB 33 [1,2]
 | .ret=>aB 33 [4]
 | .normal=>aB 33 [1,2,15,16,17]
def I6 (e:Ex) (st:St):Option (Ex×St):=some (e,ac 0 1 (lG e) st)
theorem K4 (a:Int) (b:Int) (c:Int) (d:Int) (k:Int) (nn:Int) (L:List (List Dat)) (own:Bool) (mark:Bool) (n:Nat):an ΓRg1 prog L0 (ac 0 1 nN) um (n+1) (mk nN [.row 0,.ptr 0 0,.row 0,.v (I nn),.v (I k)] ⟨[[.v (I a),.v (I b),.v (I c),.v (I d)]],[true],[rP L own mark]⟩) I6 =
 (bif decide (k<nn) then (bif decide ((0:Int)<=k)&&decide (k<(L.length:Int)) then (bif cM L k then (bif wS a b c d (pX L k) (pY L k) (pX L (nx L k)) (pY L (nx L k)) then some (.ret,mk (lG .ret) [.v (I 0)] ⟨[],[],[.live ⟨162,[.num .i64,.num .i64],L,own,mark⟩]⟩) else an ΓRg1 prog L0 (ac 0 1 nN) um n (mk nN [.row 0,.ptr 0 0,.row 0,.v (I nn),.v (I (wI (k+(1:Int))))] ⟨[[.v (I a),.v (I b),.v (I c),.v (I d)]],[true],[.live ⟨162,[.num .i64,.num .i64],L,own,mark⟩]⟩) I6) else none) else none) else some ((.exit 0),mk (lG (.exit 0)) [.row 0,.ptr 0 0] ⟨[[.v (I a),.v (I b),.v (I c),.v (I d)]],[true],[.live ⟨162,[.num .i64,.num .i64],L,own,mark⟩]⟩)):=by kernel_rfl
def SS (n:Nat) (a:Int) (b:Int) (c:Int) (d:Int) (k:Int) (nn:Int) (L:List (List Dat)) (own:Bool) (mark:Bool):Option (Ex×St) :=
 an ΓRg1 prog L0 (ac 0 1 nN) um n (mk nN [.row 0,.ptr 0 0,.row 0,.v (I nn),.v (I k)] ⟨[[.v (I a),.v (I b),.v (I c),.v (I d)]],[true],[rP L own mark]⟩) I6
def lV (a b c d:Int) (L:List (List Dat)) (k:Int):Bool:=wS a b c d (pX L k) (pY L k) (pX L (nx L k)) (pY L (nx L k))
def Cr (a b c d:Int) (L:List (List Dat)) (own mark:Bool):LT:=.br (bA (lV a b c d L) L.length 0) (.leaf .ret (mk (lG .ret) [.v (I 0)] ⟨[],[],[rP L own mark]⟩)) (.leaf (.exit 0) (mk (lG (.exit 0)) [.row 0,.ptr 0 0] ⟨[[.v (I a),.v (I b),.v (I c),.v (I d)]],[true],[rP L own mark]⟩))
theorem qcP (a b c d:Int) (L:List (List Dat)) (own mark:Bool) (hl:L.length<=1000000):SS (L.length+1) a b c d 0 (L.length:Int) L own mark=some (Cr a b c d L own mark).pick:=by
 have h:=qn (lV a b c d L) (L.length:Int) (fun n k=>SS n a b c d k (L.length:Int) L own mark) (some (.exit 0,mk (lG (.exit 0)) [.row 0,.ptr 0 0] ⟨[[.v (I a),.v (I b),.v (I c),.v (I d)]],[true],[rP L own mark]⟩)) (some (.ret,mk (lG .ret) [.v (I 0)] ⟨[],[],[rP L own mark]⟩)) (fun n k hk=>?_) (fun n k hk=>?_) L.length 0 (by omega) (by omega)
 ·refine h.trans ?_
  unfold Cr
  cases bA (lV a b c d L) L.length 0<;>rfl
 ·refine (K4 a b c d k (L.length:Int) L own mark n).trans ?_
  rw [decide_eq_false hk]
  rfl
 ·refine (K4 a b c d k (L.length:Int) L own mark n).trans ?_
  have e:cM L k=true:=ie.2 (by omega)
  have n1:=wJ e
  rw [decide_eq_true hk.2,decide_eq_true hk.1,e,az (n:=k+1) (by omega)]
  show (bif lV a b c d L k then _ else _)=_
  cases lV a b c d L k<;>rfl
def JC (vals:List SV) (m:Mem):Option (Bool×LT) :=
 match vals,m with
 | [.row 0,.ptr 0 0,.row 0,.v (.int .i64 nn),.v (.int .i64 k)],⟨[[.v (.int .i64 a),.v (.int .i64 b),.v (.int .i64 c),.v (.int .i64 d)]],[true],[.live ⟨162,[.num .i64,.num .i64],L,own,mark⟩]⟩=>some (nn==(L.length:Int)&&(k==0&&Nat.ble L.length 1000000),Cr a b c d L own mark)
 | _,_=>none
def ΛRh:aV:=fun _ st=>fW 0 1 nN JC st
theorem qc4 (z:Base) (z1:z.L.length=0) (z2:z.U.length=1):aS ΛRh prog z um:=by
 refine gV (Λ:=L0) (kx:=lG) Ix mixed z1 z2 (fun b hb st t h=>by cases h) (G:=JC) (fun _=>rfl) ?_
 intro vals m t h
 unfold JC at h
 split at h
 ·rename_i nn k a b c d L own mark
  obtain ⟨h1,rfl⟩:=ab h
  simp only [Bool.and_eq_true,beq_iff_eq] at h1
  obtain ⟨rfl,rfl,hl⟩:=h1
  exact ⟨_,qcP a b c d L own mark (Nat.le_of_ble_eq_true hl)⟩
 ·cases h
theorem qcd:aF (f173.body.getD .skip)=[um]:=by kernel_rfl
def nw (a b c d:Int) (L:List (List Dat)):Int:=bif !bi a b c d then -1 else bif !ig L then -1 else bif bA (lV a b c d L) L.length 0 then 0 else rZ L a b
theorem XP (a:Int) (b:Int) (c:Int) (d:Int) (L:List (List Dat)) (own:Bool) (mark:Bool):runG ΓRg1 ΛRh prog f173 [.v (.agg #[I a,I b,I c,I d]),.row 0] ⟨[],[],[rP L own mark]⟩ =
 (bif !bi a b c d then some (.v (I (-1)),⟨[],[],[.live ⟨162,[.num .i64,.num .i64],L,own,mark⟩]⟩) else (bif L.length.ble (1000000) then (bif !ig L then some (.v (I (-1)),⟨[],[],[.live ⟨162,[.num .i64,.num .i64],L,own,mark⟩]⟩) else (bif (L.length:Int)==(L.length:Int)&&(true&&L.length.ble (1000000)) then (bif bA (lV a b c d L) L.length (0:Int) then some (.v (I 0),⟨[],[],[.live ⟨162,[.num .i64,.num .i64],L,own,mark⟩]⟩) else (bif L.length.ble (1000000) then some (.v (I (rZ L a b)),⟨[],[],[.live ⟨162,[.num .i64,.num .i64],L,own,mark⟩]⟩) else none)) else none)) else none)):=by kernel_rfl
def ER (xs:List SV) (m:Mem):Option (Bool×Value) :=
 match xs,m with
 | [.v (.agg ⟨[.int .i64 a,.int .i64 b,.int .i64 c,.int .i64 d]⟩),.row 0],⟨[],[],[.live ⟨162,[.num .i64,.num .i64],L,own,mark⟩]⟩=>some (Nat.ble L.length 1000000,I (nw a b c d L))
 | _,_=>none
theorem qfB:bk 173 ER:=by
 intro xs m r h
 unfold ER at h
 split at h
 ·rename_i a b c d L own mark
  obtain ⟨h1,rfl⟩:=ab h
  refine aj (Λ:=ΛRh) Ix func173 rfl (fun z z1 z2=>bR qcd (qc4 z z1 z2)) ?_
  refine (XP a b c d L own mark).trans ?_
  rw [h1,beq_self_eq_true]
  unfold nw
  cases bi a b c d<;>cases ig L<;>cases bA (lV a b c d L) L.length 0<;>rfl
 ·cases h
def ΓRg2:Orc:=aU 173 ER ΓRg1
theorem qkA:ΓRg2.Ok prog:=aO Ix qfB
def ΓRg3:Orc:=ΓRg2
theorem Iw:ΓRg3.Ok prog:=qkA
end Go.Proofs.YtainfdcfkgemhaaGreat
