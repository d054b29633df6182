/-
  What is known of this program: contracts of poly and of box over rows of places,and of the document's.
-/
import Derived.Test.YtainfdcfkgemhaaGreatYa
import Derived.Test.YtainfdcfkgemhaaGreatSx
set_option maxRecDepth 100000
noncomputable section
open Go.Proofs.Tryz
namespace Go.Proofs.YtainfdcfkgemhaaGreat
open Go Go.Proofs Go.Sx
set_option linter.unusedVariables false
def pX (L:List (List Dat)) (k:Int):Int:=((L.getD k.toNat []).headD (Dat.n 0)).toI
def pY (L:List (List Dat)) (k:Int):Int:=((L.getD k.toNat []).tail.headD (Dat.n 0)).toI
def nx (L:List (List Dat)) (i:Int):Int:=(wI (i+1)).tmod (L.length:Int)
abbrev rP (L:List (List Dat)) (own mark:Bool):RowS:=.live ⟨162,[.num .i64,.num .i64],L,own,mark⟩
theorem ZB (i:Int) (L:List (List Dat)) (own mark:Bool):runG ΓBo L0 prog f240 [.row 0,.v (I i)] ⟨[],[],[rP L own mark]⟩ =
 (bif (L.length:Int)==(0:Int) then none else (bif decide ((0:Int)<=nx L i)&&decide (nx L i<(L.length:Int)) then some (.v (.agg #[(I (pX L (nx L i))),(I (pY L (nx L i)))]),⟨[],[],[.live ⟨162,[.num .i64,.num .i64],L,own,mark⟩]⟩) else none)):=by kernel_rfl
theorem YY (i:Int) (L:List (List Dat)) (own mark:Bool):runG ΓBo L0 prog f303 [.row 0,.v (I i)] ⟨[],[],[rP L own mark]⟩ =
 (bif decide ((0:Int)<=i)&&decide (i<(L.length:Int)) then (bif (L.length:Int)==(0:Int) then none else (bif decide ((0:Int)<=nx L i)&&decide (nx L i<(L.length:Int)) then some (.v (.tuple #[(.agg #[(I (pX L i)),(I (pY L i))]),(.agg #[(I (pX L (nx L i))),(I (pY L (nx L i)))])]),⟨[],[],[.live ⟨162,[.num .i64,.num .i64],L,own,mark⟩]⟩) else none)) else none):=by kernel_rfl
def dO (L:List (List Dat)) (i:Int):Bool:=decide (0<=i)&&(decide (i<(L.length:Int))&&Nat.ble L.length 1000000)
theorem lh {L:List (List Dat)} {i:Int}:dO L i=true↔0<=i/\i<(L.length:Int)/\L.length<=1000000:=by
 unfold dO
 simp only [Bool.and_eq_true,decide_eq_true_eq]
 exact ⟨fun ⟨a,b,c⟩=>⟨a,b,Nat.le_of_ble_eq_true c⟩,fun ⟨a,b,c⟩=>⟨a,b,Nat.ble_eq_true_of_le c⟩⟩
theorem Co {L:List (List Dat)} {i:Int} (h:dO L i=true):0<=nx L i/\nx L i<(L.length:Int):=by
 have h:=lh.1 h
 unfold nx
 rw [aC (by omega),Int.tmod_eq_emod_of_nonneg (by omega)]
 exact ⟨Int.emod_nonneg _ (by omega),Int.emod_lt_of_pos _ (by omega)⟩
def GH (xs:List SV) (m:Mem):Option (Bool×Value) :=
 match xs,m with
 | [.row 0,.v (.int .i64 i)],⟨[],[],[.live ⟨162,[.num .i64,.num .i64],L,own,mark⟩]⟩=>some (dO L i,.agg #[I (pX L (nx L i)),I (pY L (nx L i))])
 | _,_=>none
theorem qf4:bi 240 GH:=by
 intro xs m r h
 unfold GH at h
 split at h
 ·rename_i i L own mark
  obtain ⟨h1,rfl⟩:=ab h
  refine af (Λ:=L0) Ja func240 rfl ai ?_
  refine (ZB i L own mark).trans ?_
  have n:=Co h1
  have a:=lh.1 h1
  rw [beq_eq_false_iff_ne.2 (show (L.length:Int)≠0 by omega),decide_eq_true n.1,decide_eq_true n.2]
  rfl
 ·cases h
def Gb (xs:List SV) (m:Mem):Option (Bool×Value) :=
 match xs,m with
 | [.row 0,.v (.int .i64 i)],⟨[],[],[.live ⟨162,[.num .i64,.num .i64],L,own,mark⟩]⟩=>some (dO L i,.tuple #[.agg #[I (pX L i),I (pY L i)],.agg #[I (pX L (nx L i)),I (pY L (nx L i))]])
 | _,_=>none
theorem qfA:bi 303 Gb:=by
 intro xs m r h
 unfold Gb at h
 split at h
 ·rename_i i L own mark
  obtain ⟨h1,rfl⟩:=ab h
  refine af (Λ:=L0) Ja func303 rfl ai ?_
  refine (YY i L own mark).trans ?_
  have n:=Co h1
  have a:=lh.1 h1
  rw [beq_eq_false_iff_ne.2 (show (L.length:Int)≠0 by omega),decide_eq_true n.1,decide_eq_true n.2,decide_eq_true a.1,decide_eq_true a.2.1]
  rfl
 ·cases h
def ΓRw1:Orc:=aQ 240 GH ΓBo
theorem qja:ΓRw1.Ok prog:=aJ Ja qf4
def ΓRw2:Orc:=aQ 303 Gb ΓRw1
theorem qi9:ΓRw2.Ok prog:=aJ qja qfA
def ΓRo:Orc:=ΓRw2
theorem Rb:ΓRo.Ok prog:=qi9
end Go.Proofs.YtainfdcfkgemhaaGreat
namespace Go.Proofs.YtainfdcfkgemhaaGreat
open Go Go.Proofs Go.Sx
set_option linter.unusedVariables false
theorem Xx (a1:Int) (a2:Int) (b1:Int) (b2:Int) (c1:Int) (c2:Int):runG ΓRo L0 prog f359 [.v (.agg #[I a1,I a2]),.v (.agg #[I b1,I b2]),.v (.agg #[I c1,I c2])] M0 =
 (bif cp c1 c2 a1 a2 b1 b2 then some (.v (Bo true),M0) else some (.v (Bo (cp a1 a2 b1 b2 c1 c2)),M0)):=by kernel_rfl
def EV (vs:List Value):Option (Bool×Value) :=
 match vs with
 | [.agg ⟨[.int .i64 a1,.int .i64 a2]⟩,.agg ⟨[.int .i64 b1,.int .i64 b2]⟩,.agg ⟨[.int .i64 c1,.int .i64 c2]⟩]=>some (true,Bo (cp c1 c2 a1 a2 b1 b2||cp a1 a2 b1 b2 c1 c2))
 | _=>none
theorem qeu:am 359 EV:=by
 intro vs r h
 unfold EV at h
 split at h
 ·rename_i a1 a2 b1 b2 c1 c2
  obtain ⟨h1,rfl⟩:=ab h
  refine ak (vs:=[.agg #[I a1,I a2],.agg #[I b1,I b2],.agg #[I c1,I c2]]) (Λ:=L0) (m':=M0) Rb func359 rfl ai ?_
  exact (Xx a1 a2 b1 b2 c1 c2).trans (by cases cp c1 c2 a1 a2 b1 b2<;>rfl)
 ·cases h
def ΓZ1:Orc:=ah 359 EV ΓRo
theorem qiW:ΓZ1.Ok prog:=ac Rb qeu
theorem XR (i j:Int) (L:List (List Dat)) (own mark:Bool):runG ΓZ1 L0 prog f334 [.row 0,.v (I i),.v (I j)] ⟨[],[],[rP L own mark]⟩ =
 (bif dO L i then (bif dO L j then (bif wI (i+(1:Int))==j then some (.v (Bo (cp (pX L (nx L j)) (pY L (nx L j)) (pX L i) (pY L i) (pX L (nx L i)) (pY L (nx L i))||cp (pX L i) (pY L i) (pX L (nx L i)) (pY L (nx L i)) (pX L (nx L j)) (pY L (nx L j)))),⟨[],[],[.live ⟨162,[.num .i64,.num .i64],L,own,mark⟩]⟩) else (bif (L.length:Int)==(0:Int) then none else (bif (wI (j+(1:Int))).tmod (L.length:Int)==i then some (.v (Bo (cp (pX L (nx L i)) (pY L (nx L i)) (pX L j) (pY L j) (pX L (nx L j)) (pY L (nx L j))||cp (pX L j) (pY L j) (pX L (nx L j)) (pY L (nx L j)) (pX L (nx L i)) (pY L (nx L i)))),⟨[],[],[.live ⟨162,[.num .i64,.num .i64],L,own,mark⟩]⟩) else some (.v (Bo (eK (pX L i) (pY L i) (pX L (nx L i)) (pY L (nx L i)) (pX L j) (pY L j) (pX L (nx L j)) (pY L (nx L j)))),⟨[],[],[.live ⟨162,[.num .i64,.num .i64],L,own,mark⟩]⟩)))) else none) else none):=by kernel_rfl
def ΓPz:Orc:=ΓZ1
theorem IF:ΓPz.Ok prog:=qiW
end Go.Proofs.YtainfdcfkgemhaaGreat
namespace Go.Proofs.YtainfdcfkgemhaaGreat
open Go Go.Proofs Go.Sx
set_option linter.unusedVariables false
def ja (n:Int):Bool:=decide (n< -1073741824)||decide (n>1073741824)
def wo (px py ax ay bx by1:Int):Bool:=bif decide (ay>by1) then decide (by1<=py)&&(decide (ay>py)&&decide (dP bx by1 ax ay px py>0)) else decide (ay<=py)&&(decide (by1>py)&&decide (dP ax ay bx by1 px py>0))
theorem Yx (n:Int):runG ΓPz L0 prog f336 [.v (I n)] M0 =
 (bif decide (n<(-1073741824:Int)) then some (.v (Bo true),M0) else some (.v (Bo (decide (n>(1073741824:Int)))),M0)):=by kernel_rfl
def FQ (vs:List Value):Option (Bool×Value) :=
 match vs with
 | [.int .i64 n]=>some (true,Bo (ja n))
 | _=>none
theorem qfh:am 336 FQ:=by
 intro vs r h
 unfold FQ at h
 split at h
 ·rename_i n
  obtain ⟨h1,rfl⟩:=ab h
  refine ak (vs:=[I n]) (Λ:=L0) (m':=M0) IF func336 rfl ai ?_
  exact (Yx n).trans (by unfold ja;cases decide (n< -1073741824)<;>rfl)
 ·cases h
def ΓPv1:Orc:=ah 336 FQ ΓPz
theorem Rq:ΓPv1.Ok prog:=ac IF qfh
theorem YG (x:Int) (y:Int):runG ΓPv1 L0 prog f299 [.v (.agg #[I x,I y])] M0 =
 (bif ja x then some (.v (Bo true),M0) else some (.v (Bo (ja y)),M0)):=by kernel_rfl
def FY (vs:List Value):Option (Bool×Value) :=
 match vs with
 | [.agg ⟨[.int .i64 x,.int .i64 y]⟩]=>some (true,Bo (ja x||ja y))
 | _=>none
theorem qfn:am 299 FY:=by
 intro vs r h
 unfold FY at h
 split at h
 ·rename_i x y
  obtain ⟨h1,rfl⟩:=ab h
  refine ak (vs:=[.agg #[I x,I y]]) (Λ:=L0) (m':=M0) Rq func299 rfl ai ?_
  exact (YG x y).trans (by cases ja x<;>rfl)
 ·cases h
def ΓPv2:Orc:=ah 299 FY ΓPv1
theorem Rp:ΓPv2.Ok prog:=ac Rq qfn
theorem XJ (x:Int) (y:Int):runG ΓPv2 L0 prog f302 [.v (.agg #[I x,I y])] M0 =
 some (.v (Bo (!plR x y)),M0):=by kernel_rfl
def E9 (vs:List Value):Option (Bool×Value) :=
 match vs with
 | [.agg ⟨[.int .i64 x,.int .i64 y]⟩]=>some (true,Bo (!plR x y))
 | _=>none
theorem qeE:am 302 E9:=by
 intro vs r h
 unfold E9 at h
 split at h
 ·rename_i x y
  obtain ⟨h1,rfl⟩:=ab h
  refine ak (vs:=[.agg #[I x,I y]]) (Λ:=L0) (m':=M0) Rp func302 rfl ai ?_
  exact (XJ x y).trans (rfl)
 ·cases h
def ΓPv3:Orc:=ah 302 E9 ΓPv2
theorem Ro:ΓPv3.Ok prog:=ac Rp qeE
theorem WU (px:Int) (py:Int) (ax:Int) (ay:Int) (bx:Int) (by1:Int):runG ΓPv3 L0 prog f305 [.v (.agg #[I px,I py]),.v (.agg #[I ax,I ay]),.v (.agg #[I bx,I by1])] M0 =
 (bif decide (ay>by1) then (bif decide (by1<=py) then (bif decide (ay>py) then some (.v (Bo (decide (dP bx by1 ax ay px py>(0:Int)))),M0) else some (.v (Bo false),M0)) else some (.v (Bo false),M0)) else (bif decide (ay<=py) then (bif decide (by1>py) then some (.v (Bo (decide (dP ax ay bx by1 px py>(0:Int)))),M0) else some (.v (Bo false),M0)) else some (.v (Bo false),M0))):=by kernel_rfl
def ED (vs:List Value):Option (Bool×Value) :=
 match vs with
 | [.agg ⟨[.int .i64 px,.int .i64 py]⟩,.agg ⟨[.int .i64 ax,.int .i64 ay]⟩,.agg ⟨[.int .i64 bx,.int .i64 by1]⟩]=>some (true,Bo (wo px py ax ay bx by1))
 | _=>none
theorem qeb:am 305 ED:=by
 intro vs r h
 unfold ED at h
 split at h
 ·rename_i px py ax ay bx by1
  obtain ⟨h1,rfl⟩:=ab h
  refine ak (vs:=[.agg #[I px,I py],.agg #[I ax,I ay],.agg #[I bx,I by1]]) (Λ:=L0) (m':=M0) Ro func305 rfl ai ?_
  exact (WU px py ax ay bx by1).trans (by unfold wo;cases decide (ay>by1)<;>cases decide (by1<=py)<;>cases decide (ay>py)<;>cases decide (ay<=py)<;>cases decide (by1>py)<;>rfl)
 ·cases h
def ΓPv4:Orc:=ah 305 ED ΓPv3
theorem qjr:ΓPv4.Ok prog:=ac Ro qeb
def ΓPw:Orc:=ΓPv4
theorem oE:ΓPw.Ok prog:=qjr
def lg:Code:=cH (f335.body.getD .skip) 0
def gq:List Bool:=aE 19 [0,1,7,8]
def j8 (e:Ex):List Bool:=match e with
 | .exit _=>aE 19 []
 | .ret=>aE 19 [4]
 | .normal=>aE 19 [0,1,7,8]
def qP (e:Ex) (st:St):Option (Ex×St):=some (e,aj 0 1 (j8 e) st)
abbrev fV (f:Nat):Value:=.func (.func f) ⟨[]⟩ ⟨[]⟩
theorem K7 (k:Int) (L:List (List Dat)) (own mark:Bool) (n:Nat):au ΓPw prog L0 (aj 0 1 gq) lg (n+1) (mk gq [.row 0,.v (fV 302),.v (I (L.length:Int)),.v (I k)] ⟨[],[],[rP L own mark]⟩) qP =
 (bif decide (k<(L.length:Int)) then (bif decide ((0:Int)<=k)&&decide (k<(L.length:Int)) then (bif !plR (pX L k) (pY L k) then some (.ret,mk (j8 .ret) [.v (I k)] ⟨[],[],[.live ⟨162,[.num .i64,.num .i64],L,own,mark⟩]⟩) else au ΓPw prog L0 (aj 0 1 gq) lg n (mk gq [.row 0,.v (Value.func (Fn.func (302:Nat)) { toList:=[]:Array Value } { toList:=[]:Array Value }),.v (I (L.length:Int)),.v (I (wI (k+(1:Int))))] ⟨[],[],[.live ⟨162,[.num .i64,.num .i64],L,own,mark⟩]⟩) qP) else none) else some ((.exit 0),mk (j8 (.exit 0)) [] ⟨[],[],[.live ⟨162,[.num .i64,.num .i64],L,own,mark⟩]⟩)):=by kernel_rfl
theorem K8 (k:Int) (L:List (List Dat)) (own mark:Bool) (n:Nat):au ΓPw prog L0 (aj 0 1 gq) lg (n+1) (mk gq [.row 0,.v (fV 299),.v (I (L.length:Int)),.v (I k)] ⟨[],[],[rP L own mark]⟩) qP =
 (bif decide (k<(L.length:Int)) then (bif decide ((0:Int)<=k)&&decide (k<(L.length:Int)) then (bif ja (pX L k)||ja (pY L k) then some (.ret,mk (j8 .ret) [.v (I k)] ⟨[],[],[.live ⟨162,[.num .i64,.num .i64],L,own,mark⟩]⟩) else au ΓPw prog L0 (aj 0 1 gq) lg n (mk gq [.row 0,.v (Value.func (Fn.func (299:Nat)) { toList:=[]:Array Value } { toList:=[]:Array Value }),.v (I (L.length:Int)),.v (I (wI (k+(1:Int))))] ⟨[],[],[.live ⟨162,[.num .i64,.num .i64],L,own,mark⟩]⟩) qP) else none) else some ((.exit 0),mk (j8 (.exit 0)) [] ⟨[],[],[.live ⟨162,[.num .i64,.num .i64],L,own,mark⟩]⟩)):=by kernel_rfl
end Go.Proofs.YtainfdcfkgemhaaGreat
namespace Go.Proofs.YtainfdcfkgemhaaGreat
open Go Go.Proofs Go.Sx
set_option linter.unusedVariables false
def bQ (p:Int->Bool):Nat->Int->Int
 | 0,_=>-1
 | m+1,k=>bif p k then k else bQ p m (k+1)
theorem CT {α:Type} (p:Int->Bool) (N:Int) (E:Nat->Int->Option α) (X:Option α) (Y:Int->Option α) (he:∀ n k,¬ k<N->E (n+1) k=X) (hr:∀ n k,0<=k/\k<N->E (n+1) k=bif p k then Y k else E n (k+1)) :
  ∀ (m:Nat) (k:Int),0<=k->k+m=N->E (m+1) k=bif decide (bQ p m k<0) then X else Y (bQ p m k):=by
 intro m
 induction m with
 | zero =>
  intro k h0 h1
  exact he 0 k (by omega)
 | succ m ih =>
  intro k h0 h1
  rw [hr (m+1) k (by omega)]
  show _=bif decide ((bif p k then k else bQ p m (k+1))<0) then X else Y (bif p k then k else bQ p m (k+1))
  cases p k
  ·exact ih (k+1) (by omega) (by omega)
  ·show Y k=bif decide (k<0) then X else Y k
   rw [decide_eq_false (show ¬ k<0 by omega)]
   rfl
theorem CU {p:Int->Bool}:∀ {m:Nat} {k:Int},bQ p m k<0->0<=k->bQ p m k=-1
 | 0,_,_,_=>rfl
 | m+1,k,h,h0=>by
  revert h
  show (bif p k then k else bQ p m (k+1))<0->(bif p k then k else bQ p m (k+1))=-1
  cases p k
  ·exact fun h=>CU (p:=p) h (by omega)
  ·exact fun h=>absurd h (by show ¬ k<0;omega)
def qM (L:List (List Dat)) (own mark:Bool):St:=mk (j8 (.exit 0)) [] ⟨[],[],[rP L own mark]⟩
def qN (k:Int) (L:List (List Dat)) (own mark:Bool):St:=mk (j8 .ret) [.v (I k)] ⟨[],[],[rP L own mark]⟩
def d7 (L:List (List Dat)) (k:Int):Bool:=!plR (pX L k) (pY L k)
def ff (L:List (List Dat)) (k:Int):Bool:=ja (pX L k)||ja (pY L k)
theorem xf:aL (f335.body.getD .skip)=[lg]:=by kernel_rfl
def Sy (n:Nat) (k:Int) (L:List (List Dat)) (own mark:Bool):Option (Ex×St) :=
 au ΓPw prog L0 (aj 0 1 gq) lg n (mk gq [.row 0,.v (fV 302),.v (I (L.length:Int)),.v (I k)] ⟨[],[],[rP L own mark]⟩) qP
theorem qcs (L:List (List Dat)) (own mark:Bool) (hl:L.length<=1000000):Sy (L.length+1) 0 L own mark=bif decide (bQ (d7 L) L.length 0<0) then some (.exit 0,qM L own mark) else some (.ret,qN (bQ (d7 L) L.length 0) L own mark):=by
 refine CT (d7 L) (L.length:Int) (fun n k=>Sy n k L own mark) (some (.exit 0,qM L own mark)) (fun k=>some (.ret,qN k L own mark)) (fun n k hk=>?_) (fun n k hk=>?_) L.length 0 (by decide) (by omega)
 ·refine (K7 k L own mark n).trans ?_
  rw [decide_eq_false hk]
  rfl
 ·refine (K7 k L own mark n).trans ?_
  rw [decide_eq_true hk.1,decide_eq_true hk.2,aC (n:=k+1) (by omega)]
  rfl
def JG (fin:Bool) (vals:List SV) (m:Mem):Option (Bool×Ex×St) :=
 match vals,m with
 | [.row 0,.v (.func (.func 302) ⟨[]⟩ ⟨[]⟩),.v (.int .i64 n),.v (.int .i64 k)],⟨[],[],[.live ⟨162,[.num .i64,.num .i64],L,own,mark⟩]⟩ =>
  bif fin then some (n==(L.length:Int)&&(k==0&&(Nat.ble L.length 1000000&&decide (bQ (d7 L) L.length 0<0))),.exit 0,qM L own mark)
  else some (n==(L.length:Int)&&(k==0&&(Nat.ble L.length 1000000&&!decide (bQ (d7 L) L.length 0<0))),.ret,qN (bQ (d7 L) L.length 0) L own mark)
 | _,_=>none
def ΛIxNpl (fin:Bool):bg:=fun _ st=>dg 0 1 gq (JG fin) st
theorem M5 (fin:Bool) (z:Base) (z1:z.L.length=0) (z2:z.U.length=1):a9 (ΛIxNpl fin) prog z lg:=by
 refine d9 (Λ:=L0) (kx:=j8) oE mixed z1 z2 (fun b hb st t h=>by cases h) (G:=JG fin) (fun _=>rfl) ?_
 intro vals m e st' h
 unfold JG at h
 split at h
 ·rename_i n k L own mark
  have hx:=qcs L own mark
  cases fin
  ·simp only [cond_false] at h
   obtain ⟨h1,rfl,rfl⟩:=an h
   simp only [Bool.and_eq_true,beq_iff_eq,Bool.not_eq_true'] at h1
   obtain ⟨rfl,rfl,hl,hq⟩:=h1
   have:=hx (Nat.le_of_ble_eq_true hl)
   rw [hq] at this
   exact ⟨L.length+1,this⟩
  ·simp only [cond_true] at h
   obtain ⟨h1,rfl,rfl⟩:=an h
   simp only [Bool.and_eq_true,beq_iff_eq] at h1
   obtain ⟨rfl,rfl,hl,hq⟩:=h1
   have:=hx (Nat.le_of_ble_eq_true hl)
   rw [hq] at this
   exact ⟨L.length+1,this⟩
 ·cases h
theorem Yb (L:List (List Dat)) (own mark:Bool):runG ΓPw (ΛIxNpl true) prog f335 [.row 0,.v (fV 302)] ⟨[],[],[rP L own mark]⟩ =
 (bif (L.length:Int)==(L.length:Int)&&(true&&(L.length.ble (1000000)&&decide (bQ (d7 L) L.length (0:Int)<(0:Int)))) then some (.v (I (-1)),⟨[],[],[.live ⟨162,[.num .i64,.num .i64],L,own,mark⟩]⟩) else none):=by kernel_rfl
theorem Yc (L:List (List Dat)) (own mark:Bool):runG ΓPw (ΛIxNpl false) prog f335 [.row 0,.v (fV 302)] ⟨[],[],[rP L own mark]⟩ =
 (bif (L.length:Int)==(L.length:Int)&&(true&&(L.length.ble (1000000)&&!decide (bQ (d7 L) L.length (0:Int)<(0:Int)))) then some (.v (I (bQ (d7 L) L.length (0:Int))),⟨[],[],[.live ⟨162,[.num .i64,.num .i64],L,own,mark⟩]⟩) else none):=by kernel_rfl
def Sz (n:Nat) (k:Int) (L:List (List Dat)) (own mark:Bool):Option (Ex×St) :=
 au ΓPw prog L0 (aj 0 1 gq) lg n (mk gq [.row 0,.v (fV 299),.v (I (L.length:Int)),.v (I k)] ⟨[],[],[rP L own mark]⟩) qP
theorem qct (L:List (List Dat)) (own mark:Bool) (hl:L.length<=1000000):Sz (L.length+1) 0 L own mark=bif decide (bQ (ff L) L.length 0<0) then some (.exit 0,qM L own mark) else some (.ret,qN (bQ (ff L) L.length 0) L own mark):=by
 refine CT (ff L) (L.length:Int) (fun n k=>Sz n k L own mark) (some (.exit 0,qM L own mark)) (fun k=>some (.ret,qN k L own mark)) (fun n k hk=>?_) (fun n k hk=>?_) L.length 0 (by decide) (by omega)
 ·refine (K8 k L own mark n).trans ?_
  rw [decide_eq_false hk]
  rfl
 ·refine (K8 k L own mark n).trans ?_
  rw [decide_eq_true hk.1,decide_eq_true hk.2,aC (n:=k+1) (by omega)]
  rfl
def JH (fin:Bool) (vals:List SV) (m:Mem):Option (Bool×Ex×St) :=
 match vals,m with
 | [.row 0,.v (.func (.func 299) ⟨[]⟩ ⟨[]⟩),.v (.int .i64 n),.v (.int .i64 k)],⟨[],[],[.live ⟨162,[.num .i64,.num .i64],L,own,mark⟩]⟩ =>
  bif fin then some (n==(L.length:Int)&&(k==0&&(Nat.ble L.length 1000000&&decide (bQ (ff L) L.length 0<0))),.exit 0,qM L own mark)
  else some (n==(L.length:Int)&&(k==0&&(Nat.ble L.length 1000000&&!decide (bQ (ff L) L.length 0<0))),.ret,qN (bQ (ff L) L.length 0) L own mark)
 | _,_=>none
def ΛIxFar (fin:Bool):bg:=fun _ st=>dg 0 1 gq (JH fin) st
theorem M6 (fin:Bool) (z:Base) (z1:z.L.length=0) (z2:z.U.length=1):a9 (ΛIxFar fin) prog z lg:=by
 refine d9 (Λ:=L0) (kx:=j8) oE mixed z1 z2 (fun b hb st t h=>by cases h) (G:=JH fin) (fun _=>rfl) ?_
 intro vals m e st' h
 unfold JH at h
 split at h
 ·rename_i n k L own mark
  have hx:=qct L own mark
  cases fin
  ·simp only [cond_false] at h
   obtain ⟨h1,rfl,rfl⟩:=an h
   simp only [Bool.and_eq_true,beq_iff_eq,Bool.not_eq_true'] at h1
   obtain ⟨rfl,rfl,hl,hq⟩:=h1
   have:=hx (Nat.le_of_ble_eq_true hl)
   rw [hq] at this
   exact ⟨L.length+1,this⟩
  ·simp only [cond_true] at h
   obtain ⟨h1,rfl,rfl⟩:=an h
   simp only [Bool.and_eq_true,beq_iff_eq] at h1
   obtain ⟨rfl,rfl,hl,hq⟩:=h1
   have:=hx (Nat.le_of_ble_eq_true hl)
   rw [hq] at this
   exact ⟨L.length+1,this⟩
 ·cases h
theorem Yd (L:List (List Dat)) (own mark:Bool):runG ΓPw (ΛIxFar true) prog f335 [.row 0,.v (fV 299)] ⟨[],[],[rP L own mark]⟩ =
 (bif (L.length:Int)==(L.length:Int)&&(true&&(L.length.ble (1000000)&&decide (bQ (ff L) L.length (0:Int)<(0:Int)))) then some (.v (I (-1)),⟨[],[],[.live ⟨162,[.num .i64,.num .i64],L,own,mark⟩]⟩) else none):=by kernel_rfl
theorem Ye (L:List (List Dat)) (own mark:Bool):runG ΓPw (ΛIxFar false) prog f335 [.row 0,.v (fV 299)] ⟨[],[],[rP L own mark]⟩ =
 (bif (L.length:Int)==(L.length:Int)&&(true&&(L.length.ble (1000000)&&!decide (bQ (ff L) L.length (0:Int)<(0:Int)))) then some (.v (I (bQ (ff L) L.length (0:Int))),⟨[],[],[.live ⟨162,[.num .i64,.num .i64],L,own,mark⟩]⟩) else none):=by kernel_rfl
def Fy (xs:List SV) (m:Mem):Option (Bool×Value) :=
 match xs,m with
 | [.row 0,.v (.func (.func 302) ⟨[]⟩ ⟨[]⟩)],⟨[],[],[.live ⟨162,[.num .i64,.num .i64],L,own,mark⟩]⟩=>some (Nat.ble L.length 1000000,I (bQ (d7 L) L.length 0))
 | _,_=>none
theorem qe2:bi 335 Fy:=by
 intro xs m r h
 unfold Fy at h
 split at h
 ·rename_i L own mark
  obtain ⟨h1,rfl⟩:=ab h
  cases hq:decide (bQ (d7 L) L.length 0<0)
  ·refine af (Λ:=ΛIxNpl false) oE func335 rfl (fun z z1 z2=>bX xf (M5 false z z1 z2)) ?_
   refine (Yc L own mark).trans ?_
   rw [h1,hq,beq_self_eq_true]
   rfl
  ·refine af (Λ:=ΛIxNpl true) oE func335 rfl (fun z z1 z2=>bX xf (M5 true z z1 z2)) ?_
   refine (Yb L own mark).trans ?_
   rw [h1,hq,beq_self_eq_true,CU (of_decide_eq_true hq) (by decide)]
   rfl
 ·cases h
def Fz (xs:List SV) (m:Mem):Option (Bool×Value) :=
 match xs,m with
 | [.row 0,.v (.func (.func 299) ⟨[]⟩ ⟨[]⟩)],⟨[],[],[.live ⟨162,[.num .i64,.num .i64],L,own,mark⟩]⟩=>some (Nat.ble L.length 1000000,I (bQ (ff L) L.length 0))
 | _,_=>none
theorem qe3:bi 335 Fz:=by
 intro xs m r h
 unfold Fz at h
 split at h
 ·rename_i L own mark
  obtain ⟨h1,rfl⟩:=ab h
  cases hq:decide (bQ (ff L) L.length 0<0)
  ·refine af (Λ:=ΛIxFar false) oE func335 rfl (fun z z1 z2=>bX xf (M6 false z z1 z2)) ?_
   refine (Ye L own mark).trans ?_
   rw [h1,hq,beq_self_eq_true]
   rfl
  ·refine af (Λ:=ΛIxFar true) oE func335 rfl (fun z z1 z2=>bX xf (M6 true z z1 z2)) ?_
   refine (Yd L own mark).trans ?_
   rw [h1,hq,beq_self_eq_true,CU (of_decide_eq_true hq) (by decide)]
   rfl
 ·cases h
def ΓIy1:Orc:=aQ 335 Fy ΓPw
theorem qjR:ΓIy1.Ok prog:=aJ oE qe2
def ΓIy:Orc:=aQ 335 Fz ΓIy1
theorem IV:ΓIy.Ok prog:=aJ qjR qe3
theorem Ze (L:List (List Dat)) (own mark:Bool):runG ΓIy L0 prog f298 [.row 0,.v (fV 302)] ⟨[],[],[rP L own mark]⟩ =
 (bif L.length.ble (1000000) then some (.v (Bo (decide (bQ (d7 L) L.length (0:Int)>=(0:Int)))),⟨[],[],[.live ⟨162,[.num .i64,.num .i64],L,own,mark⟩]⟩) else none):=by kernel_rfl
theorem Zf (L:List (List Dat)) (own mark:Bool):runG ΓIy L0 prog f298 [.row 0,.v (fV 299)] ⟨[],[],[rP L own mark]⟩ =
 (bif L.length.ble (1000000) then some (.v (Bo (decide (bQ (ff L) L.length (0:Int)>=(0:Int)))),⟨[],[],[.live ⟨162,[.num .i64,.num .i64],L,own,mark⟩]⟩) else none):=by kernel_rfl
end Go.Proofs.YtainfdcfkgemhaaGreat
namespace Go.Proofs.YtainfdcfkgemhaaGreat
open Go Go.Proofs Go.Sx
set_option linter.unusedVariables false
def li (p:Int->Bool) (m:Nat):Bool:=decide (bQ p m 0>=0)
def Gu (xs:List SV) (m:Mem):Option (Bool×Value) :=
 match xs,m with
 | [.row 0,.v (.func (.func 302) ⟨[]⟩ ⟨[]⟩)],⟨[],[],[.live ⟨162,[.num .i64,.num .i64],L,own,mark⟩]⟩=>some (Nat.ble L.length 1000000,Bo (li (d7 L) L.length))
 | _,_=>none
theorem qfT:bi 298 Gu:=by
 intro xs m r h
 unfold Gu at h
 split at h
 ·rename_i L own mark
  obtain ⟨h1,rfl⟩:=ab h
  refine af (Λ:=L0) IV func298 rfl ai ?_
  refine (Ze L own mark).trans ?_
  rw [h1]
  rfl
 ·cases h
def Gv (xs:List SV) (m:Mem):Option (Bool×Value) :=
 match xs,m with
 | [.row 0,.v (.func (.func 299) ⟨[]⟩ ⟨[]⟩)],⟨[],[],[.live ⟨162,[.num .i64,.num .i64],L,own,mark⟩]⟩=>some (Nat.ble L.length 1000000,Bo (li (ff L) L.length))
 | _,_=>none
theorem qfU:bi 298 Gv:=by
 intro xs m r h
 unfold Gv at h
 split at h
 ·rename_i L own mark
  obtain ⟨h1,rfl⟩:=ab h
  refine af (Λ:=L0) IV func298 rfl ai ?_
  refine (Zf L own mark).trans ?_
  rw [h1]
  rfl
 ·cases h
def ΓSi1:Orc:=aQ 298 Gu ΓIy
theorem qi8:ΓSi1.Ok prog:=aJ IV qfT
def ΓSi2:Orc:=aQ 298 Gv ΓSi1
theorem qi7:ΓSi2.Ok prog:=aJ qi8 qfU
def se (L:List (List Dat)) (i j:Int):Bool :=
 bif wI (i+1)==j then cp (pX L (nx L j)) (pY L (nx L j)) (pX L i) (pY L i) (pX L (nx L i)) (pY L (nx L i))||cp (pX L i) (pY L i) (pX L (nx L i)) (pY L (nx L i)) (pX L (nx L j)) (pY L (nx L j))
 else bif nx L j==i then cp (pX L (nx L i)) (pY L (nx L i)) (pX L j) (pY L j) (pX L (nx L j)) (pY L (nx L j))||cp (pX L j) (pY L j) (pX L (nx L j)) (pY L (nx L j)) (pX L (nx L i)) (pY L (nx L i))
 else eK (pX L i) (pY L i) (pX L (nx L i)) (pY L (nx L i)) (pX L j) (pY L j) (pX L (nx L j)) (pY L (nx L j))
def Fg (xs:List SV) (m:Mem):Option (Bool×Value) :=
 match xs,m with
 | [.row 0,.v (.int .i64 i),.v (.int .i64 j)],⟨[],[],[.live ⟨162,[.num .i64,.num .i64],L,own,mark⟩]⟩=>some (dO L i&&dO L j,Bo (se L i j))
 | _,_=>none
theorem qeL:bi 334 Fg:=by
 intro xs m r h
 unfold Fg at h
 split at h
 ·rename_i i j L own mark
  obtain ⟨h1,rfl⟩:=ab h
  rw [Bool.and_eq_true] at h1
  refine af (Λ:=L0) IF func334 rfl ai ?_
  refine (XR i j L own mark).trans ?_
  have a:=lh.1 h1.1
  rw [h1.1,h1.2,beq_eq_false_iff_ne.2 (show (L.length:Int)≠0 by omega)]
  unfold se nx
  cases wI (i+1)==j<;>cases (wI (j+1)).tmod (L.length:Int)==i<;>rfl
 ·cases h
def ΓSi:Orc:=aQ 334 Fg ΓSi2
theorem uw:ΓSi.Ok prog:=aJ qi7 qeL
def iC:Code:=cH (f297.body.getD .skip) 0
def ua:Code:=cH iC 0
def nG:List Bool:=aE 43 [0,3,18,19,22,23]
def mV (e:Ex):List Bool:=match e with
 | .exit _=>aE 43 [0,18,19]
 | .ret=>aE 43 [2]
 | .normal=>aE 43 [0,3,18,19,22,23]
def Jc (e:Ex) (st:St):Option (Ex×St):=some (e,aj 0 1 (mV e) st)
theorem KV (j nn k b i:Int) (L:List (List Dat)) (own mark:Bool) (n:Nat):au ΓSi prog L0 (aj 0 1 nG) ua (n+1) (mk nG [.row 0,.v (I j),.v (I nn),.v (I k),.v (I b),.v (I i)] ⟨[],[],[rP L own mark]⟩) Jc =
 (bif decide (i<b) then (bif decide ((0:Int)<=i)&&decide (i<(L.length:Int)) then (bif decide ((0:Int)<=j)&&decide (j<(L.length:Int)) then (bif ((L.getD i.toNat []).headD (Dat.n (0:Int))).toI==((L.getD j.toNat []).headD (Dat.n (0:Int))).toI&&(((L.getD i.toNat []).tail.headD (Dat.n (0:Int))).toI==((L.getD j.toNat []).tail.headD (Dat.n (0:Int))).toI&&true) then some (.ret,mk (mV .ret) [.v (Bo false)] ⟨[],[],[.live ⟨162,[.num .i64,.num .i64],L,own,mark⟩]⟩) else (bif dO L i&&dO L j then (bif se L i j then some (.ret,mk (mV .ret) [.v (Bo false)] ⟨[],[],[.live ⟨162,[.num .i64,.num .i64],L,own,mark⟩]⟩) else au ΓSi prog L0 (aj 0 1 nG) ua n (mk nG [.row 0,.v (I j),.v (I nn),.v (I k),.v (I b),.v (I (wI (i+(1:Int))))] ⟨[],[],[.live ⟨162,[.num .i64,.num .i64],L,own,mark⟩]⟩) Jc) else none)) else none) else none) else some ((.exit 2),mk (mV (.exit 2)) [.row 0,.v (I nn),.v (I k)] ⟨[],[],[.live ⟨162,[.num .i64,.num .i64],L,own,mark⟩]⟩)):=by kernel_rfl
def y7 (L:List (List Dat)) (i j:Int):Bool:=((L.getD i.toNat []).headD (Dat.n (0:Int))).toI==((L.getD j.toNat []).headD (Dat.n (0:Int))).toI&&(((L.getD i.toNat []).tail.headD (Dat.n (0:Int))).toI==((L.getD j.toNat []).tail.headD (Dat.n (0:Int))).toI&&true)
def HQ (L:List (List Dat)) (j i:Int):Bool:=y7 L i j||se L i j
def okJ (L:List (List Dat)) (j:Int):Bool:=decide (bQ (HQ L j) j.toNat 0<0)
theorem qcH {α:Type} (p:Int->Bool) (N:Int) (E:Nat->Int->Option α) (X:Option α) (Y:Int->Option α) (he:∀ n k,¬ k<N->E (n+1) k=X) (hr:∀ (n:Nat) k,0<=k/\k<N->k+n=N->E (n+1) k=bif p k then Y k else E n (k+1)) :
  ∀ (m:Nat) (k:Int),0<=k->k+m=N->E (m+1) k=bif decide (bQ p m k<0) then X else Y (bQ p m k):=by
 intro m
 induction m with
 | zero =>
  intro k h0 h1
  exact he 0 k (by omega)
 | succ m ih =>
  intro k h0 h1
  rw [hr (m+1) k (by omega) h1]
  show _=bif decide ((bif p k then k else bQ p m (k+1))<0) then X else Y (bif p k then k else bQ p m (k+1))
  cases p k
  ·exact ih (k+1) (by omega) (by omega)
  ·show Y k=bif decide (k<0) then X else Y k
   rw [decide_eq_false (show ¬ k<0 by omega)]
   rfl
def Su (n:Nat) (j nn k b i:Int) (L:List (List Dat)) (own mark:Bool):Option (Ex×St) :=
 au ΓSi prog L0 (aj 0 1 nG) ua n (mk nG [.row 0,.v (I j),.v (I nn),.v (I k),.v (I b),.v (I i)] ⟨[],[],[rP L own mark]⟩) Jc
def H5 (nn k:Int) (L:List (List Dat)) (own mark:Bool):St:=mk (mV (.exit 2)) [.row 0,.v (I nn),.v (I k)] ⟨[],[],[rP L own mark]⟩
def Ia (L:List (List Dat)) (own mark:Bool):St:=mk (mV .ret) [.v (Bo false)] ⟨[],[],[rP L own mark]⟩
theorem MZ (j nn k:Int) (L:List (List Dat)) (own mark:Bool) (hj:dO L j=true):Su (j.toNat+1) j nn k j 0 L own mark=bif okJ L j then some (.exit 2,H5 nn k L own mark) else some (.ret,Ia L own mark):=by
 have a:=lh.1 hj
 refine CT (HQ L j) j (fun n i=>Su n j nn k j i L own mark) (some (.exit 2,H5 nn k L own mark)) (fun i=>some (.ret,Ia L own mark)) (fun n i hi=>?_) (fun n i hi=>?_) j.toNat 0 (by decide) (by omega)
 ·refine (KV j nn k j i L own mark n).trans ?_
  rw [decide_eq_false hi]
  rfl
 ·refine (KV j nn k j i L own mark n).trans ?_
  have b:dO L i=true:=lh.2 (by omega)
  rw [decide_eq_true hi.1,decide_eq_true hi.2,decide_eq_true a.1,decide_eq_true a.2.1,decide_eq_true (show i<(L.length:Int) by omega),hj,b,aC (n:=i+1) (by omega)]
  show (bif y7 L i j then _ else _)=_
  unfold HQ
  cases y7 L i j
  ·cases se L i j<;>rfl
  ·rfl
def Jv (fin:Bool) (vals:List SV) (m:Mem):Option (Bool×Ex×St) :=
 match vals,m with
 | [.row 0,.v (.int .i64 j),.v (.int .i64 nn),.v (.int .i64 k),.v (.int .i64 b),.v (.int .i64 i)],⟨[],[],[.live ⟨162,[.num .i64,.num .i64],L,own,mark⟩]⟩ =>
  bif fin then some (b==j&&(i==0&&(dO L j&&okJ L j)),.exit 2,H5 nn k L own mark)
  else some (b==j&&(i==0&&(dO L j&&!okJ L j)),.ret,Ia L own mark)
 | _,_=>none
def ΛS1 (fin:Bool):bg:=fun _ st=>dg 0 1 nG (Jv fin) st
theorem qca (fin:Bool) (z:Base) (z1:z.L.length=0) (z2:z.U.length=1):a9 (ΛS1 fin) prog z ua:=by
 refine d9 (Λ:=L0) (kx:=mV) uw mixed z1 z2 (fun b hb st t h=>by cases h) (G:=Jv fin) (fun _=>rfl) ?_
 intro vals m e st' h
 unfold Jv at h
 split at h
 ·rename_i j nn k b i L own mark
  cases fin
  ·simp only [cond_false] at h
   obtain ⟨h1,rfl,rfl⟩:=an h
   simp only [Bool.and_eq_true,beq_iff_eq,Bool.not_eq_true'] at h1
   obtain ⟨rfl,rfl,hj,hq⟩:=h1
   have:=MZ b nn k L own mark hj
   rw [hq] at this
   exact ⟨b.toNat+1,this⟩
  ·simp only [cond_true] at h
   obtain ⟨h1,rfl,rfl⟩:=an h
   simp only [Bool.and_eq_true,beq_iff_eq] at h1
   obtain ⟨rfl,rfl,hj,hq⟩:=h1
   have:=MZ b nn k L own mark hj
   rw [hq] at this
   exact ⟨b.toNat+1,this⟩
 ·cases h
theorem MX:aL (f297.body.getD .skip)=[iC]:=by kernel_rfl
theorem qbt:aL iC=[ua]:=by kernel_rfl
def iv:List Bool:=aE 43 [0,18,19]
def mW (e:Ex):List Bool:=match e with
 | .exit _=>aE 43 []
 | .ret=>aE 43 [2]
 | .normal=>aE 43 [0,18,19]
def oG (e:Ex) (st:St):Option (Ex×St):=some (e,aj 0 1 (mW e) st)
theorem KW (nn k:Int) (L:List (List Dat)) (own mark:Bool) (nx:St->Option (Ex×St)):nZ ΓSi prog (ΛS1 true) (aj 0 1 iv) iC (mk iv [.row 0,.v (I nn),.v (I k)] ⟨[],[],[rP L own mark]⟩) nx oG =
 (bif decide (k<nn) then (bif k==k&&(true&&(dO L k&&okJ L k)) then nx (mk iv [.row 0,.v (I nn),.v (I (wI (k+(1:Int))))] ⟨[],[],[.live ⟨162,[.num .i64,.num .i64],L,own,mark⟩]⟩) else none) else some ((.exit 0),mk (mW (.exit 0)) [] ⟨[],[],[.live ⟨162,[.num .i64,.num .i64],L,own,mark⟩]⟩)):=by kernel_rfl
theorem KX (nn k:Int) (L:List (List Dat)) (own mark:Bool) (nx:St->Option (Ex×St)):nZ ΓSi prog (ΛS1 false) (aj 0 1 iv) iC (mk iv [.row 0,.v (I nn),.v (I k)] ⟨[],[],[rP L own mark]⟩) nx oG =
 (bif decide (k<nn) then (bif k==k&&(true&&(dO L k&&!okJ L k)) then some (.ret,mk (mW .ret) [.v (Bo false)] ⟨[],[],[.live ⟨162,[.num .i64,.num .i64],L,own,mark⟩]⟩) else none) else some ((.exit 0),mk (mW (.exit 0)) [] ⟨[],[],[.live ⟨162,[.num .i64,.num .i64],L,own,mark⟩]⟩)):=by kernel_rfl
def ΛsS (L:List (List Dat)) (n:Nat):bg:=ΛS1 (okJ L ((L.length:Int) - n))
def JS (n:Nat) (k:Int) (L:List (List Dat)) (own mark:Bool):Option (Ex×St) :=
 kV ΓSi prog (ΛsS L) (aj 0 1 iv) iC n (mk iv [.row 0,.v (I (L.length:Int)),.v (I k)] ⟨[],[],[rP L own mark]⟩) oG
def H6 (L:List (List Dat)) (own mark:Bool):St:=mk (mW (.exit 0)) [] ⟨[],[],[rP L own mark]⟩
def zL (L:List (List Dat)) (own mark:Bool):St:=mk (mW .ret) [.v (Bo false)] ⟨[],[],[rP L own mark]⟩
def oz (L:List (List Dat)):Bool:=decide (bQ (fun j=>!okJ L j) L.length 0<0)
theorem qbY (L:List (List Dat)) (own mark:Bool) (hl:L.length<=1000000):JS (L.length+1) 0 L own mark=bif oz L then some (.exit 0,H6 L own mark) else some (.ret,zL L own mark):=by
 refine qcH (fun j=>!okJ L j) (L.length:Int) (fun n k=>JS n k L own mark) (some (.exit 0,H6 L own mark)) (fun i=>some (.ret,zL L own mark)) (fun n k hk=>?_) (fun n k hk hn=>?_) L.length 0 (by decide) (by omega)
 ·show nZ ΓSi prog (ΛsS L n) (aj 0 1 iv) iC _ (fun st'=>kV ΓSi prog (ΛsS L) (aj 0 1 iv) iC n st' oG) oG=_
  unfold ΛsS
  cases okJ L ((L.length:Int) - n)
  ·refine (KX (L.length:Int) k L own mark _).trans ?_
   rw [decide_eq_false hk]
   rfl
  ·refine (KW (L.length:Int) k L own mark _).trans ?_
   rw [decide_eq_false hk]
   rfl
 ·have e:(L.length:Int) - n=k:=by omega
  have a:dO L k=true:=lh.2 (by omega)
  show nZ ΓSi prog (ΛS1 (okJ L ((L.length:Int) - n))) (aj 0 1 iv) iC _ (fun st'=>kV ΓSi prog (ΛsS L) (aj 0 1 iv) iC n st' oG) oG=bif !okJ L k then some (.ret,zL L own mark) else JS n (k+1) L own mark
  rw [e]
  cases hq:okJ L k
  ·refine (KX (L.length:Int) k L own mark _).trans ?_
   rw [decide_eq_true hk.2,beq_self_eq_true,a,hq]
   rfl
  ·refine (KW (L.length:Int) k L own mark _).trans ?_
   rw [decide_eq_true hk.2,beq_self_eq_true,a,hq,aC (n:=k+1) (by omega)]
   rfl
def Jw (fin:Bool) (vals:List SV) (m:Mem):Option (Bool×Ex×St) :=
 match vals,m with
 | [.row 0,.v (.int .i64 nn),.v (.int .i64 k)],⟨[],[],[.live ⟨162,[.num .i64,.num .i64],L,own,mark⟩]⟩ =>
  bif fin then some (nn==(L.length:Int)&&(k==0&&(Nat.ble L.length 1000000&&oz L)),.exit 0,H6 L own mark)
  else some (nn==(L.length:Int)&&(k==0&&(Nat.ble L.length 1000000&&!oz L)),.ret,zL L own mark)
 | _,_=>none
def ΛS0 (fin:Bool):bg:=fun _ st=>dg 0 1 iv (Jw fin) st
theorem M3 (fin:Bool) (z:Base) (z1:z.L.length=0) (z2:z.U.length=1):a9 (ΛS0 fin) prog z iC:=by
 refine qbU (kx:=mW) uw mixed z1 z2 (G:=Jw fin) (fun _=>rfl) ?_
 intro vals m e st' h
 unfold Jw at h
 split at h
 ·rename_i nn k L own mark
  have hx:=qbY L own mark
  have hΛ:∀ n,∀ b∈aL iC,a9 (ΛsS L n) prog z b:=fun n=>bX qbt (qca _ z z1 z2)
  cases fin
  ·simp only [cond_false] at h
   obtain ⟨h1,rfl,rfl⟩:=an h
   simp only [Bool.and_eq_true,beq_iff_eq,Bool.not_eq_true'] at h1
   obtain ⟨rfl,rfl,hl,hq⟩:=h1
   have:=hx (Nat.le_of_ble_eq_true hl)
   rw [hq] at this
   exact ⟨ΛsS L,hΛ,L.length+1,this⟩
  ·simp only [cond_true] at h
   obtain ⟨h1,rfl,rfl⟩:=an h
   simp only [Bool.and_eq_true,beq_iff_eq] at h1
   obtain ⟨rfl,rfl,hl,hq⟩:=h1
   have:=hx (Nat.le_of_ble_eq_true hl)
   rw [hq] at this
   exact ⟨ΛsS L,hΛ,L.length+1,this⟩
 ·cases h
theorem V9 (L:List (List Dat)) (own mark:Bool):runG ΓSi (ΛS0 true) prog f297 [.row 0] ⟨[],[],[rP L own mark]⟩ =
 (bif decide ((L.length:Int)<(3:Int)) then some (.v (Bo false),⟨[],[],[.live ⟨162,[.num .i64,.num .i64],L,own,mark⟩]⟩) else (bif decide ((L.length:Int)>(8:Int)) then some (.v (Bo false),⟨[],[],[.live ⟨162,[.num .i64,.num .i64],L,own,mark⟩]⟩) else (bif L.length.ble (1000000) then (bif li (d7 L) L.length then some (.v (Bo false),⟨[],[],[.live ⟨162,[.num .i64,.num .i64],L,own,mark⟩]⟩) else (bif (L.length:Int)==(L.length:Int)&&(true&&(L.length.ble (1000000)&&oz L)) then some (.v (Bo true),⟨[],[],[.live ⟨162,[.num .i64,.num .i64],L,own,mark⟩]⟩) else none)) else none))):=by kernel_rfl
theorem Wa (L:List (List Dat)) (own mark:Bool):runG ΓSi (ΛS0 false) prog f297 [.row 0] ⟨[],[],[rP L own mark]⟩ =
 (bif decide ((L.length:Int)<(3:Int)) then some (.v (Bo false),⟨[],[],[.live ⟨162,[.num .i64,.num .i64],L,own,mark⟩]⟩) else (bif decide ((L.length:Int)>(8:Int)) then some (.v (Bo false),⟨[],[],[.live ⟨162,[.num .i64,.num .i64],L,own,mark⟩]⟩) else (bif L.length.ble (1000000) then (bif li (d7 L) L.length then some (.v (Bo false),⟨[],[],[.live ⟨162,[.num .i64,.num .i64],L,own,mark⟩]⟩) else (bif (L.length:Int)==(L.length:Int)&&(true&&(L.length.ble (1000000)&&!oz L)) then some (.v (Bo false),⟨[],[],[.live ⟨162,[.num .i64,.num .i64],L,own,mark⟩]⟩) else none)) else none))):=by kernel_rfl
def pf (L:List (List Dat)):Bool:=bif decide ((L.length:Int)<3) then false else bif decide ((L.length:Int)>8) then false else bif li (d7 L) L.length then false else oz L
def D7 (xs:List SV) (m:Mem):Option (Bool×Value) :=
 match xs,m with
 | [.row 0],⟨[],[],[.live ⟨162,[.num .i64,.num .i64],L,own,mark⟩]⟩=>some (Nat.ble L.length 1000000,Bo (pf L))
 | _,_=>none
theorem qdO:bi 297 D7:=by
 intro xs m r h
 unfold D7 at h
 split at h
 ·rename_i L own mark
  obtain ⟨h1,rfl⟩:=ab h
  cases hq:oz L
  ·refine af (Λ:=ΛS0 false) uw func297 rfl (fun z z1 z2=>bX MX (M3 false z z1 z2)) ?_
   refine (Wa L own mark).trans ?_
   rw [h1,hq,beq_self_eq_true]
   unfold pf
   rw [hq]
   cases decide ((L.length:Int)<3)<;>cases decide ((L.length:Int)>8)<;>cases li (d7 L) L.length<;>rfl
  ·refine af (Λ:=ΛS0 true) uw func297 rfl (fun z z1 z2=>bX MX (M3 true z z1 z2)) ?_
   refine (V9 L own mark).trans ?_
   rw [h1,hq,beq_self_eq_true]
   unfold pf
   rw [hq]
   cases decide ((L.length:Int)<3)<;>cases decide ((L.length:Int)>8)<;>cases li (d7 L) L.length<;>rfl
 ·cases h
def ΓSj:Orc:=aQ 297 D7 ΓSi
theorem Q7:ΓSj.Ok prog:=aJ uw qdO
theorem ZK (L:List (List Dat)) (own mark:Bool):runG ΓSj L0 prog f238 [.row 0] ⟨[],[],[rP L own mark]⟩ =
 (bif L.length.ble (1000000) then (bif pf L then (bif L.length.ble (1000000) then some (.v (Bo (!li (ff L) L.length)),⟨[],[],[.live ⟨162,[.num .i64,.num .i64],L,own,mark⟩]⟩) else none) else some (.v (Bo false),⟨[],[],[.live ⟨162,[.num .i64,.num .i64],L,own,mark⟩]⟩)) else none):=by kernel_rfl
def gY (L:List (List Dat)):Bool:=pf L&&!li (ff L) L.length
def GR (xs:List SV) (m:Mem):Option (Bool×Value) :=
 match xs,m with
 | [.row 0],⟨[],[],[.live ⟨162,[.num .i64,.num .i64],L,own,mark⟩]⟩=>some (Nat.ble L.length 1000000,Bo (gY L))
 | _,_=>none
theorem qge:bi 238 GR:=by
 intro xs m r h
 unfold GR at h
 split at h
 ·rename_i L own mark
  obtain ⟨h1,rfl⟩:=ab h
  refine af (Λ:=L0) Q7 func238 rfl ai ?_
  refine (ZK L own mark).trans ?_
  rw [h1]
  unfold gY
  cases pf L<;>rfl
 ·cases h
def ΓAr:Orc:=aQ 238 GR ΓSj
theorem Ad:ΓAr.Ok prog:=aJ Q7 qge
end Go.Proofs.YtainfdcfkgemhaaGreat
namespace Go.Proofs.YtainfdcfkgemhaaGreat
open Go Go.Proofs Go.Sx
set_option linter.unusedVariables false
def qE:Code:=cH (f241.body.getD .skip) 0
def kG:List Bool:=aE 39 [0,3,5,17,18]
def oL (e:Ex):List Bool:=match e with
 | .exit _=>aE 39 [5]
 | .ret=>aE 39 [4]
 | .normal=>aE 39 [0,3,5,17,18]
def Af (e:Ex) (st:St):Option (Ex×St):=some (e,aj 0 1 (oL e) st)
def Sn (px py:Int) (L:List (List Dat)) (own mark:Bool):Mem:=⟨[[.v (I px),.v (I py)]],[true],[rP L own mark]⟩
theorem KU (px py s nn k:Int) (L:List (List Dat)) (own mark:Bool) (n:Nat):au ΓAr prog L0 (aj 0 1 kG) qE (n+1) (mk kG [.row 0,.ptr 0 0,.v (I s),.v (I nn),.v (I k)] (Sn px py L own mark)) Af =
 (bif decide (k<nn) then (bif dO L k then (bif cp px py (pX L k) (pY L k) (pX L (nx L k)) (pY L (nx L k)) then some (.ret,mk (oL .ret) [.v (I 0)] ⟨[],[],[.live ⟨162,[.num .i64,.num .i64],L,own,mark⟩]⟩) else (bif wo px py (pX L k) (pY L k) (pX L (nx L k)) (pY L (nx L k)) then au ΓAr prog L0 (aj 0 1 kG) qE n (mk kG [.row 0,.ptr 0 0,.v (I (wI ((0:Int) - s))),.v (I nn),.v (I (wI (k+(1:Int))))] ⟨[[.v (I px),.v (I py)]],[true],[.live ⟨162,[.num .i64,.num .i64],L,own,mark⟩]⟩) Af else au ΓAr prog L0 (aj 0 1 kG) qE n (mk kG [.row 0,.ptr 0 0,.v (I s),.v (I nn),.v (I (wI (k+(1:Int))))] ⟨[[.v (I px),.v (I py)]],[true],[.live ⟨162,[.num .i64,.num .i64],L,own,mark⟩]⟩) Af)) else none) else some ((.exit 0),mk (oL (.exit 0)) [.v (I s)] ⟨[],[],[.live ⟨162,[.num .i64,.num .i64],L,own,mark⟩]⟩)):=by kernel_rfl
def xG (px py:Int) (L:List (List Dat)) (k:Int):Bool:=cp px py (pX L k) (pY L k) (pX L (nx L k)) (pY L (nx L k))
def ni (px py:Int) (L:List (List Dat)) (k:Int):Bool:=wo px py (pX L k) (pY L k) (pX L (nx L k)) (pY L (nx L k))
def ng (r:Int->Bool):Nat->Int->Int->Int
 | 0,_,s=>s
 | m+1,k,s=>ng r m (k+1) (bif r k then -s else s)
theorem UB {α:Type} (p r:Int->Bool) (N:Int) (E:Nat->Int->Int->Option α) (X:Int->Option α) (Y:Option α) (he:∀ n k s,¬ k<N->E (n+1) k s=X s) (hr:∀ n k s,0<=k/\k<N->(s=1\/s=-1)->E (n+1) k s=bif p k then Y else E n (k+1) (bif r k then -s else s)) :
  ∀ (m:Nat) (k s:Int),0<=k->k+m=N->(s=1\/s=-1)->E (m+1) k s=bif decide (bQ p m k<0) then X (ng r m k s) else Y:=by
 intro m
 induction m with
 | zero =>
  intro k s h0 h1 hs
  exact he 0 k s (by omega)
 | succ m ih =>
  intro k s h0 h1 hs
  rw [hr (m+1) k s (by omega) hs]
  show _=bif decide ((bif p k then k else bQ p m (k+1))<0) then X (ng r m (k+1) (bif r k then -s else s)) else Y
  cases p k
  ·refine ih (k+1) _ (by omega) (by omega) ?_
   cases r k
   ·exact hs
   ·show -s=1\/-s=-1
    omega
  ·show Y=bif decide (k<0) then X _ else Y
   rw [decide_eq_false (show ¬ k<0 by omega)]
   rfl
def Ss (n:Nat) (k s px py:Int) (L:List (List Dat)) (own mark:Bool):Option (Ex×St) :=
 au ΓAr prog L0 (aj 0 1 kG) qE n (mk kG [.row 0,.ptr 0 0,.v (I s),.v (I (L.length:Int)),.v (I k)] (Sn px py L own mark)) Af
def H4 (s:Int) (L:List (List Dat)) (own mark:Bool):St:=mk (oL (.exit 0)) [.v (I s)] ⟨[],[],[rP L own mark]⟩
def H9 (L:List (List Dat)) (own mark:Bool):St:=mk (oL .ret) [.v (I 0)] ⟨[],[],[rP L own mark]⟩
def nv (px py:Int) (L:List (List Dat)):Bool:=decide (bQ (xG px py L) L.length 0<0)
theorem qbX (px py:Int) (L:List (List Dat)) (own mark:Bool) (hl:L.length<=1000000):Ss (L.length+1) 0 (-1) px py L own mark=bif nv px py L then some (.exit 0,H4 (ng (ni px py L) L.length 0 (-1)) L own mark) else some (.ret,H9 L own mark):=by
 refine UB (xG px py L) (ni px py L) (L.length:Int) (fun n k s=>Ss n k s px py L own mark) (fun s=>some (.exit 0,H4 s L own mark)) (some (.ret,H9 L own mark)) (fun n k s hk=>?_) (fun n k s hk hs=>?_) L.length 0 (-1) (by decide) (by omega) (.inr rfl)
 ·refine (KU px py s (L.length:Int) k L own mark n).trans ?_
  rw [decide_eq_false hk]
  rfl
 ·refine (KU px py s (L.length:Int) k L own mark n).trans ?_
  have a:dO L k=true:=lh.2 (by omega)
  rw [decide_eq_true hk.2,a,aC (n:=k+1) (by omega),aC (n:=0 - s) (by omega),Int.zero_sub]
  show (bif xG px py L k then _ else bif ni px py L k then _ else _)=_
  cases xG px py L k
  ·cases ni px py L k<;>rfl
  ·rfl
theorem MW:aL (f241.body.getD .skip)=[qE]:=by kernel_rfl
def Jt (fin:Bool) (vals:List SV) (m:Mem):Option (Bool×Ex×St) :=
 match vals,m with
 | [.row 0,.ptr 0 0,.v (.int .i64 s),.v (.int .i64 nn),.v (.int .i64 k)],⟨[[.v (.int .i64 px),.v (.int .i64 py)]],[true],[.live ⟨162,[.num .i64,.num .i64],L,own,mark⟩]⟩ =>
  bif fin then some (nn==(L.length:Int)&&(k==0&&(s==-1&&(Nat.ble L.length 1000000&&nv px py L))),.exit 0,H4 (ng (ni px py L) L.length 0 (-1)) L own mark)
  else some (nn==(L.length:Int)&&(k==0&&(s==-1&&(Nat.ble L.length 1000000&&!nv px py L))),.ret,H9 L own mark)
 | _,_=>none
def ΛSd (fin:Bool):bg:=fun _ st=>dg 0 1 kG (Jt fin) st
theorem M2 (fin:Bool) (z:Base) (z1:z.L.length=0) (z2:z.U.length=1):a9 (ΛSd fin) prog z qE:=by
 refine d9 (Λ:=L0) (kx:=oL) Ad mixed z1 z2 (fun b hb st t h=>by cases h) (G:=Jt fin) (fun _=>rfl) ?_
 intro vals m e st' h
 unfold Jt at h
 split at h
 ·rename_i s nn k px py L own mark
  have hx:=qbX px py L own mark
  cases fin
  ·simp only [cond_false] at h
   obtain ⟨h1,rfl,rfl⟩:=an h
   simp only [Bool.and_eq_true,beq_iff_eq,Bool.not_eq_true'] at h1
   obtain ⟨rfl,rfl,rfl,hl,hq⟩:=h1
   have:=hx (Nat.le_of_ble_eq_true hl)
   rw [hq] at this
   exact ⟨L.length+1,this⟩
  ·simp only [cond_true] at h
   obtain ⟨h1,rfl,rfl⟩:=an h
   simp only [Bool.and_eq_true,beq_iff_eq] at h1
   obtain ⟨rfl,rfl,rfl,hl,hq⟩:=h1
   have:=hx (Nat.le_of_ble_eq_true hl)
   rw [hq] at this
   exact ⟨L.length+1,this⟩
 ·cases h
theorem Wh (px py:Int) (L:List (List Dat)) (own mark:Bool):runG ΓAr (ΛSd true) prog f241 [.row 0,.v (.agg #[I px,I py])] ⟨[],[],[rP L own mark]⟩ =
 (bif L.length.ble (1000000) then (bif !gY L then some (.v (I (-1)),⟨[],[],[.live ⟨162,[.num .i64,.num .i64],L,own,mark⟩]⟩) else (bif !plR px py then some (.v (I (-1)),⟨[],[],[.live ⟨162,[.num .i64,.num .i64],L,own,mark⟩]⟩) else (bif (L.length:Int)==(L.length:Int)&&(true&&(true&&(L.length.ble (1000000)&&nv px py L))) then some (.v (I (ng (ni px py L) L.length (0:Int) (-1:Int))),⟨[],[],[.live ⟨162,[.num .i64,.num .i64],L,own,mark⟩]⟩) else none))) else none):=by kernel_rfl
theorem Wi (px py:Int) (L:List (List Dat)) (own mark:Bool):runG ΓAr (ΛSd false) prog f241 [.row 0,.v (.agg #[I px,I py])] ⟨[],[],[rP L own mark]⟩ =
 (bif L.length.ble (1000000) then (bif !gY L then some (.v (I (-1)),⟨[],[],[.live ⟨162,[.num .i64,.num .i64],L,own,mark⟩]⟩) else (bif !plR px py then some (.v (I (-1)),⟨[],[],[.live ⟨162,[.num .i64,.num .i64],L,own,mark⟩]⟩) else (bif (L.length:Int)==(L.length:Int)&&(true&&(true&&(L.length.ble (1000000)&&!nv px py L))) then some (.v (I 0),⟨[],[],[.live ⟨162,[.num .i64,.num .i64],L,own,mark⟩]⟩) else none))) else none):=by kernel_rfl
def rG (L:List (List Dat)) (px py:Int):Int:=bif !gY L then -1 else bif !plR px py then -1 else bif nv px py L then ng (ni px py L) L.length 0 (-1) else 0
def Ed (xs:List SV) (m:Mem):Option (Bool×Value) :=
 match xs,m with
 | [.row 0,.v (.agg ⟨[.int .i64 px,.int .i64 py]⟩)],⟨[],[],[.live ⟨162,[.num .i64,.num .i64],L,own,mark⟩]⟩=>some (Nat.ble L.length 1000000,I (rG L px py))
 | _,_=>none
theorem qdU:bi 241 Ed:=by
 intro xs m r h
 unfold Ed at h
 split at h
 ·rename_i px py L own mark
  obtain ⟨h1,rfl⟩:=ab h
  cases hq:nv px py L
  ·refine af (Λ:=ΛSd false) Ad func241 rfl (fun z z1 z2=>bX MW (M2 false z z1 z2)) ?_
   refine (Wi px py L own mark).trans ?_
   rw [h1,hq,beq_self_eq_true]
   unfold rG
   rw [hq]
   cases gY L<;>cases plR px py<;>rfl
  ·refine af (Λ:=ΛSd true) Ad func241 rfl (fun z z1 z2=>bX MW (M2 true z z1 z2)) ?_
   refine (Wh px py L own mark).trans ?_
   rw [h1,hq,beq_self_eq_true]
   unfold rG
   rw [hq]
   cases gY L<;>cases plR px py<;>rfl
 ·cases h
def ΓSd:Orc:=aQ 241 Ed ΓAr
theorem Q8:ΓSd.Ok prog:=aJ Ad qdU
end Go.Proofs.YtainfdcfkgemhaaGreat
namespace Go.Proofs.YtainfdcfkgemhaaGreat
open Go Go.Proofs Go.Sx
set_option linter.unusedVariables false
theorem Y7 (a b c d:Int):runG ΓSd L0 prog f338 [.v (.agg #[I a,I b,I c,I d])] M0 =
 (bif !a8 a b c d then some (.row 0,⟨[],[],[.live ⟨162,[.num .i64,.num .i64],[],true,false⟩]⟩) else some (.row 0,⟨[],[],[.live ⟨162,[.num .i64,.num .i64],[[.n (a),.n (b)],[.n (c),.n (b)],[.n (c),.n (d)],[.n (a),.n (d)]],true,false⟩]⟩)):=by kernel_rfl
abbrev qg4 (a b c d:Int):Mem:=⟨[],[],[.live ⟨162,[.num .i64,.num .i64],[[.n a,.n b],[.n c,.n b],[.n c,.n d],[.n a,.n d]],true,false⟩]⟩
def Gk (xs:List SV) (m:Mem):Option (Bool×SV×Mem) :=
 match xs,m with
 | [.v (.agg ⟨[.int .i64 a,.int .i64 b,.int .i64 c,.int .i64 d]⟩)],⟨[],[],[]⟩=>some (a8 a b c d,.row 0,qg4 a b c d)
 | _,_=>none
theorem qfK:aM 338 Gk:=by
 intro xs m r m' h
 unfold Gk at h
 split at h
 ·rename_i a b c d
  obtain ⟨h1,rfl,rfl⟩:=an h
  refine af (Λ:=L0) Q8 func338 rfl ai ?_
  refine (Y7 a b c d).trans ?_
  rw [h1]
  rfl
 ·cases h
def ΓMa:Orc:=aw 338 Gk ΓSd
theorem qjD:ΓMa.Ok prog:=aq Q8 qfK
def ΓMb:Orc:=ΓMa
theorem RK:ΓMb.Ok prog:=qjD
theorem XU (a b c d p1 p2 q1 q2:Int):runG ΓMb L0 prog f301 [.v (.agg #[I a,I b,I c,I d]),.v (.agg #[I p1,I p2]),.v (.agg #[I q1,I q2])] M0 =
 (bif a8 a b c d then (bif eK p1 p2 q1 q2 a b c b then some (.v (Bo true),M0) else (bif eK p1 p2 q1 q2 c b c d then some (.v (Bo true),M0) else (bif eK p1 p2 q1 q2 c d a d then some (.v (Bo true),M0) else (bif eK p1 p2 q1 q2 a d a b then some (.v (Bo true),M0) else some (.v (Bo false),M0))))) else none):=by kernel_rfl
def w8 (a b c d p1 p2 q1 q2:Int):Bool:=eK p1 p2 q1 q2 a b c b||(eK p1 p2 q1 q2 c b c d||(eK p1 p2 q1 q2 c d a d||eK p1 p2 q1 q2 a d a b))
def Fj (vs:List Value):Option (Bool×Value) :=
 match vs with
 | [.agg ⟨[.int .i64 a,.int .i64 b,.int .i64 c,.int .i64 d]⟩,.agg ⟨[.int .i64 p1,.int .i64 p2]⟩,.agg ⟨[.int .i64 q1,.int .i64 q2]⟩]=>some (a8 a b c d,Bo (w8 a b c d p1 p2 q1 q2))
 | _=>none
theorem qeO:am 301 Fj:=by
 intro vs r h
 unfold Fj at h
 split at h
 ·rename_i a b c d p1 p2 q1 q2
  obtain ⟨h1,rfl⟩:=ab h
  refine ak (vs:=[.agg #[I a,I b,I c,I d],.agg #[I p1,I p2],.agg #[I q1,I q2]]) (Λ:=L0) (m':=M0) RK func301 rfl ai ?_
  refine (XU a b c d p1 p2 q1 q2).trans ?_
  rw [h1]
  unfold w8
  cases eK p1 p2 q1 q2 a b c b<;>cases eK p1 p2 q1 q2 c b c d<;>cases eK p1 p2 q1 q2 c d a d<;>cases eK p1 p2 q1 q2 a d a b<;>rfl
 ·cases h
def ΓMc:Orc:=ah 301 Fj ΓMb
theorem RJ:ΓMc.Ok prog:=ac RK qeO
theorem XT (a b c d p1 p2 q1 q2:Int):runG ΓMc L0 prog f239 [.v (.agg #[I a,I b,I c,I d]),.v (.agg #[I p1,I p2]),.v (.agg #[I q1,I q2])] M0 =
 (bif !a8 a b c d then some (.v (Bo false),M0) else (bif !plR p1 p2 then some (.v (Bo false),M0) else (bif !plR q1 q2 then some (.v (Bo false),M0) else (bif kQ a b c d p1 p2 then some (.v (Bo true),M0) else (bif a8 a b c d then some (.v (Bo (w8 a b c d p1 p2 q1 q2)),M0) else none))))):=by kernel_rfl
def wZ (a b c d p1 p2 q1 q2:Int):Bool:=a8 a b c d&&(plR p1 p2&&(plR q1 q2&&(kQ a b c d p1 p2||w8 a b c d p1 p2 q1 q2)))
def Fi (vs:List Value):Option (Bool×Value) :=
 match vs with
 | [.agg ⟨[.int .i64 a,.int .i64 b,.int .i64 c,.int .i64 d]⟩,.agg ⟨[.int .i64 p1,.int .i64 p2]⟩,.agg ⟨[.int .i64 q1,.int .i64 q2]⟩]=>some (true,Bo (wZ a b c d p1 p2 q1 q2))
 | _=>none
theorem qeN:am 239 Fi:=by
 intro vs r h
 unfold Fi at h
 split at h
 ·rename_i a b c d p1 p2 q1 q2
  obtain ⟨h1,rfl⟩:=ab h
  refine ak (vs:=[.agg #[I a,I b,I c,I d],.agg #[I p1,I p2],.agg #[I q1,I q2]]) (Λ:=L0) (m':=M0) RJ func239 rfl ai ?_
  refine (XT a b c d p1 p2 q1 q2).trans ?_
  unfold wZ
  cases a8 a b c d<;>cases plR p1 p2<;>cases plR q1 q2<;>cases kQ a b c d p1 p2<;>rfl
 ·cases h
def ΓMt:Orc:=ah 239 Fi ΓMc
theorem qjB:ΓMt.Ok prog:=ac RJ qeN
def ΓMr:Orc:=ΓMt
theorem qjC:ΓMr.Ok prog:=qjB
end Go.Proofs.YtainfdcfkgemhaaGreat
namespace Go.Proofs.YtainfdcfkgemhaaGreat
open Go Go.Proofs Go.Sx
set_option linter.unusedVariables false
def cc (p:Int->Bool):Nat->Int->Bool
 | 0,_=>false
 | m+1,k=>p k||cc p m (k+1)
theorem P4 {p:Int->Bool}:∀ {m:Nat} {k:Int},cc p m k=true↔∃ i,k<=i/\i<k+m/\p i=true
 | 0,k=>⟨fun h=>(by cases h),fun ⟨i,h1,h2,_⟩=>absurd h2 (by omega)⟩
 | m+1,k=>by
  show (p k||cc p m (k+1))=true↔_
  rw [Bool.or_eq_true,P4]
  constructor
  ·rintro (h|⟨i,h1,h2,h3⟩)
   ·exact ⟨k,by omega,by omega,h⟩
   ·exact ⟨i,by omega,by omega,h3⟩
  ·rintro ⟨i,h1,h2,h3⟩
   by_cases hi:i=k
   ·rw [hi] at h3;exact .inl h3
   ·exact .inr ⟨i,by omega,by omega,h3⟩
theorem OC {α:Type} (p:Int->Bool) (N:Int) (E:Nat->Int->Option α) (X Y:Option α) (he:∀ n k,¬ k<N->E (n+1) k=X) (hr:∀ n k,0<=k/\k<N->E (n+1) k=bif p k then Y else E n (k+1)) :
  ∀ (m:Nat) (k:Int),0<=k->k+m=N->E (m+1) k=bif cc p m k then Y else X:=by
 intro m
 induction m with
 | zero =>
  intro k h0 h1
  exact he 0 k (by omega)
 | succ m ih =>
  intro k h0 h1
  rw [hr (m+1) k (by omega)]
  show _=bif p k||cc p m (k+1) then Y else X
  cases p k
  ·exact ih (k+1) (by omega) (by omega)
  ·rfl
def rcB (L:List (List Dat)) (i k:Int):Bool:=y7 L i k||bif k==i+1 then cp (pX L (nx L k)) (pY L (nx L k)) (pX L i) (pY L i) (pX L (nx L i)) (pY L (nx L i))||cp (pX L i) (pY L i) (pX L k) (pY L k) (pX L (nx L k)) (pY L (nx L k))
 else bif i==0&&k==(L.length:Int) - 1 then cp (pX L k) (pY L k) (pX L i) (pY L i) (pX L (nx L i)) (pY L (nx L i))||cp (pX L (nx L i)) (pY L (nx L i)) (pX L k) (pY L k) (pX L (nx L k)) (pY L (nx L k))
 else eK (pX L i) (pY L i) (pX L (nx L i)) (pY L (nx L i)) (pX L k) (pY L k) (pX L (nx L k)) (pY L (nx L k))
def UQ (L:List (List Dat)) (i:Int):Bool:=cc (rcB L i) ((L.length:Int) - (i+1)).toNat (i+1)
def Us (L:List (List Dat)):Bool:=!(decide ((L.length:Int)<3)||decide ((L.length:Int)>8))&&(!cc (d7 L) L.length 0&&!cc (UQ L) L.length 0)
def ΓRs1:Orc:=ΓMr
theorem qjd:ΓRs1.Ok prog:=qjC
def qhO (L:List (List Dat)):Bool:=!(decide ((L.length:Int)<=8)&&cc (ff L) L.length 0)&&Us L
def ΓRs2:Orc:=ΓRs1
theorem qjc:ΓRs2.Ok prog:=qjd
def yI {σ:Type} (f:Int->σ->σ):Nat->Int->σ->σ
 | 0,_,s=>s
 | m+1,k,s=>yI f m (k+1) (f k s)
theorem qgj {α σ:Type} (p:Int->Bool) (f:Int->σ->σ) (I:Int->σ->Prop) (N:Int) (E:Nat->Int->σ->Option α) (X:σ->Option α) (Y:Option α) (he:∀ n k s,¬ k<N->I k s->E (n+1) k s=X s) (hI:∀ k s,0<=k/\k<N->I k s->I (k+1) (f k s)) (hr:∀ n k s,0<=k/\k<N->I k s->E (n+1) k s=bif p k then Y else E n (k+1) (f k s)) :
  ∀ (m:Nat) (k:Int) (s:σ),0<=k->k+m=N->I k s->E (m+1) k s=bif cc p m k then Y else X (yI f m k s):=by
 intro m
 induction m with
 | zero =>
  intro k s h0 h1 hi
  exact he 0 k s (by omega) hi
 | succ m ih =>
  intro k s h0 h1 hi
  rw [hr (m+1) k s (by omega) hi]
  show _=bif p k||cc p m (k+1) then Y else X (yI f m (k+1) (f k s))
  cases p k
  ·exact ih (k+1) (f k s) (by omega) (by omega) (hI k s (by omega) hi)
  ·rfl
theorem P5:∀ (m:Nat) (k:Int),cc (fun _=>false) m k=false
 | 0,_=>rfl
 | m+1,k=>P5 m (k+1)
theorem qgk {α σ:Type} (f:Int->σ->σ) (I:Int->σ->Prop) (N:Int) (E:Nat->Int->σ->Option α) (X:σ->Option α) (he:∀ n k s,¬ k<N->I k s->E (n+1) k s=X s) (hI:∀ k s,0<=k/\k<N->I k s->I (k+1) (f k s)) (hr:∀ n k s,0<=k/\k<N->I k s->E (n+1) k s=E n (k+1) (f k s))
  (m:Nat) (k:Int) (s:σ) (h0:0<=k) (h1:k+m=N) (hi:I k s):E (m+1) k s=X (yI f m k s):=by
 have:=qgj (fun _=>false) f I N E X none he hI (fun n k s hk hi=>hr n k s hk hi) m k s h0 h1 hi
 rwa [P5] at this
def ΓRs:Orc:=ΓRs2
theorem qje:ΓRs.Ok prog:=qjc
end Go.Proofs.YtainfdcfkgemhaaGreat
namespace Go.Proofs.YtainfdcfkgemhaaGreat
open Go Go.Proofs Go.Sx
set_option linter.unusedVariables false
def ΓRg1:Orc:=ΓRs
theorem ID:ΓRg1.Ok prog:=qje
def ub:Code:=cH (f173.body.getD .skip) 0
def nH:List Bool:=aE 33 [1,2,15,16,17]
def ly (e:Ex):List Bool:=match e with
 | .exit _=>aE 33 [1,2]
 | .ret=>aE 33 [4]
 | .normal=>aE 33 [1,2,15,16,17]
def Je (e:Ex) (st:St):Option (Ex×St):=some (e,aj 0 1 (ly e) st)
theorem K4 (a:Int) (b:Int) (c:Int) (d:Int) (k:Int) (nn:Int) (L:List (List Dat)) (own:Bool) (mark:Bool) (n:Nat):au ΓRg1 prog L0 (aj 0 1 nH) ub (n+1) (mk nH [.row 0,.ptr 0 0,.row 0,.v (I nn),.v (I k)] ⟨[[.v (I a),.v (I b),.v (I c),.v (I d)]],[true],[rP L own mark]⟩) Je =
 (bif decide (k<nn) then (bif decide ((0:Int)<=k)&&decide (k<(L.length:Int)) then (bif dO L k then (bif wZ a b c d (pX L k) (pY L k) (pX L (nx L k)) (pY L (nx L k)) then some (.ret,mk (ly .ret) [.v (I 0)] ⟨[],[],[.live ⟨162,[.num .i64,.num .i64],L,own,mark⟩]⟩) else au ΓRg1 prog L0 (aj 0 1 nH) ub n (mk nH [.row 0,.ptr 0 0,.row 0,.v (I nn),.v (I (wI (k+(1:Int))))] ⟨[[.v (I a),.v (I b),.v (I c),.v (I d)]],[true],[.live ⟨162,[.num .i64,.num .i64],L,own,mark⟩]⟩) Je) else none) else none) else some ((.exit 0),mk (ly (.exit 0)) [.row 0,.ptr 0 0] ⟨[[.v (I a),.v (I b),.v (I c),.v (I d)]],[true],[.live ⟨162,[.num .i64,.num .i64],L,own,mark⟩]⟩)):=by kernel_rfl
def Sw (n:Nat) (a:Int) (b:Int) (c:Int) (d:Int) (k:Int) (nn:Int) (L:List (List Dat)) (own:Bool) (mark:Bool):Option (Ex×St) :=
 au ΓRg1 prog L0 (aj 0 1 nH) ub n (mk nH [.row 0,.ptr 0 0,.row 0,.v (I nn),.v (I k)] ⟨[[.v (I a),.v (I b),.v (I c),.v (I d)]],[true],[rP L own mark]⟩) Je
def lQ (a b c d:Int) (L:List (List Dat)) (k:Int):Bool:=wZ a b c d (pX L k) (pY L k) (pX L (nx L k)) (pY L (nx L k))
def CD (a b c d:Int) (L:List (List Dat)) (own mark:Bool):LT:=.br (cc (lQ a b c d L) L.length 0) (.leaf .ret (mk (ly .ret) [.v (I 0)] ⟨[],[],[rP L own mark]⟩)) (.leaf (.exit 0) (mk (ly (.exit 0)) [.row 0,.ptr 0 0] ⟨[[.v (I a),.v (I b),.v (I c),.v (I d)]],[true],[rP L own mark]⟩))
theorem qb2 (a b c d:Int) (L:List (List Dat)) (own mark:Bool) (hl:L.length<=1000000):Sw (L.length+1) a b c d 0 (L.length:Int) L own mark=some (CD a b c d L own mark).pick:=by
 have h:=OC (lQ a b c d L) (L.length:Int) (fun n k=>Sw n a b c d k (L.length:Int) L own mark) (some (.exit 0,mk (ly (.exit 0)) [.row 0,.ptr 0 0] ⟨[[.v (I a),.v (I b),.v (I c),.v (I d)]],[true],[rP L own mark]⟩)) (some (.ret,mk (ly .ret) [.v (I 0)] ⟨[],[],[rP L own mark]⟩)) (fun n k hk=>?_) (fun n k hk=>?_) L.length 0 (by omega) (by omega)
 ·refine h.trans ?_
  unfold CD
  cases cc (lQ a b c d L) L.length 0<;>rfl
 ·refine (K4 a b c d k (L.length:Int) L own mark n).trans ?_
  rw [decide_eq_false hk]
  rfl
 ·refine (K4 a b c d k (L.length:Int) L own mark n).trans ?_
  have e:dO L k=true:=lh.2 (by omega)
  have n1:=Co e
  rw [decide_eq_true hk.2,decide_eq_true hk.1,e,aC (n:=k+1) (by omega)]
  show (bif lQ a b c d L k then _ else _)=_
  cases lQ a b c d L k<;>rfl
def JB (vals:List SV) (m:Mem):Option (Bool×LT) :=
 match vals,m with
 | [.row 0,.ptr 0 0,.row 0,.v (.int .i64 nn),.v (.int .i64 k)],⟨[[.v (.int .i64 a),.v (.int .i64 b),.v (.int .i64 c),.v (.int .i64 d)]],[true],[.live ⟨162,[.num .i64,.num .i64],L,own,mark⟩]⟩=>some (nn==(L.length:Int)&&(k==0&&Nat.ble L.length 1000000),CD a b c d L own mark)
 | _,_=>none
def ΛRh:bg:=fun _ st=>gG 0 1 nH JB st
theorem qce (z:Base) (z1:z.L.length=0) (z2:z.U.length=1):a9 ΛRh prog z ub:=by
 refine iN (Λ:=L0) (kx:=ly) ID mixed z1 z2 (fun b hb st t h=>by cases h) (G:=JB) (fun _=>rfl) ?_
 intro vals m t h
 unfold JB at h
 split at h
 ·rename_i nn k a b c d L own mark
  obtain ⟨h1,rfl⟩:=ab h
  simp only [Bool.and_eq_true,beq_iff_eq] at h1
  obtain ⟨rfl,rfl,hl⟩:=h1
  exact ⟨_,qb2 a b c d L own mark (Nat.le_of_ble_eq_true hl)⟩
 ·cases h
theorem qby:aL (f173.body.getD .skip)=[ub]:=by kernel_rfl
def nm (a b c d:Int) (L:List (List Dat)):Int:=bif !a8 a b c d then -1 else bif !gY L then -1 else bif cc (lQ a b c d L) L.length 0 then 0 else rG L a b
theorem Xh (a:Int) (b:Int) (c:Int) (d:Int) (L:List (List Dat)) (own:Bool) (mark:Bool):runG ΓRg1 ΛRh prog f173 [.v (.agg #[I a,I b,I c,I d]),.row 0] ⟨[],[],[rP L own mark]⟩ =
 (bif !a8 a b c d then some (.v (I (-1)),⟨[],[],[.live ⟨162,[.num .i64,.num .i64],L,own,mark⟩]⟩) else (bif L.length.ble (1000000) then (bif !gY L then some (.v (I (-1)),⟨[],[],[.live ⟨162,[.num .i64,.num .i64],L,own,mark⟩]⟩) else (bif (L.length:Int)==(L.length:Int)&&(true&&L.length.ble (1000000)) then (bif cc (lQ a b c d L) L.length (0:Int) then some (.v (I 0),⟨[],[],[.live ⟨162,[.num .i64,.num .i64],L,own,mark⟩]⟩) else (bif L.length.ble (1000000) then some (.v (I (rG L a b)),⟨[],[],[.live ⟨162,[.num .i64,.num .i64],L,own,mark⟩]⟩) else none)) else none)) else none)):=by kernel_rfl
def EQ (xs:List SV) (m:Mem):Option (Bool×Value) :=
 match xs,m with
 | [.v (.agg ⟨[.int .i64 a,.int .i64 b,.int .i64 c,.int .i64 d]⟩),.row 0],⟨[],[],[.live ⟨162,[.num .i64,.num .i64],L,own,mark⟩]⟩=>some (Nat.ble L.length 1000000,I (nm a b c d L))
 | _,_=>none
theorem qep:bi 173 EQ:=by
 intro xs m r h
 unfold EQ at h
 split at h
 ·rename_i a b c d L own mark
  obtain ⟨h1,rfl⟩:=ab h
  refine af (Λ:=ΛRh) ID func173 rfl (fun z z1 z2=>bX qby (qce z z1 z2)) ?_
  refine (Xh a b c d L own mark).trans ?_
  rw [h1,beq_self_eq_true]
  unfold nm
  cases a8 a b c d<;>cases gY L<;>cases cc (lQ a b c d L) L.length 0<;>rfl
 ·cases h
def ΓRg2:Orc:=aQ 173 EQ ΓRg1
theorem qjf:ΓRg2.Ok prog:=aJ ID qep
def ΓRg3:Orc:=ΓRg2
theorem IC:ΓRg3.Ok prog:=qjf
end Go.Proofs.YtainfdcfkgemhaaGreat
