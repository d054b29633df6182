/-
  What is known of this program: that the document's answers are the program's;rules,the document's,and their law package's own.
-/
import Derived.Test.YtainfdcfkgemhaaGreatYb
import Derived.Test.YtainfdcfkgemhaaGreatSw
import Derived.Test.YtainfdcfkgemhaaGreatSx
set_option maxRecDepth 100000
noncomputable section
open Go.Proofs.Tryz
namespace Go.Proofs.YtainfdcfkgemhaaGreat
open Go Go.Proofs Go.Sx
set_option linter.unusedVariables false
def ΓRb:Orc:={ ΓRg3 with sb:=true }
theorem qkB:ΓRb.Ok prog:=⟨Iw.call,Iw.rd,Iw.eqv⟩
def ΓRv1:Orc:=ΓRb
theorem Ro:ΓRv1.Ok prog:=qkB
theorem ZK (L:List (List Dat)) (own:Bool) (mark:Bool):runG ΓRv1 L0 prog f329 [.row 0] ⟨[],[],[rP L own mark]⟩ =
 (bif Nat.blt (0:Nat) L.length then (bif decide (((0:Nat)+L.length)*(16:Nat)<=(140737488355328:Nat)/\(0:Nat)+L.length<=(9223372036854775807:Nat)) then some (.row 1,⟨[],[],[.live ⟨162,[.num .i64,.num .i64],L,own,mark⟩,.live ⟨162,[.num .i64,.num .i64],L,true,false⟩]⟩) else none) else none):=by kernel_rfl
def Gn (xs:List SV) (m:Mem):Option (Bool×SV×Mem) :=
 match xs,m with
 | [.row 0],⟨[],[],[.live ⟨162,[.num .i64,.num .i64],L,own,mark⟩]⟩=>some (Nat.blt 0 L.length&&Nat.ble L.length 1000000,.row 1,⟨[],[],[rP L own mark,rP L true false]⟩)
 | _,_=>none
theorem qg5:aQ 329 Gn:=by
 intro xs m r m' h
 unfold Gn at h
 split at h
 ·rename_i L own mark
  obtain ⟨h1,rfl,rfl⟩:=aw h
  refine aj (Λ:=L0) Ro func329 rfl ai ?_
  refine (ZK L own mark).trans ?_
  rw [Bool.and_eq_true] at h1
  have h2:=Nat.le_of_ble_eq_true h1.2
  rw [h1.1,decide_eq_true (show (0+L.length)*16<=140737488355328/\0+L.length<=9223372036854775807 by omega)]
  rfl
 ·cases h
def ΓRv2:Orc:=aC 329 Gn ΓRv1
theorem qkx:ΓRv2.Ok prog:=aA Ro qg5
def ΓRv3:Orc:=ΓRv2
theorem It:ΓRv3.Ok prog:=qkx
end Go.Proofs.YtainfdcfkgemhaaGreat
namespace Go.Proofs.YtainfdcfkgemhaaGreat
open Go Go.Proofs Go.Sx
set_option linter.unusedVariables false
end Go.Proofs.YtainfdcfkgemhaaGreat
namespace Go.Proofs.YtainfdcfkgemhaaGreat
open Go Go.Proofs Go.Sx
set_option linter.unusedVariables false
end Go.Proofs.YtainfdcfkgemhaaGreat
namespace Go.Proofs.YtainfdcfkgemhaaGreat
open Go Go.Proofs Go.Sx
set_option linter.unusedVariables false
def bp (L:List (List Dat)) (k:Int):List (List Dat):=((L.getD k.toNat []).headD (.n 0)).toL
def c4 (L:List (List Dat)) (k:Int):Int:=((L.getD k.toNat []).tail.headD (.n 0)).toI
def cK (L:List (List Dat)) (k:Int):Int:=((L.getD k.toNat []).tail.tail.headD (.n 0)).toI
def cT (L:List (List Dat)) (k:Int):Int:=((L.getD k.toNat []).tail.tail.tail.headD (.n 0)).toI
def c0 (L:List (List Dat)) (k:Int):Int:=((L.getD k.toNat []).tail.tail.tail.tail.headD (.n 0)).toI
abbrev aP:List CK:=[.sl 162 [.num .i64,.num .i64],.num .i64,.num .i64,.num .i64,.num .i64]
abbrev rH (L:List (List Dat)) (own mark:Bool):RowS:=.live ⟨117,aP,L,own,mark⟩
def Mg:List Dat->Bool
 | [.l (.slice none 0 0) A,.n _,.n _,.n _,.n _]=>Nat.ble A.length 1000000
 | _=>false
def cz (L:List (List Dat)):Bool:=L.all Mg&&Nat.ble L.length 1000000
theorem BX {L:List (List Dat)} (h:cz L=true):L.length<=1000000:=by
 unfold cz at h
 rw [Bool.and_eq_true] at h
 exact Nat.le_of_ble_eq_true h.2
theorem ws {L:List (List Dat)} (h:cz L=true) {k:Int} (h0:0<=k) (h1:k<(L.length:Int)):L.getD k.toNat []=[.l (.slice none 0 0) (bp L k),.n (c4 L k),.n (cK L k),.n (cT L k),.n (c0 L k)]/\Nat.ble (bp L k).length 1000000=true:=by
 unfold cz at h
 rw [Bool.and_eq_true] at h
 have hk:k.toNat<L.length:=by omega
 have hm:L.getD k.toNat []∈L:=by
  rw [List.getD,List.getElem?_eq_getElem hk]
  exact List.getElem_mem hk
 have:=List.all_eq_true.1 h.1 _ hm
 unfold bp c4 cK cT c0
 generalize L.getD k.toNat []=l at *
 unfold Mg at this
 split at this
 ·exact ⟨rfl,this⟩
 ·cases this
def AC (f:FuncId):Bool:=Nat.beq f 278||Nat.beq f 262||Nat.beq f 329||Nat.beq f 325||Nat.beq f 28
def Γu0:Orc:={ ΓRv3 with sb:=true,bs:=true,wr:=AC }
theorem Oku0:Γu0.Ok prog:=⟨It.call,It.rd,It.eqv⟩
def gn (n lo hi:Int):Bool:=bif decide (n>=lo) then decide (n<=hi) else false
def bJ (lo hi n:Int):Bool:=bif decide (lo<=n) then decide (n<=hi) else false
theorem Vy (n:Int) (lo:Int) (hi:Int):runG Γu0 L0 prog f171 [.v (I n),.v (I lo),.v (I hi)] M0 =
 (bif decide (n>=lo) then some (.v (Bo (decide (n<=hi))),M0) else some (.v (Bo false),M0)):=by kernel_rfl
def Db (vs:List Value):Option (Bool×Value) :=
 match vs with
 | [.int .i64 n,.int .i64 lo,.int .i64 hi]=>some (true,Bo (gn n lo hi))
 | _=>none
theorem qd8:am 171 Db:=by
 intro vs r h
 unfold Db at h
 split at h
 ·rename_i n lo hi
  obtain ⟨h1,rfl⟩:=ab h
  refine ak (vs:=[I n,I lo,I hi]) (Λ:=L0) (m':=M0) Oku0 func171 rfl ai ?_
  exact (Vy n lo hi).trans (by unfold gn;cases decide (n>=lo)<;>rfl)
 ·cases h
def Γu1:Orc:=ah 171 Db Γu0
theorem Oku1:Γu1.Ok prog:=af Oku0 qd8
theorem Y7 (lo:Int) (hi:Int) (n:Int):runG Γu1 L0 prog f344 [.v (I lo),.v (I hi),.v (I n)] M0 =
 (bif decide (lo<=n) then some (.v (Bo (decide (n<=hi))),M0) else some (.v (Bo false),M0)):=by kernel_rfl
def FQ (vs:List Value):Option (Bool×Value) :=
 match vs with
 | [.int .i64 lo,.int .i64 hi,.int .i64 n]=>some (true,Bo (bJ lo hi n))
 | _=>none
theorem qgy:am 344 FQ:=by
 intro vs r h
 unfold FQ at h
 split at h
 ·rename_i lo hi n
  obtain ⟨h1,rfl⟩:=ab h
  refine ak (vs:=[I lo,I hi,I n]) (Λ:=L0) (m':=M0) Oku1 func344 rfl ai ?_
  exact (Y7 lo hi n).trans (by unfold bJ;cases decide (lo<=n)<;>rfl)
 ·cases h
def Γu2:Orc:=ah 344 FQ Γu1
theorem QA:Γu2.Ok prog:=af Oku1 qgy
theorem Y5 (lo:Int) (hi:Int) (n:Int):runG Γu2 L0 prog f347 [.v (I lo),.v (I hi),.v (I n)] M0 =
 (bif decide (lo<=n) then some (.v (Bo (decide (n<=hi))),M0) else some (.v (Bo false),M0)):=by kernel_rfl
def FP (vs:List Value):Option (Bool×Value) :=
 match vs with
 | [.int .i64 lo,.int .i64 hi,.int .i64 n]=>some (true,Bo (bJ lo hi n))
 | _=>none
theorem qgx:am 347 FP:=by
 intro vs r h
 unfold FP at h
 split at h
 ·rename_i lo hi n
  obtain ⟨h1,rfl⟩:=ab h
  refine ak (vs:=[I lo,I hi,I n]) (Λ:=L0) (m':=M0) QA func347 rfl ai ?_
  exact (Y5 lo hi n).trans (by unfold bJ;cases decide (lo<=n)<;>rfl)
 ·cases h
def Γu3:Orc:=ah 347 FP Γu2
theorem Qz:Γu3.Ok prog:=af QA qgx
def BI (L:List (List Dat)) (g v m u:Int):Bool:=ut L&&(gn g 1 100&&(gn v 1 65536&&(gn m 1 1000000&&gn u 0 1073741824)))
theorem Xe (g:Int) (v:Int) (m:Int) (u:Int) (L:List (List Dat)) (own:Bool) (mark:Bool):runG Γu3 L0 prog f100 [.ag [.row 0,.v (I g),.v (I v),.v (I m),.v (I u)]] ⟨[],[],[rP L own mark]⟩ =
 (bif L.length.ble (1000000) then (bif ut L then (bif gn g (1:Int) (100:Int) then (bif gn v (1:Int) (65536:Int) then (bif gn m (1:Int) (1000000:Int) then some (.v (Bo (gn u (0:Int) (1073741824:Int))),⟨[],[],[.live ⟨162,[.num .i64,.num .i64],L,own,mark⟩]⟩) else some (.v (Bo false),⟨[],[],[.live ⟨162,[.num .i64,.num .i64],L,own,mark⟩]⟩)) else some (.v (Bo false),⟨[],[],[.live ⟨162,[.num .i64,.num .i64],L,own,mark⟩]⟩)) else some (.v (Bo false),⟨[],[],[.live ⟨162,[.num .i64,.num .i64],L,own,mark⟩]⟩)) else some (.v (Bo false),⟨[],[],[.live ⟨162,[.num .i64,.num .i64],L,own,mark⟩]⟩)) else none):=by kernel_rfl
def Eh (xs:List SV) (m:Mem):Option (Bool×Value) :=
 match xs,m with
 | [.ag [.row 0,.v (.int .i64 g),.v (.int .i64 v),.v (.int .i64 m),.v (.int .i64 u)]],⟨[],[],[.live ⟨162,[.num .i64,.num .i64],L,own,mark⟩]⟩=>some (Nat.ble L.length 1000000,Bo (BI L g v m u))
 | _,_=>none
theorem qe8:bk 100 Eh:=by
 intro xs m r h
 unfold Eh at h
 split at h
 ·rename_i g v m u L own mark
  obtain ⟨h1,rfl⟩:=ab h
  refine aj (Λ:=L0) Qz func100 rfl ai ?_
  refine (Xe g v m u L own mark).trans ?_
  rw [h1]
  unfold BI
  first|rfl|(cases ut L<;>(first|rfl|(cases gn g 1 100<;>(first|rfl|(cases gn v 1 65536<;>(first|rfl|(cases gn m 1 1000000<;>(first|rfl|(cases gn u 0 1073741824<;>(first|rfl|skip))))))))))
 ·cases h
def Γu4:Orc:=aU 100 Eh Γu3
theorem Qy:Γu4.Ok prog:=aO Qz qe8
def pD (L:List (List Dat)) (g v m u:Int):Bool:=bJ 1 100 g&&(bJ 1 65536 v&&(bJ 1 1000000 m&&(bJ 0 1073741824 u&&ig L)))
theorem Xf (g:Int) (v:Int) (m:Int) (u:Int) (L:List (List Dat)) (own:Bool) (mark:Bool):runG Γu4 L0 prog f361 [.ag [.row 0,.v (I g),.v (I v),.v (I m),.v (I u)]] ⟨[],[],[rP L own mark]⟩ =
 (bif !bJ (1:Int) (100:Int) g then some (.v (Bo false),⟨[],[],[.live ⟨162,[.num .i64,.num .i64],L,own,mark⟩]⟩) else (bif !bJ (1:Int) (65536:Int) v then some (.v (Bo false),⟨[],[],[.live ⟨162,[.num .i64,.num .i64],L,own,mark⟩]⟩) else (bif bJ (1:Int) (1000000:Int) m then (bif bJ (0:Int) (1073741824:Int) u then (bif L.length.ble (1000000) then some (.v (Bo (ig L)),⟨[],[],[.live ⟨162,[.num .i64,.num .i64],L,own,mark⟩]⟩) else none) else some (.v (Bo false),⟨[],[],[.live ⟨162,[.num .i64,.num .i64],L,own,mark⟩]⟩)) else some (.v (Bo false),⟨[],[],[.live ⟨162,[.num .i64,.num .i64],L,own,mark⟩]⟩)))):=by kernel_rfl
def Ei (xs:List SV) (m:Mem):Option (Bool×Value) :=
 match xs,m with
 | [.ag [.row 0,.v (.int .i64 g),.v (.int .i64 v),.v (.int .i64 m),.v (.int .i64 u)]],⟨[],[],[.live ⟨162,[.num .i64,.num .i64],L,own,mark⟩]⟩=>some (Nat.ble L.length 1000000,Bo (pD L g v m u))
 | _,_=>none
theorem qe9:bk 361 Ei:=by
 intro xs m r h
 unfold Ei at h
 split at h
 ·rename_i g v m u L own mark
  obtain ⟨h1,rfl⟩:=ab h
  refine aj (Λ:=L0) Qy func361 rfl ai ?_
  refine (Xf g v m u L own mark).trans ?_
  unfold pD
  first|rfl|(cases bJ 1 100 g<;>(first|rfl|(cases bJ 1 65536 v<;>(first|rfl|(cases bJ 1 1000000 m<;>(first|rfl|(cases bJ 0 1073741824 u<;>(first|rfl|skip))))))))
  all_goals (rw [h1];cases ig L<;>rfl)
 ·cases h
def Γu5:Orc:=aU 361 Ei Γu4
theorem Qx:Γu5.Ok prog:=aO Qy qe9
theorem Xg (g:Int) (v:Int) (m:Int) (u:Int) (L:List (List Dat)) (own:Bool) (mark:Bool):runG Γu5 L0 prog f346 [.ag [.row 0,.v (I g),.v (I v),.v (I m),.v (I u)]] ⟨[],[],[rP L own mark]⟩ =
 (bif L.length.ble (1000000) then some (.v (Bo (!pD L g v m u)),⟨[],[],[.live ⟨162,[.num .i64,.num .i64],L,own,mark⟩]⟩) else none):=by kernel_rfl
def Ej (xs:List SV) (m:Mem):Option (Bool×Value) :=
 match xs,m with
 | [.ag [.row 0,.v (.int .i64 g),.v (.int .i64 v),.v (.int .i64 m),.v (.int .i64 u)]],⟨[],[],[.live ⟨162,[.num .i64,.num .i64],L,own,mark⟩]⟩=>some (Nat.ble L.length 1000000,Bo (!pD L g v m u))
 | _,_=>none
theorem qfa:bk 346 Ej:=by
 intro xs m r h
 unfold Ej at h
 split at h
 ·rename_i g v m u L own mark
  obtain ⟨h1,rfl⟩:=ab h
  refine aj (Λ:=L0) Qx func346 rfl ai ?_
  refine (Xg g v m u L own mark).trans ?_
  rw [h1]
  rfl
 ·cases h
def Γu6:Orc:=aU 346 Ej Γu5
theorem qjJ:Γu6.Ok prog:=aO Qx qfa
def Kc (e:Ex):List Bool:=match e with
 | .exit _=>aB 73 [1]
 | .ret=>aB 73 [2]
 | .normal=>aB 73 [1,3]
def qi2 (L:List (List Dat)) (k:Int):Bool:=!BI (bp L k) (c4 L k) (cK L k) (cT L k) (c0 L k)
def qdA (r1 r2 r3 r4 r5 r6 r7 r8:Int) (L:List (List Dat)) (own mark:Bool):LT:=.br (bA (qi2 L) L.length 0) (.leaf .ret (mk (Kc .ret) [.v (I 2)] ⟨[],[],[rH L own mark]⟩)) (.leaf (.exit 0) (mk (Kc (.exit 0)) [.ptr 0 0] ⟨[[.row 0,.v (I r1),.v (I r2),.v (I r3),.v (I r4),.v (I r5),.v (I r6),.v (I r7),.v (I r8)]],[true],[rH L own mark]⟩))
def GWr (vals:List SV) (m:Mem):Option (Bool×LT) :=
 match vals,m with
 | [.ptr 0 0,.v (.int .i64 k)],⟨[[.row 0,.v (.int .i64 r1),.v (.int .i64 r2),.v (.int .i64 r3),.v (.int .i64 r4),.v (.int .i64 r5),.v (.int .i64 r6),.v (.int .i64 r7),.v (.int .i64 r8)]],[true],[.live ⟨117,[.sl 162 [.num .i64,.num .i64],.num .i64,.num .i64,.num .i64,.num .i64],L,own,mark⟩]⟩=>some (k==0&&cz L,qdA r1 r2 r3 r4 r5 r6 r7 r8 L own mark)
 | _,_=>none
def Γu7:Orc:=Γu6
theorem Ia:Γu7.Ok prog:=qjJ
def uq:Code:=ch (f360.body.getD .skip) 0
def nT:List Bool:=aB 19 [0,1,7,8]
def lJ (e:Ex):List Bool:=match e with
 | .exit _=>aB 19 []
 | .ret=>aB 19 [4]
 | .normal=>aB 19 [0,1,7,8]
def Jb (e:Ex) (st:St):Option (Ex×St):=some (e,ac 0 1 (lJ e) st)
theorem Lf (nn:Int) (k:Int) (L:List (List Dat)) (own:Bool) (mark:Bool) (n:Nat):an Γu7 prog L0 (ac 0 1 nT) uq (n+1) (mk nT [.row 0,.v (.func (.func 346) #[] #[]),.v (I nn),.v (I k)] ⟨[],[],[rH L own mark]⟩) Jb =
 (bif decide (k<nn) then (bif decide ((0:Int)<=k)&&decide (k<(L.length:Int)) then (bif (bp L k).length.ble (1000000) then (bif !pD (bp L k) (c4 L k) (cK L k) (cT L k) (c0 L k) then some (.ret,mk (lJ .ret) [.v (I k)] ⟨[],[],[.live ⟨117,aP,L,own,mark⟩]⟩) else an Γu7 prog L0 (ac 0 1 nT) uq n (mk nT [.row 0,.v (Value.func (Fn.func 346) #[] #[]),.v (I nn),.v (I (wI (k+(1:Int))))] ⟨[],[],[.live ⟨117,aP,L,own,mark⟩]⟩) Jb) else none) else none) else some ((.exit 0),mk (lJ (.exit 0)) [] ⟨[],[],[.live ⟨117,aP,L,own,mark⟩]⟩)):=by kernel_rfl
def S0 (n:Nat) (nn:Int) (k:Int) (L:List (List Dat)) (own:Bool) (mark:Bool):Option (Ex×St) :=
 an Γu7 prog L0 (ac 0 1 nT) uq n (mk nT [.row 0,.v (.func (.func 346) #[] #[]),.v (I nn),.v (I k)] ⟨[],[],[rH L own mark]⟩) Jb
def gE (p:Int->Bool):Nat->Int->Int
 | 0,k=>k
 | m+1,k=>bif p k then k else gE p m (k+1)
theorem OL (p:Int->Bool):∀ (m:Nat) (k:Int),k<=gE p m k/\gE p m k<=k+m
 | 0,k=>⟨Int.le_refl _,by simp [gE]⟩
 | m+1,k=>by
  have h:=OL p m (k+1)
  unfold gE
  cases p k
  ·show k<=gE p m (k+1)/\gE p m (k+1)<=k+((m+1:Nat):Int)
   omega
  ·show k<=k/\k<=k+((m+1:Nat):Int)
   omega
theorem qhA {α:Type} (p:Int->Bool) (N:Int) (E:Nat->Int->Option α) (X:Option α) (Y:Int->Option α) (he:∀ n k,¬ k<N->E (n+1) k=X) (hr:∀ n k,0<=k/\k<N->E (n+1) k=bif p k then Y k else E n (k+1)) :
  ∀ (m:Nat) (k:Int),0<=k->k+m=N->E (m+1) k=bif bA p m k then Y (gE p m k) else X:=by
 intro m
 induction m with
 | zero =>
  intro k h0 h1
  exact he 0 k (by omega)
 | succ m ih =>
  intro k h0 h1
  rw [hr (m+1) k (by omega)]
  show _=bif p k||bA p m (k+1) then Y (bif p k then k else gE p m (k+1)) else X
  cases hp:p k
  ·exact ih (k+1) (by omega) (by omega)
  ·rfl
def eC (L:List (List Dat)) (k:Int):Bool:=!pD (bp L k) (c4 L k) (cK L k) (cT L k) (c0 L k)
def Cv (L:List (List Dat)) (own mark:Bool):LT:=.br (bA (eC L) L.length 0) (.leaf .ret (mk (lJ .ret) [.v (I (gE (eC L) L.length 0))] ⟨[],[],[rH L own mark]⟩)) (.leaf (.exit 0) (mk (lJ (.exit 0)) [] ⟨[],[],[rH L own mark]⟩))
theorem qdt (L:List (List Dat)) (own mark:Bool) (hl:cz L=true):S0 (L.length+1) (L.length:Int) 0 L own mark=some (Cv L own mark).pick:=by
 have hll:=BX hl
 have h:=qhA (eC L) (L.length:Int) (fun n k=>S0 n (L.length:Int) k L own mark) (some (.exit 0,mk (lJ (.exit 0)) [] ⟨[],[],[rH L own mark]⟩)) (fun k=>some (.ret,mk (lJ .ret) [.v (I k)] ⟨[],[],[rH L own mark]⟩)) (fun n k hk=>?_) (fun n k hk=>?_) L.length 0 (by omega) (by omega)
 ·refine h.trans ?_
  unfold Cv
  cases bA (eC L) L.length 0<;>rfl
 ·refine (Lf (L.length:Int) k L own mark n).trans ?_
  rw [decide_eq_false hk]
  rfl
 ·refine (Lf (L.length:Int) k L own mark n).trans ?_
  rw [decide_eq_true hk.2,decide_eq_true hk.1,(ws hl hk.1 hk.2).2,az (n:=k+1) (by omega)]
  show (bif eC L k then _ else _)=_
  cases eC L k<;>rfl
def JR (vals:List SV) (m:Mem):Option (Bool×LT) :=
 match vals,m with
 | [.row 0,.v (.func (.func 346) ⟨[]⟩ ⟨[]⟩),.v (.int .i64 nn),.v (.int .i64 k)],⟨[],[],[.live ⟨117,[.sl 162 [.num .i64,.num .i64],.num .i64,.num .i64,.num .i64,.num .i64],L,own,mark⟩]⟩=>some (nn==(L.length:Int)&&(k==0&&cz L),Cv L own mark)
 | _,_=>none
def ΛIf:aV:=fun _ st=>fW 0 1 nT JR st
theorem qdh (z:Base) (z1:z.L.length=0) (z2:z.U.length=1):aS ΛIf prog z uq:=by
 refine gV (Λ:=L0) (kx:=lJ) Ia mixed z1 z2 (fun b hb st t h=>by cases h) (G:=JR) (fun _=>rfl) ?_
 intro vals m t h
 unfold JR at h
 split at h
 ·rename_i nn k L own mark
  obtain ⟨h1,rfl⟩:=ab h
  simp only [Bool.and_eq_true,beq_iff_eq] at h1
  obtain ⟨rfl,rfl,hl⟩:=h1
  exact ⟨_,qdt L own mark hl⟩
 ·cases h
theorem qcv:aF (f360.body.getD .skip)=[uq]:=by kernel_rfl
def xj (L:List (List Dat)):Int:=bif bA (eC L) L.length 0 then gE (eC L) L.length 0 else -1
theorem Xk (L:List (List Dat)) (own:Bool) (mark:Bool):runG Γu7 ΛIf prog f360 [.row 0,.v (.func (.func 346) #[] #[])] ⟨[],[],[rH L own mark]⟩ =
 (bif (L.length:Int)==(L.length:Int)&&(true&&cz L) then (bif bA (eC L) L.length (0:Int) then some (.v (I (gE (eC L) L.length (0:Int))),⟨[],[],[.live ⟨117,aP,L,own,mark⟩]⟩) else some (.v (I (-1)),⟨[],[],[.live ⟨117,aP,L,own,mark⟩]⟩)) else none):=by kernel_rfl
def Er (xs:List SV) (m:Mem):Option (Bool×Value) :=
 match xs,m with
 | [.row 0,.v (.func (.func 346) ⟨[]⟩ ⟨[]⟩)],⟨[],[],[.live ⟨117,[.sl 162 [.num .i64,.num .i64],.num .i64,.num .i64,.num .i64,.num .i64],L,own,mark⟩]⟩=>some (cz L,I (xj L))
 | _,_=>none
theorem qfb:bk 360 Er:=by
 intro xs m r h
 unfold Er at h
 split at h
 ·rename_i L own mark
  obtain ⟨h1,rfl⟩:=ab h
  refine aj (Λ:=ΛIf) Ia func360 rfl (fun z z1 z2=>bR qcv (qdh z z1 z2)) ?_
  refine (Xk L own mark).trans ?_
  rw [h1,beq_self_eq_true]
  unfold xj
  cases bA (eC L) L.length 0<;>rfl
 ·cases h
def Γu8:Orc:=aU 360 Er Γu7
theorem Qw:Γu8.Ok prog:=aO Ia qfb
theorem Xq (L:List (List Dat)) (own:Bool) (mark:Bool):runG Γu8 L0 prog f345 [.row 0,.v (.func (.func 346) #[] #[])] ⟨[],[],[rH L own mark]⟩ =
 (bif cz L then some (.v (Bo (decide (xj L>=(0:Int)))),⟨[],[],[.live ⟨117,aP,L,own,mark⟩]⟩) else none):=by kernel_rfl
def Ev (xs:List SV) (m:Mem):Option (Bool×Value) :=
 match xs,m with
 | [.row 0,.v (.func (.func 346) ⟨[]⟩ ⟨[]⟩)],⟨[],[],[.live ⟨117,[.sl 162 [.num .i64,.num .i64],.num .i64,.num .i64,.num .i64,.num .i64],L,own,mark⟩]⟩=>some (cz L,Bo (bA (eC L) L.length 0))
 | _,_=>none
theorem qfg:bk 345 Ev:=by
 intro xs m r h
 unfold Ev at h
 split at h
 ·rename_i L own mark
  obtain ⟨h1,rfl⟩:=ab h
  refine aj (Λ:=L0) Qw func345 rfl ai ?_
  refine (Xq L own mark).trans ?_
  rw [h1]
  unfold xj
  have:=(OL (eC L) L.length 0).1
  cases bA (eC L) L.length 0
  ·rfl
  ·show some (SV.v (Bo (decide (gE (eC L) L.length 0>=0))),_)=_
   rw [decide_eq_true (show gE (eC L) L.length 0>=0 from this)]
 ·cases h
def Γu9:Orc:=aU 345 Ev Γu8
theorem Qu:Γu9.Ok prog:=aO Qw qfg
def wrB (L:List (List Dat)) (r1 r2 r3 r4 r5 r6 r7 r8:Int):Int:=bif !bJ 1 4 (L.length:Int) then 1 else bif bA (eC L) L.length 0 then 2 else bif !(bJ 1 50 r1&&(bJ 1 50 r2&&bJ 1 50 r3)) then 3 else bif !bJ 0 1024 r4 then 4 else bif !bJ 1 65536 r5 then 5 else bif !bJ 1 50 r6 then 6 else bif !bJ 1 1073741824 r7 then 7 else bif !bJ 0 (L.length:Int) r8 then 8 else 0
theorem W7 (r1:Int) (r2:Int) (r3:Int) (r4:Int) (r5:Int) (r6:Int) (r7:Int) (r8:Int) (L:List (List Dat)) (own:Bool) (mark:Bool):runG Γu9 L0 prog f312 [.ag [.row 0,.v (I r1),.v (I r2),.v (I r3),.v (I r4),.v (I r5),.v (I r6),.v (I r7),.v (I r8)]] ⟨[],[],[rH L own mark]⟩ =
 (bif !bJ (1:Int) (4:Int) (L.length:Int) then some (.v (I 1),⟨[],[],[.live ⟨117,aP,L,own,mark⟩]⟩) else (bif cz L then (bif bA (eC L) L.length (0:Int) then some (.v (I 2),⟨[],[],[.live ⟨117,aP,L,own,mark⟩]⟩) else (bif !bJ (1:Int) (50:Int) r1 then some (.v (I 3),⟨[],[],[.live ⟨117,aP,L,own,mark⟩]⟩) else (bif !bJ (1:Int) (50:Int) r2 then some (.v (I 3),⟨[],[],[.live ⟨117,aP,L,own,mark⟩]⟩) else (bif !bJ (1:Int) (50:Int) r3 then some (.v (I 3),⟨[],[],[.live ⟨117,aP,L,own,mark⟩]⟩) else (bif !bJ (0:Int) (1024:Int) r4 then some (.v (I 4),⟨[],[],[.live ⟨117,aP,L,own,mark⟩]⟩) else (bif !bJ (1:Int) (65536:Int) r5 then some (.v (I 5),⟨[],[],[.live ⟨117,aP,L,own,mark⟩]⟩) else (bif !bJ (1:Int) (50:Int) r6 then some (.v (I 6),⟨[],[],[.live ⟨117,aP,L,own,mark⟩]⟩) else (bif !bJ (1:Int) (1073741824:Int) r7 then some (.v (I 7),⟨[],[],[.live ⟨117,aP,L,own,mark⟩]⟩) else (bif !bJ (0:Int) ((L.length:Int)) r8 then some (.v (I 8),⟨[],[],[.live ⟨117,aP,L,own,mark⟩]⟩) else some (.v (I 0),⟨[],[],[.live ⟨117,aP,L,own,mark⟩]⟩)))))))))) else none)):=by kernel_rfl
def Ee (xs:List SV) (m:Mem):Option (Bool×Value) :=
 match xs,m with
 | [.ag [.row 0,.v (.int .i64 r1),.v (.int .i64 r2),.v (.int .i64 r3),.v (.int .i64 r4),.v (.int .i64 r5),.v (.int .i64 r6),.v (.int .i64 r7),.v (.int .i64 r8)]],⟨[],[],[.live ⟨117,[.sl 162 [.num .i64,.num .i64],.num .i64,.num .i64,.num .i64,.num .i64],L,own,mark⟩]⟩=>some (cz L,I (wrB L r1 r2 r3 r4 r5 r6 r7 r8))
 | _,_=>none
theorem qe5:bk 312 Ee:=by
 intro xs m r h
 unfold Ee at h
 split at h
 ·rename_i r1 r2 r3 r4 r5 r6 r7 r8 L own mark
  obtain ⟨h1,rfl⟩:=ab h
  refine aj (Λ:=L0) Qu func312 rfl ai ?_
  refine (W7 r1 r2 r3 r4 r5 r6 r7 r8 L own mark).trans ?_
  rw [h1]
  unfold wrB
  (cases bJ 1 4 (L.length:Int)<;>first|rfl|(cases bA (eC L) L.length 0<;>first|rfl|(cases bJ 1 50 r1<;>first|rfl|(cases bJ 1 50 r2<;>first|rfl|(cases bJ 1 50 r3<;>first|rfl|(cases bJ 0 1024 r4<;>first|rfl|(cases bJ 1 65536 r5<;>first|rfl|(cases bJ 1 50 r6<;>first|rfl|(cases bJ 1 1073741824 r7<;>first|rfl|(cases bJ 0 (L.length:Int) r8<;>first|rfl|rfl))))))))))
 ·cases h
def Γu10:Orc:=aU 312 Ee Γu9
theorem QD:Γu10.Ok prog:=aO Qu qe5
theorem Xd (r1:Int) (r2:Int) (r3:Int) (r4:Int) (r5:Int) (r6:Int) (r7:Int) (r8:Int) (L:List (List Dat)) (own:Bool) (mark:Bool):runG Γu10 L0 prog f254 [.ag [.row 0,.v (I r1),.v (I r2),.v (I r3),.v (I r4),.v (I r5),.v (I r6),.v (I r7),.v (I r8)]] ⟨[],[],[rH L own mark]⟩ =
 (bif cz L then some (.v (Bo (wrB L r1 r2 r3 r4 r5 r6 r7 r8==(0:Int))),⟨[],[],[.live ⟨117,aP,L,own,mark⟩]⟩) else none):=by kernel_rfl
def Eg (xs:List SV) (m:Mem):Option (Bool×Value) :=
 match xs,m with
 | [.ag [.row 0,.v (.int .i64 r1),.v (.int .i64 r2),.v (.int .i64 r3),.v (.int .i64 r4),.v (.int .i64 r5),.v (.int .i64 r6),.v (.int .i64 r7),.v (.int .i64 r8)]],⟨[],[],[.live ⟨117,[.sl 162 [.num .i64,.num .i64],.num .i64,.num .i64,.num .i64,.num .i64],L,own,mark⟩]⟩=>some (cz L,Bo (wrB L r1 r2 r3 r4 r5 r6 r7 r8==0))
 | _,_=>none
theorem qe7:bk 254 Eg:=by
 intro xs m r h
 unfold Eg at h
 split at h
 ·rename_i r1 r2 r3 r4 r5 r6 r7 r8 L own mark
  obtain ⟨h1,rfl⟩:=ab h
  refine aj (Λ:=L0) QD func254 rfl ai ?_
  refine (Xd r1 r2 r3 r4 r5 r6 r7 r8 L own mark).trans ?_
  rw [h1]
  rfl
 ·cases h
def Γu11:Orc:=aU 254 Eg Γu10
theorem qjM:Γu11.Ok prog:=aO QD qe7
def Γu12:Orc:=Γu11
theorem qjL:Γu12.Ok prog:=qjM
def Γu13:Orc:=Γu12
theorem QC:Γu13.Ok prog:=qjL
theorem ZD (g:Int) (v:Int) (m:Int) (u:Int) (L:List (List Dat)) (own:Bool) (mark:Bool):runG Γu13 L0 prog f278 [.ag [.row 0,.v (I g),.v (I v),.v (I m),.v (I u)]] ⟨[],[],[rP L own mark]⟩ =
 (bif Nat.blt (0:Nat) L.length&&L.length.ble (1000000) then some (.ag [.row 1,.v (I g),.v (I v),.v (I m),.v (I u)],⟨[],[],[.live ⟨162,[.num .i64,.num .i64],L,own,mark⟩,.live ⟨162,[.num .i64,.num .i64],L,true,false⟩]⟩) else none):=by kernel_rfl
def Gf (xs:List SV) (m:Mem):Option (Bool×SV×Mem) :=
 match xs,m with
 | [.ag [.row 0,.v (.int .i64 g),.v (.int .i64 v),.v (.int .i64 m),.v (.int .i64 u)]],⟨[],[],[.live ⟨162,[.num .i64,.num .i64],L,own,mark⟩]⟩=>some (Nat.blt 0 L.length&&Nat.ble L.length 1000000,.ag [.row 1,.v (I g),.v (I v),.v (I m),.v (I u)],⟨[],[],[rP L own mark,rP L true false]⟩)
 | _,_=>none
theorem qgX:aQ 278 Gf:=by
 intro xs m r m' h
 unfold Gf at h
 split at h
 ·rename_i g v m u L own mark
  obtain ⟨h1,rfl,rfl⟩:=aw h
  refine aj (Λ:=L0) QC func278 rfl ai ?_
  refine (ZD g v m u L own mark).trans ?_
  rw [h1]
  rfl
 ·cases h
def Γu14:Orc:=aC 278 Gf Γu13
theorem QB:Γu14.Ok prog:=aA QC qgX
theorem ZI (L:List (List Dat)) (own:Bool) (mark:Bool):runG Γu14 L0 prog f325 [.row 0] ⟨[],[],[rH L own mark]⟩ =
 (bif Nat.blt (0:Nat) L.length then (bif decide (((0:Nat)+L.length)*(56:Nat)<=(140737488355328:Nat)/\(0:Nat)+L.length<=(9223372036854775807:Nat)) then some (.row 1,⟨[],[],[.live ⟨117,aP,L,own,mark⟩,.live ⟨117,[CK.sl 162 [CK0.num IntKind.i64,CK0.num IntKind.i64],.num .i64,.num .i64,.num .i64,.num .i64],L,true,false⟩]⟩) else none) else none):=by kernel_rfl
def Gk (xs:List SV) (m:Mem):Option (Bool×SV×Mem) :=
 match xs,m with
 | [.row 0],⟨[],[],[.live ⟨117,[.sl 162 [.num .i64,.num .i64],.num .i64,.num .i64,.num .i64,.num .i64],L,own,mark⟩]⟩=>some (Nat.blt 0 L.length&&Nat.ble L.length 1000000,.row 1,⟨[],[],[rH L own mark,rH L true false]⟩)
 | _,_=>none
theorem qg2:aQ 325 Gk:=by
 intro xs m r m' h
 unfold Gk at h
 split at h
 ·rename_i L own mark
  obtain ⟨h1,rfl,rfl⟩:=aw h
  refine aj (Λ:=L0) QB func325 rfl ai ?_
  refine (ZI L own mark).trans ?_
  rw [Bool.and_eq_true] at h1
  have h2:=Nat.le_of_ble_eq_true h1.2
  rw [h1.1,decide_eq_true (show (0+L.length)*56<=140737488355328/\0+L.length<=9223372036854775807 by omega)]
  rfl
 ·cases h
def Γu15:Orc:=aC 325 Gk Γu14
theorem Ib:Γu15.Ok prog:=aA QB qg2
def gi:Code:=ch (f262.body.getD .skip) 0
def cV:List Bool:=aB 25 [1,2,10,11,12]
def oY (e:Ex):List Bool:=match e with
 | .exit _=>aB 25 [1,2]
 | .ret=>aB 25 [2]
 | .normal=>aB 25 [1,2,10,11,12]
def ij (e:Ex) (st:St):Option (Ex×St):=some (e,ac 0 1 (oY e) st)
theorem UQ (r1:Int) (r2:Int) (r3:Int) (r4:Int) (r5:Int) (r6:Int) (r7:Int) (r8:Int) (nn:Int) (k:Int) (L:List (List Dat)) (own:Bool) (mark:Bool) (M:List (List Dat)) (n:Nat):an Γu15 prog L0 (ac 0 1 cV) gi (n+1) (mk cV [.ptr 0 0,.ptr 1 0,.row 1,.v (I nn),.v (I k)] ⟨[[.row 1,.v (I r1),.v (I r2),.v (I r3),.v (I r4),.v (I r5),.v (I r6),.v (I r7),.v (I r8)],[.v (.slice none 0 0),.v (I 0),.v (I 0),.v (I 0),.v (I 0),.v (I 0),.v (I 0),.v (I 0),.v (I 0)]],[true,true],[rH L own mark,rH M true false]⟩) ij =
 (bif decide (k<nn) then (bif decide ((0:Int)<=k)&&decide (k<(M.length:Int)) then (same ((same ((same ((bif Nat.blt (0:Nat) (bp M k).length&&(bp M k).length.ble (1000000) then (bif decide ((0:Int)<=k)&&decide (k<(M.length:Int)) then an Γu15 prog L0 (ac 0 1 cV) gi n (mk cV [.ptr 0 0,.ptr 1 0,.row 1,.v (I nn),.v (I (wI (k+(1:Int))))] ⟨[[.row 1,.v (I r1),.v (I r2),.v (I r3),.v (I r4),.v (I r5),.v (I r6),.v (I r7),.v (I r8)],[.v (Value.slice none (0:Nat) (0:Nat)),.v (I 0),.v (I 0),.v (I 0),.v (I 0),.v (I 0),.v (I 0),.v (I 0),.v (I 0)]],[true,true],[.live ⟨117,aP,L,own,mark⟩,.live ⟨117,aP,M.set k.toNat (ef (M.getD k.toNat []) (0:Nat) [Dat.l (Value.slice none (0:Nat) (0:Nat)) (bp M k),Dat.n (c4 M k),Dat.n (cK M k),Dat.n (cT M k),Dat.n (c0 M k)]),true,false⟩]⟩) ij else none) else none)) ((bif Nat.blt (0:Nat) (bp M k).length&&(bp M k).length.ble (1000000) then (bif decide ((0:Int)<=k)&&decide (k<(M.length:Int)) then an Γu15 prog L0 (ac 0 1 cV) gi n (mk cV [.ptr 0 0,.ptr 1 0,.row 1,.v (I nn),.v (I (wI (k+(1:Int))))] ⟨[[.row 1,.v (I r1),.v (I r2),.v (I r3),.v (I r4),.v (I r5),.v (I r6),.v (I r7),.v (I r8)],[.v (Value.slice none (0:Nat) (0:Nat)),.v (I 0),.v (I 0),.v (I 0),.v (I 0),.v (I 0),.v (I 0),.v (I 0),.v (I 0)]],[true,true],[.live ⟨117,aP,L,own,mark⟩,.live ⟨117,aP,M.set k.toNat (ef (M.getD k.toNat []) (0:Nat) [Dat.l (Value.slice none (0:Nat) (0:Nat)) (bp M k),Dat.n (c4 M k),Dat.n (cK M k),Dat.n (cT M k),Dat.n (c0 M k)]),true,false⟩]⟩) ij else none) else none)))) ((same ((same ((bif Nat.blt (0:Nat) (bp M k).length&&(bp M k).length.ble (1000000) then (bif decide ((0:Int)<=k)&&decide (k<(M.length:Int)) then an Γu15 prog L0 (ac 0 1 cV) gi n (mk cV [.ptr 0 0,.ptr 1 0,.row 1,.v (I nn),.v (I (wI (k+(1:Int))))] ⟨[[.row 1,.v (I r1),.v (I r2),.v (I r3),.v (I r4),.v (I r5),.v (I r6),.v (I r7),.v (I r8)],[.v (Value.slice none (0:Nat) (0:Nat)),.v (I 0),.v (I 0),.v (I 0),.v (I 0),.v (I 0),.v (I 0),.v (I 0),.v (I 0)]],[true,true],[.live ⟨117,aP,L,own,mark⟩,.live ⟨117,aP,M.set k.toNat (ef (M.getD k.toNat []) (0:Nat) [Dat.l (Value.slice none (0:Nat) (0:Nat)) (bp M k),Dat.n (c4 M k),Dat.n (cK M k),Dat.n (cT M k),Dat.n (c0 M k)]),true,false⟩]⟩) ij else none) else none)) ((bif Nat.blt (0:Nat) (bp M k).length&&(bp M k).length.ble (1000000) then (bif decide ((0:Int)<=k)&&decide (k<(M.length:Int)) then an Γu15 prog L0 (ac 0 1 cV) gi n (mk cV [.ptr 0 0,.ptr 1 0,.row 1,.v (I nn),.v (I (wI (k+(1:Int))))] ⟨[[.row 1,.v (I r1),.v (I r2),.v (I r3),.v (I r4),.v (I r5),.v (I r6),.v (I r7),.v (I r8)],[.v (Value.slice none (0:Nat) (0:Nat)),.v (I 0),.v (I 0),.v (I 0),.v (I 0),.v (I 0),.v (I 0),.v (I 0),.v (I 0)]],[true,true],[.live ⟨117,aP,L,own,mark⟩,.live ⟨117,aP,M.set k.toNat (ef (M.getD k.toNat []) (0:Nat) [Dat.l (Value.slice none (0:Nat) (0:Nat)) (bp M k),Dat.n (c4 M k),Dat.n (cK M k),Dat.n (cT M k),Dat.n (c0 M k)]),true,false⟩]⟩) ij else none) else none)))) ((bif Nat.blt (0:Nat) (bp M k).length&&(bp M k).length.ble (1000000) then (bif decide ((0:Int)<=k)&&decide (k<(M.length:Int)) then an Γu15 prog L0 (ac 0 1 cV) gi n (mk cV [.ptr 0 0,.ptr 1 0,.row 1,.v (I nn),.v (I (wI (k+(1:Int))))] ⟨[[.row 1,.v (I r1),.v (I r2),.v (I r3),.v (I r4),.v (I r5),.v (I r6),.v (I r7),.v (I r8)],[.v (Value.slice none (0:Nat) (0:Nat)),.v (I 0),.v (I 0),.v (I 0),.v (I 0),.v (I 0),.v (I 0),.v (I 0),.v (I 0)]],[true,true],[.live ⟨117,aP,L,own,mark⟩,.live ⟨117,aP,M.set k.toNat (ef (M.getD k.toNat []) (0:Nat) [Dat.l (Value.slice none (0:Nat) (0:Nat)) (bp M k),Dat.n (c4 M k),Dat.n (cK M k),Dat.n (cT M k),Dat.n (c0 M k)]),true,false⟩]⟩) ij else none) else none)))))) ((same ((same ((same ((bif Nat.blt (0:Nat) (bp M k).length&&(bp M k).length.ble (1000000) then (bif decide ((0:Int)<=k)&&decide (k<(M.length:Int)) then an Γu15 prog L0 (ac 0 1 cV) gi n (mk cV [.ptr 0 0,.ptr 1 0,.row 1,.v (I nn),.v (I (wI (k+(1:Int))))] ⟨[[.row 1,.v (I r1),.v (I r2),.v (I r3),.v (I r4),.v (I r5),.v (I r6),.v (I r7),.v (I r8)],[.v (Value.slice none (0:Nat) (0:Nat)),.v (I 0),.v (I 0),.v (I 0),.v (I 0),.v (I 0),.v (I 0),.v (I 0),.v (I 0)]],[true,true],[.live ⟨117,aP,L,own,mark⟩,.live ⟨117,aP,M.set k.toNat (ef (M.getD k.toNat []) (0:Nat) [Dat.l (Value.slice none (0:Nat) (0:Nat)) (bp M k),Dat.n (c4 M k),Dat.n (cK M k),Dat.n (cT M k),Dat.n (c0 M k)]),true,false⟩]⟩) ij else none) else none)) ((bif Nat.blt (0:Nat) (bp M k).length&&(bp M k).length.ble (1000000) then (bif decide ((0:Int)<=k)&&decide (k<(M.length:Int)) then an Γu15 prog L0 (ac 0 1 cV) gi n (mk cV [.ptr 0 0,.ptr 1 0,.row 1,.v (I nn),.v (I (wI (k+(1:Int))))] ⟨[[.row 1,.v (I r1),.v (I r2),.v (I r3),.v (I r4),.v (I r5),.v (I r6),.v (I r7),.v (I r8)],[.v (Value.slice none (0:Nat) (0:Nat)),.v (I 0),.v (I 0),.v (I 0),.v (I 0),.v (I 0),.v (I 0),.v (I 0),.v (I 0)]],[true,true],[.live ⟨117,aP,L,own,mark⟩,.live ⟨117,aP,M.set k.toNat (ef (M.getD k.toNat []) (0:Nat) [Dat.l (Value.slice none (0:Nat) (0:Nat)) (bp M k),Dat.n (c4 M k),Dat.n (cK M k),Dat.n (cT M k),Dat.n (c0 M k)]),true,false⟩]⟩) ij else none) else none)))) ((bif Nat.blt (0:Nat) (bp M k).length&&(bp M k).length.ble (1000000) then (bif decide ((0:Int)<=k)&&decide (k<(M.length:Int)) then an Γu15 prog L0 (ac 0 1 cV) gi n (mk cV [.ptr 0 0,.ptr 1 0,.row 1,.v (I nn),.v (I (wI (k+(1:Int))))] ⟨[[.row 1,.v (I r1),.v (I r2),.v (I r3),.v (I r4),.v (I r5),.v (I r6),.v (I r7),.v (I r8)],[.v (Value.slice none (0:Nat) (0:Nat)),.v (I 0),.v (I 0),.v (I 0),.v (I 0),.v (I 0),.v (I 0),.v (I 0),.v (I 0)]],[true,true],[.live ⟨117,aP,L,own,mark⟩,.live ⟨117,aP,M.set k.toNat (ef (M.getD k.toNat []) (0:Nat) [Dat.l (Value.slice none (0:Nat) (0:Nat)) (bp M k),Dat.n (c4 M k),Dat.n (cK M k),Dat.n (cT M k),Dat.n (c0 M k)]),true,false⟩]⟩) ij else none) else none)))) ((bif Nat.blt (0:Nat) (bp M k).length&&(bp M k).length.ble (1000000) then (bif decide ((0:Int)<=k)&&decide (k<(M.length:Int)) then an Γu15 prog L0 (ac 0 1 cV) gi n (mk cV [.ptr 0 0,.ptr 1 0,.row 1,.v (I nn),.v (I (wI (k+(1:Int))))] ⟨[[.row 1,.v (I r1),.v (I r2),.v (I r3),.v (I r4),.v (I r5),.v (I r6),.v (I r7),.v (I r8)],[.v (Value.slice none (0:Nat) (0:Nat)),.v (I 0),.v (I 0),.v (I 0),.v (I 0),.v (I 0),.v (I 0),.v (I 0),.v (I 0)]],[true,true],[.live ⟨117,aP,L,own,mark⟩,.live ⟨117,aP,M.set k.toNat (ef (M.getD k.toNat []) (0:Nat) [Dat.l (Value.slice none (0:Nat) (0:Nat)) (bp M k),Dat.n (c4 M k),Dat.n (cK M k),Dat.n (cT M k),Dat.n (c0 M k)]),true,false⟩]⟩) ij else none) else none))))) else none) else some ((.exit 0),mk (oY (.exit 0)) [.ptr 0 0,.ptr 1 0] ⟨[[.row 1,.v (I r1),.v (I r2),.v (I r3),.v (I r4),.v (I r5),.v (I r6),.v (I r7),.v (I r8)],[.v (Value.slice none (0:Nat) (0:Nat)),.v (I 0),.v (I 0),.v (I 0),.v (I 0),.v (I 0),.v (I 0),.v (I 0),.v (I 0)]],[true,true],[.live ⟨117,aP,L,own,mark⟩,.live ⟨117,aP,M,true,false⟩]⟩)):=by kernel_rfl
theorem Lh (r1:Int) (r2:Int) (r3:Int) (r4:Int) (r5:Int) (r6:Int) (r7:Int) (r8:Int) (nn:Int) (k:Int) (L:List (List Dat)) (own:Bool) (mark:Bool) (M:List (List Dat)) (n:Nat):an Γu15 prog L0 (ac 0 1 cV) gi (n+1) (mk cV [.ptr 0 0,.ptr 1 0,.row 1,.v (I nn),.v (I k)] ⟨[[.row 1,.v (I r1),.v (I r2),.v (I r3),.v (I r4),.v (I r5),.v (I r6),.v (I r7),.v (I r8)],[.v (.slice none 0 0),.v (I 0),.v (I 0),.v (I 0),.v (I 0),.v (I 0),.v (I 0),.v (I 0),.v (I 0)]],[true,true],[rH L own mark,rH M true false]⟩) ij =
 (bif decide (k<nn) then (bif decide ((0:Int)<=k)&&decide (k<(M.length:Int)) then (bif Nat.blt (0:Nat) (bp M k).length&&(bp M k).length.ble (1000000) then (bif decide ((0:Int)<=k)&&decide (k<(M.length:Int)) then an Γu15 prog L0 (ac 0 1 cV) gi n (mk cV [.ptr 0 0,.ptr 1 0,.row 1,.v (I nn),.v (I (wI (k+(1:Int))))] ⟨[[.row 1,.v (I r1),.v (I r2),.v (I r3),.v (I r4),.v (I r5),.v (I r6),.v (I r7),.v (I r8)],[.v (Value.slice none (0:Nat) (0:Nat)),.v (I 0),.v (I 0),.v (I 0),.v (I 0),.v (I 0),.v (I 0),.v (I 0),.v (I 0)]],[true,true],[.live ⟨117,aP,L,own,mark⟩,.live ⟨117,aP,M.set k.toNat (ef (M.getD k.toNat []) (0:Nat) [Dat.l (Value.slice none (0:Nat) (0:Nat)) (bp M k),Dat.n (c4 M k),Dat.n (cK M k),Dat.n (cT M k),Dat.n (c0 M k)]),true,false⟩]⟩) ij else none) else none) else none) else some ((.exit 0),mk (oY (.exit 0)) [.ptr 0 0,.ptr 1 0] ⟨[[.row 1,.v (I r1),.v (I r2),.v (I r3),.v (I r4),.v (I r5),.v (I r6),.v (I r7),.v (I r8)],[.v (Value.slice none (0:Nat) (0:Nat)),.v (I 0),.v (I 0),.v (I 0),.v (I 0),.v (I 0),.v (I 0),.v (I 0),.v (I 0)]],[true,true],[.live ⟨117,aP,L,own,mark⟩,.live ⟨117,aP,M,true,false⟩]⟩)):=(UQ _ _ _ _ _ _ _ _ _ _ _ _ _ _ _).trans (by simp only [iV])
def S2 (n:Nat) (r1:Int) (r2:Int) (r3:Int) (r4:Int) (r5:Int) (r6:Int) (r7:Int) (r8:Int) (nn:Int) (k:Int) (L:List (List Dat)) (own:Bool) (mark:Bool) (M:List (List Dat)):Option (Ex×St) :=
 an Γu15 prog L0 (ac 0 1 cV) gi n (mk cV [.ptr 0 0,.ptr 1 0,.row 1,.v (I nn),.v (I k)] ⟨[[.row 1,.v (I r1),.v (I r2),.v (I r3),.v (I r4),.v (I r5),.v (I r6),.v (I r7),.v (I r8)],[.v (.slice none 0 0),.v (I 0),.v (I 0),.v (I 0),.v (I 0),.v (I 0),.v (I 0),.v (I 0),.v (I 0)]],[true,true],[rH L own mark,rH M true false]⟩) ij
def fu (L:List (List Dat)):Bool:=L.all fun l=>Nat.blt 0 (l.headD (.n 0)).toL.length
theorem Mh {L:List (List Dat)} (h:fu L=true) {k:Int} (h0:0<=k) (h1:k<(L.length:Int)):Nat.blt 0 (bp L k).length=true:=by
 have hk:k.toNat<L.length:=by omega
 have hm:L.getD k.toNat []∈L:=by
  rw [List.getD,List.getElem?_eq_getElem hk]
  exact List.getElem_mem hk
 exact List.all_eq_true.1 h _ hm
theorem U3 {α:Type} {L:List α} {k:Nat} {x:α} (d:α) (hx:L.getD k d=x) (hk:k<L.length):L.set k x=L:=by
 subst hx
 apply List.ext_getElem?
 intro i
 by_cases hi:k=i
 ·subst hi
  rw [List.getElem?_set_self hk,List.getD,List.getElem?_eq_getElem hk]
  rfl
 ·rw [List.getElem?_set_ne hi]
theorem U5 {L:List (List Dat)} (h:cz L=true) {k:Int} (h0:0<=k) (h1:k<(L.length:Int)):L.set k.toNat (ef (L.getD k.toNat []) 0 [.l (.slice none 0 0) (bp L k),.n (c4 L k),.n (cK L k),.n (cT L k),.n (c0 L k)])=L:=by
 have e:=(ws h h0 h1).1
 refine U3 [] ?_ (by omega)
 rw [e]
 rfl
def Nq (r1 r2 r3 r4 r5 r6 r7 r8:Int) (L:List (List Dat)) (own mark:Bool):LT:=.leaf (.exit 0) (mk (oY (.exit 0)) [.ptr 0 0,.ptr 1 0] ⟨[[.row 1,.v (I r1),.v (I r2),.v (I r3),.v (I r4),.v (I r5),.v (I r6),.v (I r7),.v (I r8)],[.v (.slice none 0 0),.v (I 0),.v (I 0),.v (I 0),.v (I 0),.v (I 0),.v (I 0),.v (I 0),.v (I 0)]],[true,true],[rH L own mark,rH L true false]⟩)
theorem qdv (r1 r2 r3 r4 r5 r6 r7 r8:Int) (L:List (List Dat)) (own mark:Bool) (hl:cz L=true) (hn:fu L=true):S2 (L.length+1) r1 r2 r3 r4 r5 r6 r7 r8 (L.length:Int) 0 L own mark L=some (Nq r1 r2 r3 r4 r5 r6 r7 r8 L own mark).pick:=by
 have hll:=BX hl
 refine (qhw (fun _ s=>s) (fun _ _=>True) (L.length:Int) (fun n k (s:Unit)=>S2 n r1 r2 r3 r4 r5 r6 r7 r8 (L.length:Int) k L own mark L) (fun _=>some (.exit 0,mk (oY (.exit 0)) [.ptr 0 0,.ptr 1 0] ⟨[[.row 1,.v (I r1),.v (I r2),.v (I r3),.v (I r4),.v (I r5),.v (I r6),.v (I r7),.v (I r8)],[.v (.slice none 0 0),.v (I 0),.v (I 0),.v (I 0),.v (I 0),.v (I 0),.v (I 0),.v (I 0),.v (I 0)]],[true,true],[rH L own mark,rH L true false]⟩)) (fun n k s hk _=>?_) (fun _ _ _ _=>trivial) (fun n k s hk _=>?_) L.length 0 () (by omega) (by omega) trivial).trans rfl
 ·refine (Lh r1 r2 r3 r4 r5 r6 r7 r8 (L.length:Int) k L own mark L n).trans ?_
  rw [decide_eq_false hk]
  rfl
 ·refine (Lh r1 r2 r3 r4 r5 r6 r7 r8 (L.length:Int) k L own mark L n).trans ?_
  rw [U5 hl hk.1 hk.2,decide_eq_true hk.2,decide_eq_true hk.1,(ws hl hk.1 hk.2).2,Mh hn hk.1 hk.2,az (n:=k+1) (by omega)]
  rfl
def JW (vals:List SV) (m:Mem):Option (Bool×LT) :=
 match vals,m with
 | [.ptr 0 0,.ptr 1 0,.row 1,.v (.int .i64 nn),.v (.int .i64 k)],⟨[[.row 1,.v (.int .i64 r1),.v (.int .i64 r2),.v (.int .i64 r3),.v (.int .i64 r4),.v (.int .i64 r5),.v (.int .i64 r6),.v (.int .i64 r7),.v (.int .i64 r8)],[.v (.slice none 0 0),.v (.int .i64 0),.v (.int .i64 0),.v (.int .i64 0),.v (.int .i64 0),.v (.int .i64 0),.v (.int .i64 0),.v (.int .i64 0),.v (.int .i64 0)]],[true,true],[.live ⟨117,[.sl 162 [.num .i64,.num .i64],.num .i64,.num .i64,.num .i64,.num .i64],L,own,mark⟩,.live ⟨117,[.sl 162 [.num .i64,.num .i64],.num .i64,.num .i64,.num .i64,.num .i64],M,true,false⟩]⟩=>some (nn==(L.length:Int)&&(k==0&&(cz L&&(fu L&&dW (M=L)))),Nq r1 r2 r3 r4 r5 r6 r7 r8 L own mark)
 | _,_=>none
def ΛCo:aV:=fun _ st=>fW 0 1 cV JW st
theorem qdm (z:Base) (z1:z.L.length=0) (z2:z.U.length=1):aS ΛCo prog z gi:=by
 refine gV (Λ:=L0) (kx:=oY) Ib mixed z1 z2 (fun b hb st t h=>by cases h) (G:=JW) (fun _=>rfl) ?_
 intro vals m t h
 unfold JW at h
 split at h
 ·rename_i nn k r1 r2 r3 r4 r5 r6 r7 r8 L own mark M
  obtain ⟨h1,rfl⟩:=ab h
  simp only [Bool.and_eq_true,beq_iff_eq,iG] at h1
  obtain ⟨rfl,rfl,hl,hn,rfl⟩:=h1
  exact ⟨_,qdv r1 r2 r3 r4 r5 r6 r7 r8 M own mark hl hn⟩
 ·cases h
theorem qcD:aF (f262.body.getD .skip)=[gi]:=by kernel_rfl
theorem ZC (r1:Int) (r2:Int) (r3:Int) (r4:Int) (r5:Int) (r6:Int) (r7:Int) (r8:Int) (L:List (List Dat)) (own:Bool) (mark:Bool):runG Γu15 ΛCo prog f262 [.ag [.row 0,.v (I r1),.v (I r2),.v (I r3),.v (I r4),.v (I r5),.v (I r6),.v (I r7),.v (I r8)]] ⟨[],[],[rH L own mark]⟩ =
 (bif Nat.blt (0:Nat) L.length&&L.length.ble (1000000) then (bif (L.length:Int)==(L.length:Int)&&(true&&(cz L&&(fu L&&dW (L=L)))) then some (.ag [.row 1,.v (I r1),.v (I r2),.v (I r3),.v (I r4),.v (I r5),.v (I r6),.v (I r7),.v (I r8)],⟨[],[],[.live ⟨117,aP,L,own,mark⟩,.live ⟨117,aP,L,true,false⟩]⟩) else none) else none):=by kernel_rfl
def Ge (xs:List SV) (m:Mem):Option (Bool×SV×Mem) :=
 match xs,m with
 | [.ag [.row 0,.v (.int .i64 r1),.v (.int .i64 r2),.v (.int .i64 r3),.v (.int .i64 r4),.v (.int .i64 r5),.v (.int .i64 r6),.v (.int .i64 r7),.v (.int .i64 r8)]],⟨[],[],[.live ⟨117,[.sl 162 [.num .i64,.num .i64],.num .i64,.num .i64,.num .i64,.num .i64],L,own,mark⟩]⟩=>some (cz L&&(fu L&&Nat.blt 0 L.length),.ag [.row 1,.v (I r1),.v (I r2),.v (I r3),.v (I r4),.v (I r5),.v (I r6),.v (I r7),.v (I r8)],⟨[],[],[rH L own mark,rH L true false]⟩)
 | _,_=>none
theorem qgW:aQ 262 Ge:=by
 intro xs m r m' h
 unfold Ge at h
 split at h
 ·rename_i r1 r2 r3 r4 r5 r6 r7 r8 L own mark
  obtain ⟨h1,rfl,rfl⟩:=aw h
  refine aj (Λ:=ΛCo) Ib func262 rfl (fun z z1 z2=>bR qcD (qdm z z1 z2)) ?_
  refine (ZC r1 r2 r3 r4 r5 r6 r7 r8 L own mark).trans ?_
  rw [Bool.and_eq_true,Bool.and_eq_true] at h1
  obtain ⟨h1,h2,h3⟩:=h1
  have h4:=BX h1
  rw [h1,h2,h3,show Nat.ble L.length 1000000=true from Nat.ble_eq_true_of_le h4,beq_self_eq_true,iG.2 rfl]
  rfl
 ·cases h
def Γu16:Orc:=aC 262 Ge Γu15
theorem qjK:Γu16.Ok prog:=aA Ib qgW
def ΓR3:Orc:=Γu16
theorem OkR3:ΓR3.Ok prog:=qjK
end Go.Proofs.YtainfdcfkgemhaaGreat
namespace Go.Proofs.YtainfdcfkgemhaaGreat
open Go Go.Proofs Go.Sx
def ΓA13:Orc:=ΓR3
theorem uF:ΓA13.Ok prog:=OkR3
end Go.Proofs.YtainfdcfkgemhaaGreat
