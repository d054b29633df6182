/-
  What is known of this program: that the document's answers are the program's;rules,the document's,and their law package's own.
-/
import Derived.Test.YtainfdcfkgemhaaGreatYb
import Derived.Test.YtainfdcfkgemhaaGreatSw
import Derived.Test.YtainfdcfkgemhaaGreatSx
set_option maxRecDepth 100000
noncomputable section
open Go.Proofs.Tryz
namespace Go.Proofs.YtainfdcfkgemhaaGreat
open Go Go.Proofs Go.Sx
set_option linter.unusedVariables false
def ΓRb:Orc:={ ΓRg3 with sb:=true }
theorem qjg:ΓRb.Ok prog:=⟨IC.call,IC.rd,IC.eqv⟩
def ΓRv1:Orc:=ΓRb
theorem Q9:ΓRv1.Ok prog:=qjg
theorem Zc (L:List (List Dat)) (own:Bool) (mark:Bool):runG ΓRv1 L0 prog f329 [.row 0] ⟨[],[],[rP L own mark]⟩ =
 (bif Nat.blt (0:Nat) L.length then (bif decide (((0:Nat)+L.length)*(16:Nat)<=(140737488355328:Nat)/\(0:Nat)+L.length<=(9223372036854775807:Nat)) then some (.row 1,⟨[],[],[.live ⟨162,[.num .i64,.num .i64],L,own,mark⟩,.live ⟨162,[.num .i64,.num .i64],L,true,false⟩]⟩) else none) else none):=by kernel_rfl
def Gr (xs:List SV) (m:Mem):Option (Bool×SV×Mem) :=
 match xs,m with
 | [.row 0],⟨[],[],[.live ⟨162,[.num .i64,.num .i64],L,own,mark⟩]⟩=>some (Nat.blt 0 L.length&&Nat.ble L.length 1000000,.row 1,⟨[],[],[rP L own mark,rP L true false]⟩)
 | _,_=>none
theorem qfQ:aM 329 Gr:=by
 intro xs m r m' h
 unfold Gr at h
 split at h
 ·rename_i L own mark
  obtain ⟨h1,rfl,rfl⟩:=an h
  refine af (Λ:=L0) Q9 func329 rfl ai ?_
  refine (Zc L own mark).trans ?_
  rw [Bool.and_eq_true] at h1
  have h2:=Nat.le_of_ble_eq_true h1.2
  rw [h1.1,decide_eq_true (show (0+L.length)*16<=140737488355328/\0+L.length<=9223372036854775807 by omega)]
  rfl
 ·cases h
def ΓRv2:Orc:=aw 329 Gr ΓRv1
theorem qjb:ΓRv2.Ok prog:=aq Q9 qfQ
def ΓRv3:Orc:=ΓRv2
theorem IB:ΓRv3.Ok prog:=qjb
end Go.Proofs.YtainfdcfkgemhaaGreat
namespace Go.Proofs.YtainfdcfkgemhaaGreat
open Go Go.Proofs Go.Sx
set_option linter.unusedVariables false
end Go.Proofs.YtainfdcfkgemhaaGreat
namespace Go.Proofs.YtainfdcfkgemhaaGreat
open Go Go.Proofs Go.Sx
set_option linter.unusedVariables false
end Go.Proofs.YtainfdcfkgemhaaGreat
namespace Go.Proofs.YtainfdcfkgemhaaGreat
open Go Go.Proofs Go.Sx
set_option linter.unusedVariables false
def bj (L:List (List Dat)) (k:Int):List (List Dat):=((L.getD k.toNat []).headD (.n 0)).toL
def c5 (L:List (List Dat)) (k:Int):Int:=((L.getD k.toNat []).tail.headD (.n 0)).toI
def cK (L:List (List Dat)) (k:Int):Int:=((L.getD k.toNat []).tail.tail.headD (.n 0)).toI
def cV (L:List (List Dat)) (k:Int):Int:=((L.getD k.toNat []).tail.tail.tail.headD (.n 0)).toI
def c4 (L:List (List Dat)) (k:Int):Int:=((L.getD k.toNat []).tail.tail.tail.tail.headD (.n 0)).toI
abbrev aP:List CK:=[.sl 162 [.num .i64,.num .i64],.num .i64,.num .i64,.num .i64,.num .i64]
abbrev rH (L:List (List Dat)) (own mark:Bool):RowS:=.live ⟨117,aP,L,own,mark⟩
def L8:List Dat->Bool
 | [.l (.slice none 0 0) A,.n _,.n _,.n _,.n _]=>Nat.ble A.length 1000000
 | _=>false
def cw (L:List (List Dat)):Bool:=L.all L8&&Nat.ble L.length 1000000
theorem Cb {L:List (List Dat)} (h:cw L=true):L.length<=1000000:=by
 unfold cw at h
 rw [Bool.and_eq_true] at h
 exact Nat.le_of_ble_eq_true h.2
theorem wC {L:List (List Dat)} (h:cw L=true) {k:Int} (h0:0<=k) (h1:k<(L.length:Int)):L.getD k.toNat []=[.l (.slice none 0 0) (bj L k),.n (c5 L k),.n (cK L k),.n (cV L k),.n (c4 L k)]/\Nat.ble (bj L k).length 1000000=true:=by
 unfold cw at h
 rw [Bool.and_eq_true] at h
 have hk:k.toNat<L.length:=by omega
 have hm:L.getD k.toNat []∈L:=by
  rw [List.getD,List.getElem?_eq_getElem hk]
  exact List.getElem_mem hk
 have:=List.all_eq_true.1 h.1 _ hm
 unfold bj c5 cK cV c4
 generalize L.getD k.toNat []=l at *
 unfold L8 at this
 split at this
 ·exact ⟨rfl,this⟩
 ·cases this
def AH (f:FuncId):Bool:=Nat.beq f 278||Nat.beq f 262||Nat.beq f 329||Nat.beq f 325||Nat.beq f 28
def Γu0:Orc:={ ΓRv3 with sb:=true,bs:=true,wr:=AH }
theorem Oku0:Γu0.Ok prog:=⟨IB.call,IB.rd,IB.eqv⟩
def uL (n lo hi:Int):Bool:=bif decide (n>=lo) then decide (n<=hi) else false
def bK (lo hi n:Int):Bool:=bif decide (lo<=n) then decide (n<=hi) else false
def Γu1:Orc:=Γu0
theorem Oku1:Γu1.Ok prog:=Oku0
theorem runFi (lo:Int) (hi:Int) (n:Int):runG Γu1 L0 prog f344 [.v (I lo),.v (I hi),.v (I n)] M0 =
 (bif decide (lo<=n) then some (.v (Bo (decide (n<=hi))),M0) else some (.v (Bo false),M0)):=by kernel_rfl
def gFi (vs:List Value):Option (Bool×Value) :=
 match vs with
 | [.int .i64 lo,.int .i64 hi,.int .i64 n]=>some (true,Bo (bK lo hi n))
 | _=>none
theorem gFi_ok:am 344 gFi:=by
 intro vs r h
 unfold gFi at h
 split at h
 ·rename_i lo hi n
  obtain ⟨h1,rfl⟩:=ab h
  refine ak (vs:=[I lo,I hi,I n]) (Λ:=L0) (m':=M0) Oku1 func344 rfl ai ?_
  exact (runFi lo hi n).trans (by unfold bK;cases decide (lo<=n)<;>rfl)
 ·cases h
def Γu2:Orc:=ah 344 gFi Γu1
theorem Qm:Γu2.Ok prog:=ac Oku1 gFi_ok
theorem Yz (lo:Int) (hi:Int) (n:Int):runG Γu2 L0 prog f347 [.v (I lo),.v (I hi),.v (I n)] M0 =
 (bif decide (lo<=n) then some (.v (Bo (decide (n<=hi))),M0) else some (.v (Bo false),M0)):=by kernel_rfl
def FS (vs:List Value):Option (Bool×Value) :=
 match vs with
 | [.int .i64 lo,.int .i64 hi,.int .i64 n]=>some (true,Bo (bK lo hi n))
 | _=>none
theorem qfj:am 347 FS:=by
 intro vs r h
 unfold FS at h
 split at h
 ·rename_i lo hi n
  obtain ⟨h1,rfl⟩:=ab h
  refine ak (vs:=[I lo,I hi,I n]) (Λ:=L0) (m':=M0) Qm func347 rfl ai ?_
  exact (Yz lo hi n).trans (by unfold bK;cases decide (lo<=n)<;>rfl)
 ·cases h
def Γu3:Orc:=ah 347 FS Γu2
theorem qim:Γu3.Ok prog:=ac Qm qfj
def ZW (L:List (List Dat)) (g v m u:Int):Bool:=qhO L&&(uL g 1 100&&(uL v 1 65536&&(uL m 1 1000000&&uL u 0 1073741824)))
def Γu4:Orc:=Γu3
theorem Ql:Γu4.Ok prog:=qim
def pq (L:List (List Dat)) (g v m u:Int):Bool:=bK 1 100 g&&(bK 1 65536 v&&(bK 1 1000000 m&&(bK 0 1073741824 u&&gY L)))
theorem WO (g:Int) (v:Int) (m:Int) (u:Int) (L:List (List Dat)) (own:Bool) (mark:Bool):runG Γu4 L0 prog f361 [.ag [.row 0,.v (I g),.v (I v),.v (I m),.v (I u)]] ⟨[],[],[rP L own mark]⟩ =
 (bif !bK (1:Int) (100:Int) g then some (.v (Bo false),⟨[],[],[.live ⟨162,[.num .i64,.num .i64],L,own,mark⟩]⟩) else (bif !bK (1:Int) (65536:Int) v then some (.v (Bo false),⟨[],[],[.live ⟨162,[.num .i64,.num .i64],L,own,mark⟩]⟩) else (bif bK (1:Int) (1000000:Int) m then (bif bK (0:Int) (1073741824:Int) u then (bif L.length.ble (1000000) then some (.v (Bo (gY L)),⟨[],[],[.live ⟨162,[.num .i64,.num .i64],L,own,mark⟩]⟩) else none) else some (.v (Bo false),⟨[],[],[.live ⟨162,[.num .i64,.num .i64],L,own,mark⟩]⟩)) else some (.v (Bo false),⟨[],[],[.live ⟨162,[.num .i64,.num .i64],L,own,mark⟩]⟩)))):=by kernel_rfl
def Et (xs:List SV) (m:Mem):Option (Bool×Value) :=
 match xs,m with
 | [.ag [.row 0,.v (.int .i64 g),.v (.int .i64 v),.v (.int .i64 m),.v (.int .i64 u)]],⟨[],[],[.live ⟨162,[.num .i64,.num .i64],L,own,mark⟩]⟩=>some (Nat.ble L.length 1000000,Bo (pq L g v m u))
 | _,_=>none
theorem qd8:bi 361 Et:=by
 intro xs m r h
 unfold Et at h
 split at h
 ·rename_i g v m u L own mark
  obtain ⟨h1,rfl⟩:=ab h
  refine af (Λ:=L0) Ql func361 rfl ai ?_
  refine (WO g v m u L own mark).trans ?_
  unfold pq
  first|rfl|(cases bK 1 100 g<;>(first|rfl|(cases bK 1 65536 v<;>(first|rfl|(cases bK 1 1000000 m<;>(first|rfl|(cases bK 0 1073741824 u<;>(first|rfl|skip))))))))
  all_goals (rw [h1];cases gY L<;>rfl)
 ·cases h
def Γu5:Orc:=aQ 361 Et Γu4
theorem Qk:Γu5.Ok prog:=aJ Ql qd8
theorem WP (g:Int) (v:Int) (m:Int) (u:Int) (L:List (List Dat)) (own:Bool) (mark:Bool):runG Γu5 L0 prog f346 [.ag [.row 0,.v (I g),.v (I v),.v (I m),.v (I u)]] ⟨[],[],[rP L own mark]⟩ =
 (bif L.length.ble (1000000) then some (.v (Bo (!pq L g v m u)),⟨[],[],[.live ⟨162,[.num .i64,.num .i64],L,own,mark⟩]⟩) else none):=by kernel_rfl
def Eu (xs:List SV) (m:Mem):Option (Bool×Value) :=
 match xs,m with
 | [.ag [.row 0,.v (.int .i64 g),.v (.int .i64 v),.v (.int .i64 m),.v (.int .i64 u)]],⟨[],[],[.live ⟨162,[.num .i64,.num .i64],L,own,mark⟩]⟩=>some (Nat.ble L.length 1000000,Bo (!pq L g v m u))
 | _,_=>none
theorem qd9:bi 346 Eu:=by
 intro xs m r h
 unfold Eu at h
 split at h
 ·rename_i g v m u L own mark
  obtain ⟨h1,rfl⟩:=ab h
  refine af (Λ:=L0) Qk func346 rfl ai ?_
  refine (WP g v m u L own mark).trans ?_
  rw [h1]
  rfl
 ·cases h
def Γu6:Orc:=aQ 346 Eu Γu5
theorem qil:Γu6.Ok prog:=aJ Qk qd9
def J2 (e:Ex):List Bool:=match e with
 | .exit _=>aE 73 [1]
 | .ret=>aE 73 [2]
 | .normal=>aE 73 [1,3]
def qhE (L:List (List Dat)) (k:Int):Bool:=!ZW (bj L k) (c5 L k) (cK L k) (cV L k) (c4 L k)
def qcA (r1 r2 r3 r4 r5 r6 r7 r8:Int) (L:List (List Dat)) (own mark:Bool):LT:=.br (cc (qhE L) L.length 0) (.leaf .ret (mk (J2 .ret) [.v (I 2)] ⟨[],[],[rH L own mark]⟩)) (.leaf (.exit 0) (mk (J2 (.exit 0)) [.ptr 0 0] ⟨[[.row 0,.v (I r1),.v (I r2),.v (I r3),.v (I r4),.v (I r5),.v (I r6),.v (I r7),.v (I r8)]],[true],[rH L own mark]⟩))
def GWr (vals:List SV) (m:Mem):Option (Bool×LT) :=
 match vals,m with
 | [.ptr 0 0,.v (.int .i64 k)],⟨[[.row 0,.v (.int .i64 r1),.v (.int .i64 r2),.v (.int .i64 r3),.v (.int .i64 r4),.v (.int .i64 r5),.v (.int .i64 r6),.v (.int .i64 r7),.v (.int .i64 r8)]],[true],[.live ⟨117,[.sl 162 [.num .i64,.num .i64],.num .i64,.num .i64,.num .i64,.num .i64],L,own,mark⟩]⟩=>some (k==0&&cw L,qcA r1 r2 r3 r4 r5 r6 r7 r8 L own mark)
 | _,_=>none
def Γu7:Orc:=Γu6
theorem Ig:Γu7.Ok prog:=qil
def ud:Code:=cH (f360.body.getD .skip) 0
def nI:List Bool:=aE 19 [0,1,7,8]
def lz (e:Ex):List Bool:=match e with
 | .exit _=>aE 19 []
 | .ret=>aE 19 [4]
 | .normal=>aE 19 [0,1,7,8]
def Jf (e:Ex) (st:St):Option (Ex×St):=some (e,aj 0 1 (lz e) st)
theorem K9 (nn:Int) (k:Int) (L:List (List Dat)) (own:Bool) (mark:Bool) (n:Nat):au Γu7 prog L0 (aj 0 1 nI) ud (n+1) (mk nI [.row 0,.v (.func (.func 346) #[] #[]),.v (I nn),.v (I k)] ⟨[],[],[rH L own mark]⟩) Jf =
 (bif decide (k<nn) then (bif decide ((0:Int)<=k)&&decide (k<(L.length:Int)) then (bif (bj L k).length.ble (1000000) then (bif !pq (bj L k) (c5 L k) (cK L k) (cV L k) (c4 L k) then some (.ret,mk (lz .ret) [.v (I k)] ⟨[],[],[.live ⟨117,aP,L,own,mark⟩]⟩) else au Γu7 prog L0 (aj 0 1 nI) ud n (mk nI [.row 0,.v (Value.func (Fn.func 346) #[] #[]),.v (I nn),.v (I (wI (k+(1:Int))))] ⟨[],[],[.live ⟨117,aP,L,own,mark⟩]⟩) Jf) else none) else none) else some ((.exit 0),mk (lz (.exit 0)) [] ⟨[],[],[.live ⟨117,aP,L,own,mark⟩]⟩)):=by kernel_rfl
def SB (n:Nat) (nn:Int) (k:Int) (L:List (List Dat)) (own:Bool) (mark:Bool):Option (Ex×St) :=
 au Γu7 prog L0 (aj 0 1 nI) ud n (mk nI [.row 0,.v (.func (.func 346) #[] #[]),.v (I nn),.v (I k)] ⟨[],[],[rH L own mark]⟩) Jf
def gt (p:Int->Bool):Nat->Int->Int
 | 0,k=>k
 | m+1,k=>bif p k then k else gt p m (k+1)
theorem OB (p:Int->Bool):∀ (m:Nat) (k:Int),k<=gt p m k/\gt p m k<=k+m
 | 0,k=>⟨Int.le_refl _,by simp [gt]⟩
 | m+1,k=>by
  have h:=OB p m (k+1)
  unfold gt
  cases p k
  ·show k<=gt p m (k+1)/\gt p m (k+1)<=k+((m+1:Nat):Int)
   omega
  ·show k<=k/\k<=k+((m+1:Nat):Int)
   omega
theorem qgn {α:Type} (p:Int->Bool) (N:Int) (E:Nat->Int->Option α) (X:Option α) (Y:Int->Option α) (he:∀ n k,¬ k<N->E (n+1) k=X) (hr:∀ n k,0<=k/\k<N->E (n+1) k=bif p k then Y k else E n (k+1)) :
  ∀ (m:Nat) (k:Int),0<=k->k+m=N->E (m+1) k=bif cc p m k then Y (gt p m k) else X:=by
 intro m
 induction m with
 | zero =>
  intro k h0 h1
  exact he 0 k (by omega)
 | succ m ih =>
  intro k h0 h1
  rw [hr (m+1) k (by omega)]
  show _=bif p k||cc p m (k+1) then Y (bif p k then k else gt p m (k+1)) else X
  cases hp:p k
  ·exact ih (k+1) (by omega) (by omega)
  ·rfl
def eh (L:List (List Dat)) (k:Int):Bool:=!pq (bj L k) (c5 L k) (cK L k) (cV L k) (c4 L k)
def CE (L:List (List Dat)) (own mark:Bool):LT:=.br (cc (eh L) L.length 0) (.leaf .ret (mk (lz .ret) [.v (I (gt (eh L) L.length 0))] ⟨[],[],[rH L own mark]⟩)) (.leaf (.exit 0) (mk (lz (.exit 0)) [] ⟨[],[],[rH L own mark]⟩))
theorem qcu (L:List (List Dat)) (own mark:Bool) (hl:cw L=true):SB (L.length+1) (L.length:Int) 0 L own mark=some (CE L own mark).pick:=by
 have hll:=Cb hl
 have h:=qgn (eh L) (L.length:Int) (fun n k=>SB n (L.length:Int) k L own mark) (some (.exit 0,mk (lz (.exit 0)) [] ⟨[],[],[rH L own mark]⟩)) (fun k=>some (.ret,mk (lz .ret) [.v (I k)] ⟨[],[],[rH L own mark]⟩)) (fun n k hk=>?_) (fun n k hk=>?_) L.length 0 (by omega) (by omega)
 ·refine h.trans ?_
  unfold CE
  cases cc (eh L) L.length 0<;>rfl
 ·refine (K9 (L.length:Int) k L own mark n).trans ?_
  rw [decide_eq_false hk]
  rfl
 ·refine (K9 (L.length:Int) k L own mark n).trans ?_
  rw [decide_eq_true hk.2,decide_eq_true hk.1,(wC hl hk.1 hk.2).2,aC (n:=k+1) (by omega)]
  show (bif eh L k then _ else _)=_
  cases eh L k<;>rfl
def JK (vals:List SV) (m:Mem):Option (Bool×LT) :=
 match vals,m with
 | [.row 0,.v (.func (.func 346) ⟨[]⟩ ⟨[]⟩),.v (.int .i64 nn),.v (.int .i64 k)],⟨[],[],[.live ⟨117,[.sl 162 [.num .i64,.num .i64],.num .i64,.num .i64,.num .i64,.num .i64],L,own,mark⟩]⟩=>some (nn==(L.length:Int)&&(k==0&&cw L),CE L own mark)
 | _,_=>none
def ΛIf:bg:=fun _ st=>gG 0 1 nI JK st
theorem qcl (z:Base) (z1:z.L.length=0) (z2:z.U.length=1):a9 ΛIf prog z ud:=by
 refine iN (Λ:=L0) (kx:=lz) Ig mixed z1 z2 (fun b hb st t h=>by cases h) (G:=JK) (fun _=>rfl) ?_
 intro vals m t h
 unfold JK at h
 split at h
 ·rename_i nn k L own mark
  obtain ⟨h1,rfl⟩:=ab h
  simp only [Bool.and_eq_true,beq_iff_eq] at h1
  obtain ⟨rfl,rfl,hl⟩:=h1
  exact ⟨_,qcu L own mark hl⟩
 ·cases h
theorem qbJ:aL (f360.body.getD .skip)=[ud]:=by kernel_rfl
def xp (L:List (List Dat)):Int:=bif cc (eh L) L.length 0 then gt (eh L) L.length 0 else -1
theorem WT (L:List (List Dat)) (own:Bool) (mark:Bool):runG Γu7 ΛIf prog f360 [.row 0,.v (.func (.func 346) #[] #[])] ⟨[],[],[rH L own mark]⟩ =
 (bif (L.length:Int)==(L.length:Int)&&(true&&cw L) then (bif cc (eh L) L.length (0:Int) then some (.v (I (gt (eh L) L.length (0:Int))),⟨[],[],[.live ⟨117,aP,L,own,mark⟩]⟩) else some (.v (I (-1)),⟨[],[],[.live ⟨117,aP,L,own,mark⟩]⟩)) else none):=by kernel_rfl
def EC (xs:List SV) (m:Mem):Option (Bool×Value) :=
 match xs,m with
 | [.row 0,.v (.func (.func 346) ⟨[]⟩ ⟨[]⟩)],⟨[],[],[.live ⟨117,[.sl 162 [.num .i64,.num .i64],.num .i64,.num .i64,.num .i64,.num .i64],L,own,mark⟩]⟩=>some (cw L,I (xp L))
 | _,_=>none
theorem qea:bi 360 EC:=by
 intro xs m r h
 unfold EC at h
 split at h
 ·rename_i L own mark
  obtain ⟨h1,rfl⟩:=ab h
  refine af (Λ:=ΛIf) Ig func360 rfl (fun z z1 z2=>bX qbJ (qcl z z1 z2)) ?_
  refine (WT L own mark).trans ?_
  rw [h1,beq_self_eq_true]
  unfold xp
  cases cc (eh L) L.length 0<;>rfl
 ·cases h
def Γu8:Orc:=aQ 360 EC Γu7
theorem Qj:Γu8.Ok prog:=aJ Ig qea
theorem WZ (L:List (List Dat)) (own:Bool) (mark:Bool):runG Γu8 L0 prog f345 [.row 0,.v (.func (.func 346) #[] #[])] ⟨[],[],[rH L own mark]⟩ =
 (bif cw L then some (.v (Bo (decide (xp L>=(0:Int)))),⟨[],[],[.live ⟨117,aP,L,own,mark⟩]⟩) else none):=by kernel_rfl
def EG (xs:List SV) (m:Mem):Option (Bool×Value) :=
 match xs,m with
 | [.row 0,.v (.func (.func 346) ⟨[]⟩ ⟨[]⟩)],⟨[],[],[.live ⟨117,[.sl 162 [.num .i64,.num .i64],.num .i64,.num .i64,.num .i64,.num .i64],L,own,mark⟩]⟩=>some (cw L,Bo (cc (eh L) L.length 0))
 | _,_=>none
theorem qef:bi 345 EG:=by
 intro xs m r h
 unfold EG at h
 split at h
 ·rename_i L own mark
  obtain ⟨h1,rfl⟩:=ab h
  refine af (Λ:=L0) Qj func345 rfl ai ?_
  refine (WZ L own mark).trans ?_
  rw [h1]
  unfold xp
  have:=(OB (eh L) L.length 0).1
  cases cc (eh L) L.length 0
  ·rfl
  ·show some (SV.v (Bo (decide (gt (eh L) L.length 0>=0))),_)=_
   rw [decide_eq_true (show gt (eh L) L.length 0>=0 from this)]
 ·cases h
def Γu9:Orc:=aQ 345 EG Γu8
theorem Qi:Γu9.Ok prog:=aJ Qj qef
def wrB (L:List (List Dat)) (r1 r2 r3 r4 r5 r6 r7 r8:Int):Int:=bif !bK 1 4 (L.length:Int) then 1 else bif cc (eh L) L.length 0 then 2 else bif !(bK 1 50 r1&&(bK 1 50 r2&&bK 1 50 r3)) then 3 else bif !bK 0 1024 r4 then 4 else bif !bK 1 65536 r5 then 5 else bif !bK 1 50 r6 then 6 else bif !bK 1 1073741824 r7 then 7 else bif !bK 0 (L.length:Int) r8 then 8 else 0
theorem WI (r1:Int) (r2:Int) (r3:Int) (r4:Int) (r5:Int) (r6:Int) (r7:Int) (r8:Int) (L:List (List Dat)) (own:Bool) (mark:Bool):runG Γu9 L0 prog f312 [.ag [.row 0,.v (I r1),.v (I r2),.v (I r3),.v (I r4),.v (I r5),.v (I r6),.v (I r7),.v (I r8)]] ⟨[],[],[rH L own mark]⟩ =
 (bif !bK (1:Int) (4:Int) (L.length:Int) then some (.v (I 1),⟨[],[],[.live ⟨117,aP,L,own,mark⟩]⟩) else (bif cw L then (bif cc (eh L) L.length (0:Int) then some (.v (I 2),⟨[],[],[.live ⟨117,aP,L,own,mark⟩]⟩) else (bif !bK (1:Int) (50:Int) r1 then some (.v (I 3),⟨[],[],[.live ⟨117,aP,L,own,mark⟩]⟩) else (bif !bK (1:Int) (50:Int) r2 then some (.v (I 3),⟨[],[],[.live ⟨117,aP,L,own,mark⟩]⟩) else (bif !bK (1:Int) (50:Int) r3 then some (.v (I 3),⟨[],[],[.live ⟨117,aP,L,own,mark⟩]⟩) else (bif !bK (0:Int) (1024:Int) r4 then some (.v (I 4),⟨[],[],[.live ⟨117,aP,L,own,mark⟩]⟩) else (bif !bK (1:Int) (65536:Int) r5 then some (.v (I 5),⟨[],[],[.live ⟨117,aP,L,own,mark⟩]⟩) else (bif !bK (1:Int) (50:Int) r6 then some (.v (I 6),⟨[],[],[.live ⟨117,aP,L,own,mark⟩]⟩) else (bif !bK (1:Int) (1073741824:Int) r7 then some (.v (I 7),⟨[],[],[.live ⟨117,aP,L,own,mark⟩]⟩) else (bif !bK (0:Int) ((L.length:Int)) r8 then some (.v (I 8),⟨[],[],[.live ⟨117,aP,L,own,mark⟩]⟩) else some (.v (I 0),⟨[],[],[.live ⟨117,aP,L,own,mark⟩]⟩)))))))))) else none)):=by kernel_rfl
def Ep (xs:List SV) (m:Mem):Option (Bool×Value) :=
 match xs,m with
 | [.ag [.row 0,.v (.int .i64 r1),.v (.int .i64 r2),.v (.int .i64 r3),.v (.int .i64 r4),.v (.int .i64 r5),.v (.int .i64 r6),.v (.int .i64 r7),.v (.int .i64 r8)]],⟨[],[],[.live ⟨117,[.sl 162 [.num .i64,.num .i64],.num .i64,.num .i64,.num .i64,.num .i64],L,own,mark⟩]⟩=>some (cw L,I (wrB L r1 r2 r3 r4 r5 r6 r7 r8))
 | _,_=>none
theorem qd5:bi 312 Ep:=by
 intro xs m r h
 unfold Ep at h
 split at h
 ·rename_i r1 r2 r3 r4 r5 r6 r7 r8 L own mark
  obtain ⟨h1,rfl⟩:=ab h
  refine af (Λ:=L0) Qi func312 rfl ai ?_
  refine (WI r1 r2 r3 r4 r5 r6 r7 r8 L own mark).trans ?_
  rw [h1]
  unfold wrB
  (cases bK 1 4 (L.length:Int)<;>first|rfl|(cases cc (eh L) L.length 0<;>first|rfl|(cases bK 1 50 r1<;>first|rfl|(cases bK 1 50 r2<;>first|rfl|(cases bK 1 50 r3<;>first|rfl|(cases bK 0 1024 r4<;>first|rfl|(cases bK 1 65536 r5<;>first|rfl|(cases bK 1 50 r6<;>first|rfl|(cases bK 1 1073741824 r7<;>first|rfl|(cases bK 0 (L.length:Int) r8<;>first|rfl|rfl))))))))))
 ·cases h
def Γu10:Orc:=aQ 312 Ep Γu9
theorem Qp:Γu10.Ok prog:=aJ Qi qd5
theorem WN (r1:Int) (r2:Int) (r3:Int) (r4:Int) (r5:Int) (r6:Int) (r7:Int) (r8:Int) (L:List (List Dat)) (own:Bool) (mark:Bool):runG Γu10 L0 prog f254 [.ag [.row 0,.v (I r1),.v (I r2),.v (I r3),.v (I r4),.v (I r5),.v (I r6),.v (I r7),.v (I r8)]] ⟨[],[],[rH L own mark]⟩ =
 (bif cw L then some (.v (Bo (wrB L r1 r2 r3 r4 r5 r6 r7 r8==(0:Int))),⟨[],[],[.live ⟨117,aP,L,own,mark⟩]⟩) else none):=by kernel_rfl
def Es (xs:List SV) (m:Mem):Option (Bool×Value) :=
 match xs,m with
 | [.ag [.row 0,.v (.int .i64 r1),.v (.int .i64 r2),.v (.int .i64 r3),.v (.int .i64 r4),.v (.int .i64 r5),.v (.int .i64 r6),.v (.int .i64 r7),.v (.int .i64 r8)]],⟨[],[],[.live ⟨117,[.sl 162 [.num .i64,.num .i64],.num .i64,.num .i64,.num .i64,.num .i64],L,own,mark⟩]⟩=>some (cw L,Bo (wrB L r1 r2 r3 r4 r5 r6 r7 r8==0))
 | _,_=>none
theorem qd7:bi 254 Es:=by
 intro xs m r h
 unfold Es at h
 split at h
 ·rename_i r1 r2 r3 r4 r5 r6 r7 r8 L own mark
  obtain ⟨h1,rfl⟩:=ab h
  refine af (Λ:=L0) Qp func254 rfl ai ?_
  refine (WN r1 r2 r3 r4 r5 r6 r7 r8 L own mark).trans ?_
  rw [h1]
  rfl
 ·cases h
def Γu11:Orc:=aQ 254 Es Γu10
theorem qip:Γu11.Ok prog:=aJ Qp qd7
def Γu12:Orc:=Γu11
theorem qio:Γu12.Ok prog:=qip
def Γu13:Orc:=Γu12
theorem Qo:Γu13.Ok prog:=qio
theorem Y5 (g:Int) (v:Int) (m:Int) (u:Int) (L:List (List Dat)) (own:Bool) (mark:Bool):runG Γu13 L0 prog f278 [.ag [.row 0,.v (I g),.v (I v),.v (I m),.v (I u)]] ⟨[],[],[rP L own mark]⟩ =
 (bif Nat.blt (0:Nat) L.length&&L.length.ble (1000000) then some (.ag [.row 1,.v (I g),.v (I v),.v (I m),.v (I u)],⟨[],[],[.live ⟨162,[.num .i64,.num .i64],L,own,mark⟩,.live ⟨162,[.num .i64,.num .i64],L,true,false⟩]⟩) else none):=by kernel_rfl
def Gi (xs:List SV) (m:Mem):Option (Bool×SV×Mem) :=
 match xs,m with
 | [.ag [.row 0,.v (.int .i64 g),.v (.int .i64 v),.v (.int .i64 m),.v (.int .i64 u)]],⟨[],[],[.live ⟨162,[.num .i64,.num .i64],L,own,mark⟩]⟩=>some (Nat.blt 0 L.length&&Nat.ble L.length 1000000,.ag [.row 1,.v (I g),.v (I v),.v (I m),.v (I u)],⟨[],[],[rP L own mark,rP L true false]⟩)
 | _,_=>none
theorem qfI:aM 278 Gi:=by
 intro xs m r m' h
 unfold Gi at h
 split at h
 ·rename_i g v m u L own mark
  obtain ⟨h1,rfl,rfl⟩:=an h
  refine af (Λ:=L0) Qo func278 rfl ai ?_
  refine (Y5 g v m u L own mark).trans ?_
  rw [h1]
  rfl
 ·cases h
def Γu14:Orc:=aw 278 Gi Γu13
theorem Qn:Γu14.Ok prog:=aq Qo qfI
theorem Za (L:List (List Dat)) (own:Bool) (mark:Bool):runG Γu14 L0 prog f325 [.row 0] ⟨[],[],[rH L own mark]⟩ =
 (bif Nat.blt (0:Nat) L.length then (bif decide (((0:Nat)+L.length)*(56:Nat)<=(140737488355328:Nat)/\(0:Nat)+L.length<=(9223372036854775807:Nat)) then some (.row 1,⟨[],[],[.live ⟨117,aP,L,own,mark⟩,.live ⟨117,[CK.sl 162 [CK0.num IntKind.i64,CK0.num IntKind.i64],.num .i64,.num .i64,.num .i64,.num .i64],L,true,false⟩]⟩) else none) else none):=by kernel_rfl
def Gn (xs:List SV) (m:Mem):Option (Bool×SV×Mem) :=
 match xs,m with
 | [.row 0],⟨[],[],[.live ⟨117,[.sl 162 [.num .i64,.num .i64],.num .i64,.num .i64,.num .i64,.num .i64],L,own,mark⟩]⟩=>some (Nat.blt 0 L.length&&Nat.ble L.length 1000000,.row 1,⟨[],[],[rH L own mark,rH L true false]⟩)
 | _,_=>none
theorem qfN:aM 325 Gn:=by
 intro xs m r m' h
 unfold Gn at h
 split at h
 ·rename_i L own mark
  obtain ⟨h1,rfl,rfl⟩:=an h
  refine af (Λ:=L0) Qn func325 rfl ai ?_
  refine (Za L own mark).trans ?_
  rw [Bool.and_eq_true] at h1
  have h2:=Nat.le_of_ble_eq_true h1.2
  rw [h1.1,decide_eq_true (show (0+L.length)*56<=140737488355328/\0+L.length<=9223372036854775807 by omega)]
  rfl
 ·cases h
def Γu15:Orc:=aw 325 Gn Γu14
theorem Ih:Γu15.Ok prog:=aq Qn qfN
def fZ:Code:=cH (f262.body.getD .skip) 0
def cW:List Bool:=aE 25 [1,2,10,11,12]
def oM (e:Ex):List Bool:=match e with
 | .exit _=>aE 25 [1,2]
 | .ret=>aE 25 [2]
 | .normal=>aE 25 [1,2,10,11,12]
def gZ (e:Ex) (st:St):Option (Ex×St):=some (e,aj 0 1 (oM e) st)
theorem Um (r1:Int) (r2:Int) (r3:Int) (r4:Int) (r5:Int) (r6:Int) (r7:Int) (r8:Int) (nn:Int) (k:Int) (L:List (List Dat)) (own:Bool) (mark:Bool) (M:List (List Dat)) (n:Nat):au Γu15 prog L0 (aj 0 1 cW) fZ (n+1) (mk cW [.ptr 0 0,.ptr 1 0,.row 1,.v (I nn),.v (I k)] ⟨[[.row 1,.v (I r1),.v (I r2),.v (I r3),.v (I r4),.v (I r5),.v (I r6),.v (I r7),.v (I r8)],[.v (.slice none 0 0),.v (I 0),.v (I 0),.v (I 0),.v (I 0),.v (I 0),.v (I 0),.v (I 0),.v (I 0)]],[true,true],[rH L own mark,rH M true false]⟩) gZ =
 (bif decide (k<nn) then (bif decide ((0:Int)<=k)&&decide (k<(M.length:Int)) then (same ((same ((same ((bif Nat.blt (0:Nat) (bj M k).length&&(bj M k).length.ble (1000000) then (bif decide ((0:Int)<=k)&&decide (k<(M.length:Int)) then au Γu15 prog L0 (aj 0 1 cW) fZ n (mk cW [.ptr 0 0,.ptr 1 0,.row 1,.v (I nn),.v (I (wI (k+(1:Int))))] ⟨[[.row 1,.v (I r1),.v (I r2),.v (I r3),.v (I r4),.v (I r5),.v (I r6),.v (I r7),.v (I r8)],[.v (Value.slice none (0:Nat) (0:Nat)),.v (I 0),.v (I 0),.v (I 0),.v (I 0),.v (I 0),.v (I 0),.v (I 0),.v (I 0)]],[true,true],[.live ⟨117,aP,L,own,mark⟩,.live ⟨117,aP,M.set k.toNat (d5 (M.getD k.toNat []) (0:Nat) [Dat.l (Value.slice none (0:Nat) (0:Nat)) (bj M k),Dat.n (c5 M k),Dat.n (cK M k),Dat.n (cV M k),Dat.n (c4 M k)]),true,false⟩]⟩) gZ else none) else none)) ((bif Nat.blt (0:Nat) (bj M k).length&&(bj M k).length.ble (1000000) then (bif decide ((0:Int)<=k)&&decide (k<(M.length:Int)) then au Γu15 prog L0 (aj 0 1 cW) fZ n (mk cW [.ptr 0 0,.ptr 1 0,.row 1,.v (I nn),.v (I (wI (k+(1:Int))))] ⟨[[.row 1,.v (I r1),.v (I r2),.v (I r3),.v (I r4),.v (I r5),.v (I r6),.v (I r7),.v (I r8)],[.v (Value.slice none (0:Nat) (0:Nat)),.v (I 0),.v (I 0),.v (I 0),.v (I 0),.v (I 0),.v (I 0),.v (I 0),.v (I 0)]],[true,true],[.live ⟨117,aP,L,own,mark⟩,.live ⟨117,aP,M.set k.toNat (d5 (M.getD k.toNat []) (0:Nat) [Dat.l (Value.slice none (0:Nat) (0:Nat)) (bj M k),Dat.n (c5 M k),Dat.n (cK M k),Dat.n (cV M k),Dat.n (c4 M k)]),true,false⟩]⟩) gZ else none) else none)))) ((same ((same ((bif Nat.blt (0:Nat) (bj M k).length&&(bj M k).length.ble (1000000) then (bif decide ((0:Int)<=k)&&decide (k<(M.length:Int)) then au Γu15 prog L0 (aj 0 1 cW) fZ n (mk cW [.ptr 0 0,.ptr 1 0,.row 1,.v (I nn),.v (I (wI (k+(1:Int))))] ⟨[[.row 1,.v (I r1),.v (I r2),.v (I r3),.v (I r4),.v (I r5),.v (I r6),.v (I r7),.v (I r8)],[.v (Value.slice none (0:Nat) (0:Nat)),.v (I 0),.v (I 0),.v (I 0),.v (I 0),.v (I 0),.v (I 0),.v (I 0),.v (I 0)]],[true,true],[.live ⟨117,aP,L,own,mark⟩,.live ⟨117,aP,M.set k.toNat (d5 (M.getD k.toNat []) (0:Nat) [Dat.l (Value.slice none (0:Nat) (0:Nat)) (bj M k),Dat.n (c5 M k),Dat.n (cK M k),Dat.n (cV M k),Dat.n (c4 M k)]),true,false⟩]⟩) gZ else none) else none)) ((bif Nat.blt (0:Nat) (bj M k).length&&(bj M k).length.ble (1000000) then (bif decide ((0:Int)<=k)&&decide (k<(M.length:Int)) then au Γu15 prog L0 (aj 0 1 cW) fZ n (mk cW [.ptr 0 0,.ptr 1 0,.row 1,.v (I nn),.v (I (wI (k+(1:Int))))] ⟨[[.row 1,.v (I r1),.v (I r2),.v (I r3),.v (I r4),.v (I r5),.v (I r6),.v (I r7),.v (I r8)],[.v (Value.slice none (0:Nat) (0:Nat)),.v (I 0),.v (I 0),.v (I 0),.v (I 0),.v (I 0),.v (I 0),.v (I 0),.v (I 0)]],[true,true],[.live ⟨117,aP,L,own,mark⟩,.live ⟨117,aP,M.set k.toNat (d5 (M.getD k.toNat []) (0:Nat) [Dat.l (Value.slice none (0:Nat) (0:Nat)) (bj M k),Dat.n (c5 M k),Dat.n (cK M k),Dat.n (cV M k),Dat.n (c4 M k)]),true,false⟩]⟩) gZ else none) else none)))) ((bif Nat.blt (0:Nat) (bj M k).length&&(bj M k).length.ble (1000000) then (bif decide ((0:Int)<=k)&&decide (k<(M.length:Int)) then au Γu15 prog L0 (aj 0 1 cW) fZ n (mk cW [.ptr 0 0,.ptr 1 0,.row 1,.v (I nn),.v (I (wI (k+(1:Int))))] ⟨[[.row 1,.v (I r1),.v (I r2),.v (I r3),.v (I r4),.v (I r5),.v (I r6),.v (I r7),.v (I r8)],[.v (Value.slice none (0:Nat) (0:Nat)),.v (I 0),.v (I 0),.v (I 0),.v (I 0),.v (I 0),.v (I 0),.v (I 0),.v (I 0)]],[true,true],[.live ⟨117,aP,L,own,mark⟩,.live ⟨117,aP,M.set k.toNat (d5 (M.getD k.toNat []) (0:Nat) [Dat.l (Value.slice none (0:Nat) (0:Nat)) (bj M k),Dat.n (c5 M k),Dat.n (cK M k),Dat.n (cV M k),Dat.n (c4 M k)]),true,false⟩]⟩) gZ else none) else none)))))) ((same ((same ((same ((bif Nat.blt (0:Nat) (bj M k).length&&(bj M k).length.ble (1000000) then (bif decide ((0:Int)<=k)&&decide (k<(M.length:Int)) then au Γu15 prog L0 (aj 0 1 cW) fZ n (mk cW [.ptr 0 0,.ptr 1 0,.row 1,.v (I nn),.v (I (wI (k+(1:Int))))] ⟨[[.row 1,.v (I r1),.v (I r2),.v (I r3),.v (I r4),.v (I r5),.v (I r6),.v (I r7),.v (I r8)],[.v (Value.slice none (0:Nat) (0:Nat)),.v (I 0),.v (I 0),.v (I 0),.v (I 0),.v (I 0),.v (I 0),.v (I 0),.v (I 0)]],[true,true],[.live ⟨117,aP,L,own,mark⟩,.live ⟨117,aP,M.set k.toNat (d5 (M.getD k.toNat []) (0:Nat) [Dat.l (Value.slice none (0:Nat) (0:Nat)) (bj M k),Dat.n (c5 M k),Dat.n (cK M k),Dat.n (cV M k),Dat.n (c4 M k)]),true,false⟩]⟩) gZ else none) else none)) ((bif Nat.blt (0:Nat) (bj M k).length&&(bj M k).length.ble (1000000) then (bif decide ((0:Int)<=k)&&decide (k<(M.length:Int)) then au Γu15 prog L0 (aj 0 1 cW) fZ n (mk cW [.ptr 0 0,.ptr 1 0,.row 1,.v (I nn),.v (I (wI (k+(1:Int))))] ⟨[[.row 1,.v (I r1),.v (I r2),.v (I r3),.v (I r4),.v (I r5),.v (I r6),.v (I r7),.v (I r8)],[.v (Value.slice none (0:Nat) (0:Nat)),.v (I 0),.v (I 0),.v (I 0),.v (I 0),.v (I 0),.v (I 0),.v (I 0),.v (I 0)]],[true,true],[.live ⟨117,aP,L,own,mark⟩,.live ⟨117,aP,M.set k.toNat (d5 (M.getD k.toNat []) (0:Nat) [Dat.l (Value.slice none (0:Nat) (0:Nat)) (bj M k),Dat.n (c5 M k),Dat.n (cK M k),Dat.n (cV M k),Dat.n (c4 M k)]),true,false⟩]⟩) gZ else none) else none)))) ((bif Nat.blt (0:Nat) (bj M k).length&&(bj M k).length.ble (1000000) then (bif decide ((0:Int)<=k)&&decide (k<(M.length:Int)) then au Γu15 prog L0 (aj 0 1 cW) fZ n (mk cW [.ptr 0 0,.ptr 1 0,.row 1,.v (I nn),.v (I (wI (k+(1:Int))))] ⟨[[.row 1,.v (I r1),.v (I r2),.v (I r3),.v (I r4),.v (I r5),.v (I r6),.v (I r7),.v (I r8)],[.v (Value.slice none (0:Nat) (0:Nat)),.v (I 0),.v (I 0),.v (I 0),.v (I 0),.v (I 0),.v (I 0),.v (I 0),.v (I 0)]],[true,true],[.live ⟨117,aP,L,own,mark⟩,.live ⟨117,aP,M.set k.toNat (d5 (M.getD k.toNat []) (0:Nat) [Dat.l (Value.slice none (0:Nat) (0:Nat)) (bj M k),Dat.n (c5 M k),Dat.n (cK M k),Dat.n (cV M k),Dat.n (c4 M k)]),true,false⟩]⟩) gZ else none) else none)))) ((bif Nat.blt (0:Nat) (bj M k).length&&(bj M k).length.ble (1000000) then (bif decide ((0:Int)<=k)&&decide (k<(M.length:Int)) then au Γu15 prog L0 (aj 0 1 cW) fZ n (mk cW [.ptr 0 0,.ptr 1 0,.row 1,.v (I nn),.v (I (wI (k+(1:Int))))] ⟨[[.row 1,.v (I r1),.v (I r2),.v (I r3),.v (I r4),.v (I r5),.v (I r6),.v (I r7),.v (I r8)],[.v (Value.slice none (0:Nat) (0:Nat)),.v (I 0),.v (I 0),.v (I 0),.v (I 0),.v (I 0),.v (I 0),.v (I 0),.v (I 0)]],[true,true],[.live ⟨117,aP,L,own,mark⟩,.live ⟨117,aP,M.set k.toNat (d5 (M.getD k.toNat []) (0:Nat) [Dat.l (Value.slice none (0:Nat) (0:Nat)) (bj M k),Dat.n (c5 M k),Dat.n (cK M k),Dat.n (cV M k),Dat.n (c4 M k)]),true,false⟩]⟩) gZ else none) else none))))) else none) else some ((.exit 0),mk (oM (.exit 0)) [.ptr 0 0,.ptr 1 0] ⟨[[.row 1,.v (I r1),.v (I r2),.v (I r3),.v (I r4),.v (I r5),.v (I r6),.v (I r7),.v (I r8)],[.v (Value.slice none (0:Nat) (0:Nat)),.v (I 0),.v (I 0),.v (I 0),.v (I 0),.v (I 0),.v (I 0),.v (I 0),.v (I 0)]],[true,true],[.live ⟨117,aP,L,own,mark⟩,.live ⟨117,aP,M,true,false⟩]⟩)):=by kernel_rfl
theorem Lc (r1:Int) (r2:Int) (r3:Int) (r4:Int) (r5:Int) (r6:Int) (r7:Int) (r8:Int) (nn:Int) (k:Int) (L:List (List Dat)) (own:Bool) (mark:Bool) (M:List (List Dat)) (n:Nat):au Γu15 prog L0 (aj 0 1 cW) fZ (n+1) (mk cW [.ptr 0 0,.ptr 1 0,.row 1,.v (I nn),.v (I k)] ⟨[[.row 1,.v (I r1),.v (I r2),.v (I r3),.v (I r4),.v (I r5),.v (I r6),.v (I r7),.v (I r8)],[.v (.slice none 0 0),.v (I 0),.v (I 0),.v (I 0),.v (I 0),.v (I 0),.v (I 0),.v (I 0),.v (I 0)]],[true,true],[rH L own mark,rH M true false]⟩) gZ =
 (bif decide (k<nn) then (bif decide ((0:Int)<=k)&&decide (k<(M.length:Int)) then (bif Nat.blt (0:Nat) (bj M k).length&&(bj M k).length.ble (1000000) then (bif decide ((0:Int)<=k)&&decide (k<(M.length:Int)) then au Γu15 prog L0 (aj 0 1 cW) fZ n (mk cW [.ptr 0 0,.ptr 1 0,.row 1,.v (I nn),.v (I (wI (k+(1:Int))))] ⟨[[.row 1,.v (I r1),.v (I r2),.v (I r3),.v (I r4),.v (I r5),.v (I r6),.v (I r7),.v (I r8)],[.v (Value.slice none (0:Nat) (0:Nat)),.v (I 0),.v (I 0),.v (I 0),.v (I 0),.v (I 0),.v (I 0),.v (I 0),.v (I 0)]],[true,true],[.live ⟨117,aP,L,own,mark⟩,.live ⟨117,aP,M.set k.toNat (d5 (M.getD k.toNat []) (0:Nat) [Dat.l (Value.slice none (0:Nat) (0:Nat)) (bj M k),Dat.n (c5 M k),Dat.n (cK M k),Dat.n (cV M k),Dat.n (c4 M k)]),true,false⟩]⟩) gZ else none) else none) else none) else some ((.exit 0),mk (oM (.exit 0)) [.ptr 0 0,.ptr 1 0] ⟨[[.row 1,.v (I r1),.v (I r2),.v (I r3),.v (I r4),.v (I r5),.v (I r6),.v (I r7),.v (I r8)],[.v (Value.slice none (0:Nat) (0:Nat)),.v (I 0),.v (I 0),.v (I 0),.v (I 0),.v (I 0),.v (I 0),.v (I 0),.v (I 0)]],[true,true],[.live ⟨117,aP,L,own,mark⟩,.live ⟨117,aP,M,true,false⟩]⟩)):=(Um _ _ _ _ _ _ _ _ _ _ _ _ _ _ _).trans (by simp only [iH])
def SD (n:Nat) (r1:Int) (r2:Int) (r3:Int) (r4:Int) (r5:Int) (r6:Int) (r7:Int) (r8:Int) (nn:Int) (k:Int) (L:List (List Dat)) (own:Bool) (mark:Bool) (M:List (List Dat)):Option (Ex×St) :=
 au Γu15 prog L0 (aj 0 1 cW) fZ n (mk cW [.ptr 0 0,.ptr 1 0,.row 1,.v (I nn),.v (I k)] ⟨[[.row 1,.v (I r1),.v (I r2),.v (I r3),.v (I r4),.v (I r5),.v (I r6),.v (I r7),.v (I r8)],[.v (.slice none 0 0),.v (I 0),.v (I 0),.v (I 0),.v (I 0),.v (I 0),.v (I 0),.v (I 0),.v (I 0)]],[true,true],[rH L own mark,rH M true false]⟩) gZ
def fe (L:List (List Dat)):Bool:=L.all fun l=>Nat.blt 0 (l.headD (.n 0)).toL.length
theorem L9 {L:List (List Dat)} (h:fe L=true) {k:Int} (h0:0<=k) (h1:k<(L.length:Int)):Nat.blt 0 (bj L k).length=true:=by
 have hk:k.toNat<L.length:=by omega
 have hm:L.getD k.toNat []∈L:=by
  rw [List.getD,List.getElem?_eq_getElem hk]
  exact List.getElem_mem hk
 exact List.all_eq_true.1 h _ hm
theorem Uv {α:Type} {L:List α} {k:Nat} {x:α} (d:α) (hx:L.getD k d=x) (hk:k<L.length):L.set k x=L:=by
 subst hx
 apply List.ext_getElem?
 intro i
 by_cases hi:k=i
 ·subst hi
  rw [List.getElem?_set_self hk,List.getD,List.getElem?_eq_getElem hk]
  rfl
 ·rw [List.getElem?_set_ne hi]
theorem Ux {L:List (List Dat)} (h:cw L=true) {k:Int} (h0:0<=k) (h1:k<(L.length:Int)):L.set k.toNat (d5 (L.getD k.toNat []) 0 [.l (.slice none 0 0) (bj L k),.n (c5 L k),.n (cK L k),.n (cV L k),.n (c4 L k)])=L:=by
 have e:=(wC h h0 h1).1
 refine Uv [] ?_ (by omega)
 rw [e]
 rfl
def Nd (r1 r2 r3 r4 r5 r6 r7 r8:Int) (L:List (List Dat)) (own mark:Bool):LT:=.leaf (.exit 0) (mk (oM (.exit 0)) [.ptr 0 0,.ptr 1 0] ⟨[[.row 1,.v (I r1),.v (I r2),.v (I r3),.v (I r4),.v (I r5),.v (I r6),.v (I r7),.v (I r8)],[.v (.slice none 0 0),.v (I 0),.v (I 0),.v (I 0),.v (I 0),.v (I 0),.v (I 0),.v (I 0),.v (I 0)]],[true,true],[rH L own mark,rH L true false]⟩)
theorem qcw (r1 r2 r3 r4 r5 r6 r7 r8:Int) (L:List (List Dat)) (own mark:Bool) (hl:cw L=true) (hn:fe L=true):SD (L.length+1) r1 r2 r3 r4 r5 r6 r7 r8 (L.length:Int) 0 L own mark L=some (Nd r1 r2 r3 r4 r5 r6 r7 r8 L own mark).pick:=by
 have hll:=Cb hl
 refine (qgk (fun _ s=>s) (fun _ _=>True) (L.length:Int) (fun n k (s:Unit)=>SD n r1 r2 r3 r4 r5 r6 r7 r8 (L.length:Int) k L own mark L) (fun _=>some (.exit 0,mk (oM (.exit 0)) [.ptr 0 0,.ptr 1 0] ⟨[[.row 1,.v (I r1),.v (I r2),.v (I r3),.v (I r4),.v (I r5),.v (I r6),.v (I r7),.v (I r8)],[.v (.slice none 0 0),.v (I 0),.v (I 0),.v (I 0),.v (I 0),.v (I 0),.v (I 0),.v (I 0),.v (I 0)]],[true,true],[rH L own mark,rH L true false]⟩)) (fun n k s hk _=>?_) (fun _ _ _ _=>trivial) (fun n k s hk _=>?_) L.length 0 () (by omega) (by omega) trivial).trans rfl
 ·refine (Lc r1 r2 r3 r4 r5 r6 r7 r8 (L.length:Int) k L own mark L n).trans ?_
  rw [decide_eq_false hk]
  rfl
 ·refine (Lc r1 r2 r3 r4 r5 r6 r7 r8 (L.length:Int) k L own mark L n).trans ?_
  rw [Ux hl hk.1 hk.2,decide_eq_true hk.2,decide_eq_true hk.1,(wC hl hk.1 hk.2).2,L9 hn hk.1 hk.2,aC (n:=k+1) (by omega)]
  rfl
def JP (vals:List SV) (m:Mem):Option (Bool×LT) :=
 match vals,m with
 | [.ptr 0 0,.ptr 1 0,.row 1,.v (.int .i64 nn),.v (.int .i64 k)],⟨[[.row 1,.v (.int .i64 r1),.v (.int .i64 r2),.v (.int .i64 r3),.v (.int .i64 r4),.v (.int .i64 r5),.v (.int .i64 r6),.v (.int .i64 r7),.v (.int .i64 r8)],[.v (.slice none 0 0),.v (.int .i64 0),.v (.int .i64 0),.v (.int .i64 0),.v (.int .i64 0),.v (.int .i64 0),.v (.int .i64 0),.v (.int .i64 0),.v (.int .i64 0)]],[true,true],[.live ⟨117,[.sl 162 [.num .i64,.num .i64],.num .i64,.num .i64,.num .i64,.num .i64],L,own,mark⟩,.live ⟨117,[.sl 162 [.num .i64,.num .i64],.num .i64,.num .i64,.num .i64,.num .i64],M,true,false⟩]⟩=>some (nn==(L.length:Int)&&(k==0&&(cw L&&(fe L&&kK (M=L)))),Nd r1 r2 r3 r4 r5 r6 r7 r8 L own mark)
 | _,_=>none
def ΛCo:bg:=fun _ st=>gG 0 1 cW JP st
theorem qcq (z:Base) (z1:z.L.length=0) (z2:z.U.length=1):a9 ΛCo prog z fZ:=by
 refine iN (Λ:=L0) (kx:=oM) Ih mixed z1 z2 (fun b hb st t h=>by cases h) (G:=JP) (fun _=>rfl) ?_
 intro vals m t h
 unfold JP at h
 split at h
 ·rename_i nn k r1 r2 r3 r4 r5 r6 r7 r8 L own mark M
  obtain ⟨h1,rfl⟩:=ab h
  simp only [Bool.and_eq_true,beq_iff_eq,nL] at h1
  obtain ⟨rfl,rfl,hl,hn,rfl⟩:=h1
  exact ⟨_,qcw r1 r2 r3 r4 r5 r6 r7 r8 M own mark hl hn⟩
 ·cases h
theorem qbR:aL (f262.body.getD .skip)=[fZ]:=by kernel_rfl
theorem Y4 (r1:Int) (r2:Int) (r3:Int) (r4:Int) (r5:Int) (r6:Int) (r7:Int) (r8:Int) (L:List (List Dat)) (own:Bool) (mark:Bool):runG Γu15 ΛCo prog f262 [.ag [.row 0,.v (I r1),.v (I r2),.v (I r3),.v (I r4),.v (I r5),.v (I r6),.v (I r7),.v (I r8)]] ⟨[],[],[rH L own mark]⟩ =
 (bif Nat.blt (0:Nat) L.length&&L.length.ble (1000000) then (bif (L.length:Int)==(L.length:Int)&&(true&&(cw L&&(fe L&&kK (L=L)))) then some (.ag [.row 1,.v (I r1),.v (I r2),.v (I r3),.v (I r4),.v (I r5),.v (I r6),.v (I r7),.v (I r8)],⟨[],[],[.live ⟨117,aP,L,own,mark⟩,.live ⟨117,aP,L,true,false⟩]⟩) else none) else none):=by kernel_rfl
def Gh (xs:List SV) (m:Mem):Option (Bool×SV×Mem) :=
 match xs,m with
 | [.ag [.row 0,.v (.int .i64 r1),.v (.int .i64 r2),.v (.int .i64 r3),.v (.int .i64 r4),.v (.int .i64 r5),.v (.int .i64 r6),.v (.int .i64 r7),.v (.int .i64 r8)]],⟨[],[],[.live ⟨117,[.sl 162 [.num .i64,.num .i64],.num .i64,.num .i64,.num .i64,.num .i64],L,own,mark⟩]⟩=>some (cw L&&(fe L&&Nat.blt 0 L.length),.ag [.row 1,.v (I r1),.v (I r2),.v (I r3),.v (I r4),.v (I r5),.v (I r6),.v (I r7),.v (I r8)],⟨[],[],[rH L own mark,rH L true false]⟩)
 | _,_=>none
theorem qfH:aM 262 Gh:=by
 intro xs m r m' h
 unfold Gh at h
 split at h
 ·rename_i r1 r2 r3 r4 r5 r6 r7 r8 L own mark
  obtain ⟨h1,rfl,rfl⟩:=an h
  refine af (Λ:=ΛCo) Ih func262 rfl (fun z z1 z2=>bX qbR (qcq z z1 z2)) ?_
  refine (Y4 r1 r2 r3 r4 r5 r6 r7 r8 L own mark).trans ?_
  rw [Bool.and_eq_true,Bool.and_eq_true] at h1
  obtain ⟨h1,h2,h3⟩:=h1
  have h4:=Cb h1
  rw [h1,h2,h3,show Nat.ble L.length 1000000=true from Nat.ble_eq_true_of_le h4,beq_self_eq_true,nL.2 rfl]
  rfl
 ·cases h
def Γu16:Orc:=aw 262 Gh Γu15
theorem qin:Γu16.Ok prog:=aq Ih qfH
def ΓR3:Orc:=Γu16
theorem OkR3:ΓR3.Ok prog:=qin
end Go.Proofs.YtainfdcfkgemhaaGreat
namespace Go.Proofs.YtainfdcfkgemhaaGreat
open Go Go.Proofs Go.Sx
def ΓA13:Orc:=ΓR3
theorem uy:ΓA13.Ok prog:=OkR3
end Go.Proofs.YtainfdcfkgemhaaGreat
