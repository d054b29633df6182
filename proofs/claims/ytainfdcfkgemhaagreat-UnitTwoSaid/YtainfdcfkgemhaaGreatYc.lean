/-
  What is known of this program: that the document's answers are the program's;rules,the document's,and their law package's own.
-/
import Derived.Test.YtainfdcfkgemhaaGreatYb
import Derived.Test.YtainfdcfkgemhaaGreatSw
import Derived.Test.YtainfdcfkgemhaaGreatSx
set_option maxRecDepth 100000
noncomputable section
namespace Go.Proofs.YtainfdcfkgemhaaGreat
open Go Go.Proofs Go.Sx
set_option linter.unusedVariables false
def ΓRb:Orc:={ ΓRg3 with sb:=true }
theorem OkRb:ΓRb.Ok Tryz.prog:=⟨qCV.call,qCV.rd,qCV.eqv⟩
def ΓRv1:Orc:=ΓRb
theorem qIf:ΓRv1.Ok Tryz.prog:=OkRb
theorem qFE (L:List (List Dat)) (own:Bool) (mark:Bool):runG ΓRv1 L0 Tryz.prog Tryz.f329 [.row 0] ⟨[],[],[rP L own mark]⟩ =
 (bif Nat.blt (0:Nat) L.length then (bif decide (((0:Nat)+L.length)*(16:Nat)≤(140737488355328:Nat)∧(0:Nat)+L.length≤(9223372036854775807:Nat)) then some (.row 1,⟨[],[],[.live ⟨162,[.num .i64,.num .i64],L,own,mark⟩,.live ⟨162,[.num .i64,.num .i64],L,true,false⟩]⟩) else none) else none):=by kernel_rfl
def qMd (xs:List SV) (m:Mem):Option (Bool×SV×Mem) :=
 match xs,m with
 | [.row 0],⟨[],[],[.live ⟨162,[.num .i64,.num .i64],L,own,mark⟩]⟩=>some (Nat.blt 0 L.length&&Nat.ble L.length 1000000,.row 1,⟨[],[],[rP L own mark,rP L true false]⟩)
 | _,_=>none
theorem qBV:CtC 329 qMd:=by
 intro xs m r m' h
 unfold qMd at h
 split at h
 ·rename_i L own mark
  obtain ⟨h1,rfl,rfl⟩:=qaf h
  refine qal (Λ:=L0) qIf Tryz.func329 rfl l00 ?_
  refine (qFE L own mark).trans ?_
  rw [Bool.and_eq_true] at h1
  have h2:=Nat.le_of_ble_eq_true h1.2
  rw [h1.1,decide_eq_true (show (0+L.length)*16≤140737488355328∧0+L.length≤9223372036854775807 by omega)]
  rfl
 ·cases h
def ΓRv2:Orc:=qau 329 qMd ΓRv1
theorem qNn:ΓRv2.Ok Tryz.prog:=qad qIf qBV
def ΓRv3:Orc:=ΓRv2
theorem qCT:ΓRv3.Ok Tryz.prog:=qNn
end Go.Proofs.YtainfdcfkgemhaaGreat
namespace Go.Proofs.YtainfdcfkgemhaaGreat
open Go Go.Proofs Go.Sx
set_option linter.unusedVariables false
end Go.Proofs.YtainfdcfkgemhaaGreat
namespace Go.Proofs.YtainfdcfkgemhaaGreat
open Go Go.Proofs Go.Sx
set_option linter.unusedVariables false
end Go.Proofs.YtainfdcfkgemhaaGreat
namespace Go.Proofs.YtainfdcfkgemhaaGreat
open Go Go.Proofs Go.Sx
set_option linter.unusedVariables false
def phA (L:List (List Dat)) (k:Int):List (List Dat):=((L.getD k.toNat []).headD (.n 0)).toL
def phG (L:List (List Dat)) (k:Int):Int:=((L.getD k.toNat []).tail.headD (.n 0)).toI
def phV (L:List (List Dat)) (k:Int):Int:=((L.getD k.toNat []).tail.tail.headD (.n 0)).toI
def phM (L:List (List Dat)) (k:Int):Int:=((L.getD k.toNat []).tail.tail.tail.headD (.n 0)).toI
def phU (L:List (List Dat)) (k:Int):Int:=((L.getD k.toNat []).tail.tail.tail.tail.headD (.n 0)).toI
abbrev kPh:List CK:=[.sl 162 [.num .i64,.num .i64],.num .i64,.num .i64,.num .i64,.num .i64]
abbrev rH (L:List (List Dat)) (own mark:Bool):RowS:=.live ⟨117,kPh,L,own,mark⟩
def qF1:List Dat→Bool
 | [.l (.slice none 0 0) A,.n _,.n _,.n _,.n _]=>Nat.ble A.length 1000000
 | _=>false
def qdI (L:List (List Dat)):Bool:=L.all qF1&&Nat.ble L.length 1000000
theorem qh4 {L:List (List Dat)} (h:qdI L=true):L.length≤1000000:=by
 unfold qdI at h
 rw [Bool.and_eq_true] at h
 exact Nat.le_of_ble_eq_true h.2
theorem qfy {L:List (List Dat)} (h:qdI L=true) {k:Int} (h0:0≤k) (h1:k<(L.length:Int)):L.getD k.toNat []=[.l (.slice none 0 0) (phA L k),.n (phG L k),.n (phV L k),.n (phM L k),.n (phU L k)]∧Nat.ble (phA L k).length 1000000=true:=by
 unfold qdI at h
 rw [Bool.and_eq_true] at h
 have hk:k.toNat<L.length:=by omega
 have hm:L.getD k.toNat []∈L:=by
  rw [List.getD,List.getElem?_eq_getElem hk]
  exact List.getElem_mem hk
 have:=List.all_eq_true.1 h.1 _ hm
 unfold phA phG phV phM phU
 generalize L.getD k.toNat []=l at *
 unfold qF1 at this
 split at this
 ·exact ⟨rfl,this⟩
 ·cases this
def qJr (f:FuncId):Bool:=Nat.beq f 278||Nat.beq f 262||Nat.beq f 329||Nat.beq f 325||Nat.beq f 28
def Γu0:Orc:={ ΓRv3 with sb:=true,bs:=true,wr:=qJr }
theorem Oku0:Γu0.Ok Tryz.prog:=⟨qCT.call,qCT.rd,qCT.eqv⟩
def wiB (n lo hi:Int):Bool:=bif decide (n≥lo) then decide (n≤hi) else false
def frB (lo hi n:Int):Bool:=bif decide (lo≤n) then decide (n≤hi) else false
theorem qJM (n:Int) (lo:Int) (hi:Int):runG Γu0 L0 Tryz.prog Tryz.f171 [.v (I n),.v (I lo),.v (I hi)] M0 =
 (bif decide (n≥lo) then some (.v (Bo (decide (n≤hi))),M0) else some (.v (Bo false),M0)):=by kernel_rfl
def gWi (vs:List Value):Option (Bool×Value) :=
 match vs with
 | [.int .i64 n,.int .i64 lo,.int .i64 hi]=>some (true,Bo (wiB n lo hi))
 | _=>none
theorem qGH:CtV 171 gWi:=by
 intro vs r h
 unfold gWi at h
 split at h
 ·rename_i n lo hi
  obtain ⟨h1,rfl⟩:=qac h
  refine qaA (vs:=[I n,I lo,I hi]) (Λ:=L0) (m':=M0) Oku0 Tryz.func171 rfl l00 ?_
  exact (qJM n lo hi).trans (by unfold wiB;cases decide (n≥lo)<;>rfl)
 ·cases h
def Γu1:Orc:=qah 171 gWi Γu0
theorem Oku1:Γu1.Ok Tryz.prog:=qaa Oku0 qGH
theorem runFi (lo:Int) (hi:Int) (n:Int):runG Γu1 L0 Tryz.prog Tryz.f344 [.v (I lo),.v (I hi),.v (I n)] M0 =
 (bif decide (lo≤n) then some (.v (Bo (decide (n≤hi))),M0) else some (.v (Bo false),M0)):=by kernel_rfl
def gFi (vs:List Value):Option (Bool×Value) :=
 match vs with
 | [.int .i64 lo,.int .i64 hi,.int .i64 n]=>some (true,Bo (frB lo hi n))
 | _=>none
theorem gFi_ok:CtV 344 gFi:=by
 intro vs r h
 unfold gFi at h
 split at h
 ·rename_i lo hi n
  obtain ⟨h1,rfl⟩:=qac h
  refine qaA (vs:=[I lo,I hi,I n]) (Λ:=L0) (m':=M0) Oku1 Tryz.func344 rfl l00 ?_
  exact (runFi lo hi n).trans (by unfold frB;cases decide (lo≤n)<;>rfl)
 ·cases h
def Γu2:Orc:=qah 344 gFi Γu1
theorem qOx:Γu2.Ok Tryz.prog:=qaa Oku1 gFi_ok
theorem qKj (lo:Int) (hi:Int) (n:Int):runG Γu2 L0 Tryz.prog Tryz.f347 [.v (I lo),.v (I hi),.v (I n)] M0 =
 (bif decide (lo≤n) then some (.v (Bo (decide (n≤hi))),M0) else some (.v (Bo false),M0)):=by kernel_rfl
def gFj (vs:List Value):Option (Bool×Value) :=
 match vs with
 | [.int .i64 lo,.int .i64 hi,.int .i64 n]=>some (true,Bo (frB lo hi n))
 | _=>none
theorem qG3:CtV 347 gFj:=by
 intro vs r h
 unfold gFj at h
 split at h
 ·rename_i lo hi n
  obtain ⟨h1,rfl⟩:=qac h
  refine qaA (vs:=[I lo,I hi,I n]) (Λ:=L0) (m':=M0) qOx Tryz.func347 rfl l00 ?_
  exact (qKj lo hi n).trans (by unfold frB;cases decide (lo≤n)<;>rfl)
 ·cases h
def Γu3:Orc:=qah 347 gFj Γu2
theorem qOw:Γu3.Ok Tryz.prog:=qaa qOx qG3
def rpR (L:List (List Dat)) (g v m u:Int):Bool:=qtb L&&(wiB g 1 100&&(wiB v 1 65536&&(wiB m 1 1000000&&wiB u 0 1073741824)))
theorem qEV (g:Int) (v:Int) (m:Int) (u:Int) (L:List (List Dat)) (own:Bool) (mark:Bool):runG Γu3 L0 Tryz.prog Tryz.f100 [.ag [.row 0,.v (I g),.v (I v),.v (I m),.v (I u)]] ⟨[],[],[rP L own mark]⟩ =
 (bif L.length.ble (1000000) then (bif qtb L then (bif wiB g (1:Int) (100:Int) then (bif wiB v (1:Int) (65536:Int) then (bif wiB m (1:Int) (1000000:Int) then some (.v (Bo (wiB u (0:Int) (1073741824:Int))),⟨[],[],[.live ⟨162,[.num .i64,.num .i64],L,own,mark⟩]⟩) else some (.v (Bo false),⟨[],[],[.live ⟨162,[.num .i64,.num .i64],L,own,mark⟩]⟩)) else some (.v (Bo false),⟨[],[],[.live ⟨162,[.num .i64,.num .i64],L,own,mark⟩]⟩)) else some (.v (Bo false),⟨[],[],[.live ⟨162,[.num .i64,.num .i64],L,own,mark⟩]⟩)) else some (.v (Bo false),⟨[],[],[.live ⟨162,[.num .i64,.num .i64],L,own,mark⟩]⟩)) else none):=by kernel_rfl
def qLB (xs:List SV) (m:Mem):Option (Bool×Value) :=
 match xs,m with
 | [.ag [.row 0,.v (.int .i64 g),.v (.int .i64 v),.v (.int .i64 m),.v (.int .i64 u)]],⟨[],[],[.live ⟨162,[.num .i64,.num .i64],L,own,mark⟩]⟩=>some (Nat.ble L.length 1000000,Bo (rpR L g v m u))
 | _,_=>none
theorem qA5:CtR 100 qLB:=by
 intro xs m r h
 unfold qLB at h
 split at h
 ·rename_i g v m u L own mark
  obtain ⟨h1,rfl⟩:=qac h
  refine qal (Λ:=L0) qOw Tryz.func100 rfl l00 ?_
  refine (qEV g v m u L own mark).trans ?_
  rw [h1]
  unfold rpR
  first|rfl|(cases qtb L<;>(first|rfl|(cases wiB g 1 100<;>(first|rfl|(cases wiB v 1 65536<;>(first|rfl|(cases wiB m 1 1000000<;>(first|rfl|(cases wiB u 0 1073741824<;>(first|rfl|skip))))))))))
 ·cases h
def Γu4:Orc:=qay 100 qLB Γu3
theorem qOv:Γu4.Ok Tryz.prog:=qai qOw qA5
def rpB (L:List (List Dat)) (g v m u:Int):Bool:=frB 1 100 g&&(frB 1 65536 v&&(frB 1 1000000 m&&(frB 0 1073741824 u&&qe0 L)))
theorem qEW (g:Int) (v:Int) (m:Int) (u:Int) (L:List (List Dat)) (own:Bool) (mark:Bool):runG Γu4 L0 Tryz.prog Tryz.f361 [.ag [.row 0,.v (I g),.v (I v),.v (I m),.v (I u)]] ⟨[],[],[rP L own mark]⟩ =
 (bif !frB (1:Int) (100:Int) g then some (.v (Bo false),⟨[],[],[.live ⟨162,[.num .i64,.num .i64],L,own,mark⟩]⟩) else (bif !frB (1:Int) (65536:Int) v then some (.v (Bo false),⟨[],[],[.live ⟨162,[.num .i64,.num .i64],L,own,mark⟩]⟩) else (bif frB (1:Int) (1000000:Int) m then (bif frB (0:Int) (1073741824:Int) u then (bif L.length.ble (1000000) then some (.v (Bo (qe0 L)),⟨[],[],[.live ⟨162,[.num .i64,.num .i64],L,own,mark⟩]⟩) else none) else some (.v (Bo false),⟨[],[],[.live ⟨162,[.num .i64,.num .i64],L,own,mark⟩]⟩)) else some (.v (Bo false),⟨[],[],[.live ⟨162,[.num .i64,.num .i64],L,own,mark⟩]⟩)))):=by kernel_rfl
def qLC (xs:List SV) (m:Mem):Option (Bool×Value) :=
 match xs,m with
 | [.ag [.row 0,.v (.int .i64 g),.v (.int .i64 v),.v (.int .i64 m),.v (.int .i64 u)]],⟨[],[],[.live ⟨162,[.num .i64,.num .i64],L,own,mark⟩]⟩=>some (Nat.ble L.length 1000000,Bo (rpB L g v m u))
 | _,_=>none
theorem qA6:CtR 361 qLC:=by
 intro xs m r h
 unfold qLC at h
 split at h
 ·rename_i g v m u L own mark
  obtain ⟨h1,rfl⟩:=qac h
  refine qal (Λ:=L0) qOv Tryz.func361 rfl l00 ?_
  refine (qEW g v m u L own mark).trans ?_
  unfold rpB
  first|rfl|(cases frB 1 100 g<;>(first|rfl|(cases frB 1 65536 v<;>(first|rfl|(cases frB 1 1000000 m<;>(first|rfl|(cases frB 0 1073741824 u<;>(first|rfl|skip))))))))
  all_goals (rw [h1];cases qe0 L<;>rfl)
 ·cases h
def Γu5:Orc:=qay 361 qLC Γu4
theorem qOu:Γu5.Ok Tryz.prog:=qai qOv qA6
theorem qEX (g:Int) (v:Int) (m:Int) (u:Int) (L:List (List Dat)) (own:Bool) (mark:Bool):runG Γu5 L0 Tryz.prog Tryz.f346 [.ag [.row 0,.v (I g),.v (I v),.v (I m),.v (I u)]] ⟨[],[],[rP L own mark]⟩ =
 (bif L.length.ble (1000000) then some (.v (Bo (!rpB L g v m u)),⟨[],[],[.live ⟨162,[.num .i64,.num .i64],L,own,mark⟩]⟩) else none):=by kernel_rfl
def qLD (xs:List SV) (m:Mem):Option (Bool×Value) :=
 match xs,m with
 | [.ag [.row 0,.v (.int .i64 g),.v (.int .i64 v),.v (.int .i64 m),.v (.int .i64 u)]],⟨[],[],[.live ⟨162,[.num .i64,.num .i64],L,own,mark⟩]⟩=>some (Nat.ble L.length 1000000,Bo (!rpB L g v m u))
 | _,_=>none
theorem qA7:CtR 346 qLD:=by
 intro xs m r h
 unfold qLD at h
 split at h
 ·rename_i g v m u L own mark
  obtain ⟨h1,rfl⟩:=qac h
  refine qal (Λ:=L0) qOu Tryz.func346 rfl l00 ?_
  refine (qEX g v m u L own mark).trans ?_
  rw [h1]
  rfl
 ·cases h
def Γu6:Orc:=qay 346 qLD Γu5
theorem Oku6:Γu6.Ok Tryz.prog:=qai qOu qA7
def xWr (e:Ex):List Bool:=match e with
 | .exit _=>qam 73 [1]
 | .ret=>qam 73 [2]
 | .normal=>qam 73 [1,3]
def bphR (L:List (List Dat)) (k:Int):Bool:=!rpR (phA L k) (phG L k) (phV L k) (phM L k) (phU L k)
def lfWr (r1 r2 r3 r4 r5 r6 r7 r8:Int) (L:List (List Dat)) (own mark:Bool):LT:=.br (qbP (bphR L) L.length 0) (.leaf .ret (mk (xWr .ret) [.v (I 2)] ⟨[],[],[rH L own mark]⟩)) (.leaf (.exit 0) (mk (xWr (.exit 0)) [.ptr 0 0] ⟨[[.row 0,.v (I r1),.v (I r2),.v (I r3),.v (I r4),.v (I r5),.v (I r6),.v (I r7),.v (I r8)]],[true],[rH L own mark]⟩))
def GWr (vals:List SV) (m:Mem):Option (Bool×LT) :=
 match vals,m with
 | [.ptr 0 0,.v (.int .i64 k)],⟨[[.row 0,.v (.int .i64 r1),.v (.int .i64 r2),.v (.int .i64 r3),.v (.int .i64 r4),.v (.int .i64 r5),.v (.int .i64 r6),.v (.int .i64 r7),.v (.int .i64 r8)]],[true],[.live ⟨117,[.sl 162 [.num .i64,.num .i64],.num .i64,.num .i64,.num .i64,.num .i64],L,own,mark⟩]⟩=>some (k==0&&qdI L,lfWr r1 r2 r3 r4 r5 r6 r7 r8 L own mark)
 | _,_=>none
def Γu7:Orc:=Γu6
theorem qMQ:Γu7.Ok Tryz.prog:=Oku6
def qHO:Code:=qaH (Tryz.f360.body.getD .skip) 0
def kIf:List Bool:=qam 19 [0,1,7,8]
def xIf (e:Ex):List Bool:=match e with
 | .exit _=>qam 19 []
 | .ret=>qam 19 [4]
 | .normal=>qam 19 [0,1,7,8]
def KIf (e:Ex) (st:St):Option (Ex×St):=some (e,qav 0 1 (xIf e) st)
theorem qxP (nn:Int) (k:Int) (L:List (List Dat)) (own:Bool) (mark:Bool) (n:Nat):qaj Γu7 Tryz.prog L0 (qav 0 1 kIf) qHO (n+1) (mk kIf [.row 0,.v (.func (.func 346) #[] #[]),.v (I nn),.v (I k)] ⟨[],[],[rH L own mark]⟩) KIf =
 (bif decide (k<nn) then (bif decide ((0:Int)≤k)&&decide (k<(L.length:Int)) then (bif (phA L k).length.ble (1000000) then (bif !rpB (phA L k) (phG L k) (phV L k) (phM L k) (phU L k) then some (.ret,mk (xIf .ret) [.v (I k)] ⟨[],[],[.live ⟨117,kPh,L,own,mark⟩]⟩) else qaj Γu7 Tryz.prog L0 (qav 0 1 kIf) qHO n (mk kIf [.row 0,.v (Value.func (Fn.func 346) #[] #[]),.v (I nn),.v (I (wI (k+(1:Int))))] ⟨[],[],[.live ⟨117,kPh,L,own,mark⟩]⟩) KIf) else none) else none) else some ((.exit 0),mk (xIf (.exit 0)) [] ⟨[],[],[.live ⟨117,kPh,L,own,mark⟩]⟩)):=by kernel_rfl
def EIf (n:Nat) (nn:Int) (k:Int) (L:List (List Dat)) (own:Bool) (mark:Bool):Option (Ex×St) :=
 qaj Γu7 Tryz.prog L0 (qav 0 1 kIf) qHO n (mk kIf [.row 0,.v (.func (.func 346) #[] #[]),.v (I nn),.v (I k)] ⟨[],[],[rH L own mark]⟩) KIf
def qcq (p:Int→Bool):Nat→Int→Int
 | 0,k=>k
 | m+1,k=>bif p k then k else qcq p m (k+1)
theorem qkd (p:Int→Bool):∀ (m:Nat) (k:Int),k≤qcq p m k∧qcq p m k≤k+m
 | 0,k=>⟨Int.le_refl _,by simp [qcq]⟩
 | m+1,k=>by
  have h:=qkd p m (k+1)
  unfold qcq
  cases p k
  ·show k≤qcq p m (k+1)∧qcq p m (k+1)≤k+((m+1:Nat):Int)
   omega
  ·show k≤k∧k≤k+((m+1:Nat):Int)
   omega
theorem qsI {α:Type} (p:Int→Bool) (N:Int) (E:Nat→Int→Option α) (X:Option α) (Y:Int→Option α) (he:∀ n k,¬ k<N→E (n+1) k=X) (hr:∀ n k,0≤k∧k<N→E (n+1) k=bif p k then Y k else E n (k+1)) :
  ∀ (m:Nat) (k:Int),0≤k→k+m=N→E (m+1) k=bif qbP p m k then Y (qcq p m k) else X:=by
 intro m
 induction m with
 | zero =>
  intro k h0 h1
  exact he 0 k (by omega)
 | succ m ih =>
  intro k h0 h1
  rw [hr (m+1) k (by omega)]
  show _=bif p k||qbP p m (k+1) then Y (bif p k then k else qcq p m (k+1)) else X
  cases hp:p k
  ·exact ih (k+1) (by omega) (by omega)
  ·rfl
def qiN (L:List (List Dat)) (k:Int):Bool:=!rpB (phA L k) (phG L k) (phV L k) (phM L k) (phU L k)
def qKW (L:List (List Dat)) (own mark:Bool):LT:=.br (qbP (qiN L) L.length 0) (.leaf .ret (mk (xIf .ret) [.v (I (qcq (qiN L) L.length 0))] ⟨[],[],[rH L own mark]⟩)) (.leaf (.exit 0) (mk (xIf (.exit 0)) [] ⟨[],[],[rH L own mark]⟩))
theorem qGo (L:List (List Dat)) (own mark:Bool) (hl:qdI L=true):EIf (L.length+1) (L.length:Int) 0 L own mark=some (qKW L own mark).pick:=by
 have hll:=qh4 hl
 have h:=qsI (qiN L) (L.length:Int) (fun n k=>EIf n (L.length:Int) k L own mark) (some (.exit 0,mk (xIf (.exit 0)) [] ⟨[],[],[rH L own mark]⟩)) (fun k=>some (.ret,mk (xIf .ret) [.v (I k)] ⟨[],[],[rH L own mark]⟩)) (fun n k hk=>?_) (fun n k hk=>?_) L.length 0 (by omega) (by omega)
 ·refine h.trans ?_
  unfold qKW
  cases qbP (qiN L) L.length 0<;>rfl
 ·refine (qxP (L.length:Int) k L own mark n).trans ?_
  rw [decide_eq_false hk]
  rfl
 ·refine (qxP (L.length:Int) k L own mark n).trans ?_
  rw [decide_eq_true hk.2,decide_eq_true hk.1,(qfy hl hk.1 hk.2).2,qaw (n:=k+1) (by omega)]
  show (bif qiN L k then _ else _)=_
  cases qiN L k<;>rfl
def GIf (vals:List SV) (m:Mem):Option (Bool×LT) :=
 match vals,m with
 | [.row 0,.v (.func (.func 346) ⟨[]⟩ ⟨[]⟩),.v (.int .i64 nn),.v (.int .i64 k)],⟨[],[],[.live ⟨117,[.sl 162 [.num .i64,.num .i64],.num .i64,.num .i64,.num .i64,.num .i64],L,own,mark⟩]⟩=>some (nn==(L.length:Int)&&(k==0&&qdI L),qKW L own mark)
 | _,_=>none
def ΛIf:qao:=fun _ st=>qkN 0 1 kIf GIf st
theorem qvQ (z:Base) (z1:z.L.length=0) (z2:z.U.length=1):qas ΛIf Tryz.prog z qHO:=by
 refine qa5 (Λ:=L0) (kx:=xIf) qMQ mixed z1 z2 (fun b hb st t h=>by cases h) (G:=GIf) (fun _=>rfl) ?_
 intro vals m t h
 unfold GIf at h
 split at h
 ·rename_i nn k L own mark
  obtain ⟨h1,rfl⟩:=qac h
  simp only [Bool.and_eq_true,beq_iff_eq] at h1
  obtain ⟨rfl,rfl,hl⟩:=h1
  exact ⟨_,qGo L own mark hl⟩
 ·cases h
theorem qz9:qak (Tryz.f360.body.getD .skip)=[qHO]:=by kernel_rfl
def ixB (L:List (List Dat)):Int:=bif qbP (qiN L) L.length 0 then qcq (qiN L) L.length 0 else -1
theorem qEY (L:List (List Dat)) (own:Bool) (mark:Bool):runG Γu7 ΛIf Tryz.prog Tryz.f360 [.row 0,.v (.func (.func 346) #[] #[])] ⟨[],[],[rH L own mark]⟩ =
 (bif (L.length:Int)==(L.length:Int)&&(true&&qdI L) then (bif qbP (qiN L) L.length (0:Int) then some (.v (I (qcq (qiN L) L.length (0:Int))),⟨[],[],[.live ⟨117,kPh,L,own,mark⟩]⟩) else some (.v (I (-1)),⟨[],[],[.live ⟨117,kPh,L,own,mark⟩]⟩)) else none):=by kernel_rfl
def qLG (xs:List SV) (m:Mem):Option (Bool×Value) :=
 match xs,m with
 | [.row 0,.v (.func (.func 346) ⟨[]⟩ ⟨[]⟩)],⟨[],[],[.live ⟨117,[.sl 162 [.num .i64,.num .i64],.num .i64,.num .i64,.num .i64,.num .i64],L,own,mark⟩]⟩=>some (qdI L,I (ixB L))
 | _,_=>none
theorem qA8:CtR 360 qLG:=by
 intro xs m r h
 unfold qLG at h
 split at h
 ·rename_i L own mark
  obtain ⟨h1,rfl⟩:=qac h
  refine qal (Λ:=ΛIf) qMQ Tryz.func360 rfl (fun z z1 z2=>qax qz9 (qvQ z z1 z2)) ?_
  refine (qEY L own mark).trans ?_
  rw [h1,beq_self_eq_true]
  unfold ixB
  cases qbP (qiN L) L.length 0<;>rfl
 ·cases h
def Γu8:Orc:=qay 360 qLG Γu7
theorem qOt:Γu8.Ok Tryz.prog:=qai qMQ qA8
theorem qE0 (L:List (List Dat)) (own:Bool) (mark:Bool):runG Γu8 L0 Tryz.prog Tryz.f345 [.row 0,.v (.func (.func 346) #[] #[])] ⟨[],[],[rH L own mark]⟩ =
 (bif qdI L then some (.v (Bo (decide (ixB L≥(0:Int)))),⟨[],[],[.live ⟨117,kPh,L,own,mark⟩]⟩) else none):=by kernel_rfl
def qLI (xs:List SV) (m:Mem):Option (Bool×Value) :=
 match xs,m with
 | [.row 0,.v (.func (.func 346) ⟨[]⟩ ⟨[]⟩)],⟨[],[],[.live ⟨117,[.sl 162 [.num .i64,.num .i64],.num .i64,.num .i64,.num .i64,.num .i64],L,own,mark⟩]⟩=>some (qdI L,Bo (qbP (qiN L) L.length 0))
 | _,_=>none
theorem qBa:CtR 345 qLI:=by
 intro xs m r h
 unfold qLI at h
 split at h
 ·rename_i L own mark
  obtain ⟨h1,rfl⟩:=qac h
  refine qal (Λ:=L0) qOt Tryz.func345 rfl l00 ?_
  refine (qE0 L own mark).trans ?_
  rw [h1]
  unfold ixB
  have:=(qkd (qiN L) L.length 0).1
  cases qbP (qiN L) L.length 0
  ·rfl
  ·show some (SV.v (Bo (decide (qcq (qiN L) L.length 0≥0))),_)=_
   rw [decide_eq_true (show qcq (qiN L) L.length 0≥0 from this)]
 ·cases h
def Γu9:Orc:=qay 345 qLI Γu8
theorem qOs:Γu9.Ok Tryz.prog:=qai qOt qBa
def wrB (L:List (List Dat)) (r1 r2 r3 r4 r5 r6 r7 r8:Int):Int:=bif !frB 1 4 (L.length:Int) then 1 else bif qbP (qiN L) L.length 0 then 2 else bif !(frB 1 50 r1&&(frB 1 50 r2&&frB 1 50 r3)) then 3 else bif !frB 0 1024 r4 then 4 else bif !frB 1 65536 r5 then 5 else bif !frB 1 50 r6 then 6 else bif !frB 1 1073741824 r7 then 7 else bif !frB 0 (L.length:Int) r8 then 8 else 0
theorem qEQ (r1:Int) (r2:Int) (r3:Int) (r4:Int) (r5:Int) (r6:Int) (r7:Int) (r8:Int) (L:List (List Dat)) (own:Bool) (mark:Bool):runG Γu9 L0 Tryz.prog Tryz.f312 [.ag [.row 0,.v (I r1),.v (I r2),.v (I r3),.v (I r4),.v (I r5),.v (I r6),.v (I r7),.v (I r8)]] ⟨[],[],[rH L own mark]⟩ =
 (bif !frB (1:Int) (4:Int) (L.length:Int) then some (.v (I 1),⟨[],[],[.live ⟨117,kPh,L,own,mark⟩]⟩) else (bif qdI L then (bif qbP (qiN L) L.length (0:Int) then some (.v (I 2),⟨[],[],[.live ⟨117,kPh,L,own,mark⟩]⟩) else (bif !frB (1:Int) (50:Int) r1 then some (.v (I 3),⟨[],[],[.live ⟨117,kPh,L,own,mark⟩]⟩) else (bif !frB (1:Int) (50:Int) r2 then some (.v (I 3),⟨[],[],[.live ⟨117,kPh,L,own,mark⟩]⟩) else (bif !frB (1:Int) (50:Int) r3 then some (.v (I 3),⟨[],[],[.live ⟨117,kPh,L,own,mark⟩]⟩) else (bif !frB (0:Int) (1024:Int) r4 then some (.v (I 4),⟨[],[],[.live ⟨117,kPh,L,own,mark⟩]⟩) else (bif !frB (1:Int) (65536:Int) r5 then some (.v (I 5),⟨[],[],[.live ⟨117,kPh,L,own,mark⟩]⟩) else (bif !frB (1:Int) (50:Int) r6 then some (.v (I 6),⟨[],[],[.live ⟨117,kPh,L,own,mark⟩]⟩) else (bif !frB (1:Int) (1073741824:Int) r7 then some (.v (I 7),⟨[],[],[.live ⟨117,kPh,L,own,mark⟩]⟩) else (bif !frB (0:Int) ((L.length:Int)) r8 then some (.v (I 8),⟨[],[],[.live ⟨117,kPh,L,own,mark⟩]⟩) else some (.v (I 0),⟨[],[],[.live ⟨117,kPh,L,own,mark⟩]⟩)))))))))) else none)):=by kernel_rfl
def qLy (xs:List SV) (m:Mem):Option (Bool×Value) :=
 match xs,m with
 | [.ag [.row 0,.v (.int .i64 r1),.v (.int .i64 r2),.v (.int .i64 r3),.v (.int .i64 r4),.v (.int .i64 r5),.v (.int .i64 r6),.v (.int .i64 r7),.v (.int .i64 r8)]],⟨[],[],[.live ⟨117,[.sl 162 [.num .i64,.num .i64],.num .i64,.num .i64,.num .i64,.num .i64],L,own,mark⟩]⟩=>some (qdI L,I (wrB L r1 r2 r3 r4 r5 r6 r7 r8))
 | _,_=>none
theorem qA2:CtR 312 qLy:=by
 intro xs m r h
 unfold qLy at h
 split at h
 ·rename_i r1 r2 r3 r4 r5 r6 r7 r8 L own mark
  obtain ⟨h1,rfl⟩:=qac h
  refine qal (Λ:=L0) qOs Tryz.func312 rfl l00 ?_
  refine (qEQ r1 r2 r3 r4 r5 r6 r7 r8 L own mark).trans ?_
  rw [h1]
  unfold wrB
  (cases frB 1 4 (L.length:Int)<;>first|rfl|(cases qbP (qiN L) L.length 0<;>first|rfl|(cases frB 1 50 r1<;>first|rfl|(cases frB 1 50 r2<;>first|rfl|(cases frB 1 50 r3<;>first|rfl|(cases frB 0 1024 r4<;>first|rfl|(cases frB 1 65536 r5<;>first|rfl|(cases frB 1 50 r6<;>first|rfl|(cases frB 1 1073741824 r7<;>first|rfl|(cases frB 0 (L.length:Int) r8<;>first|rfl|rfl))))))))))
 ·cases h
def Γu10:Orc:=qay 312 qLy Γu9
theorem qH0:Γu10.Ok Tryz.prog:=qai qOs qA2
theorem qEU (r1:Int) (r2:Int) (r3:Int) (r4:Int) (r5:Int) (r6:Int) (r7:Int) (r8:Int) (L:List (List Dat)) (own:Bool) (mark:Bool):runG Γu10 L0 Tryz.prog Tryz.f254 [.ag [.row 0,.v (I r1),.v (I r2),.v (I r3),.v (I r4),.v (I r5),.v (I r6),.v (I r7),.v (I r8)]] ⟨[],[],[rH L own mark]⟩ =
 (bif qdI L then some (.v (Bo (wrB L r1 r2 r3 r4 r5 r6 r7 r8==(0:Int))),⟨[],[],[.live ⟨117,kPh,L,own,mark⟩]⟩) else none):=by kernel_rfl
def qLA (xs:List SV) (m:Mem):Option (Bool×Value) :=
 match xs,m with
 | [.ag [.row 0,.v (.int .i64 r1),.v (.int .i64 r2),.v (.int .i64 r3),.v (.int .i64 r4),.v (.int .i64 r5),.v (.int .i64 r6),.v (.int .i64 r7),.v (.int .i64 r8)]],⟨[],[],[.live ⟨117,[.sl 162 [.num .i64,.num .i64],.num .i64,.num .i64,.num .i64,.num .i64],L,own,mark⟩]⟩=>some (qdI L,Bo (wrB L r1 r2 r3 r4 r5 r6 r7 r8==0))
 | _,_=>none
theorem qA4:CtR 254 qLA:=by
 intro xs m r h
 unfold qLA at h
 split at h
 ·rename_i r1 r2 r3 r4 r5 r6 r7 r8 L own mark
  obtain ⟨h1,rfl⟩:=qac h
  refine qal (Λ:=L0) qH0 Tryz.func254 rfl l00 ?_
  refine (qEU r1 r2 r3 r4 r5 r6 r7 r8 L own mark).trans ?_
  rw [h1]
  rfl
 ·cases h
def Γu11:Orc:=qay 254 qLA Γu10
theorem qMT:Γu11.Ok Tryz.prog:=qai qH0 qA4
def Γu12:Orc:=Γu11
theorem qMS:Γu12.Ok Tryz.prog:=qMT
def Γu13:Orc:=Γu12
theorem qHZ:Γu13.Ok Tryz.prog:=qMS
theorem qFC (g:Int) (v:Int) (m:Int) (u:Int) (L:List (List Dat)) (own:Bool) (mark:Bool):runG Γu13 L0 Tryz.prog Tryz.f278 [.ag [.row 0,.v (I g),.v (I v),.v (I m),.v (I u)]] ⟨[],[],[rP L own mark]⟩ =
 (bif Nat.blt (0:Nat) L.length&&L.length.ble (1000000) then some (.ag [.row 1,.v (I g),.v (I v),.v (I m),.v (I u)],⟨[],[],[.live ⟨162,[.num .i64,.num .i64],L,own,mark⟩,.live ⟨162,[.num .i64,.num .i64],L,true,false⟩]⟩) else none):=by kernel_rfl
def qMa (xs:List SV) (m:Mem):Option (Bool×SV×Mem) :=
 match xs,m with
 | [.ag [.row 0,.v (.int .i64 g),.v (.int .i64 v),.v (.int .i64 m),.v (.int .i64 u)]],⟨[],[],[.live ⟨162,[.num .i64,.num .i64],L,own,mark⟩]⟩=>some (Nat.blt 0 L.length&&Nat.ble L.length 1000000,.ag [.row 1,.v (I g),.v (I v),.v (I m),.v (I u)],⟨[],[],[rP L own mark,rP L true false]⟩)
 | _,_=>none
theorem qBS:CtC 278 qMa:=by
 intro xs m r m' h
 unfold qMa at h
 split at h
 ·rename_i g v m u L own mark
  obtain ⟨h1,rfl,rfl⟩:=qaf h
  refine qal (Λ:=L0) qHZ Tryz.func278 rfl l00 ?_
  refine (qFC g v m u L own mark).trans ?_
  rw [h1]
  rfl
 ·cases h
def Γu14:Orc:=qau 278 qMa Γu13
theorem qHY:Γu14.Ok Tryz.prog:=qad qHZ qBS
theorem qFD (L:List (List Dat)) (own:Bool) (mark:Bool):runG Γu14 L0 Tryz.prog Tryz.f325 [.row 0] ⟨[],[],[rH L own mark]⟩ =
 (bif Nat.blt (0:Nat) L.length then (bif decide (((0:Nat)+L.length)*(56:Nat)≤(140737488355328:Nat)∧(0:Nat)+L.length≤(9223372036854775807:Nat)) then some (.row 1,⟨[],[],[.live ⟨117,kPh,L,own,mark⟩,.live ⟨117,[CK.sl 162 [CK0.num IntKind.i64,CK0.num IntKind.i64],.num .i64,.num .i64,.num .i64,.num .i64],L,true,false⟩]⟩) else none) else none):=by kernel_rfl
def qMc (xs:List SV) (m:Mem):Option (Bool×SV×Mem) :=
 match xs,m with
 | [.row 0],⟨[],[],[.live ⟨117,[.sl 162 [.num .i64,.num .i64],.num .i64,.num .i64,.num .i64,.num .i64],L,own,mark⟩]⟩=>some (Nat.blt 0 L.length&&Nat.ble L.length 1000000,.row 1,⟨[],[],[rH L own mark,rH L true false]⟩)
 | _,_=>none
theorem qBU:CtC 325 qMc:=by
 intro xs m r m' h
 unfold qMc at h
 split at h
 ·rename_i L own mark
  obtain ⟨h1,rfl,rfl⟩:=qaf h
  refine qal (Λ:=L0) qHY Tryz.func325 rfl l00 ?_
  refine (qFD L own mark).trans ?_
  rw [Bool.and_eq_true] at h1
  have h2:=Nat.le_of_ble_eq_true h1.2
  rw [h1.1,decide_eq_true (show (0+L.length)*56≤140737488355328∧0+L.length≤9223372036854775807 by omega)]
  rfl
 ·cases h
def Γu15:Orc:=qau 325 qMc Γu14
theorem qCP:Γu15.Ok Tryz.prog:=qad qHY qBU
def qmm:Code:=qaH (Tryz.f262.body.getD .skip) 0
def kCo:List Bool:=qam 25 [1,2,10,11,12]
def xCo (e:Ex):List Bool:=match e with
 | .exit _=>qam 25 [1,2]
 | .ret=>qam 25 [2]
 | .normal=>qam 25 [1,2,10,11,12]
def KCo (e:Ex) (st:St):Option (Ex×St):=some (e,qav 0 1 (xCo e) st)
theorem qEe (r1:Int) (r2:Int) (r3:Int) (r4:Int) (r5:Int) (r6:Int) (r7:Int) (r8:Int) (nn:Int) (k:Int) (L:List (List Dat)) (own:Bool) (mark:Bool) (M:List (List Dat)) (n:Nat):qaj Γu15 Tryz.prog L0 (qav 0 1 kCo) qmm (n+1) (mk kCo [.ptr 0 0,.ptr 1 0,.row 1,.v (I nn),.v (I k)] ⟨[[.row 1,.v (I r1),.v (I r2),.v (I r3),.v (I r4),.v (I r5),.v (I r6),.v (I r7),.v (I r8)],[.v (.slice none 0 0),.v (I 0),.v (I 0),.v (I 0),.v (I 0),.v (I 0),.v (I 0),.v (I 0),.v (I 0)]],[true,true],[rH L own mark,rH M true false]⟩) KCo =
 (bif decide (k<nn) then (bif decide ((0:Int)≤k)&&decide (k<(M.length:Int)) then (same ((same ((same ((bif Nat.blt (0:Nat) (phA M k).length&&(phA M k).length.ble (1000000) then (bif decide ((0:Int)≤k)&&decide (k<(M.length:Int)) then qaj Γu15 Tryz.prog L0 (qav 0 1 kCo) qmm n (mk kCo [.ptr 0 0,.ptr 1 0,.row 1,.v (I nn),.v (I (wI (k+(1:Int))))] ⟨[[.row 1,.v (I r1),.v (I r2),.v (I r3),.v (I r4),.v (I r5),.v (I r6),.v (I r7),.v (I r8)],[.v (Value.slice none (0:Nat) (0:Nat)),.v (I 0),.v (I 0),.v (I 0),.v (I 0),.v (I 0),.v (I 0),.v (I 0),.v (I 0)]],[true,true],[.live ⟨117,kPh,L,own,mark⟩,.live ⟨117,kPh,M.set k.toNat (qhK (M.getD k.toNat []) (0:Nat) [Dat.l (Value.slice none (0:Nat) (0:Nat)) (phA M k),Dat.n (phG M k),Dat.n (phV M k),Dat.n (phM M k),Dat.n (phU M k)]),true,false⟩]⟩) KCo else none) else none)) ((bif Nat.blt (0:Nat) (phA M k).length&&(phA M k).length.ble (1000000) then (bif decide ((0:Int)≤k)&&decide (k<(M.length:Int)) then qaj Γu15 Tryz.prog L0 (qav 0 1 kCo) qmm n (mk kCo [.ptr 0 0,.ptr 1 0,.row 1,.v (I nn),.v (I (wI (k+(1:Int))))] ⟨[[.row 1,.v (I r1),.v (I r2),.v (I r3),.v (I r4),.v (I r5),.v (I r6),.v (I r7),.v (I r8)],[.v (Value.slice none (0:Nat) (0:Nat)),.v (I 0),.v (I 0),.v (I 0),.v (I 0),.v (I 0),.v (I 0),.v (I 0),.v (I 0)]],[true,true],[.live ⟨117,kPh,L,own,mark⟩,.live ⟨117,kPh,M.set k.toNat (qhK (M.getD k.toNat []) (0:Nat) [Dat.l (Value.slice none (0:Nat) (0:Nat)) (phA M k),Dat.n (phG M k),Dat.n (phV M k),Dat.n (phM M k),Dat.n (phU M k)]),true,false⟩]⟩) KCo else none) else none)))) ((same ((same ((bif Nat.blt (0:Nat) (phA M k).length&&(phA M k).length.ble (1000000) then (bif decide ((0:Int)≤k)&&decide (k<(M.length:Int)) then qaj Γu15 Tryz.prog L0 (qav 0 1 kCo) qmm n (mk kCo [.ptr 0 0,.ptr 1 0,.row 1,.v (I nn),.v (I (wI (k+(1:Int))))] ⟨[[.row 1,.v (I r1),.v (I r2),.v (I r3),.v (I r4),.v (I r5),.v (I r6),.v (I r7),.v (I r8)],[.v (Value.slice none (0:Nat) (0:Nat)),.v (I 0),.v (I 0),.v (I 0),.v (I 0),.v (I 0),.v (I 0),.v (I 0),.v (I 0)]],[true,true],[.live ⟨117,kPh,L,own,mark⟩,.live ⟨117,kPh,M.set k.toNat (qhK (M.getD k.toNat []) (0:Nat) [Dat.l (Value.slice none (0:Nat) (0:Nat)) (phA M k),Dat.n (phG M k),Dat.n (phV M k),Dat.n (phM M k),Dat.n (phU M k)]),true,false⟩]⟩) KCo else none) else none)) ((bif Nat.blt (0:Nat) (phA M k).length&&(phA M k).length.ble (1000000) then (bif decide ((0:Int)≤k)&&decide (k<(M.length:Int)) then qaj Γu15 Tryz.prog L0 (qav 0 1 kCo) qmm n (mk kCo [.ptr 0 0,.ptr 1 0,.row 1,.v (I nn),.v (I (wI (k+(1:Int))))] ⟨[[.row 1,.v (I r1),.v (I r2),.v (I r3),.v (I r4),.v (I r5),.v (I r6),.v (I r7),.v (I r8)],[.v (Value.slice none (0:Nat) (0:Nat)),.v (I 0),.v (I 0),.v (I 0),.v (I 0),.v (I 0),.v (I 0),.v (I 0),.v (I 0)]],[true,true],[.live ⟨117,kPh,L,own,mark⟩,.live ⟨117,kPh,M.set k.toNat (qhK (M.getD k.toNat []) (0:Nat) [Dat.l (Value.slice none (0:Nat) (0:Nat)) (phA M k),Dat.n (phG M k),Dat.n (phV M k),Dat.n (phM M k),Dat.n (phU M k)]),true,false⟩]⟩) KCo else none) else none)))) ((bif Nat.blt (0:Nat) (phA M k).length&&(phA M k).length.ble (1000000) then (bif decide ((0:Int)≤k)&&decide (k<(M.length:Int)) then qaj Γu15 Tryz.prog L0 (qav 0 1 kCo) qmm n (mk kCo [.ptr 0 0,.ptr 1 0,.row 1,.v (I nn),.v (I (wI (k+(1:Int))))] ⟨[[.row 1,.v (I r1),.v (I r2),.v (I r3),.v (I r4),.v (I r5),.v (I r6),.v (I r7),.v (I r8)],[.v (Value.slice none (0:Nat) (0:Nat)),.v (I 0),.v (I 0),.v (I 0),.v (I 0),.v (I 0),.v (I 0),.v (I 0),.v (I 0)]],[true,true],[.live ⟨117,kPh,L,own,mark⟩,.live ⟨117,kPh,M.set k.toNat (qhK (M.getD k.toNat []) (0:Nat) [Dat.l (Value.slice none (0:Nat) (0:Nat)) (phA M k),Dat.n (phG M k),Dat.n (phV M k),Dat.n (phM M k),Dat.n (phU M k)]),true,false⟩]⟩) KCo else none) else none)))))) ((same ((same ((same ((bif Nat.blt (0:Nat) (phA M k).length&&(phA M k).length.ble (1000000) then (bif decide ((0:Int)≤k)&&decide (k<(M.length:Int)) then qaj Γu15 Tryz.prog L0 (qav 0 1 kCo) qmm n (mk kCo [.ptr 0 0,.ptr 1 0,.row 1,.v (I nn),.v (I (wI (k+(1:Int))))] ⟨[[.row 1,.v (I r1),.v (I r2),.v (I r3),.v (I r4),.v (I r5),.v (I r6),.v (I r7),.v (I r8)],[.v (Value.slice none (0:Nat) (0:Nat)),.v (I 0),.v (I 0),.v (I 0),.v (I 0),.v (I 0),.v (I 0),.v (I 0),.v (I 0)]],[true,true],[.live ⟨117,kPh,L,own,mark⟩,.live ⟨117,kPh,M.set k.toNat (qhK (M.getD k.toNat []) (0:Nat) [Dat.l (Value.slice none (0:Nat) (0:Nat)) (phA M k),Dat.n (phG M k),Dat.n (phV M k),Dat.n (phM M k),Dat.n (phU M k)]),true,false⟩]⟩) KCo else none) else none)) ((bif Nat.blt (0:Nat) (phA M k).length&&(phA M k).length.ble (1000000) then (bif decide ((0:Int)≤k)&&decide (k<(M.length:Int)) then qaj Γu15 Tryz.prog L0 (qav 0 1 kCo) qmm n (mk kCo [.ptr 0 0,.ptr 1 0,.row 1,.v (I nn),.v (I (wI (k+(1:Int))))] ⟨[[.row 1,.v (I r1),.v (I r2),.v (I r3),.v (I r4),.v (I r5),.v (I r6),.v (I r7),.v (I r8)],[.v (Value.slice none (0:Nat) (0:Nat)),.v (I 0),.v (I 0),.v (I 0),.v (I 0),.v (I 0),.v (I 0),.v (I 0),.v (I 0)]],[true,true],[.live ⟨117,kPh,L,own,mark⟩,.live ⟨117,kPh,M.set k.toNat (qhK (M.getD k.toNat []) (0:Nat) [Dat.l (Value.slice none (0:Nat) (0:Nat)) (phA M k),Dat.n (phG M k),Dat.n (phV M k),Dat.n (phM M k),Dat.n (phU M k)]),true,false⟩]⟩) KCo else none) else none)))) ((bif Nat.blt (0:Nat) (phA M k).length&&(phA M k).length.ble (1000000) then (bif decide ((0:Int)≤k)&&decide (k<(M.length:Int)) then qaj Γu15 Tryz.prog L0 (qav 0 1 kCo) qmm n (mk kCo [.ptr 0 0,.ptr 1 0,.row 1,.v (I nn),.v (I (wI (k+(1:Int))))] ⟨[[.row 1,.v (I r1),.v (I r2),.v (I r3),.v (I r4),.v (I r5),.v (I r6),.v (I r7),.v (I r8)],[.v (Value.slice none (0:Nat) (0:Nat)),.v (I 0),.v (I 0),.v (I 0),.v (I 0),.v (I 0),.v (I 0),.v (I 0),.v (I 0)]],[true,true],[.live ⟨117,kPh,L,own,mark⟩,.live ⟨117,kPh,M.set k.toNat (qhK (M.getD k.toNat []) (0:Nat) [Dat.l (Value.slice none (0:Nat) (0:Nat)) (phA M k),Dat.n (phG M k),Dat.n (phV M k),Dat.n (phM M k),Dat.n (phU M k)]),true,false⟩]⟩) KCo else none) else none)))) ((bif Nat.blt (0:Nat) (phA M k).length&&(phA M k).length.ble (1000000) then (bif decide ((0:Int)≤k)&&decide (k<(M.length:Int)) then qaj Γu15 Tryz.prog L0 (qav 0 1 kCo) qmm n (mk kCo [.ptr 0 0,.ptr 1 0,.row 1,.v (I nn),.v (I (wI (k+(1:Int))))] ⟨[[.row 1,.v (I r1),.v (I r2),.v (I r3),.v (I r4),.v (I r5),.v (I r6),.v (I r7),.v (I r8)],[.v (Value.slice none (0:Nat) (0:Nat)),.v (I 0),.v (I 0),.v (I 0),.v (I 0),.v (I 0),.v (I 0),.v (I 0),.v (I 0)]],[true,true],[.live ⟨117,kPh,L,own,mark⟩,.live ⟨117,kPh,M.set k.toNat (qhK (M.getD k.toNat []) (0:Nat) [Dat.l (Value.slice none (0:Nat) (0:Nat)) (phA M k),Dat.n (phG M k),Dat.n (phV M k),Dat.n (phM M k),Dat.n (phU M k)]),true,false⟩]⟩) KCo else none) else none))))) else none) else some ((.exit 0),mk (xCo (.exit 0)) [.ptr 0 0,.ptr 1 0] ⟨[[.row 1,.v (I r1),.v (I r2),.v (I r3),.v (I r4),.v (I r5),.v (I r6),.v (I r7),.v (I r8)],[.v (Value.slice none (0:Nat) (0:Nat)),.v (I 0),.v (I 0),.v (I 0),.v (I 0),.v (I 0),.v (I 0),.v (I 0),.v (I 0)]],[true,true],[.live ⟨117,kPh,L,own,mark⟩,.live ⟨117,kPh,M,true,false⟩]⟩)):=by kernel_rfl
theorem qpF (r1:Int) (r2:Int) (r3:Int) (r4:Int) (r5:Int) (r6:Int) (r7:Int) (r8:Int) (nn:Int) (k:Int) (L:List (List Dat)) (own:Bool) (mark:Bool) (M:List (List Dat)) (n:Nat):qaj Γu15 Tryz.prog L0 (qav 0 1 kCo) qmm (n+1) (mk kCo [.ptr 0 0,.ptr 1 0,.row 1,.v (I nn),.v (I k)] ⟨[[.row 1,.v (I r1),.v (I r2),.v (I r3),.v (I r4),.v (I r5),.v (I r6),.v (I r7),.v (I r8)],[.v (.slice none 0 0),.v (I 0),.v (I 0),.v (I 0),.v (I 0),.v (I 0),.v (I 0),.v (I 0),.v (I 0)]],[true,true],[rH L own mark,rH M true false]⟩) KCo =
 (bif decide (k<nn) then (bif decide ((0:Int)≤k)&&decide (k<(M.length:Int)) then (bif Nat.blt (0:Nat) (phA M k).length&&(phA M k).length.ble (1000000) then (bif decide ((0:Int)≤k)&&decide (k<(M.length:Int)) then qaj Γu15 Tryz.prog L0 (qav 0 1 kCo) qmm n (mk kCo [.ptr 0 0,.ptr 1 0,.row 1,.v (I nn),.v (I (wI (k+(1:Int))))] ⟨[[.row 1,.v (I r1),.v (I r2),.v (I r3),.v (I r4),.v (I r5),.v (I r6),.v (I r7),.v (I r8)],[.v (Value.slice none (0:Nat) (0:Nat)),.v (I 0),.v (I 0),.v (I 0),.v (I 0),.v (I 0),.v (I 0),.v (I 0),.v (I 0)]],[true,true],[.live ⟨117,kPh,L,own,mark⟩,.live ⟨117,kPh,M.set k.toNat (qhK (M.getD k.toNat []) (0:Nat) [Dat.l (Value.slice none (0:Nat) (0:Nat)) (phA M k),Dat.n (phG M k),Dat.n (phV M k),Dat.n (phM M k),Dat.n (phU M k)]),true,false⟩]⟩) KCo else none) else none) else none) else some ((.exit 0),mk (xCo (.exit 0)) [.ptr 0 0,.ptr 1 0] ⟨[[.row 1,.v (I r1),.v (I r2),.v (I r3),.v (I r4),.v (I r5),.v (I r6),.v (I r7),.v (I r8)],[.v (Value.slice none (0:Nat) (0:Nat)),.v (I 0),.v (I 0),.v (I 0),.v (I 0),.v (I 0),.v (I 0),.v (I 0),.v (I 0)]],[true,true],[.live ⟨117,kPh,L,own,mark⟩,.live ⟨117,kPh,M,true,false⟩]⟩)):=(qEe _ _ _ _ _ _ _ _ _ _ _ _ _ _ _).trans (by simp only [qa1])
def ECo (n:Nat) (r1:Int) (r2:Int) (r3:Int) (r4:Int) (r5:Int) (r6:Int) (r7:Int) (r8:Int) (nn:Int) (k:Int) (L:List (List Dat)) (own:Bool) (mark:Bool) (M:List (List Dat)):Option (Ex×St) :=
 qaj Γu15 Tryz.prog L0 (qav 0 1 kCo) qmm n (mk kCo [.ptr 0 0,.ptr 1 0,.row 1,.v (I nn),.v (I k)] ⟨[[.row 1,.v (I r1),.v (I r2),.v (I r3),.v (I r4),.v (I r5),.v (I r6),.v (I r7),.v (I r8)],[.v (.slice none 0 0),.v (I 0),.v (I 0),.v (I 0),.v (I 0),.v (I 0),.v (I 0),.v (I 0),.v (I 0)]],[true,true],[rH L own mark,rH M true false]⟩) KCo
def qkO (L:List (List Dat)):Bool:=L.all fun l=>Nat.blt 0 (l.headD (.n 0)).toL.length
theorem qm0 {L:List (List Dat)} (h:qkO L=true) {k:Int} (h0:0≤k) (h1:k<(L.length:Int)):Nat.blt 0 (phA L k).length=true:=by
 have hk:k.toNat<L.length:=by omega
 have hm:L.getD k.toNat []∈L:=by
  rw [List.getD,List.getElem?_eq_getElem hk]
  exact List.getElem_mem hk
 exact List.all_eq_true.1 h _ hm
theorem qt0 {α:Type} {L:List α} {k:Nat} {x:α} (d:α) (hx:L.getD k d=x) (hk:k<L.length):L.set k x=L:=by
 subst hx
 apply List.ext_getElem?
 intro i
 by_cases hi:k=i
 ·subst hi
  rw [List.getElem?_set_self hk,List.getD,List.getElem?_eq_getElem hk]
  rfl
 ·rw [List.getElem?_set_ne hi]
theorem qyU {L:List (List Dat)} (h:qdI L=true) {k:Int} (h0:0≤k) (h1:k<(L.length:Int)):L.set k.toNat (qhK (L.getD k.toNat []) 0 [.l (.slice none 0 0) (phA L k),.n (phG L k),.n (phV L k),.n (phM L k),.n (phU L k)])=L:=by
 have e:=(qfy h h0 h1).1
 refine qt0 [] ?_ (by omega)
 rw [e]
 rfl
def qOi (r1 r2 r3 r4 r5 r6 r7 r8:Int) (L:List (List Dat)) (own mark:Bool):LT:=.leaf (.exit 0) (mk (xCo (.exit 0)) [.ptr 0 0,.ptr 1 0] ⟨[[.row 1,.v (I r1),.v (I r2),.v (I r3),.v (I r4),.v (I r5),.v (I r6),.v (I r7),.v (I r8)],[.v (.slice none 0 0),.v (I 0),.v (I 0),.v (I 0),.v (I 0),.v (I 0),.v (I 0),.v (I 0),.v (I 0)]],[true,true],[rH L own mark,rH L true false]⟩)
theorem qGq (r1 r2 r3 r4 r5 r6 r7 r8:Int) (L:List (List Dat)) (own mark:Bool) (hl:qdI L=true) (hn:qkO L=true):ECo (L.length+1) r1 r2 r3 r4 r5 r6 r7 r8 (L.length:Int) 0 L own mark L=some (qOi r1 r2 r3 r4 r5 r6 r7 r8 L own mark).pick:=by
 have hll:=qh4 hl
 refine (qCc (fun _ s=>s) (fun _ _=>True) (L.length:Int) (fun n k (s:Unit)=>ECo n r1 r2 r3 r4 r5 r6 r7 r8 (L.length:Int) k L own mark L) (fun _=>some (.exit 0,mk (xCo (.exit 0)) [.ptr 0 0,.ptr 1 0] ⟨[[.row 1,.v (I r1),.v (I r2),.v (I r3),.v (I r4),.v (I r5),.v (I r6),.v (I r7),.v (I r8)],[.v (.slice none 0 0),.v (I 0),.v (I 0),.v (I 0),.v (I 0),.v (I 0),.v (I 0),.v (I 0),.v (I 0)]],[true,true],[rH L own mark,rH L true false]⟩)) (fun n k s hk _=>?_) (fun _ _ _ _=>trivial) (fun n k s hk _=>?_) L.length 0 () (by omega) (by omega) trivial).trans rfl
 ·refine (qpF r1 r2 r3 r4 r5 r6 r7 r8 (L.length:Int) k L own mark L n).trans ?_
  rw [decide_eq_false hk]
  rfl
 ·refine (qpF r1 r2 r3 r4 r5 r6 r7 r8 (L.length:Int) k L own mark L n).trans ?_
  rw [qyU hl hk.1 hk.2,decide_eq_true hk.2,decide_eq_true hk.1,(qfy hl hk.1 hk.2).2,qm0 hn hk.1 hk.2,qaw (n:=k+1) (by omega)]
  rfl
def GCo (vals:List SV) (m:Mem):Option (Bool×LT) :=
 match vals,m with
 | [.ptr 0 0,.ptr 1 0,.row 1,.v (.int .i64 nn),.v (.int .i64 k)],⟨[[.row 1,.v (.int .i64 r1),.v (.int .i64 r2),.v (.int .i64 r3),.v (.int .i64 r4),.v (.int .i64 r5),.v (.int .i64 r6),.v (.int .i64 r7),.v (.int .i64 r8)],[.v (.slice none 0 0),.v (.int .i64 0),.v (.int .i64 0),.v (.int .i64 0),.v (.int .i64 0),.v (.int .i64 0),.v (.int .i64 0),.v (.int .i64 0),.v (.int .i64 0)]],[true,true],[.live ⟨117,[.sl 162 [.num .i64,.num .i64],.num .i64,.num .i64,.num .i64,.num .i64],L,own,mark⟩,.live ⟨117,[.sl 162 [.num .i64,.num .i64],.num .i64,.num .i64,.num .i64,.num .i64],M,true,false⟩]⟩=>some (nn==(L.length:Int)&&(k==0&&(qdI L&&(qkO L&&isT (M=L)))),qOi r1 r2 r3 r4 r5 r6 r7 r8 L own mark)
 | _,_=>none
def ΛCo:qao:=fun _ st=>qkN 0 1 kCo GCo st
theorem qvS (z:Base) (z1:z.L.length=0) (z2:z.U.length=1):qas ΛCo Tryz.prog z qmm:=by
 refine qa5 (Λ:=L0) (kx:=xCo) qCP mixed z1 z2 (fun b hb st t h=>by cases h) (G:=GCo) (fun _=>rfl) ?_
 intro vals m t h
 unfold GCo at h
 split at h
 ·rename_i nn k r1 r2 r3 r4 r5 r6 r7 r8 L own mark M
  obtain ⟨h1,rfl⟩:=qac h
  simp only [Bool.and_eq_true,beq_iff_eq,qcP] at h1
  obtain ⟨rfl,rfl,hl,hn,rfl⟩:=h1
  exact ⟨_,qGq r1 r2 r3 r4 r5 r6 r7 r8 M own mark hl hn⟩
 ·cases h
theorem qAb:qak (Tryz.f262.body.getD .skip)=[qmm]:=by kernel_rfl
theorem qFB (r1:Int) (r2:Int) (r3:Int) (r4:Int) (r5:Int) (r6:Int) (r7:Int) (r8:Int) (L:List (List Dat)) (own:Bool) (mark:Bool):runG Γu15 ΛCo Tryz.prog Tryz.f262 [.ag [.row 0,.v (I r1),.v (I r2),.v (I r3),.v (I r4),.v (I r5),.v (I r6),.v (I r7),.v (I r8)]] ⟨[],[],[rH L own mark]⟩ =
 (bif Nat.blt (0:Nat) L.length&&L.length.ble (1000000) then (bif (L.length:Int)==(L.length:Int)&&(true&&(qdI L&&(qkO L&&isT (L=L)))) then some (.ag [.row 1,.v (I r1),.v (I r2),.v (I r3),.v (I r4),.v (I r5),.v (I r6),.v (I r7),.v (I r8)],⟨[],[],[.live ⟨117,kPh,L,own,mark⟩,.live ⟨117,kPh,L,true,false⟩]⟩) else none) else none):=by kernel_rfl
def qL9 (xs:List SV) (m:Mem):Option (Bool×SV×Mem) :=
 match xs,m with
 | [.ag [.row 0,.v (.int .i64 r1),.v (.int .i64 r2),.v (.int .i64 r3),.v (.int .i64 r4),.v (.int .i64 r5),.v (.int .i64 r6),.v (.int .i64 r7),.v (.int .i64 r8)]],⟨[],[],[.live ⟨117,[.sl 162 [.num .i64,.num .i64],.num .i64,.num .i64,.num .i64,.num .i64],L,own,mark⟩]⟩=>some (qdI L&&(qkO L&&Nat.blt 0 L.length),.ag [.row 1,.v (I r1),.v (I r2),.v (I r3),.v (I r4),.v (I r5),.v (I r6),.v (I r7),.v (I r8)],⟨[],[],[rH L own mark,rH L true false]⟩)
 | _,_=>none
theorem qBR:CtC 262 qL9:=by
 intro xs m r m' h
 unfold qL9 at h
 split at h
 ·rename_i r1 r2 r3 r4 r5 r6 r7 r8 L own mark
  obtain ⟨h1,rfl,rfl⟩:=qaf h
  refine qal (Λ:=ΛCo) qCP Tryz.func262 rfl (fun z z1 z2=>qax qAb (qvS z z1 z2)) ?_
  refine (qFB r1 r2 r3 r4 r5 r6 r7 r8 L own mark).trans ?_
  rw [Bool.and_eq_true,Bool.and_eq_true] at h1
  obtain ⟨h1,h2,h3⟩:=h1
  have h4:=qh4 h1
  rw [h1,h2,h3,show Nat.ble L.length 1000000=true from Nat.ble_eq_true_of_le h4,beq_self_eq_true,qcP.2 rfl]
  rfl
 ·cases h
def Γu16:Orc:=qau 262 qL9 Γu15
theorem qMR:Γu16.Ok Tryz.prog:=qad qCP qBR
def ΓR3:Orc:=Γu16
theorem OkR3:ΓR3.Ok Tryz.prog:=qMR
end Go.Proofs.YtainfdcfkgemhaaGreat
namespace Go.Proofs.YtainfdcfkgemhaaGreat
open Go Go.Proofs Go.Sx
def ΓA13:Orc:=ΓR3
theorem qtl:ΓA13.Ok Tryz.prog:=OkR3
end Go.Proofs.YtainfdcfkgemhaaGreat
