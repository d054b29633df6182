/-
  What is known of this program: that the document's answers are the program's;rules,the document's,and their law package's own.
-/
import Derived.Test.YtagaiddomhpdmaaGreatYb
import Derived.Test.YtagaiddomhpdmaaGreatSw
import Derived.Test.YtagaiddomhpdmaaGreatSx
set_option maxRecDepth 100000
namespace Go.Proofs.YtagaiddomhpdmaaGreat
open Go Go.Proofs Go.Sx
set_option linter.unusedVariables false
noncomputable def ΓRb:Orc:={ ΓRg3 with sb:=true }
theorem OkRb:ΓRb.Ok Tryz.prog:=⟨OkRg3.call,OkRg3.rd,OkRg3.eqv⟩
noncomputable def ΓRv1:Orc:=ΓRb
theorem OkRv1:ΓRv1.Ok Tryz.prog:=OkRb
theorem runCln (L:List (List Dat)) (own:Bool) (mark:Bool):runG ΓRv1 L0 Tryz.prog Tryz.f276 [.row 0] ⟨[],[],[rP L own mark]⟩ =
    (bif Nat.blt (0:Nat) L.length then (bif decide (((0:Nat)+L.length)*(16:Nat)≤(140737488355328:Nat)∧(0:Nat)+L.length≤(9223372036854775807:Nat)) then some (.row 1,⟨[],[],[.live ⟨151,[.num .i64,.num .i64],L,own,mark⟩,.live ⟨151,[.num .i64,.num .i64],L,true,false⟩]⟩) else none) else none):=by kernel_rfl
def gCln (xs:List SV) (m:Mem):Option (Bool×SV×Mem) :=
  match xs,m with
  | [.row 0],⟨[],[],[.live ⟨151,[.num .i64,.num .i64],L,own,mark⟩]⟩=>some (Nat.blt 0 L.length&&Nat.ble L.length 1000000,.row 1,⟨[],[],[rP L own mark,rP L true false]⟩)
  | _,_=>none
theorem gCln_ok:CtC 276 gCln:=by
  intro xs m r m' h
  unfold gCln at h
  split at h
  · rename_i L own mark
    obtain ⟨h1,rfl,rfl⟩:=some_t2 h
    refine runOk (Λ:=L0) OkRv1 Tryz.func276 rfl l00 ?_
    refine (runCln L own mark).trans ?_
    rw [Bool.and_eq_true] at h1
    have h2:=Nat.le_of_ble_eq_true h1.2
    rw [h1.1,decide_eq_true (show (0+L.length)*16≤140737488355328∧0+L.length≤9223372036854775807 by omega)]
    rfl
  · cases h
noncomputable def ΓRv2:Orc:=addCl 276 gCln ΓRv1
theorem OkRv2:ΓRv2.Ok Tryz.prog:=addCl_ok OkRv1 gCln_ok
noncomputable def ΓRv3:Orc:=ΓRv2
theorem OkRv3:ΓRv3.Ok Tryz.prog:=OkRv2
end Go.Proofs.YtagaiddomhpdmaaGreat
namespace Go.Proofs.YtagaiddomhpdmaaGreat
open Go Go.Proofs Go.Sx
set_option linter.unusedVariables false
end Go.Proofs.YtagaiddomhpdmaaGreat
namespace Go.Proofs.YtagaiddomhpdmaaGreat
open Go Go.Proofs Go.Sx
set_option linter.unusedVariables false
end Go.Proofs.YtagaiddomhpdmaaGreat
namespace Go.Proofs.YtagaiddomhpdmaaGreat
open Go Go.Proofs Go.Sx
set_option linter.unusedVariables false
def phA (L:List (List Dat)) (k:Int):List (List Dat):=((L.getD k.toNat []).headD (.n 0)).toL
def phG (L:List (List Dat)) (k:Int):Int:=((L.getD k.toNat []).tail.headD (.n 0)).toI
def phV (L:List (List Dat)) (k:Int):Int:=((L.getD k.toNat []).tail.tail.headD (.n 0)).toI
def phM (L:List (List Dat)) (k:Int):Int:=((L.getD k.toNat []).tail.tail.tail.headD (.n 0)).toI
def phU (L:List (List Dat)) (k:Int):Int:=((L.getD k.toNat []).tail.tail.tail.tail.headD (.n 0)).toI
abbrev kPh:List CK:=[.sl 151 [.num .i64,.num .i64],.num .i64,.num .i64,.num .i64,.num .i64]
abbrev rH (L:List (List Dat)) (own mark:Bool):RowS:=.live ⟨154,kPh,L,own,mark⟩
def phOk1:List Dat→Bool
  | [.l (.slice none 0 0) A,.n _,.n _,.n _,.n _]=>Nat.ble A.length 1000000
  | _=>false
def phOk (L:List (List Dat)):Bool:=L.all phOk1&&Nat.ble L.length 1000000
theorem phOk_len {L:List (List Dat)} (h:phOk L=true):L.length≤1000000:=by
  unfold phOk at h
  rw [Bool.and_eq_true] at h
  exact Nat.le_of_ble_eq_true h.2
theorem phOk_get {L:List (List Dat)} (h:phOk L=true) {k:Int} (h0:0≤k) (h1:k<(L.length:Int)):L.getD k.toNat []=[.l (.slice none 0 0) (phA L k),.n (phG L k),.n (phV L k),.n (phM L k),.n (phU L k)]∧Nat.ble (phA L k).length 1000000=true:=by
  unfold phOk at h
  rw [Bool.and_eq_true] at h
  have hk:k.toNat<L.length:=by omega
  have hm:L.getD k.toNat []∈L:=by
    rw [List.getD,List.getElem?_eq_getElem hk]
    exact List.getElem_mem hk
  have:=List.all_eq_true.1 h.1 _ hm
  unfold phA phG phV phM phU
  generalize L.getD k.toNat []=l at *
  unfold phOk1 at this
  split at this
  · exact ⟨rfl,this⟩
  · cases this
def wr13 (f:FuncId):Bool:=Nat.beq f 228||Nat.beq f 199||Nat.beq f 276||Nat.beq f 256||Nat.beq f 29
noncomputable def Γu0:Orc:={ ΓRv3 with sb:=true,bs:=true,wr:=wr13 }
theorem Oku0:Γu0.Ok Tryz.prog:=⟨OkRv3.call,OkRv3.rd,OkRv3.eqv⟩
def wiB (n lo hi:Int):Bool:=bif decide (n≥lo) then decide (n≤hi) else false
def frB (lo hi n:Int):Bool:=bif decide (lo≤n) then decide (n≤hi) else false
noncomputable def Γu1:Orc:=Γu0
theorem Oku1:Γu1.Ok Tryz.prog:=Oku0
theorem runFi (lo:Int) (hi:Int) (n:Int):runG Γu1 L0 Tryz.prog Tryz.f281 [.v (I lo),.v (I hi),.v (I n)] M0 =
    (bif decide (lo≤n) then some (.v (Bo (decide (n≤hi))),M0) else some (.v (Bo false),M0)):=by kernel_rfl
def gFi (vs:List Value):Option (Bool×Value) :=
  match vs with
  | [.int .i64 lo,.int .i64 hi,.int .i64 n]=>some (true,Bo (frB lo hi n))
  | _=>none
theorem gFi_ok:CtV 281 gFi:=by
  intro vs r h
  unfold gFi at h
  split at h
  · rename_i lo hi n
    obtain ⟨h1,rfl⟩:=some_t h
    refine runV (vs:=[I lo,I hi,I n]) (Λ:=L0) (m':=M0) Oku1 Tryz.func281 rfl l00 ?_
    exact (runFi lo hi n).trans (by unfold frB;cases decide (lo≤n)<;>rfl)
  · cases h
noncomputable def Γu2:Orc:=addVal 281 gFi Γu1
theorem Oku2:Γu2.Ok Tryz.prog:=addVal_ok Oku1 gFi_ok
theorem runFj (lo:Int) (hi:Int) (n:Int):runG Γu2 L0 Tryz.prog Tryz.f284 [.v (I lo),.v (I hi),.v (I n)] M0 =
    (bif decide (lo≤n) then some (.v (Bo (decide (n≤hi))),M0) else some (.v (Bo false),M0)):=by kernel_rfl
def gFj (vs:List Value):Option (Bool×Value) :=
  match vs with
  | [.int .i64 lo,.int .i64 hi,.int .i64 n]=>some (true,Bo (frB lo hi n))
  | _=>none
theorem gFj_ok:CtV 284 gFj:=by
  intro vs r h
  unfold gFj at h
  split at h
  · rename_i lo hi n
    obtain ⟨h1,rfl⟩:=some_t h
    refine runV (vs:=[I lo,I hi,I n]) (Λ:=L0) (m':=M0) Oku2 Tryz.func284 rfl l00 ?_
    exact (runFj lo hi n).trans (by unfold frB;cases decide (lo≤n)<;>rfl)
  · cases h
noncomputable def Γu3:Orc:=addVal 284 gFj Γu2
theorem Oku3:Γu3.Ok Tryz.prog:=addVal_ok Oku2 gFj_ok
def rpR (L:List (List Dat)) (g v m u:Int):Bool:=areaR L&&(wiB g 1 100&&(wiB v 1 65536&&(wiB m 1 1000000&&wiB u 0 1073741824)))
noncomputable def Γu4:Orc:=Γu3
theorem Oku4:Γu4.Ok Tryz.prog:=Oku3
def rpB (L:List (List Dat)) (g v m u:Int):Bool:=frB 1 100 g&&(frB 1 65536 v&&(frB 1 1000000 m&&(frB 0 1073741824 u&&areaB L)))
theorem runRpb (g:Int) (v:Int) (m:Int) (u:Int) (L:List (List Dat)) (own:Bool) (mark:Bool):runG Γu4 L0 Tryz.prog Tryz.f305 [.ag [.row 0,.v (I g),.v (I v),.v (I m),.v (I u)]] ⟨[],[],[rP L own mark]⟩ =
    (bif !frB (1:Int) (100:Int) g then some (.v (Bo false),⟨[],[],[.live ⟨151,[.num .i64,.num .i64],L,own,mark⟩]⟩) else (bif !frB (1:Int) (65536:Int) v then some (.v (Bo false),⟨[],[],[.live ⟨151,[.num .i64,.num .i64],L,own,mark⟩]⟩) else (bif frB (1:Int) (1000000:Int) m then (bif frB (0:Int) (1073741824:Int) u then (bif L.length.ble (1000000) then some (.v (Bo (areaB L)),⟨[],[],[.live ⟨151,[.num .i64,.num .i64],L,own,mark⟩]⟩) else none) else some (.v (Bo false),⟨[],[],[.live ⟨151,[.num .i64,.num .i64],L,own,mark⟩]⟩)) else some (.v (Bo false),⟨[],[],[.live ⟨151,[.num .i64,.num .i64],L,own,mark⟩]⟩)))):=by kernel_rfl
def gRpb (xs:List SV) (m:Mem):Option (Bool×Value) :=
  match xs,m with
  | [.ag [.row 0,.v (.int .i64 g),.v (.int .i64 v),.v (.int .i64 m),.v (.int .i64 u)]],⟨[],[],[.live ⟨151,[.num .i64,.num .i64],L,own,mark⟩]⟩=>some (Nat.ble L.length 1000000,Bo (rpB L g v m u))
  | _,_=>none
theorem gRpb_ok:CtR 305 gRpb:=by
  intro xs m r h
  unfold gRpb at h
  split at h
  · rename_i g v m u L own mark
    obtain ⟨h1,rfl⟩:=some_t h
    refine runOk (Λ:=L0) Oku4 Tryz.func305 rfl l00 ?_
    refine (runRpb g v m u L own mark).trans ?_
    unfold rpB
    first|rfl|(cases frB 1 100 g<;>(first|rfl|(cases frB 1 65536 v<;>(first|rfl|(cases frB 1 1000000 m<;>(first|rfl|(cases frB 0 1073741824 u<;>(first|rfl|skip))))))))
    all_goals (rw [h1];cases areaB L<;>rfl)
  · cases h
noncomputable def Γu5:Orc:=addRd 305 gRpb Γu4
theorem Oku5:Γu5.Ok Tryz.prog:=addRd_ok Oku4 gRpb_ok
theorem runRnp (g:Int) (v:Int) (m:Int) (u:Int) (L:List (List Dat)) (own:Bool) (mark:Bool):runG Γu5 L0 Tryz.prog Tryz.f283 [.ag [.row 0,.v (I g),.v (I v),.v (I m),.v (I u)]] ⟨[],[],[rP L own mark]⟩ =
    (bif L.length.ble (1000000) then some (.v (Bo (!rpB L g v m u)),⟨[],[],[.live ⟨151,[.num .i64,.num .i64],L,own,mark⟩]⟩) else none):=by kernel_rfl
def gRnp (xs:List SV) (m:Mem):Option (Bool×Value) :=
  match xs,m with
  | [.ag [.row 0,.v (.int .i64 g),.v (.int .i64 v),.v (.int .i64 m),.v (.int .i64 u)]],⟨[],[],[.live ⟨151,[.num .i64,.num .i64],L,own,mark⟩]⟩=>some (Nat.ble L.length 1000000,Bo (!rpB L g v m u))
  | _,_=>none
theorem gRnp_ok:CtR 283 gRnp:=by
  intro xs m r h
  unfold gRnp at h
  split at h
  · rename_i g v m u L own mark
    obtain ⟨h1,rfl⟩:=some_t h
    refine runOk (Λ:=L0) Oku5 Tryz.func283 rfl l00 ?_
    refine (runRnp g v m u L own mark).trans ?_
    rw [h1]
    rfl
  · cases h
noncomputable def Γu6:Orc:=addRd 283 gRnp Γu5
theorem Oku6:Γu6.Ok Tryz.prog:=addRd_ok Oku5 gRnp_ok
def xWr (e:Ex):List Bool:=match e with
  | .exit _=>maskOf 73 [1]
  | .ret=>maskOf 73 [2]
  | .normal=>maskOf 73 [1,3]
def bphR (L:List (List Dat)) (k:Int):Bool:=!rpR (phA L k) (phG L k) (phV L k) (phM L k) (phU L k)
def lfWr (r1 r2 r3 r4 r5 r6 r7 r8:Int) (L:List (List Dat)) (own mark:Bool):LT:=.br (anyN (bphR L) L.length 0) (.leaf .ret (mk (xWr .ret) [.v (I 2)] ⟨[],[],[rH L own mark]⟩)) (.leaf (.exit 0) (mk (xWr (.exit 0)) [.ptr 0 0] ⟨[[.row 0,.v (I r1),.v (I r2),.v (I r3),.v (I r4),.v (I r5),.v (I r6),.v (I r7),.v (I r8)]],[true],[rH L own mark]⟩))
def GWr (vals:List SV) (m:Mem):Option (Bool×LT) :=
  match vals,m with
  | [.ptr 0 0,.v (.int .i64 k)],⟨[[.row 0,.v (.int .i64 r1),.v (.int .i64 r2),.v (.int .i64 r3),.v (.int .i64 r4),.v (.int .i64 r5),.v (.int .i64 r6),.v (.int .i64 r7),.v (.int .i64 r8)]],[true],[.live ⟨154,[.sl 151 [.num .i64,.num .i64],.num .i64,.num .i64,.num .i64,.num .i64],L,own,mark⟩]⟩=>some (k==0&&phOk L,lfWr r1 r2 r3 r4 r5 r6 r7 r8 L own mark)
  | _,_=>none
noncomputable def Γu7:Orc:=Γu6
theorem Oku7:Γu7.Ok Tryz.prog:=Oku6
noncomputable def bdIf:Code:=loopAt (Tryz.f304.body.getD .skip) 0
def kIf:List Bool:=maskOf 19 [0,1,7,8]
def xIf (e:Ex):List Bool:=match e with
  | .exit _=>maskOf 19 []
  | .ret=>maskOf 19 [4]
  | .normal=>maskOf 19 [0,1,7,8]
def KIf (e:Ex) (st:St):Option (Ex×St):=some (e,cutC 0 1 (xIf e) st)
theorem stepIf (nn:Int) (k:Int) (L:List (List Dat)) (own:Bool) (mark:Bool) (n:Nat):evLoop Γu7 Tryz.prog L0 (cutC 0 1 kIf) bdIf (n+1) (mk kIf [.row 0,.v (.func (.func 283) #[] #[]),.v (I nn),.v (I k)] ⟨[],[],[rH L own mark]⟩) KIf =
    (bif decide (k<nn) then (bif decide ((0:Int)≤k)&&decide (k<(L.length:Int)) then (bif (phA L k).length.ble (1000000) then (bif !rpB (phA L k) (phG L k) (phV L k) (phM L k) (phU L k) then some (.ret,mk (xIf .ret) [.v (I k)] ⟨[],[],[.live ⟨154,kPh,L,own,mark⟩]⟩) else evLoop Γu7 Tryz.prog L0 (cutC 0 1 kIf) bdIf n (mk kIf [.row 0,.v (Value.func (Fn.func 283) #[] #[]),.v (I nn),.v (I (wI (k+(1:Int))))] ⟨[],[],[.live ⟨154,kPh,L,own,mark⟩]⟩) KIf) else none) else none) else some ((.exit 0),mk (xIf (.exit 0)) [] ⟨[],[],[.live ⟨154,kPh,L,own,mark⟩]⟩)):=by kernel_rfl
noncomputable def EIf (n:Nat) (nn:Int) (k:Int) (L:List (List Dat)) (own:Bool) (mark:Bool):Option (Ex×St) :=
  evLoop Γu7 Tryz.prog L0 (cutC 0 1 kIf) bdIf n (mk kIf [.row 0,.v (.func (.func 283) #[] #[]),.v (I nn),.v (I k)] ⟨[],[],[rH L own mark]⟩) KIf
def firstN (p:Int→Bool):Nat→Int→Int
  | 0,k=>k
  | m+1,k=>bif p k then k else firstN p m (k+1)
theorem firstN_ge (p:Int→Bool):∀ (m:Nat) (k:Int),k≤firstN p m k∧firstN p m k≤k+m
  | 0,k=>⟨Int.le_refl _,by simp [firstN]⟩
  | m+1,k=>by
    have h:=firstN_ge p m (k+1)
    unfold firstN
    cases p k
    · show k≤firstN p m (k+1)∧firstN p m (k+1)≤k+((m+1:Nat):Int)
      omega
    · show k≤k∧k≤k+((m+1:Nat):Int)
      omega
theorem findFirst {α:Type} (p:Int→Bool) (N:Int) (E:Nat→Int→Option α) (X:Option α) (Y:Int→Option α) (he:∀ n k,¬ k<N→E (n+1) k=X) (hr:∀ n k,0≤k∧k<N→E (n+1) k=bif p k then Y k else E n (k+1)) :
    ∀ (m:Nat) (k:Int),0≤k→k+m=N→E (m+1) k=bif anyN p m k then Y (firstN p m k) else X:=by
  intro m
  induction m with
  | zero =>
    intro k h0 h1
    exact he 0 k (by omega)
  | succ m ih =>
    intro k h0 h1
    rw [hr (m+1) k (by omega)]
    show _=bif p k||anyN p m (k+1) then Y (bif p k then k else firstN p m (k+1)) else X
    cases hp:p k
    · exact ih (k+1) (by omega) (by omega)
    · rfl
def bphB (L:List (List Dat)) (k:Int):Bool:=!rpB (phA L k) (phG L k) (phV L k) (phM L k) (phU L k)
def lfIf (L:List (List Dat)) (own mark:Bool):LT:=.br (anyN (bphB L) L.length 0) (.leaf .ret (mk (xIf .ret) [.v (I (firstN (bphB L) L.length 0))] ⟨[],[],[rH L own mark]⟩)) (.leaf (.exit 0) (mk (xIf (.exit 0)) [] ⟨[],[],[rH L own mark]⟩))
theorem loopIf (L:List (List Dat)) (own mark:Bool) (hl:phOk L=true):EIf (L.length+1) (L.length:Int) 0 L own mark=some (lfIf L own mark).pick:=by
  have hll:=phOk_len hl
  have h:=findFirst (bphB L) (L.length:Int) (fun n k=>EIf n (L.length:Int) k L own mark) (some (.exit 0,mk (xIf (.exit 0)) [] ⟨[],[],[rH L own mark]⟩)) (fun k=>some (.ret,mk (xIf .ret) [.v (I k)] ⟨[],[],[rH L own mark]⟩)) (fun n k hk=>?_) (fun n k hk=>?_) L.length 0 (by omega) (by omega)
  · refine h.trans ?_
    unfold lfIf
    cases anyN (bphB L) L.length 0<;>rfl
  · refine (stepIf (L.length:Int) k L own mark n).trans ?_
    rw [decide_eq_false hk]
    rfl
  · refine (stepIf (L.length:Int) k L own mark n).trans ?_
    rw [decide_eq_true hk.2,decide_eq_true hk.1,(phOk_get hl hk.1 hk.2).2,wI_id (n:=k+1) (by omega)]
    show (bif bphB L k then _ else _)=_
    cases bphB L k<;>rfl
def GIf (vals:List SV) (m:Mem):Option (Bool×LT) :=
  match vals,m with
  | [.row 0,.v (.func (.func 283) ⟨[]⟩ ⟨[]⟩),.v (.int .i64 nn),.v (.int .i64 k)],⟨[],[],[.live ⟨154,[.sl 151 [.num .i64,.num .i64],.num .i64,.num .i64,.num .i64,.num .i64],L,own,mark⟩]⟩=>some (nn==(L.length:Int)&&(k==0&&phOk L),lfIf L own mark)
  | _,_=>none
noncomputable def ΛIf:LoopOrc:=fun _ st=>viaT 0 1 kIf GIf st
theorem loopOkIf (z:Base) (z1:z.L.length=0) (z2:z.U.length=1):LoopOk ΛIf Tryz.prog z bdIf:=by
  refine loop_okT (Λ:=L0) (kx:=xIf) Oku7 mixed z1 z2 (fun b hb st t h=>by cases h) (G:=GIf) (fun _=>rfl) ?_
  intro vals m t h
  unfold GIf at h
  split at h
  · rename_i nn k L own mark
    obtain ⟨h1,rfl⟩:=some_t h
    simp only [Bool.and_eq_true,beq_iff_eq] at h1
    obtain ⟨rfl,rfl,hl⟩:=h1
    exact ⟨_,loopIf L own mark hl⟩
  · cases h
theorem loopsIf:loopsOf (Tryz.f304.body.getD .skip)=[bdIf]:=by kernel_rfl
def ixB (L:List (List Dat)):Int:=bif anyN (bphB L) L.length 0 then firstN (bphB L) L.length 0 else -1
theorem runRif (L:List (List Dat)) (own:Bool) (mark:Bool):runG Γu7 ΛIf Tryz.prog Tryz.f304 [.row 0,.v (.func (.func 283) #[] #[])] ⟨[],[],[rH L own mark]⟩ =
    (bif (L.length:Int)==(L.length:Int)&&(true&&phOk L) then (bif anyN (bphB L) L.length (0:Int) then some (.v (I (firstN (bphB L) L.length (0:Int))),⟨[],[],[.live ⟨154,kPh,L,own,mark⟩]⟩) else some (.v (I (-1)),⟨[],[],[.live ⟨154,kPh,L,own,mark⟩]⟩)) else none):=by kernel_rfl
def gRif (xs:List SV) (m:Mem):Option (Bool×Value) :=
  match xs,m with
  | [.row 0,.v (.func (.func 283) ⟨[]⟩ ⟨[]⟩)],⟨[],[],[.live ⟨154,[.sl 151 [.num .i64,.num .i64],.num .i64,.num .i64,.num .i64,.num .i64],L,own,mark⟩]⟩=>some (phOk L,I (ixB L))
  | _,_=>none
theorem gRif_ok:CtR 304 gRif:=by
  intro xs m r h
  unfold gRif at h
  split at h
  · rename_i L own mark
    obtain ⟨h1,rfl⟩:=some_t h
    refine runOk (Λ:=ΛIf) Oku7 Tryz.func304 rfl (fun z z1 z2=>oneLoop loopsIf (loopOkIf z z1 z2)) ?_
    refine (runRif L own mark).trans ?_
    rw [h1,beq_self_eq_true]
    unfold ixB
    cases anyN (bphB L) L.length 0<;>rfl
  · cases h
noncomputable def Γu8:Orc:=addRd 304 gRif Γu7
theorem Oku8:Γu8.Ok Tryz.prog:=addRd_ok Oku7 gRif_ok
theorem runRcf (L:List (List Dat)) (own:Bool) (mark:Bool):runG Γu8 L0 Tryz.prog Tryz.f282 [.row 0,.v (.func (.func 283) #[] #[])] ⟨[],[],[rH L own mark]⟩ =
    (bif phOk L then some (.v (Bo (decide (ixB L≥(0:Int)))),⟨[],[],[.live ⟨154,kPh,L,own,mark⟩]⟩) else none):=by kernel_rfl
def gRcf (xs:List SV) (m:Mem):Option (Bool×Value) :=
  match xs,m with
  | [.row 0,.v (.func (.func 283) ⟨[]⟩ ⟨[]⟩)],⟨[],[],[.live ⟨154,[.sl 151 [.num .i64,.num .i64],.num .i64,.num .i64,.num .i64,.num .i64],L,own,mark⟩]⟩=>some (phOk L,Bo (anyN (bphB L) L.length 0))
  | _,_=>none
theorem gRcf_ok:CtR 282 gRcf:=by
  intro xs m r h
  unfold gRcf at h
  split at h
  · rename_i L own mark
    obtain ⟨h1,rfl⟩:=some_t h
    refine runOk (Λ:=L0) Oku8 Tryz.func282 rfl l00 ?_
    refine (runRcf L own mark).trans ?_
    rw [h1]
    unfold ixB
    have:=(firstN_ge (bphB L) L.length 0).1
    cases anyN (bphB L) L.length 0
    · rfl
    · show some (SV.v (Bo (decide (firstN (bphB L) L.length 0≥0))),_)=_
      rw [decide_eq_true (show firstN (bphB L) L.length 0≥0 from this)]
  · cases h
noncomputable def Γu9:Orc:=addRd 282 gRcf Γu8
theorem Oku9:Γu9.Ok Tryz.prog:=addRd_ok Oku8 gRcf_ok
def wrB (L:List (List Dat)) (r1 r2 r3 r4 r5 r6 r7 r8:Int):Int:=bif !frB 1 4 (L.length:Int) then 1 else bif anyN (bphB L) L.length 0 then 2 else bif !(frB 1 50 r1&&(frB 1 50 r2&&frB 1 50 r3)) then 3 else bif !frB 0 1024 r4 then 4 else bif !frB 1 65536 r5 then 5 else bif !frB 1 50 r6 then 6 else bif !frB 1 1073741824 r7 then 7 else bif !frB 0 (L.length:Int) r8 then 8 else 0
theorem runRwb (r1:Int) (r2:Int) (r3:Int) (r4:Int) (r5:Int) (r6:Int) (r7:Int) (r8:Int) (L:List (List Dat)) (own:Bool) (mark:Bool):runG Γu9 L0 Tryz.prog Tryz.f243 [.ag [.row 0,.v (I r1),.v (I r2),.v (I r3),.v (I r4),.v (I r5),.v (I r6),.v (I r7),.v (I r8)]] ⟨[],[],[rH L own mark]⟩ =
    (bif !frB (1:Int) (4:Int) (L.length:Int) then some (.v (I 1),⟨[],[],[.live ⟨154,kPh,L,own,mark⟩]⟩) else (bif phOk L then (bif anyN (bphB L) L.length (0:Int) then some (.v (I 2),⟨[],[],[.live ⟨154,kPh,L,own,mark⟩]⟩) else (bif !frB (1:Int) (50:Int) r1 then some (.v (I 3),⟨[],[],[.live ⟨154,kPh,L,own,mark⟩]⟩) else (bif !frB (1:Int) (50:Int) r2 then some (.v (I 3),⟨[],[],[.live ⟨154,kPh,L,own,mark⟩]⟩) else (bif !frB (1:Int) (50:Int) r3 then some (.v (I 3),⟨[],[],[.live ⟨154,kPh,L,own,mark⟩]⟩) else (bif !frB (0:Int) (1024:Int) r4 then some (.v (I 4),⟨[],[],[.live ⟨154,kPh,L,own,mark⟩]⟩) else (bif !frB (1:Int) (65536:Int) r5 then some (.v (I 5),⟨[],[],[.live ⟨154,kPh,L,own,mark⟩]⟩) else (bif !frB (1:Int) (50:Int) r6 then some (.v (I 6),⟨[],[],[.live ⟨154,kPh,L,own,mark⟩]⟩) else (bif !frB (1:Int) (1073741824:Int) r7 then some (.v (I 7),⟨[],[],[.live ⟨154,kPh,L,own,mark⟩]⟩) else (bif !frB (0:Int) ((L.length:Int)) r8 then some (.v (I 8),⟨[],[],[.live ⟨154,kPh,L,own,mark⟩]⟩) else some (.v (I 0),⟨[],[],[.live ⟨154,kPh,L,own,mark⟩]⟩)))))))))) else none)):=by kernel_rfl
def gRwb (xs:List SV) (m:Mem):Option (Bool×Value) :=
  match xs,m with
  | [.ag [.row 0,.v (.int .i64 r1),.v (.int .i64 r2),.v (.int .i64 r3),.v (.int .i64 r4),.v (.int .i64 r5),.v (.int .i64 r6),.v (.int .i64 r7),.v (.int .i64 r8)]],⟨[],[],[.live ⟨154,[.sl 151 [.num .i64,.num .i64],.num .i64,.num .i64,.num .i64,.num .i64],L,own,mark⟩]⟩=>some (phOk L,I (wrB L r1 r2 r3 r4 r5 r6 r7 r8))
  | _,_=>none
theorem gRwb_ok:CtR 243 gRwb:=by
  intro xs m r h
  unfold gRwb at h
  split at h
  · rename_i r1 r2 r3 r4 r5 r6 r7 r8 L own mark
    obtain ⟨h1,rfl⟩:=some_t h
    refine runOk (Λ:=L0) Oku9 Tryz.func243 rfl l00 ?_
    refine (runRwb r1 r2 r3 r4 r5 r6 r7 r8 L own mark).trans ?_
    rw [h1]
    unfold wrB
    (cases frB 1 4 (L.length:Int)<;>first|rfl|(cases anyN (bphB L) L.length 0<;>first|rfl|(cases frB 1 50 r1<;>first|rfl|(cases frB 1 50 r2<;>first|rfl|(cases frB 1 50 r3<;>first|rfl|(cases frB 0 1024 r4<;>first|rfl|(cases frB 1 65536 r5<;>first|rfl|(cases frB 1 50 r6<;>first|rfl|(cases frB 1 1073741824 r7<;>first|rfl|(cases frB 0 (L.length:Int) r8<;>first|rfl|rfl))))))))))
  · cases h
noncomputable def Γu10:Orc:=addRd 243 gRwb Γu9
theorem Oku10:Γu10.Ok Tryz.prog:=addRd_ok Oku9 gRwb_ok
theorem runRrt (r1:Int) (r2:Int) (r3:Int) (r4:Int) (r5:Int) (r6:Int) (r7:Int) (r8:Int) (L:List (List Dat)) (own:Bool) (mark:Bool):runG Γu10 L0 Tryz.prog Tryz.f191 [.ag [.row 0,.v (I r1),.v (I r2),.v (I r3),.v (I r4),.v (I r5),.v (I r6),.v (I r7),.v (I r8)]] ⟨[],[],[rH L own mark]⟩ =
    (bif phOk L then some (.v (Bo (wrB L r1 r2 r3 r4 r5 r6 r7 r8==(0:Int))),⟨[],[],[.live ⟨154,kPh,L,own,mark⟩]⟩) else none):=by kernel_rfl
def gRrt (xs:List SV) (m:Mem):Option (Bool×Value) :=
  match xs,m with
  | [.ag [.row 0,.v (.int .i64 r1),.v (.int .i64 r2),.v (.int .i64 r3),.v (.int .i64 r4),.v (.int .i64 r5),.v (.int .i64 r6),.v (.int .i64 r7),.v (.int .i64 r8)]],⟨[],[],[.live ⟨154,[.sl 151 [.num .i64,.num .i64],.num .i64,.num .i64,.num .i64,.num .i64],L,own,mark⟩]⟩=>some (phOk L,Bo (wrB L r1 r2 r3 r4 r5 r6 r7 r8==0))
  | _,_=>none
theorem gRrt_ok:CtR 191 gRrt:=by
  intro xs m r h
  unfold gRrt at h
  split at h
  · rename_i r1 r2 r3 r4 r5 r6 r7 r8 L own mark
    obtain ⟨h1,rfl⟩:=some_t h
    refine runOk (Λ:=L0) Oku10 Tryz.func191 rfl l00 ?_
    refine (runRrt r1 r2 r3 r4 r5 r6 r7 r8 L own mark).trans ?_
    rw [h1]
    rfl
  · cases h
noncomputable def Γu11:Orc:=addRd 191 gRrt Γu10
theorem Oku11:Γu11.Ok Tryz.prog:=addRd_ok Oku10 gRrt_ok
noncomputable def Γu12:Orc:=Γu11
theorem Oku12:Γu12.Ok Tryz.prog:=Oku11
noncomputable def Γu13:Orc:=Γu12
theorem Oku13:Γu13.Ok Tryz.prog:=Oku12
theorem runCph (g:Int) (v:Int) (m:Int) (u:Int) (L:List (List Dat)) (own:Bool) (mark:Bool):runG Γu13 L0 Tryz.prog Tryz.f228 [.ag [.row 0,.v (I g),.v (I v),.v (I m),.v (I u)]] ⟨[],[],[rP L own mark]⟩ =
    (bif Nat.blt (0:Nat) L.length&&L.length.ble (1000000) then some (.ag [.row 1,.v (I g),.v (I v),.v (I m),.v (I u)],⟨[],[],[.live ⟨151,[.num .i64,.num .i64],L,own,mark⟩,.live ⟨151,[.num .i64,.num .i64],L,true,false⟩]⟩) else none):=by kernel_rfl
def gCph (xs:List SV) (m:Mem):Option (Bool×SV×Mem) :=
  match xs,m with
  | [.ag [.row 0,.v (.int .i64 g),.v (.int .i64 v),.v (.int .i64 m),.v (.int .i64 u)]],⟨[],[],[.live ⟨151,[.num .i64,.num .i64],L,own,mark⟩]⟩=>some (Nat.blt 0 L.length&&Nat.ble L.length 1000000,.ag [.row 1,.v (I g),.v (I v),.v (I m),.v (I u)],⟨[],[],[rP L own mark,rP L true false]⟩)
  | _,_=>none
theorem gCph_ok:CtC 228 gCph:=by
  intro xs m r m' h
  unfold gCph at h
  split at h
  · rename_i g v m u L own mark
    obtain ⟨h1,rfl,rfl⟩:=some_t2 h
    refine runOk (Λ:=L0) Oku13 Tryz.func228 rfl l00 ?_
    refine (runCph g v m u L own mark).trans ?_
    rw [h1]
    rfl
  · cases h
noncomputable def Γu14:Orc:=addCl 228 gCph Γu13
theorem Oku14:Γu14.Ok Tryz.prog:=addCl_ok Oku13 gCph_ok
theorem runCls (L:List (List Dat)) (own:Bool) (mark:Bool):runG Γu14 L0 Tryz.prog Tryz.f256 [.row 0] ⟨[],[],[rH L own mark]⟩ =
    (bif Nat.blt (0:Nat) L.length then (bif decide (((0:Nat)+L.length)*(56:Nat)≤(140737488355328:Nat)∧(0:Nat)+L.length≤(9223372036854775807:Nat)) then some (.row 1,⟨[],[],[.live ⟨154,kPh,L,own,mark⟩,.live ⟨154,[CK.sl 151 [CK0.num IntKind.i64,CK0.num IntKind.i64],.num .i64,.num .i64,.num .i64,.num .i64],L,true,false⟩]⟩) else none) else none):=by kernel_rfl
def gCls (xs:List SV) (m:Mem):Option (Bool×SV×Mem) :=
  match xs,m with
  | [.row 0],⟨[],[],[.live ⟨154,[.sl 151 [.num .i64,.num .i64],.num .i64,.num .i64,.num .i64,.num .i64],L,own,mark⟩]⟩=>some (Nat.blt 0 L.length&&Nat.ble L.length 1000000,.row 1,⟨[],[],[rH L own mark,rH L true false]⟩)
  | _,_=>none
theorem gCls_ok:CtC 256 gCls:=by
  intro xs m r m' h
  unfold gCls at h
  split at h
  · rename_i L own mark
    obtain ⟨h1,rfl,rfl⟩:=some_t2 h
    refine runOk (Λ:=L0) Oku14 Tryz.func256 rfl l00 ?_
    refine (runCls L own mark).trans ?_
    rw [Bool.and_eq_true] at h1
    have h2:=Nat.le_of_ble_eq_true h1.2
    rw [h1.1,decide_eq_true (show (0+L.length)*56≤140737488355328∧0+L.length≤9223372036854775807 by omega)]
    rfl
  · cases h
noncomputable def Γu15:Orc:=addCl 256 gCls Γu14
theorem Oku15:Γu15.Ok Tryz.prog:=addCl_ok Oku14 gCls_ok
noncomputable def bdCo:Code:=loopAt (Tryz.f199.body.getD .skip) 0
def kCo:List Bool:=maskOf 25 [1,2,10,11,12]
def xCo (e:Ex):List Bool:=match e with
  | .exit _=>maskOf 25 [1,2]
  | .ret=>maskOf 25 [2]
  | .normal=>maskOf 25 [1,2,10,11,12]
def KCo (e:Ex) (st:St):Option (Ex×St):=some (e,cutC 0 1 (xCo e) st)
theorem stepCo (r1:Int) (r2:Int) (r3:Int) (r4:Int) (r5:Int) (r6:Int) (r7:Int) (r8:Int) (nn:Int) (k:Int) (L:List (List Dat)) (own:Bool) (mark:Bool) (M:List (List Dat)) (n:Nat):evLoop Γu15 Tryz.prog L0 (cutC 0 1 kCo) bdCo (n+1) (mk kCo [.ptr 0 0,.ptr 1 0,.row 1,.v (I nn),.v (I k)] ⟨[[.row 1,.v (I r1),.v (I r2),.v (I r3),.v (I r4),.v (I r5),.v (I r6),.v (I r7),.v (I r8)],[.v (.slice none 0 0),.v (I 0),.v (I 0),.v (I 0),.v (I 0),.v (I 0),.v (I 0),.v (I 0),.v (I 0)]],[true,true],[rH L own mark,rH M true false]⟩) KCo =
    (bif decide (k<nn) then (bif decide ((0:Int)≤k)&&decide (k<(M.length:Int)) then (same ((same ((same ((bif Nat.blt (0:Nat) (phA M k).length&&(phA M k).length.ble (1000000) then (bif decide ((0:Int)≤k)&&decide (k<(M.length:Int)) then evLoop Γu15 Tryz.prog L0 (cutC 0 1 kCo) bdCo n (mk kCo [.ptr 0 0,.ptr 1 0,.row 1,.v (I nn),.v (I (wI (k+(1:Int))))] ⟨[[.row 1,.v (I r1),.v (I r2),.v (I r3),.v (I r4),.v (I r5),.v (I r6),.v (I r7),.v (I r8)],[.v (Value.slice none (0:Nat) (0:Nat)),.v (I 0),.v (I 0),.v (I 0),.v (I 0),.v (I 0),.v (I 0),.v (I 0),.v (I 0)]],[true,true],[.live ⟨154,kPh,L,own,mark⟩,.live ⟨154,kPh,M.set k.toNat (setD (M.getD k.toNat []) (0:Nat) [Dat.l (Value.slice none (0:Nat) (0:Nat)) (phA M k),Dat.n (phG M k),Dat.n (phV M k),Dat.n (phM M k),Dat.n (phU M k)]),true,false⟩]⟩) KCo else none) else none)) ((bif Nat.blt (0:Nat) (phA M k).length&&(phA M k).length.ble (1000000) then (bif decide ((0:Int)≤k)&&decide (k<(M.length:Int)) then evLoop Γu15 Tryz.prog L0 (cutC 0 1 kCo) bdCo n (mk kCo [.ptr 0 0,.ptr 1 0,.row 1,.v (I nn),.v (I (wI (k+(1:Int))))] ⟨[[.row 1,.v (I r1),.v (I r2),.v (I r3),.v (I r4),.v (I r5),.v (I r6),.v (I r7),.v (I r8)],[.v (Value.slice none (0:Nat) (0:Nat)),.v (I 0),.v (I 0),.v (I 0),.v (I 0),.v (I 0),.v (I 0),.v (I 0),.v (I 0)]],[true,true],[.live ⟨154,kPh,L,own,mark⟩,.live ⟨154,kPh,M.set k.toNat (setD (M.getD k.toNat []) (0:Nat) [Dat.l (Value.slice none (0:Nat) (0:Nat)) (phA M k),Dat.n (phG M k),Dat.n (phV M k),Dat.n (phM M k),Dat.n (phU M k)]),true,false⟩]⟩) KCo else none) else none)))) ((same ((same ((bif Nat.blt (0:Nat) (phA M k).length&&(phA M k).length.ble (1000000) then (bif decide ((0:Int)≤k)&&decide (k<(M.length:Int)) then evLoop Γu15 Tryz.prog L0 (cutC 0 1 kCo) bdCo n (mk kCo [.ptr 0 0,.ptr 1 0,.row 1,.v (I nn),.v (I (wI (k+(1:Int))))] ⟨[[.row 1,.v (I r1),.v (I r2),.v (I r3),.v (I r4),.v (I r5),.v (I r6),.v (I r7),.v (I r8)],[.v (Value.slice none (0:Nat) (0:Nat)),.v (I 0),.v (I 0),.v (I 0),.v (I 0),.v (I 0),.v (I 0),.v (I 0),.v (I 0)]],[true,true],[.live ⟨154,kPh,L,own,mark⟩,.live ⟨154,kPh,M.set k.toNat (setD (M.getD k.toNat []) (0:Nat) [Dat.l (Value.slice none (0:Nat) (0:Nat)) (phA M k),Dat.n (phG M k),Dat.n (phV M k),Dat.n (phM M k),Dat.n (phU M k)]),true,false⟩]⟩) KCo else none) else none)) ((bif Nat.blt (0:Nat) (phA M k).length&&(phA M k).length.ble (1000000) then (bif decide ((0:Int)≤k)&&decide (k<(M.length:Int)) then evLoop Γu15 Tryz.prog L0 (cutC 0 1 kCo) bdCo n (mk kCo [.ptr 0 0,.ptr 1 0,.row 1,.v (I nn),.v (I (wI (k+(1:Int))))] ⟨[[.row 1,.v (I r1),.v (I r2),.v (I r3),.v (I r4),.v (I r5),.v (I r6),.v (I r7),.v (I r8)],[.v (Value.slice none (0:Nat) (0:Nat)),.v (I 0),.v (I 0),.v (I 0),.v (I 0),.v (I 0),.v (I 0),.v (I 0),.v (I 0)]],[true,true],[.live ⟨154,kPh,L,own,mark⟩,.live ⟨154,kPh,M.set k.toNat (setD (M.getD k.toNat []) (0:Nat) [Dat.l (Value.slice none (0:Nat) (0:Nat)) (phA M k),Dat.n (phG M k),Dat.n (phV M k),Dat.n (phM M k),Dat.n (phU M k)]),true,false⟩]⟩) KCo else none) else none)))) ((bif Nat.blt (0:Nat) (phA M k).length&&(phA M k).length.ble (1000000) then (bif decide ((0:Int)≤k)&&decide (k<(M.length:Int)) then evLoop Γu15 Tryz.prog L0 (cutC 0 1 kCo) bdCo n (mk kCo [.ptr 0 0,.ptr 1 0,.row 1,.v (I nn),.v (I (wI (k+(1:Int))))] ⟨[[.row 1,.v (I r1),.v (I r2),.v (I r3),.v (I r4),.v (I r5),.v (I r6),.v (I r7),.v (I r8)],[.v (Value.slice none (0:Nat) (0:Nat)),.v (I 0),.v (I 0),.v (I 0),.v (I 0),.v (I 0),.v (I 0),.v (I 0),.v (I 0)]],[true,true],[.live ⟨154,kPh,L,own,mark⟩,.live ⟨154,kPh,M.set k.toNat (setD (M.getD k.toNat []) (0:Nat) [Dat.l (Value.slice none (0:Nat) (0:Nat)) (phA M k),Dat.n (phG M k),Dat.n (phV M k),Dat.n (phM M k),Dat.n (phU M k)]),true,false⟩]⟩) KCo else none) else none)))))) ((same ((same ((same ((bif Nat.blt (0:Nat) (phA M k).length&&(phA M k).length.ble (1000000) then (bif decide ((0:Int)≤k)&&decide (k<(M.length:Int)) then evLoop Γu15 Tryz.prog L0 (cutC 0 1 kCo) bdCo n (mk kCo [.ptr 0 0,.ptr 1 0,.row 1,.v (I nn),.v (I (wI (k+(1:Int))))] ⟨[[.row 1,.v (I r1),.v (I r2),.v (I r3),.v (I r4),.v (I r5),.v (I r6),.v (I r7),.v (I r8)],[.v (Value.slice none (0:Nat) (0:Nat)),.v (I 0),.v (I 0),.v (I 0),.v (I 0),.v (I 0),.v (I 0),.v (I 0),.v (I 0)]],[true,true],[.live ⟨154,kPh,L,own,mark⟩,.live ⟨154,kPh,M.set k.toNat (setD (M.getD k.toNat []) (0:Nat) [Dat.l (Value.slice none (0:Nat) (0:Nat)) (phA M k),Dat.n (phG M k),Dat.n (phV M k),Dat.n (phM M k),Dat.n (phU M k)]),true,false⟩]⟩) KCo else none) else none)) ((bif Nat.blt (0:Nat) (phA M k).length&&(phA M k).length.ble (1000000) then (bif decide ((0:Int)≤k)&&decide (k<(M.length:Int)) then evLoop Γu15 Tryz.prog L0 (cutC 0 1 kCo) bdCo n (mk kCo [.ptr 0 0,.ptr 1 0,.row 1,.v (I nn),.v (I (wI (k+(1:Int))))] ⟨[[.row 1,.v (I r1),.v (I r2),.v (I r3),.v (I r4),.v (I r5),.v (I r6),.v (I r7),.v (I r8)],[.v (Value.slice none (0:Nat) (0:Nat)),.v (I 0),.v (I 0),.v (I 0),.v (I 0),.v (I 0),.v (I 0),.v (I 0),.v (I 0)]],[true,true],[.live ⟨154,kPh,L,own,mark⟩,.live ⟨154,kPh,M.set k.toNat (setD (M.getD k.toNat []) (0:Nat) [Dat.l (Value.slice none (0:Nat) (0:Nat)) (phA M k),Dat.n (phG M k),Dat.n (phV M k),Dat.n (phM M k),Dat.n (phU M k)]),true,false⟩]⟩) KCo else none) else none)))) ((bif Nat.blt (0:Nat) (phA M k).length&&(phA M k).length.ble (1000000) then (bif decide ((0:Int)≤k)&&decide (k<(M.length:Int)) then evLoop Γu15 Tryz.prog L0 (cutC 0 1 kCo) bdCo n (mk kCo [.ptr 0 0,.ptr 1 0,.row 1,.v (I nn),.v (I (wI (k+(1:Int))))] ⟨[[.row 1,.v (I r1),.v (I r2),.v (I r3),.v (I r4),.v (I r5),.v (I r6),.v (I r7),.v (I r8)],[.v (Value.slice none (0:Nat) (0:Nat)),.v (I 0),.v (I 0),.v (I 0),.v (I 0),.v (I 0),.v (I 0),.v (I 0),.v (I 0)]],[true,true],[.live ⟨154,kPh,L,own,mark⟩,.live ⟨154,kPh,M.set k.toNat (setD (M.getD k.toNat []) (0:Nat) [Dat.l (Value.slice none (0:Nat) (0:Nat)) (phA M k),Dat.n (phG M k),Dat.n (phV M k),Dat.n (phM M k),Dat.n (phU M k)]),true,false⟩]⟩) KCo else none) else none)))) ((bif Nat.blt (0:Nat) (phA M k).length&&(phA M k).length.ble (1000000) then (bif decide ((0:Int)≤k)&&decide (k<(M.length:Int)) then evLoop Γu15 Tryz.prog L0 (cutC 0 1 kCo) bdCo n (mk kCo [.ptr 0 0,.ptr 1 0,.row 1,.v (I nn),.v (I (wI (k+(1:Int))))] ⟨[[.row 1,.v (I r1),.v (I r2),.v (I r3),.v (I r4),.v (I r5),.v (I r6),.v (I r7),.v (I r8)],[.v (Value.slice none (0:Nat) (0:Nat)),.v (I 0),.v (I 0),.v (I 0),.v (I 0),.v (I 0),.v (I 0),.v (I 0),.v (I 0)]],[true,true],[.live ⟨154,kPh,L,own,mark⟩,.live ⟨154,kPh,M.set k.toNat (setD (M.getD k.toNat []) (0:Nat) [Dat.l (Value.slice none (0:Nat) (0:Nat)) (phA M k),Dat.n (phG M k),Dat.n (phV M k),Dat.n (phM M k),Dat.n (phU M k)]),true,false⟩]⟩) KCo else none) else none))))) else none) else some ((.exit 0),mk (xCo (.exit 0)) [.ptr 0 0,.ptr 1 0] ⟨[[.row 1,.v (I r1),.v (I r2),.v (I r3),.v (I r4),.v (I r5),.v (I r6),.v (I r7),.v (I r8)],[.v (Value.slice none (0:Nat) (0:Nat)),.v (I 0),.v (I 0),.v (I 0),.v (I 0),.v (I 0),.v (I 0),.v (I 0),.v (I 0)]],[true,true],[.live ⟨154,kPh,L,own,mark⟩,.live ⟨154,kPh,M,true,false⟩]⟩)):=by kernel_rfl
theorem stepCoS (r1:Int) (r2:Int) (r3:Int) (r4:Int) (r5:Int) (r6:Int) (r7:Int) (r8:Int) (nn:Int) (k:Int) (L:List (List Dat)) (own:Bool) (mark:Bool) (M:List (List Dat)) (n:Nat):evLoop Γu15 Tryz.prog L0 (cutC 0 1 kCo) bdCo (n+1) (mk kCo [.ptr 0 0,.ptr 1 0,.row 1,.v (I nn),.v (I k)] ⟨[[.row 1,.v (I r1),.v (I r2),.v (I r3),.v (I r4),.v (I r5),.v (I r6),.v (I r7),.v (I r8)],[.v (.slice none 0 0),.v (I 0),.v (I 0),.v (I 0),.v (I 0),.v (I 0),.v (I 0),.v (I 0),.v (I 0)]],[true,true],[rH L own mark,rH M true false]⟩) KCo =
    (bif decide (k<nn) then (bif decide ((0:Int)≤k)&&decide (k<(M.length:Int)) then (bif Nat.blt (0:Nat) (phA M k).length&&(phA M k).length.ble (1000000) then (bif decide ((0:Int)≤k)&&decide (k<(M.length:Int)) then evLoop Γu15 Tryz.prog L0 (cutC 0 1 kCo) bdCo n (mk kCo [.ptr 0 0,.ptr 1 0,.row 1,.v (I nn),.v (I (wI (k+(1:Int))))] ⟨[[.row 1,.v (I r1),.v (I r2),.v (I r3),.v (I r4),.v (I r5),.v (I r6),.v (I r7),.v (I r8)],[.v (Value.slice none (0:Nat) (0:Nat)),.v (I 0),.v (I 0),.v (I 0),.v (I 0),.v (I 0),.v (I 0),.v (I 0),.v (I 0)]],[true,true],[.live ⟨154,kPh,L,own,mark⟩,.live ⟨154,kPh,M.set k.toNat (setD (M.getD k.toNat []) (0:Nat) [Dat.l (Value.slice none (0:Nat) (0:Nat)) (phA M k),Dat.n (phG M k),Dat.n (phV M k),Dat.n (phM M k),Dat.n (phU M k)]),true,false⟩]⟩) KCo else none) else none) else none) else some ((.exit 0),mk (xCo (.exit 0)) [.ptr 0 0,.ptr 1 0] ⟨[[.row 1,.v (I r1),.v (I r2),.v (I r3),.v (I r4),.v (I r5),.v (I r6),.v (I r7),.v (I r8)],[.v (Value.slice none (0:Nat) (0:Nat)),.v (I 0),.v (I 0),.v (I 0),.v (I 0),.v (I 0),.v (I 0),.v (I 0),.v (I 0)]],[true,true],[.live ⟨154,kPh,L,own,mark⟩,.live ⟨154,kPh,M,true,false⟩]⟩)):=(stepCo _ _ _ _ _ _ _ _ _ _ _ _ _ _ _).trans (by simp only [same_self])
noncomputable def ECo (n:Nat) (r1:Int) (r2:Int) (r3:Int) (r4:Int) (r5:Int) (r6:Int) (r7:Int) (r8:Int) (nn:Int) (k:Int) (L:List (List Dat)) (own:Bool) (mark:Bool) (M:List (List Dat)):Option (Ex×St) :=
  evLoop Γu15 Tryz.prog L0 (cutC 0 1 kCo) bdCo n (mk kCo [.ptr 0 0,.ptr 1 0,.row 1,.v (I nn),.v (I k)] ⟨[[.row 1,.v (I r1),.v (I r2),.v (I r3),.v (I r4),.v (I r5),.v (I r6),.v (I r7),.v (I r8)],[.v (.slice none 0 0),.v (I 0),.v (I 0),.v (I 0),.v (I 0),.v (I 0),.v (I 0),.v (I 0),.v (I 0)]],[true,true],[rH L own mark,rH M true false]⟩) KCo
def phNe (L:List (List Dat)):Bool:=L.all fun l=>Nat.blt 0 (l.headD (.n 0)).toL.length
theorem phNe_get {L:List (List Dat)} (h:phNe L=true) {k:Int} (h0:0≤k) (h1:k<(L.length:Int)):Nat.blt 0 (phA L k).length=true:=by
  have hk:k.toNat<L.length:=by omega
  have hm:L.getD k.toNat []∈L:=by
    rw [List.getD,List.getElem?_eq_getElem hk]
    exact List.getElem_mem hk
  exact List.all_eq_true.1 h _ hm
theorem set_getD {α:Type} {L:List α} {k:Nat} {x:α} (d:α) (hx:L.getD k d=x) (hk:k<L.length):L.set k x=L:=by
  subst hx
  apply List.ext_getElem?
  intro i
  by_cases hi:k=i
  · subst hi
    rw [List.getElem?_set_self hk,List.getD,List.getElem?_eq_getElem hk]
    rfl
  · rw [List.getElem?_set_ne hi]
theorem setD_ph {L:List (List Dat)} (h:phOk L=true) {k:Int} (h0:0≤k) (h1:k<(L.length:Int)):L.set k.toNat (setD (L.getD k.toNat []) 0 [.l (.slice none 0 0) (phA L k),.n (phG L k),.n (phV L k),.n (phM L k),.n (phU L k)])=L:=by
  have e:=(phOk_get h h0 h1).1
  refine set_getD [] ?_ (by omega)
  rw [e]
  rfl
def lfCo (r1 r2 r3 r4 r5 r6 r7 r8:Int) (L:List (List Dat)) (own mark:Bool):LT:=.leaf (.exit 0) (mk (xCo (.exit 0)) [.ptr 0 0,.ptr 1 0] ⟨[[.row 1,.v (I r1),.v (I r2),.v (I r3),.v (I r4),.v (I r5),.v (I r6),.v (I r7),.v (I r8)],[.v (.slice none 0 0),.v (I 0),.v (I 0),.v (I 0),.v (I 0),.v (I 0),.v (I 0),.v (I 0),.v (I 0)]],[true,true],[rH L own mark,rH L true false]⟩)
theorem loopCo (r1 r2 r3 r4 r5 r6 r7 r8:Int) (L:List (List Dat)) (own mark:Bool) (hl:phOk L=true) (hn:phNe L=true):ECo (L.length+1) r1 r2 r3 r4 r5 r6 r7 r8 (L.length:Int) 0 L own mark L=some (lfCo r1 r2 r3 r4 r5 r6 r7 r8 L own mark).pick:=by
  have hll:=phOk_len hl
  refine (foldAll (fun _ s=>s) (fun _ _=>True) (L.length:Int) (fun n k (s:Unit)=>ECo n r1 r2 r3 r4 r5 r6 r7 r8 (L.length:Int) k L own mark L) (fun _=>some (.exit 0,mk (xCo (.exit 0)) [.ptr 0 0,.ptr 1 0] ⟨[[.row 1,.v (I r1),.v (I r2),.v (I r3),.v (I r4),.v (I r5),.v (I r6),.v (I r7),.v (I r8)],[.v (.slice none 0 0),.v (I 0),.v (I 0),.v (I 0),.v (I 0),.v (I 0),.v (I 0),.v (I 0),.v (I 0)]],[true,true],[rH L own mark,rH L true false]⟩)) (fun n k s hk _=>?_) (fun _ _ _ _=>trivial) (fun n k s hk _=>?_) L.length 0 () (by omega) (by omega) trivial).trans rfl
  · refine (stepCoS r1 r2 r3 r4 r5 r6 r7 r8 (L.length:Int) k L own mark L n).trans ?_
    rw [decide_eq_false hk]
    rfl
  · refine (stepCoS r1 r2 r3 r4 r5 r6 r7 r8 (L.length:Int) k L own mark L n).trans ?_
    rw [setD_ph hl hk.1 hk.2,decide_eq_true hk.2,decide_eq_true hk.1,(phOk_get hl hk.1 hk.2).2,phNe_get hn hk.1 hk.2,wI_id (n:=k+1) (by omega)]
    rfl
noncomputable def GCo (vals:List SV) (m:Mem):Option (Bool×LT) :=
  match vals,m with
  | [.ptr 0 0,.ptr 1 0,.row 1,.v (.int .i64 nn),.v (.int .i64 k)],⟨[[.row 1,.v (.int .i64 r1),.v (.int .i64 r2),.v (.int .i64 r3),.v (.int .i64 r4),.v (.int .i64 r5),.v (.int .i64 r6),.v (.int .i64 r7),.v (.int .i64 r8)],[.v (.slice none 0 0),.v (.int .i64 0),.v (.int .i64 0),.v (.int .i64 0),.v (.int .i64 0),.v (.int .i64 0),.v (.int .i64 0),.v (.int .i64 0),.v (.int .i64 0)]],[true,true],[.live ⟨154,[.sl 151 [.num .i64,.num .i64],.num .i64,.num .i64,.num .i64,.num .i64],L,own,mark⟩,.live ⟨154,[.sl 151 [.num .i64,.num .i64],.num .i64,.num .i64,.num .i64,.num .i64],M,true,false⟩]⟩=>some (nn==(L.length:Int)&&(k==0&&(phOk L&&(phNe L&&isT (M=L)))),lfCo r1 r2 r3 r4 r5 r6 r7 r8 L own mark)
  | _,_=>none
noncomputable def ΛCo:LoopOrc:=fun _ st=>viaT 0 1 kCo GCo st
theorem loopOkCo (z:Base) (z1:z.L.length=0) (z2:z.U.length=1):LoopOk ΛCo Tryz.prog z bdCo:=by
  refine loop_okT (Λ:=L0) (kx:=xCo) Oku15 mixed z1 z2 (fun b hb st t h=>by cases h) (G:=GCo) (fun _=>rfl) ?_
  intro vals m t h
  unfold GCo at h
  split at h
  · rename_i nn k r1 r2 r3 r4 r5 r6 r7 r8 L own mark M
    obtain ⟨h1,rfl⟩:=some_t h
    simp only [Bool.and_eq_true,beq_iff_eq,isT_iff] at h1
    obtain ⟨rfl,rfl,hl,hn,rfl⟩:=h1
    exact ⟨_,loopCo r1 r2 r3 r4 r5 r6 r7 r8 M own mark hl hn⟩
  · cases h
theorem loopsCo:loopsOf (Tryz.f199.body.getD .skip)=[bdCo]:=by kernel_rfl
theorem runCpy (r1:Int) (r2:Int) (r3:Int) (r4:Int) (r5:Int) (r6:Int) (r7:Int) (r8:Int) (L:List (List Dat)) (own:Bool) (mark:Bool):runG Γu15 ΛCo Tryz.prog Tryz.f199 [.ag [.row 0,.v (I r1),.v (I r2),.v (I r3),.v (I r4),.v (I r5),.v (I r6),.v (I r7),.v (I r8)]] ⟨[],[],[rH L own mark]⟩ =
    (bif Nat.blt (0:Nat) L.length&&L.length.ble (1000000) then (bif (L.length:Int)==(L.length:Int)&&(true&&(phOk L&&(phNe L&&isT (L=L)))) then some (.ag [.row 1,.v (I r1),.v (I r2),.v (I r3),.v (I r4),.v (I r5),.v (I r6),.v (I r7),.v (I r8)],⟨[],[],[.live ⟨154,kPh,L,own,mark⟩,.live ⟨154,kPh,L,true,false⟩]⟩) else none) else none):=by kernel_rfl
def gCpy (xs:List SV) (m:Mem):Option (Bool×SV×Mem) :=
  match xs,m with
  | [.ag [.row 0,.v (.int .i64 r1),.v (.int .i64 r2),.v (.int .i64 r3),.v (.int .i64 r4),.v (.int .i64 r5),.v (.int .i64 r6),.v (.int .i64 r7),.v (.int .i64 r8)]],⟨[],[],[.live ⟨154,[.sl 151 [.num .i64,.num .i64],.num .i64,.num .i64,.num .i64,.num .i64],L,own,mark⟩]⟩=>some (phOk L&&(phNe L&&Nat.blt 0 L.length),.ag [.row 1,.v (I r1),.v (I r2),.v (I r3),.v (I r4),.v (I r5),.v (I r6),.v (I r7),.v (I r8)],⟨[],[],[rH L own mark,rH L true false]⟩)
  | _,_=>none
theorem gCpy_ok:CtC 199 gCpy:=by
  intro xs m r m' h
  unfold gCpy at h
  split at h
  · rename_i r1 r2 r3 r4 r5 r6 r7 r8 L own mark
    obtain ⟨h1,rfl,rfl⟩:=some_t2 h
    refine runOk (Λ:=ΛCo) Oku15 Tryz.func199 rfl (fun z z1 z2=>oneLoop loopsCo (loopOkCo z z1 z2)) ?_
    refine (runCpy r1 r2 r3 r4 r5 r6 r7 r8 L own mark).trans ?_
    rw [Bool.and_eq_true,Bool.and_eq_true] at h1
    obtain ⟨h1,h2,h3⟩:=h1
    have h4:=phOk_len h1
    rw [h1,h2,h3,show Nat.ble L.length 1000000=true from Nat.ble_eq_true_of_le h4,beq_self_eq_true,isT_iff.2 rfl]
    rfl
  · cases h
noncomputable def Γu16:Orc:=addCl 199 gCpy Γu15
theorem Oku16:Γu16.Ok Tryz.prog:=addCl_ok Oku15 gCpy_ok
noncomputable def ΓR3:Orc:=Γu16
theorem OkR3:ΓR3.Ok Tryz.prog:=Oku16
end Go.Proofs.YtagaiddomhpdmaaGreat
namespace Go.Proofs.YtagaiddomhpdmaaGreat
open Go Go.Proofs Go.Sx
noncomputable def ΓA13:Orc:=ΓR3
theorem OkA13:ΓA13.Ok Tryz.prog:=OkR3
end Go.Proofs.YtagaiddomhpdmaaGreat
