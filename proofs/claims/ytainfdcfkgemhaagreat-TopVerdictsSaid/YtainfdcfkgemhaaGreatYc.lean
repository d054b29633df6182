/-
  What is known of this program: that the document's answers are the program's;rules,the document's,and their law package's own.
-/
import Derived.Test.YtainfdcfkgemhaaGreatYb
import Derived.Test.YtainfdcfkgemhaaGreatSw
import Derived.Test.YtainfdcfkgemhaaGreatSx
set_option maxRecDepth 100000
noncomputable section
open Go.Proofs.Tryz
namespace Go.Proofs.YtainfdcfkgemhaaGreat
open Go Go.Proofs Go.Sx
set_option linter.unusedVariables false
def ΓRb:Orc:={ ΓRg3 with sb:=true }
theorem qjH:ΓRb.Ok prog:=⟨IH.call,IH.rd,IH.eqv⟩
def ΓRv1:Orc:=ΓRb
theorem Rz:ΓRv1.Ok prog:=qjH
theorem Zy (L:List (List Dat)) (own:Bool) (mark:Bool):runG ΓRv1 L0 prog f329 [.row 0] ⟨[],[],[rP L own mark]⟩ =
 (bif Nat.blt (0:Nat) L.length then (bif decide (((0:Nat)+L.length)*(16:Nat)<=(140737488355328:Nat)/\(0:Nat)+L.length<=(9223372036854775807:Nat)) then some (.row 1,⟨[],[],[.live ⟨162,[.num .i64,.num .i64],L,own,mark⟩,.live ⟨162,[.num .i64,.num .i64],L,true,false⟩]⟩) else none) else none):=by kernel_rfl
def GD (xs:List SV) (m:Mem):Option (Bool×SV×Mem) :=
 match xs,m with
 | [.row 0],⟨[],[],[.live ⟨162,[.num .i64,.num .i64],L,own,mark⟩]⟩=>some (Nat.blt 0 L.length&&Nat.ble L.length 1000000,.row 1,⟨[],[],[rP L own mark,rP L true false]⟩)
 | _,_=>none
theorem qgw:aT 329 GD:=by
 intro xs m r m' h
 unfold GD at h
 split at h
 ·rename_i L own mark
  obtain ⟨h1,rfl,rfl⟩:=az h
  refine aj (Λ:=L0) Rz func329 rfl af ?_
  refine (Zy L own mark).trans ?_
  rw [Bool.and_eq_true] at h1
  have h2:=Nat.le_of_ble_eq_true h1.2
  rw [h1.1,decide_eq_true (show (0+L.length)*16<=140737488355328/\0+L.length<=9223372036854775807 by omega)]
  rfl
 ·cases h
def ΓRv2:Orc:=aE 329 GD ΓRv1
theorem qjD:ΓRv2.Ok prog:=aA Rz qgw
def ΓRv3:Orc:=ΓRv2
theorem IF:ΓRv3.Ok prog:=qjD
end Go.Proofs.YtainfdcfkgemhaaGreat
namespace Go.Proofs.YtainfdcfkgemhaaGreat
open Go Go.Proofs Go.Sx
set_option linter.unusedVariables false
theorem U1 {a b c d p1 p2 q1 q2:Int} (hb:aU a b c d=true) (hp:plR p1 p2=true) (hq:plR q1 q2=true) (h:nr a b c d p1 p2 q1 q2=false):Sides a b c d p1 p2 q1 q2:=by
 unfold aU at hb
 simp only [Bool.and_eq_true,decide_eq_true_eq] at hb
 obtain ⟨h1,h2,h3,h4⟩:=hb
 have h5:plR c b=true:=by rw [iy] at h1 h2 ⊢;omega
 have h6:plR a d=true:=by rw [iy] at h1 h2 ⊢;omega
 unfold nr at h
 simp only [Bool.or_eq_false_iff] at h
 exact ⟨(pQ hp hq h1 h5).1 h.1,(pQ hp hq h5 h2).1 h.2.1,(pQ hp hq h2 h6).1 h.2.2.1,(pQ hp hq h6 h1).1 h.2.2.2⟩
theorem Dk {a b c d x y:Int} (hb:aU a b c d=true) (hp:plR x y=true):gX a b c d x y=true↔a<=x/\x<=c/\b<=y/\y<=d:=by
 unfold gX
 rw [hb,hp]
 simp only [Bool.true_and,Bool.and_eq_true,decide_eq_true_eq]
 first|done|omega
theorem zm {a b c d:Int} (hb:aU a b c d=true):plR a b=true/\plR c d=true/\a<=c/\b<=d:=by
 unfold aU at hb
 simpa only [Bool.and_eq_true,decide_eq_true_eq] using hb
theorem wU {L:List (List Dat)} {i:Int} (h:cl L i=true):nx L i=if i+1=(L.length:Int) then 0 else i+1:=by
 have a:=eh.1 h
 unfold nx
 rw [aM (by omega),Int.tmod_eq_emod_of_nonneg (by omega)]
 split
 ·rename_i e;rw [e,Int.emod_self]
 ·exact Int.emod_eq_of_lt (by omega) (by omega)
theorem uk (p:Int->Bool) (m:Nat):ij p m=a7 p m 0:=by
 unfold ij
 rw [Bool.eq_iff_iff,decide_eq_true_eq,my]
 constructor
 ·intro h
  have:=mt (qc (p:=p) (m:=m) (k:=0) (Int.le_refl _)).2 (by omega)
  refine Classical.byContradiction fun hn=>this fun i h1 h2=>?_
  cases hp:p i
  ·rfl
  ·exact absurd ⟨i,h1,h2,hp⟩ hn
 ·rintro ⟨i,h1,h2,h3⟩
  refine Classical.byContradiction fun hn=>?_
  have:=(qc (p:=p) (m:=m) (k:=0) (Int.le_refl _)).1 (by omega) i h1 h2
  rw [this] at h3
  cases h3
def Aw (L:List (List Dat)):Prop:=∀ i j,0<=i->i<j->j<(L.length:Int)->qL L j i=false
theorem Qo (L:List (List Dat)):ig L=true↔Aw L:=by
 unfold ig Aw
 rw [decide_eq_true_eq,qc (Int.le_refl _)]
 constructor
 ·intro h i j h1 h2 h3
  have:=h j (by omega) (by omega)
  simp only [Bool.not_eq_false'] at this
  unfold okJ at this
  rw [decide_eq_true_eq,qc (Int.le_refl _)] at this
  exact this i h1 (by omega)
 ·intro h j h1 h2
  simp only [Bool.not_eq_false']
  unfold okJ
  rw [decide_eq_true_eq,qc (Int.le_refl _)]
  exact fun i h3 h4=>h i j h3 (by omega) (by omega)
theorem Mj {L:List (List Dat)} {i k:Int} (h1:0<=i) (h2:i<k) (h3:k<(L.length:Int)) (hl:(L.length:Int)<=8):ng L i k=qL L k i:=by
 have ai:cl L i=true:=eh.2 (by omega)
 have ak:cl L k=true:=eh.2 (by omega)
 unfold ng qL pM
 rw [aM (n:=i+1) (by omega)]
 by_cases e:k=i+1
 ·have n1:nx L i=k:=by rw [wU ai,if_neg (by omega)];omega
  rw [beq_iff_eq.2 e,beq_iff_eq.2 (show i+1=k by omega),n1]
  cases kJ L i k<;>rfl
 ·rw [beq_eq_false_iff_ne.2 e,beq_eq_false_iff_ne.2 (show i+1≠k by omega)]
  by_cases e2:i=0/\k=(L.length:Int) - 1
  ·have n1:nx L k=i:=by rw [wU ak,if_pos (by omega)];omega
   rw [beq_iff_eq.2 e2.1,beq_iff_eq.2 e2.2,beq_iff_eq.2 n1,n1]
   cases kJ L i k
   ·simp only [Bool.false_or,cond_false,cond_true,Bool.and_self]
    exact Bool.or_comm _ _
   ·rfl
  ·have n1:nx L k≠i:=by
    rw [wU ak]
    split<;>omega
   have e3:((i==0)&&(k==(L.length:Int) - 1))=false:=by
    rw [Bool.and_eq_false_iff,beq_eq_false_iff_ne,beq_eq_false_iff_ne]
    omega
   rw [e3,beq_eq_false_iff_ne.2 n1]
   cases kJ L i k<;>rfl
theorem Vg {L:List (List Dat)} (hl:(L.length:Int)<=8):a7 (eK L) L.length 0=false↔Aw L:=by
 constructor
 ·intro h i j h1 h2 h3
  rw [<- Mj h1 h2 h3 hl]
  cases hr:ng L i j
  ·rfl
  ·have:a7 (eK L) L.length 0=true:=my.2 ⟨i,h1,by omega,my.2 ⟨j,by omega,by omega,hr⟩⟩
   rw [h] at this
   cases this
 ·intro h
  cases ha:a7 (eK L) L.length 0
  ·rfl
  ·obtain ⟨i,h1,h2,h3⟩:=my.1 ha
   obtain ⟨k,h4,h5,h6⟩:=my.1 h3
   rw [Mj h1 (by omega) (by omega) hl] at h6
   rw [h i k h1 (by omega) (by omega)] at h6
   cases h6
theorem U0 (L:List (List Dat)):m6 L=gM L:=by
 unfold m6 gM
 rw [uk]
 by_cases h1:(L.length:Int)<3
 ·rw [decide_eq_true h1];simp
 by_cases h2:(L.length:Int)>8
 ·rw [decide_eq_true h2];simp
 rw [decide_eq_false h1,decide_eq_false h2]
 have:a7 (eK L) L.length 0=!ig L:=by
  have e1:=Vg (L:=L) (by omega)
  have e2:=Qo L
  cases ha:a7 (eK L) L.length 0<;>cases hb:ig L
  ·rw [e2.2 (e1.1 ha)] at hb;cases hb
  ·rfl
  ·rfl
  ·rw [e1.2 (e2.1 hb)] at ha;cases ha
 rw [this]
 cases a7 (cK L) L.length 0<;>cases ig L<;>rfl
theorem HX (L:List (List Dat)):kT L=cM L:=by
 unfold kT cM
 rw [U0,uk]
 by_cases h:(L.length:Int)<=8
 ·rw [decide_eq_true h]
  cases gM L<;>cases a7 (cQ L) L.length 0<;>rfl
 ·have:gM L=false:=by
   unfold gM
   rw [decide_eq_true (show (L.length:Int)>8 by omega)]
   simp
  rw [this]
  cases !(decide ((L.length:Int)<=8)&&a7 (cQ L) L.length 0)<;>rfl
end Go.Proofs.YtainfdcfkgemhaaGreat
namespace Go.Proofs.YtainfdcfkgemhaaGreat
open Go Go.Proofs Go.Sx
set_option linter.unusedVariables false
theorem LG (r:Int->Bool):∀ (m:Nat) (k:Int) (t:Bool),kd r m k (bif t then 1 else -1)=bif fH (fun k s=>s ^^ r k) m k t then 1 else -1
 | 0,_,_=>rfl
 | m+1,k,t=>by
  show kd r m (k+1) (bif r k then -(bif t then 1 else -1) else (bif t then 1 else -1))=bif fH (fun k s=>s ^^ r k) m (k+1) (t ^^ r k) then 1 else -1
  rw [<- LG r m (k+1) (t ^^ r k)]
  cases r k<;>cases t<;>rfl
theorem qbi (px py:Int) (L:List (List Dat)):kr px py L=!a7 (gy px py L) L.length 0:=by
 rw [<- uk]
 unfold kr ij
 by_cases h:bD (gy px py L) L.length 0<0
 ·rw [decide_eq_true h,decide_eq_false (by omega)];rfl
 ·rw [decide_eq_false h,decide_eq_true (by omega)];rfl
theorem LE (L:List (List Dat)) (px py:Int):vD L px py=eJ L px py:=by
 unfold vD eJ lO
 rw [HX,qbi]
 have:=LG (ji px py L) L.length 0 false
 simp only [cond_false] at this
 rw [this]
 cases cM L<;>cases plR px py<;>cases a7 (gy px py L) L.length 0<;>rfl
structure IsArea (L:List (List Dat)):Prop where
 lo:3<=(L.length:Int)
 hi:(L.length:Int)<=8
 pl:∀ k,0<=k->k<(L.length:Int)->plR (pX L k) (pY L k)=true
 near:∀ k,0<=k->k<(L.length:Int)->-1073741824<=pX L k/\pX L k<=1073741824/\-1073741824<=pY L k/\pY L k<=1073741824
 apt:Aw L
theorem OH {n:Int}:gf n=false↔-1073741824<=n/\n<=1073741824:=by
 unfold gf
 rw [Bool.or_eq_false_iff,decide_eq_false_iff_not,decide_eq_false_iff_not]
 omega
theorem uh {p:Int->Bool} {m:Nat} {k:Int}:a7 p m k=false↔∀ i,k<=i->i<k+m->p i=false:=by
 constructor
 ·intro h i h1 h2
  cases hp:p i
  ·rfl
  ·rw [my.2 ⟨i,h1,h2,hp⟩] at h;cases h
 ·intro h
  cases ha:a7 p m k
  ·rfl
  ·obtain ⟨i,h1,h2,h3⟩:=my.1 ha
   rw [h i h1 h2] at h3;cases h3
theorem C9 {L:List (List Dat)} (h:cM L=true):IsArea L:=by
 unfold cM gM at h
 rw [uk,uk] at h
 by_cases h1:(L.length:Int)<3
 ·rw [decide_eq_true h1] at h;simp at h
 by_cases h2:(L.length:Int)>8
 ·rw [decide_eq_true h2] at h;simp at h
 rw [decide_eq_false h1,decide_eq_false h2] at h
 cases h3:a7 (cK L) L.length 0
 case true=>rw [h3] at h;simp at h
 cases h4:a7 (cQ L) L.length 0
 case true=>rw [h4] at h;simp at h
 rw [h3,h4] at h
 simp only [cond_false,Bool.not_false,Bool.and_true] at h
 refine ⟨by omega,by omega,fun k k0 k1=>?_,fun k k0 k1=>?_,(Qo L).1 h⟩
 ·have:=uh.1 h3 k k0 (by omega)
  unfold cK at this
  simpa using this
 ·have:=uh.1 h4 k k0 (by omega)
  unfold cQ at this
  rw [Bool.or_eq_false_iff,OH,OH] at this
  omega
theorem Ma {p1 p2 a1 a2 b1 b2:Int} (hp:plR p1 p2=true) (ha:plR a1 a2=true) (hb:plR b1 b2=true):pj p1 p2 a1 a2 b1 b2=eu p1 p2 a1 a2 b1 b2:=by
 unfold pj eu
 have t1:=(mO ha hb hp).1
 have t2:=(mO hb ha hp).1
 rw [oR] at t2
 rw [Bool.eq_iff_iff]
 by_cases h:a2>b2
 ·rw [decide_eq_true h]
  simp only [cond_true,Bool.and_eq_true,decide_eq_true_eq,gt_iff_lt]
  rw [t2]
  omega
 ·rw [decide_eq_false h]
  simp only [cond_false,Bool.and_eq_true,decide_eq_true_eq,gt_iff_lt]
  rw [t1]
  omega
theorem Kh {r r' g:Int->Bool}:∀ (m:Nat) (k:Int) (s s':Bool),(∀ i,k<=i->i<k+m->(r i ^^ r' i)=(g i ^^ g (i+1)))->(fH (fun k s=>s ^^ r k) m k s ^^ fH (fun k s=>s ^^ r' k) m k s')=((s ^^ s') ^^ (g k ^^ g (k+m)))
 | 0,k,s,s',_=>by
  show (s ^^ s')=((s ^^ s') ^^ (g k ^^ g (k+((0:Nat):Int))))
  rw [show k+((0:Nat):Int)=k by omega,Bool.xor_self,Bool.xor_false]
 | m+1,k,s,s',h=>by
  show (fH (fun k s=>s ^^ r k) m (k+1) (s ^^ r k) ^^ fH (fun k s=>s ^^ r' k) m (k+1) (s' ^^ r' k))=_
  rw [Kh m (k+1) _ _ fun i h1 h2=>h i (by omega) (by omega),show k+1+(m:Int)=k+((m+1:Nat):Int) by omega]
  have:=h k (by omega) (by omega)
  revert this
  cases r k<;>cases r' k<;>cases s<;>cases s'<;>cases g k<;>cases g (k+1)<;>cases g (k+((m+1:Nat):Int))<;>decide
theorem gU {L:List (List Dat)} (h:IsArea L) {k:Int} (k0:0<=k) (k1:k<(L.length:Int)):0<=nx L k/\nx L k<(L.length:Int):=sN (eh.2 ⟨k0,k1,by have:=h.hi;omega⟩)
theorem qbb {L:List (List Dat)} (h:IsArea L) {k:Int} (k0:0<=k) (k1:k<(L.length:Int)):nx L k=if k+1=(L.length:Int) then 0 else k+1:=wU (eh.2 ⟨k0,k1,by have:=h.hi;omega⟩)
theorem qal {L:List (List Dat)} (h:IsArea L) {r r':Int->Bool} {v:Int->Bool} (hv:∀ k,0<=k->k<(L.length:Int)->(r k ^^ r' k)=(v k ^^ v (nx L k))):fH (fun k s=>s ^^ r k) L.length 0 false=fH (fun k s=>s ^^ r' k) L.length 0 false:=by
 have hl:=h.lo
 have:=Kh (r:=r) (r':=r') (g:=fun i=>v (if i=(L.length:Int) then 0 else i)) L.length 0 false false fun i h1 h2=>by
  have e:=hv i h1 (by omega)
  rw [qbb h h1 (by omega)] at e
  rw [e]
  show _=(v (if i=(L.length:Int) then 0 else i) ^^ v (if i+1=(L.length:Int) then 0 else i+1))
  rw [if_neg (show ¬ i=(L.length:Int) by omega)]
 rw [if_neg (by omega),if_pos (by omega)] at this
 simp only [Bool.xor_self] at this
 revert this
 cases fH (fun k s=>s ^^ r k) L.length 0 false<;>cases fH (fun k s=>s ^^ r' k) L.length 0 false<;>decide
theorem LD {L:List (List Dat)} {px py:Int} (ha:cM L=true) (hp:plR px py=true) (hh:∀ k,0<=k->k<(L.length:Int)->gy px py L k=false):eJ L px py=bif lO px py L then 1 else -1:=by
 rw [<- LE]
 unfold vD
 rw [HX,ha,hp,uh.2 fun i h1 h2=>hh i h1 (by omega)]
 rfl
theorem uN {L:List (List Dat)} {p1 p2 q1 q2:Int} (ha:cM L=true) (hp:plR p1 p2=true) (hq:plR q1 q2=true) (hm:∀ k,0<=k->k<(L.length:Int)->ch p1 p2 q1 q2 (pX L k) (pY L k) (pX L (nx L k)) (pY L (nx L k))=false) :
  eJ L p1 p2=eJ L q1 q2/\eJ L p1 p2≠0:=by
 have h:=C9 ha
 have ap:∀ k,0<=k->k<(L.length:Int)->Apart p1 p2 q1 q2 (pX L k) (pY L k) (pX L (nx L k)) (pY L (nx L k)):=fun k k0 k1=>(pQ hp hq (h.pl k k0 k1) (h.pl _ (gU h k0 k1).1 (gU h k0 k1).2)).1 (hm k k0 k1)
 have h1:∀ k,0<=k->k<(L.length:Int)->gy p1 p2 L k=false:=fun k k0 k1=>by
  cases hh:gy p1 p2 L k
  ·rfl
  ·exact absurd ((pC hp (h.pl k k0 k1) (h.pl _ (gU h k0 k1).1 (gU h k0 k1).2)).1 hh) (ap k k0 k1).a
 have h2:∀ k,0<=k->k<(L.length:Int)->gy q1 q2 L k=false:=fun k k0 k1=>by
  cases hh:gy q1 q2 L k
  ·rfl
  ·exact absurd ((pC hq (h.pl k k0 k1) (h.pl _ (gU h k0 k1).1 (gU h k0 k1).2)).1 hh) (ap k k0 k1).b
 have e:lO p1 p2 L=lO q1 q2 L:=by
  unfold lO
  refine qal h (v:=fun k=>d9 p1 p2 q1 q2 (pX L k) (pY L k)) fun k k0 k1=>?_
  unfold ji
  rw [Ma hp (h.pl k k0 k1) (h.pl _ (gU h k0 k1).1 (gU h k0 k1).2),Ma hq (h.pl k k0 k1) (h.pl _ (gU h k0 k1).1 (gU h k0 k1).2)]
  exact qaT (ap k k0 k1)
 rw [LD ha hp h1,LD ha hq h2,e]
 refine ⟨rfl,?_⟩
 cases lO q1 q2 L<;>decide
theorem PX {L:List (List Dat)} {a b c d u1 u2 v1 v2:Int} (ha:cM L=true) (hb:aU a b c d=true) (hm:∀ k,0<=k->k<(L.length:Int)->er a b c d L k=false) (hu:a<=u1/\u1<=c/\b<=u2/\u2<=d) (hv:a<=v1/\v1<=c/\b<=v2/\v2<=d) :
  (∀ k,0<=k->k<(L.length:Int)->ch u1 u2 v1 v2 (pX L k) (pY L k) (pX L (nx L k)) (pY L (nx L k))=false):=by
 intro k k0 k1
 have h:=C9 ha
 have n:=gU h k0 k1
 obtain ⟨b1,b2,b3,b4⟩:=zm hb
 have pu:plR u1 u2=true:=by rw [iy] at b1 b2 ⊢;omega
 have pv:plR v1 v2=true:=by rw [iy] at b1 b2 ⊢;omega
 have p0:=h.pl k k0 k1
 have p1:=h.pl _ n.1 n.2
 have e:=hm k k0 k1
 unfold er pP at e
 rw [hb,p0,p1] at e
 simp only [Bool.true_and,Bool.or_eq_false_iff] at e
 have nk:¬ (a<=pX L k/\pX L k<=c/\b<=pY L k/\pY L k<=d):=fun x=>by rw [(Dk hb p0).2 x] at e;cases e.1
 rw [<- Nn]
 exact (pQ p0 p1 pu pv).2 ((qib b3 b4 nk (U1 hb p0 p1 e.2)).apart nk hu hv)
end Go.Proofs.YtainfdcfkgemhaaGreat
namespace Go.Proofs.YtainfdcfkgemhaaGreat
open Go Go.Proofs Go.Sx
set_option linter.unusedVariables false
def bk (L:List (List Dat)) (k:Int):List (List Dat):=((L.getD k.toNat []).headD (.n 0)).toL
def db (L:List (List Dat)) (k:Int):Int:=((L.getD k.toNat []).tail.headD (.n 0)).toI
def cO (L:List (List Dat)) (k:Int):Int:=((L.getD k.toNat []).tail.tail.headD (.n 0)).toI
def cJ (L:List (List Dat)) (k:Int):Int:=((L.getD k.toNat []).tail.tail.tail.headD (.n 0)).toI
def cP (L:List (List Dat)) (k:Int):Int:=((L.getD k.toNat []).tail.tail.tail.tail.headD (.n 0)).toI
abbrev aS:List CK:=[.sl 162 [.num .i64,.num .i64],.num .i64,.num .i64,.num .i64,.num .i64]
abbrev rH (L:List (List Dat)) (own mark:Bool):RowS:=.live ⟨117,aS,L,own,mark⟩
def Mv:List Dat->Bool
 | [.l (.slice none 0 0) A,.n _,.n _,.n _,.n _]=>Nat.ble A.length 1000000
 | _=>false
def co (L:List (List Dat)):Bool:=L.all Mv&&Nat.ble L.length 1000000
theorem Co {L:List (List Dat)} (h:co L=true):L.length<=1000000:=by
 unfold co at h
 rw [Bool.and_eq_true] at h
 exact Nat.le_of_ble_eq_true h.2
theorem wB {L:List (List Dat)} (h:co L=true) {k:Int} (h0:0<=k) (h1:k<(L.length:Int)):L.getD k.toNat []=[.l (.slice none 0 0) (bk L k),.n (db L k),.n (cO L k),.n (cJ L k),.n (cP L k)]/\Nat.ble (bk L k).length 1000000=true:=by
 unfold co at h
 rw [Bool.and_eq_true] at h
 have hk:k.toNat<L.length:=by omega
 have hm:L.getD k.toNat []∈L:=by
  rw [List.getD,List.getElem?_eq_getElem hk]
  exact List.getElem_mem hk
 have:=List.all_eq_true.1 h.1 _ hm
 unfold bk db cO cJ cP
 generalize L.getD k.toNat []=l at *
 unfold Mv at this
 split at this
 ·exact ⟨rfl,this⟩
 ·cases this
def uK (f:FuncId):Bool:=Nat.beq f 278||Nat.beq f 262||Nat.beq f 329||Nat.beq f 325||Nat.beq f 28
def Γu0:Orc:={ ΓRv3 with sb:=true,bs:=true,wr:=uK }
theorem Oku0:Γu0.Ok prog:=⟨IF.call,IF.rd,IF.eqv⟩
def eE (n lo hi:Int):Bool:=bif decide (n>=lo) then decide (n<=hi) else false
def bF (lo hi n:Int):Bool:=bif decide (lo<=n) then decide (n<=hi) else false
theorem Vo (n:Int) (lo:Int) (hi:Int):runG Γu0 L0 prog f171 [.v (I n),.v (I lo),.v (I hi)] M0 =
 (bif decide (n>=lo) then some (.v (Bo (decide (n<=hi))),M0) else some (.v (Bo false),M0)):=by kernel_rfl
def Dq (vs:List Value):Option (Bool×Value) :=
 match vs with
 | [.int .i64 n,.int .i64 lo,.int .i64 hi]=>some (true,Bo (eE n lo hi))
 | _=>none
theorem qdD:an 171 Dq:=by
 intro vs r h
 unfold Dq at h
 split at h
 ·rename_i n lo hi
  obtain ⟨h1,rfl⟩:=aa h
  refine am (vs:=[I n,I lo,I hi]) (Λ:=L0) (m':=M0) Oku0 func171 rfl af ?_
  exact (Vo n lo hi).trans (by unfold eE;cases decide (n>=lo)<;>rfl)
 ·cases h
def Γu1:Orc:=ah 171 Dq Γu0
theorem Oku1:Γu1.Ok prog:=ac Oku0 qdD
theorem YY (lo:Int) (hi:Int) (n:Int):runG Γu1 L0 prog f344 [.v (I lo),.v (I hi),.v (I n)] M0 =
 (bif decide (lo<=n) then some (.v (Bo (decide (n<=hi))),M0) else some (.v (Bo false),M0)):=by kernel_rfl
def F7 (vs:List Value):Option (Bool×Value) :=
 match vs with
 | [.int .i64 lo,.int .i64 hi,.int .i64 n]=>some (true,Bo (bF lo hi n))
 | _=>none
theorem qf0:an 344 F7:=by
 intro vs r h
 unfold F7 at h
 split at h
 ·rename_i lo hi n
  obtain ⟨h1,rfl⟩:=aa h
  refine am (vs:=[I lo,I hi,I n]) (Λ:=L0) (m':=M0) Oku1 func344 rfl af ?_
  exact (YY lo hi n).trans (by unfold bF;cases decide (lo<=n)<;>rfl)
 ·cases h
def Γu2:Orc:=ah 344 F7 Γu1
theorem QK:Γu2.Ok prog:=ac Oku1 qf0
theorem YW (lo:Int) (hi:Int) (n:Int):runG Γu2 L0 prog f347 [.v (I lo),.v (I hi),.v (I n)] M0 =
 (bif decide (lo<=n) then some (.v (Bo (decide (n<=hi))),M0) else some (.v (Bo false),M0)):=by kernel_rfl
def F6 (vs:List Value):Option (Bool×Value) :=
 match vs with
 | [.int .i64 lo,.int .i64 hi,.int .i64 n]=>some (true,Bo (bF lo hi n))
 | _=>none
theorem qfZ:an 347 F6:=by
 intro vs r h
 unfold F6 at h
 split at h
 ·rename_i lo hi n
  obtain ⟨h1,rfl⟩:=aa h
  refine am (vs:=[I lo,I hi,I n]) (Λ:=L0) (m':=M0) QK func347 rfl af ?_
  exact (YW lo hi n).trans (by unfold bF;cases decide (lo<=n)<;>rfl)
 ·cases h
def Γu3:Orc:=ah 347 F6 Γu2
theorem QJ:Γu3.Ok prog:=ac QK qfZ
def m8 (L:List (List Dat)) (g v m u:Int):Bool:=kT L&&(eE g 1 100&&(eE v 1 65536&&(eE m 1 1000000&&eE u 0 1073741824)))
theorem W9 (g:Int) (v:Int) (m:Int) (u:Int) (L:List (List Dat)) (own:Bool) (mark:Bool):runG Γu3 L0 prog f100 [.ag [.row 0,.v (I g),.v (I v),.v (I m),.v (I u)]] ⟨[],[],[rP L own mark]⟩ =
 (bif L.length.ble (1000000) then (bif kT L then (bif eE g (1:Int) (100:Int) then (bif eE v (1:Int) (65536:Int) then (bif eE m (1:Int) (1000000:Int) then some (.v (Bo (eE u (0:Int) (1073741824:Int))),⟨[],[],[.live ⟨162,[.num .i64,.num .i64],L,own,mark⟩]⟩) else some (.v (Bo false),⟨[],[],[.live ⟨162,[.num .i64,.num .i64],L,own,mark⟩]⟩)) else some (.v (Bo false),⟨[],[],[.live ⟨162,[.num .i64,.num .i64],L,own,mark⟩]⟩)) else some (.v (Bo false),⟨[],[],[.live ⟨162,[.num .i64,.num .i64],L,own,mark⟩]⟩)) else some (.v (Bo false),⟨[],[],[.live ⟨162,[.num .i64,.num .i64],L,own,mark⟩]⟩)) else none):=by kernel_rfl
def xT (xs:List SV) (m:Mem):Option (Bool×Value) :=
 match xs,m with
 | [.ag [.row 0,.v (.int .i64 g),.v (.int .i64 v),.v (.int .i64 m),.v (.int .i64 u)]],⟨[],[],[.live ⟨162,[.num .i64,.num .i64],L,own,mark⟩]⟩=>some (Nat.ble L.length 1000000,Bo (m8 L g v m u))
 | _,_=>none
theorem Ol:bi 100 xT:=by
 intro xs m r h
 unfold xT at h
 split at h
 ·rename_i g v m u L own mark
  obtain ⟨h1,rfl⟩:=aa h
  refine aj (Λ:=L0) QJ func100 rfl af ?_
  refine (W9 g v m u L own mark).trans ?_
  rw [h1]
  unfold m8
  first|rfl|(cases kT L<;>(first|rfl|(cases eE g 1 100<;>(first|rfl|(cases eE v 1 65536<;>(first|rfl|(cases eE m 1 1000000<;>(first|rfl|(cases eE u 0 1073741824<;>(first|rfl|skip))))))))))
 ·cases h
def Γu4:Orc:=aR 100 xT Γu3
theorem QI:Γu4.Ok prog:=aL QJ Ol
def pi (L:List (List Dat)) (g v m u:Int):Bool:=bF 1 100 g&&(bF 1 65536 v&&(bF 1 1000000 m&&(bF 0 1073741824 u&&cM L)))
theorem Xa (g:Int) (v:Int) (m:Int) (u:Int) (L:List (List Dat)) (own:Bool) (mark:Bool):runG Γu4 L0 prog f361 [.ag [.row 0,.v (I g),.v (I v),.v (I m),.v (I u)]] ⟨[],[],[rP L own mark]⟩ =
 (bif !bF (1:Int) (100:Int) g then some (.v (Bo false),⟨[],[],[.live ⟨162,[.num .i64,.num .i64],L,own,mark⟩]⟩) else (bif !bF (1:Int) (65536:Int) v then some (.v (Bo false),⟨[],[],[.live ⟨162,[.num .i64,.num .i64],L,own,mark⟩]⟩) else (bif bF (1:Int) (1000000:Int) m then (bif bF (0:Int) (1073741824:Int) u then (bif L.length.ble (1000000) then some (.v (Bo (cM L)),⟨[],[],[.live ⟨162,[.num .i64,.num .i64],L,own,mark⟩]⟩) else none) else some (.v (Bo false),⟨[],[],[.live ⟨162,[.num .i64,.num .i64],L,own,mark⟩]⟩)) else some (.v (Bo false),⟨[],[],[.live ⟨162,[.num .i64,.num .i64],L,own,mark⟩]⟩)))):=by kernel_rfl
def EC (xs:List SV) (m:Mem):Option (Bool×Value) :=
 match xs,m with
 | [.ag [.row 0,.v (.int .i64 g),.v (.int .i64 v),.v (.int .i64 m),.v (.int .i64 u)]],⟨[],[],[.live ⟨162,[.num .i64,.num .i64],L,own,mark⟩]⟩=>some (Nat.ble L.length 1000000,Bo (pi L g v m u))
 | _,_=>none
theorem qeH:bi 361 EC:=by
 intro xs m r h
 unfold EC at h
 split at h
 ·rename_i g v m u L own mark
  obtain ⟨h1,rfl⟩:=aa h
  refine aj (Λ:=L0) QI func361 rfl af ?_
  refine (Xa g v m u L own mark).trans ?_
  unfold pi
  first|rfl|(cases bF 1 100 g<;>(first|rfl|(cases bF 1 65536 v<;>(first|rfl|(cases bF 1 1000000 m<;>(first|rfl|(cases bF 0 1073741824 u<;>(first|rfl|skip))))))))
  all_goals (rw [h1];cases cM L<;>rfl)
 ·cases h
def Γu5:Orc:=aR 361 EC Γu4
theorem QH:Γu5.Ok prog:=aL QI qeH
theorem Xb (g:Int) (v:Int) (m:Int) (u:Int) (L:List (List Dat)) (own:Bool) (mark:Bool):runG Γu5 L0 prog f346 [.ag [.row 0,.v (I g),.v (I v),.v (I m),.v (I u)]] ⟨[],[],[rP L own mark]⟩ =
 (bif L.length.ble (1000000) then some (.v (Bo (!pi L g v m u)),⟨[],[],[.live ⟨162,[.num .i64,.num .i64],L,own,mark⟩]⟩) else none):=by kernel_rfl
def ED (xs:List SV) (m:Mem):Option (Bool×Value) :=
 match xs,m with
 | [.ag [.row 0,.v (.int .i64 g),.v (.int .i64 v),.v (.int .i64 m),.v (.int .i64 u)]],⟨[],[],[.live ⟨162,[.num .i64,.num .i64],L,own,mark⟩]⟩=>some (Nat.ble L.length 1000000,Bo (!pi L g v m u))
 | _,_=>none
theorem qeI:bi 346 ED:=by
 intro xs m r h
 unfold ED at h
 split at h
 ·rename_i g v m u L own mark
  obtain ⟨h1,rfl⟩:=aa h
  refine aj (Λ:=L0) QH func346 rfl af ?_
  refine (Xb g v m u L own mark).trans ?_
  rw [h1]
  rfl
 ·cases h
def Γu6:Orc:=aR 346 ED Γu5
theorem qiR:Γu6.Ok prog:=aL QH qeI
def Ki (e:Ex):List Bool:=match e with
 | .exit _=>aB 73 [1]
 | .ret=>aB 73 [2]
 | .normal=>aB 73 [1,3]
def qh8 (L:List (List Dat)) (k:Int):Bool:=!m8 (bk L k) (db L k) (cO L k) (cJ L k) (cP L k)
def qc7 (r1 r2 r3 r4 r5 r6 r7 r8:Int) (L:List (List Dat)) (own mark:Bool):LT:=.br (a7 (qh8 L) L.length 0) (.leaf .ret (mk (Ki .ret) [.v (I 2)] ⟨[],[],[rH L own mark]⟩)) (.leaf (.exit 0) (mk (Ki (.exit 0)) [.ptr 0 0] ⟨[[.row 0,.v (I r1),.v (I r2),.v (I r3),.v (I r4),.v (I r5),.v (I r6),.v (I r7),.v (I r8)]],[true],[rH L own mark]⟩))
def GWr (vals:List SV) (m:Mem):Option (Bool×LT) :=
 match vals,m with
 | [.ptr 0 0,.v (.int .i64 k)],⟨[[.row 0,.v (.int .i64 r1),.v (.int .i64 r2),.v (.int .i64 r3),.v (.int .i64 r4),.v (.int .i64 r5),.v (.int .i64 r6),.v (.int .i64 r7),.v (.int .i64 r8)]],[true],[.live ⟨117,[.sl 162 [.num .i64,.num .i64],.num .i64,.num .i64,.num .i64,.num .i64],L,own,mark⟩]⟩=>some (k==0&&co L,qc7 r1 r2 r3 r4 r5 r6 r7 r8 L own mark)
 | _,_=>none
def Γu7:Orc:=Γu6
theorem Ip:Γu7.Ok prog:=qiR
def ud:Code:=bX (f360.body.getD .skip) 0
def nF:List Bool:=aB 19 [0,1,7,8]
def ln (e:Ex):List Bool:=match e with
 | .exit _=>aB 19 []
 | .ret=>aB 19 [4]
 | .normal=>aB 19 [0,1,7,8]
def Jl (e:Ex) (st:St):Option (Ex×St):=some (e,ab 0 1 (ln e) st)
theorem Lt (nn:Int) (k:Int) (L:List (List Dat)) (own:Bool) (mark:Bool) (n:Nat):ao Γu7 prog L0 (ab 0 1 nF) ud (n+1) (mk nF [.row 0,.v (.func (.func 346) #[] #[]),.v (I nn),.v (I k)] ⟨[],[],[rH L own mark]⟩) Jl =
 (bif decide (k<nn) then (bif decide ((0:Int)<=k)&&decide (k<(L.length:Int)) then (bif (bk L k).length.ble (1000000) then (bif !pi (bk L k) (db L k) (cO L k) (cJ L k) (cP L k) then some (.ret,mk (ln .ret) [.v (I k)] ⟨[],[],[.live ⟨117,aS,L,own,mark⟩]⟩) else ao Γu7 prog L0 (ab 0 1 nF) ud n (mk nF [.row 0,.v (Value.func (Fn.func 346) #[] #[]),.v (I nn),.v (I (wI (k+(1:Int))))] ⟨[],[],[.live ⟨117,aS,L,own,mark⟩]⟩) Jl) else none) else none) else some ((.exit 0),mk (ln (.exit 0)) [] ⟨[],[],[.live ⟨117,aS,L,own,mark⟩]⟩)):=by kernel_rfl
def SZ (n:Nat) (nn:Int) (k:Int) (L:List (List Dat)) (own:Bool) (mark:Bool):Option (Ex×St) :=
 ao Γu7 prog L0 (ab 0 1 nF) ud n (mk nF [.row 0,.v (.func (.func 346) #[] #[]),.v (I nn),.v (I k)] ⟨[],[],[rH L own mark]⟩) Jl
def gg (p:Int->Bool):Nat->Int->Int
 | 0,k=>k
 | m+1,k=>bif p k then k else gg p m (k+1)
theorem OU (p:Int->Bool):∀ (m:Nat) (k:Int),k<=gg p m k/\gg p m k<=k+m
 | 0,k=>⟨Int.le_refl _,by simp [gg]⟩
 | m+1,k=>by
  have h:=OU p m (k+1)
  unfold gg
  cases p k
  ·show k<=gg p m (k+1)/\gg p m (k+1)<=k+((m+1:Nat):Int)
   omega
  ·show k<=k/\k<=k+((m+1:Nat):Int)
   omega
theorem qg8 {α:Type} (p:Int->Bool) (N:Int) (E:Nat->Int->Option α) (X:Option α) (Y:Int->Option α) (he:∀ n k,¬ k<N->E (n+1) k=X) (hr:∀ n k,0<=k/\k<N->E (n+1) k=bif p k then Y k else E n (k+1)) :
  ∀ (m:Nat) (k:Int),0<=k->k+m=N->E (m+1) k=bif a7 p m k then Y (gg p m k) else X:=by
 intro m
 induction m with
 | zero =>
  intro k h0 h1
  exact he 0 k (by omega)
 | succ m ih =>
  intro k h0 h1
  rw [hr (m+1) k (by omega)]
  show _=bif p k||a7 p m (k+1) then Y (bif p k then k else gg p m (k+1)) else X
  cases hp:p k
  ·exact ih (k+1) (by omega) (by omega)
  ·rfl
def dY (L:List (List Dat)) (k:Int):Bool:=!pi (bk L k) (db L k) (cO L k) (cJ L k) (cP L k)
def CQ (L:List (List Dat)) (own mark:Bool):LT:=.br (a7 (dY L) L.length 0) (.leaf .ret (mk (ln .ret) [.v (I (gg (dY L) L.length 0))] ⟨[],[],[rH L own mark]⟩)) (.leaf (.exit 0) (mk (ln (.exit 0)) [] ⟨[],[],[rH L own mark]⟩))
theorem qc1 (L:List (List Dat)) (own mark:Bool) (hl:co L=true):SZ (L.length+1) (L.length:Int) 0 L own mark=some (CQ L own mark).pick:=by
 have hll:=Co hl
 have h:=qg8 (dY L) (L.length:Int) (fun n k=>SZ n (L.length:Int) k L own mark) (some (.exit 0,mk (ln (.exit 0)) [] ⟨[],[],[rH L own mark]⟩)) (fun k=>some (.ret,mk (ln .ret) [.v (I k)] ⟨[],[],[rH L own mark]⟩)) (fun n k hk=>?_) (fun n k hk=>?_) L.length 0 (by omega) (by omega)
 ·refine h.trans ?_
  unfold CQ
  cases a7 (dY L) L.length 0<;>rfl
 ·refine (Lt (L.length:Int) k L own mark n).trans ?_
  rw [decide_eq_false hk]
  rfl
 ·refine (Lt (L.length:Int) k L own mark n).trans ?_
  rw [decide_eq_true hk.2,decide_eq_true hk.1,(wB hl hk.1 hk.2).2,aM (n:=k+1) (by omega)]
  show (bif dY L k then _ else _)=_
  cases dY L k<;>rfl
def JY (vals:List SV) (m:Mem):Option (Bool×LT) :=
 match vals,m with
 | [.row 0,.v (.func (.func 346) ⟨[]⟩ ⟨[]⟩),.v (.int .i64 nn),.v (.int .i64 k)],⟨[],[],[.live ⟨117,[.sl 162 [.num .i64,.num .i64],.num .i64,.num .i64,.num .i64,.num .i64],L,own,mark⟩]⟩=>some (nn==(L.length:Int)&&(k==0&&co L),CQ L own mark)
 | _,_=>none
def ΛIf:aV:=fun _ st=>fR 0 1 nF JY st
theorem qcR (z:Base) (z1:z.L.length=0) (z2:z.U.length=1):aQ ΛIf prog z ud:=by
 refine gV (Λ:=L0) (kx:=ln) Ip mixed z1 z2 (fun b hb st t h=>by cases h) (G:=JY) (fun _=>rfl) ?_
 intro vals m t h
 unfold JY at h
 split at h
 ·rename_i nn k L own mark
  obtain ⟨h1,rfl⟩:=aa h
  simp only [Bool.and_eq_true,beq_iff_eq] at h1
  obtain ⟨rfl,rfl,hl⟩:=h1
  exact ⟨_,qc1 L own mark hl⟩
 ·cases h
theorem qb8:loopsOf (f360.body.getD .skip)=[ud]:=by kernel_rfl
def xq (L:List (List Dat)):Int:=bif a7 (dY L) L.length 0 then gg (dY L) L.length 0 else -1
theorem Xf (L:List (List Dat)) (own:Bool) (mark:Bool):runG Γu7 ΛIf prog f360 [.row 0,.v (.func (.func 346) #[] #[])] ⟨[],[],[rH L own mark]⟩ =
 (bif (L.length:Int)==(L.length:Int)&&(true&&co L) then (bif a7 (dY L) L.length (0:Int) then some (.v (I (gg (dY L) L.length (0:Int))),⟨[],[],[.live ⟨117,aS,L,own,mark⟩]⟩) else some (.v (I (-1)),⟨[],[],[.live ⟨117,aS,L,own,mark⟩]⟩)) else none):=by kernel_rfl
def EK (xs:List SV) (m:Mem):Option (Bool×Value) :=
 match xs,m with
 | [.row 0,.v (.func (.func 346) ⟨[]⟩ ⟨[]⟩)],⟨[],[],[.live ⟨117,[.sl 162 [.num .i64,.num .i64],.num .i64,.num .i64,.num .i64,.num .i64],L,own,mark⟩]⟩=>some (co L,I (xq L))
 | _,_=>none
theorem qeJ:bi 360 EK:=by
 intro xs m r h
 unfold EK at h
 split at h
 ·rename_i L own mark
  obtain ⟨h1,rfl⟩:=aa h
  refine aj (Λ:=ΛIf) Ip func360 rfl (fun z z1 z2=>bW qb8 (qcR z z1 z2)) ?_
  refine (Xf L own mark).trans ?_
  rw [h1,beq_self_eq_true]
  unfold xq
  cases a7 (dY L) L.length 0<;>rfl
 ·cases h
def Γu8:Orc:=aR 360 EK Γu7
theorem QG:Γu8.Ok prog:=aL Ip qeJ
theorem Xl (L:List (List Dat)) (own:Bool) (mark:Bool):runG Γu8 L0 prog f345 [.row 0,.v (.func (.func 346) #[] #[])] ⟨[],[],[rH L own mark]⟩ =
 (bif co L then some (.v (Bo (decide (xq L>=(0:Int)))),⟨[],[],[.live ⟨117,aS,L,own,mark⟩]⟩) else none):=by kernel_rfl
def EO (xs:List SV) (m:Mem):Option (Bool×Value) :=
 match xs,m with
 | [.row 0,.v (.func (.func 346) ⟨[]⟩ ⟨[]⟩)],⟨[],[],[.live ⟨117,[.sl 162 [.num .i64,.num .i64],.num .i64,.num .i64,.num .i64,.num .i64],L,own,mark⟩]⟩=>some (co L,Bo (a7 (dY L) L.length 0))
 | _,_=>none
theorem qeO:bi 345 EO:=by
 intro xs m r h
 unfold EO at h
 split at h
 ·rename_i L own mark
  obtain ⟨h1,rfl⟩:=aa h
  refine aj (Λ:=L0) QG func345 rfl af ?_
  refine (Xl L own mark).trans ?_
  rw [h1]
  unfold xq
  have:=(OU (dY L) L.length 0).1
  cases a7 (dY L) L.length 0
  ·rfl
  ·show some (SV.v (Bo (decide (gg (dY L) L.length 0>=0))),_)=_
   rw [decide_eq_true (show gg (dY L) L.length 0>=0 from this)]
 ·cases h
def Γu9:Orc:=aR 345 EO Γu8
theorem QF:Γu9.Ok prog:=aL QG qeO
def wrB (L:List (List Dat)) (r1 r2 r3 r4 r5 r6 r7 r8:Int):Int:=bif !bF 1 4 (L.length:Int) then 1 else bif a7 (dY L) L.length 0 then 2 else bif !(bF 1 50 r1&&(bF 1 50 r2&&bF 1 50 r3)) then 3 else bif !bF 0 1024 r4 then 4 else bif !bF 1 65536 r5 then 5 else bif !bF 1 50 r6 then 6 else bif !bF 1 1073741824 r7 then 7 else bif !bF 0 (L.length:Int) r8 then 8 else 0
theorem W2 (r1:Int) (r2:Int) (r3:Int) (r4:Int) (r5:Int) (r6:Int) (r7:Int) (r8:Int) (L:List (List Dat)) (own:Bool) (mark:Bool):runG Γu9 L0 prog f312 [.ag [.row 0,.v (I r1),.v (I r2),.v (I r3),.v (I r4),.v (I r5),.v (I r6),.v (I r7),.v (I r8)]] ⟨[],[],[rH L own mark]⟩ =
 (bif !bF (1:Int) (4:Int) (L.length:Int) then some (.v (I 1),⟨[],[],[.live ⟨117,aS,L,own,mark⟩]⟩) else (bif co L then (bif a7 (dY L) L.length (0:Int) then some (.v (I 2),⟨[],[],[.live ⟨117,aS,L,own,mark⟩]⟩) else (bif !bF (1:Int) (50:Int) r1 then some (.v (I 3),⟨[],[],[.live ⟨117,aS,L,own,mark⟩]⟩) else (bif !bF (1:Int) (50:Int) r2 then some (.v (I 3),⟨[],[],[.live ⟨117,aS,L,own,mark⟩]⟩) else (bif !bF (1:Int) (50:Int) r3 then some (.v (I 3),⟨[],[],[.live ⟨117,aS,L,own,mark⟩]⟩) else (bif !bF (0:Int) (1024:Int) r4 then some (.v (I 4),⟨[],[],[.live ⟨117,aS,L,own,mark⟩]⟩) else (bif !bF (1:Int) (65536:Int) r5 then some (.v (I 5),⟨[],[],[.live ⟨117,aS,L,own,mark⟩]⟩) else (bif !bF (1:Int) (50:Int) r6 then some (.v (I 6),⟨[],[],[.live ⟨117,aS,L,own,mark⟩]⟩) else (bif !bF (1:Int) (1073741824:Int) r7 then some (.v (I 7),⟨[],[],[.live ⟨117,aS,L,own,mark⟩]⟩) else (bif !bF (0:Int) ((L.length:Int)) r8 then some (.v (I 8),⟨[],[],[.live ⟨117,aS,L,own,mark⟩]⟩) else some (.v (I 0),⟨[],[],[.live ⟨117,aS,L,own,mark⟩]⟩)))))))))) else none)):=by kernel_rfl
def Ey (xs:List SV) (m:Mem):Option (Bool×Value) :=
 match xs,m with
 | [.ag [.row 0,.v (.int .i64 r1),.v (.int .i64 r2),.v (.int .i64 r3),.v (.int .i64 r4),.v (.int .i64 r5),.v (.int .i64 r6),.v (.int .i64 r7),.v (.int .i64 r8)]],⟨[],[],[.live ⟨117,[.sl 162 [.num .i64,.num .i64],.num .i64,.num .i64,.num .i64,.num .i64],L,own,mark⟩]⟩=>some (co L,I (wrB L r1 r2 r3 r4 r5 r6 r7 r8))
 | _,_=>none
theorem qeD:bi 312 Ey:=by
 intro xs m r h
 unfold Ey at h
 split at h
 ·rename_i r1 r2 r3 r4 r5 r6 r7 r8 L own mark
  obtain ⟨h1,rfl⟩:=aa h
  refine aj (Λ:=L0) QF func312 rfl af ?_
  refine (W2 r1 r2 r3 r4 r5 r6 r7 r8 L own mark).trans ?_
  rw [h1]
  unfold wrB
  (cases bF 1 4 (L.length:Int)<;>first|rfl|(cases a7 (dY L) L.length 0<;>first|rfl|(cases bF 1 50 r1<;>first|rfl|(cases bF 1 50 r2<;>first|rfl|(cases bF 1 50 r3<;>first|rfl|(cases bF 0 1024 r4<;>first|rfl|(cases bF 1 65536 r5<;>first|rfl|(cases bF 1 50 r6<;>first|rfl|(cases bF 1 1073741824 r7<;>first|rfl|(cases bF 0 (L.length:Int) r8<;>first|rfl|rfl))))))))))
 ·cases h
def Γu10:Orc:=aR 312 Ey Γu9
theorem QN:Γu10.Ok prog:=aL QF qeD
theorem W8 (r1:Int) (r2:Int) (r3:Int) (r4:Int) (r5:Int) (r6:Int) (r7:Int) (r8:Int) (L:List (List Dat)) (own:Bool) (mark:Bool):runG Γu10 L0 prog f254 [.ag [.row 0,.v (I r1),.v (I r2),.v (I r3),.v (I r4),.v (I r5),.v (I r6),.v (I r7),.v (I r8)]] ⟨[],[],[rH L own mark]⟩ =
 (bif co L then some (.v (Bo (wrB L r1 r2 r3 r4 r5 r6 r7 r8==(0:Int))),⟨[],[],[.live ⟨117,aS,L,own,mark⟩]⟩) else none):=by kernel_rfl
def EB (xs:List SV) (m:Mem):Option (Bool×Value) :=
 match xs,m with
 | [.ag [.row 0,.v (.int .i64 r1),.v (.int .i64 r2),.v (.int .i64 r3),.v (.int .i64 r4),.v (.int .i64 r5),.v (.int .i64 r6),.v (.int .i64 r7),.v (.int .i64 r8)]],⟨[],[],[.live ⟨117,[.sl 162 [.num .i64,.num .i64],.num .i64,.num .i64,.num .i64,.num .i64],L,own,mark⟩]⟩=>some (co L,Bo (wrB L r1 r2 r3 r4 r5 r6 r7 r8==0))
 | _,_=>none
theorem qeG:bi 254 EB:=by
 intro xs m r h
 unfold EB at h
 split at h
 ·rename_i r1 r2 r3 r4 r5 r6 r7 r8 L own mark
  obtain ⟨h1,rfl⟩:=aa h
  refine aj (Λ:=L0) QN func254 rfl af ?_
  refine (W8 r1 r2 r3 r4 r5 r6 r7 r8 L own mark).trans ?_
  rw [h1]
  rfl
 ·cases h
def Γu11:Orc:=aR 254 EB Γu10
theorem qiU:Γu11.Ok prog:=aL QN qeG
def Γu12:Orc:=Γu11
theorem qiT:Γu12.Ok prog:=qiU
def Γu13:Orc:=Γu12
theorem QM:Γu13.Ok prog:=qiT
theorem Zr (g:Int) (v:Int) (m:Int) (u:Int) (L:List (List Dat)) (own:Bool) (mark:Bool):runG Γu13 L0 prog f278 [.ag [.row 0,.v (I g),.v (I v),.v (I m),.v (I u)]] ⟨[],[],[rP L own mark]⟩ =
 (bif Nat.blt (0:Nat) L.length&&L.length.ble (1000000) then some (.ag [.row 1,.v (I g),.v (I v),.v (I m),.v (I u)],⟨[],[],[.live ⟨162,[.num .i64,.num .i64],L,own,mark⟩,.live ⟨162,[.num .i64,.num .i64],L,true,false⟩]⟩) else none):=by kernel_rfl
def Gv (xs:List SV) (m:Mem):Option (Bool×SV×Mem) :=
 match xs,m with
 | [.ag [.row 0,.v (.int .i64 g),.v (.int .i64 v),.v (.int .i64 m),.v (.int .i64 u)]],⟨[],[],[.live ⟨162,[.num .i64,.num .i64],L,own,mark⟩]⟩=>some (Nat.blt 0 L.length&&Nat.ble L.length 1000000,.ag [.row 1,.v (I g),.v (I v),.v (I m),.v (I u)],⟨[],[],[rP L own mark,rP L true false]⟩)
 | _,_=>none
theorem qgo:aT 278 Gv:=by
 intro xs m r m' h
 unfold Gv at h
 split at h
 ·rename_i g v m u L own mark
  obtain ⟨h1,rfl,rfl⟩:=az h
  refine aj (Λ:=L0) QM func278 rfl af ?_
  refine (Zr g v m u L own mark).trans ?_
  rw [h1]
  rfl
 ·cases h
def Γu14:Orc:=aE 278 Gv Γu13
theorem QL:Γu14.Ok prog:=aA QM qgo
theorem Zw (L:List (List Dat)) (own:Bool) (mark:Bool):runG Γu14 L0 prog f325 [.row 0] ⟨[],[],[rH L own mark]⟩ =
 (bif Nat.blt (0:Nat) L.length then (bif decide (((0:Nat)+L.length)*(56:Nat)<=(140737488355328:Nat)/\(0:Nat)+L.length<=(9223372036854775807:Nat)) then some (.row 1,⟨[],[],[.live ⟨117,aS,L,own,mark⟩,.live ⟨117,[CK.sl 162 [CK0.num IntKind.i64,CK0.num IntKind.i64],.num .i64,.num .i64,.num .i64,.num .i64],L,true,false⟩]⟩) else none) else none):=by kernel_rfl
def GA (xs:List SV) (m:Mem):Option (Bool×SV×Mem) :=
 match xs,m with
 | [.row 0],⟨[],[],[.live ⟨117,[.sl 162 [.num .i64,.num .i64],.num .i64,.num .i64,.num .i64,.num .i64],L,own,mark⟩]⟩=>some (Nat.blt 0 L.length&&Nat.ble L.length 1000000,.row 1,⟨[],[],[rH L own mark,rH L true false]⟩)
 | _,_=>none
theorem qgt:aT 325 GA:=by
 intro xs m r m' h
 unfold GA at h
 split at h
 ·rename_i L own mark
  obtain ⟨h1,rfl,rfl⟩:=az h
  refine aj (Λ:=L0) QL func325 rfl af ?_
  refine (Zw L own mark).trans ?_
  rw [Bool.and_eq_true] at h1
  have h2:=Nat.le_of_ble_eq_true h1.2
  rw [h1.1,decide_eq_true (show (0+L.length)*56<=140737488355328/\0+L.length<=9223372036854775807 by omega)]
  rfl
 ·cases h
def Γu15:Orc:=aE 325 GA Γu14
theorem Iq:Γu15.Ok prog:=aA QL qgt
def fK:Code:=bX (f262.body.getD .skip) 0
def cL:List Bool:=aB 25 [1,2,10,11,12]
def oJ (e:Ex):List Bool:=match e with
 | .exit _=>aB 25 [1,2]
 | .ret=>aB 25 [2]
 | .normal=>aB 25 [1,2,10,11,12]
def gG (e:Ex) (st:St):Option (Ex×St):=some (e,ab 0 1 (oJ e) st)
theorem UN (r1:Int) (r2:Int) (r3:Int) (r4:Int) (r5:Int) (r6:Int) (r7:Int) (r8:Int) (nn:Int) (k:Int) (L:List (List Dat)) (own:Bool) (mark:Bool) (M:List (List Dat)) (n:Nat):ao Γu15 prog L0 (ab 0 1 cL) fK (n+1) (mk cL [.ptr 0 0,.ptr 1 0,.row 1,.v (I nn),.v (I k)] ⟨[[.row 1,.v (I r1),.v (I r2),.v (I r3),.v (I r4),.v (I r5),.v (I r6),.v (I r7),.v (I r8)],[.v (.slice none 0 0),.v (I 0),.v (I 0),.v (I 0),.v (I 0),.v (I 0),.v (I 0),.v (I 0),.v (I 0)]],[true,true],[rH L own mark,rH M true false]⟩) gG =
 (bif decide (k<nn) then (bif decide ((0:Int)<=k)&&decide (k<(M.length:Int)) then (same ((same ((same ((bif Nat.blt (0:Nat) (bk M k).length&&(bk M k).length.ble (1000000) then (bif decide ((0:Int)<=k)&&decide (k<(M.length:Int)) then ao Γu15 prog L0 (ab 0 1 cL) fK n (mk cL [.ptr 0 0,.ptr 1 0,.row 1,.v (I nn),.v (I (wI (k+(1:Int))))] ⟨[[.row 1,.v (I r1),.v (I r2),.v (I r3),.v (I r4),.v (I r5),.v (I r6),.v (I r7),.v (I r8)],[.v (Value.slice none (0:Nat) (0:Nat)),.v (I 0),.v (I 0),.v (I 0),.v (I 0),.v (I 0),.v (I 0),.v (I 0),.v (I 0)]],[true,true],[.live ⟨117,aS,L,own,mark⟩,.live ⟨117,aS,M.set k.toNat (dR (M.getD k.toNat []) (0:Nat) [Dat.l (Value.slice none (0:Nat) (0:Nat)) (bk M k),Dat.n (db M k),Dat.n (cO M k),Dat.n (cJ M k),Dat.n (cP M k)]),true,false⟩]⟩) gG else none) else none)) ((bif Nat.blt (0:Nat) (bk M k).length&&(bk M k).length.ble (1000000) then (bif decide ((0:Int)<=k)&&decide (k<(M.length:Int)) then ao Γu15 prog L0 (ab 0 1 cL) fK n (mk cL [.ptr 0 0,.ptr 1 0,.row 1,.v (I nn),.v (I (wI (k+(1:Int))))] ⟨[[.row 1,.v (I r1),.v (I r2),.v (I r3),.v (I r4),.v (I r5),.v (I r6),.v (I r7),.v (I r8)],[.v (Value.slice none (0:Nat) (0:Nat)),.v (I 0),.v (I 0),.v (I 0),.v (I 0),.v (I 0),.v (I 0),.v (I 0),.v (I 0)]],[true,true],[.live ⟨117,aS,L,own,mark⟩,.live ⟨117,aS,M.set k.toNat (dR (M.getD k.toNat []) (0:Nat) [Dat.l (Value.slice none (0:Nat) (0:Nat)) (bk M k),Dat.n (db M k),Dat.n (cO M k),Dat.n (cJ M k),Dat.n (cP M k)]),true,false⟩]⟩) gG else none) else none)))) ((same ((same ((bif Nat.blt (0:Nat) (bk M k).length&&(bk M k).length.ble (1000000) then (bif decide ((0:Int)<=k)&&decide (k<(M.length:Int)) then ao Γu15 prog L0 (ab 0 1 cL) fK n (mk cL [.ptr 0 0,.ptr 1 0,.row 1,.v (I nn),.v (I (wI (k+(1:Int))))] ⟨[[.row 1,.v (I r1),.v (I r2),.v (I r3),.v (I r4),.v (I r5),.v (I r6),.v (I r7),.v (I r8)],[.v (Value.slice none (0:Nat) (0:Nat)),.v (I 0),.v (I 0),.v (I 0),.v (I 0),.v (I 0),.v (I 0),.v (I 0),.v (I 0)]],[true,true],[.live ⟨117,aS,L,own,mark⟩,.live ⟨117,aS,M.set k.toNat (dR (M.getD k.toNat []) (0:Nat) [Dat.l (Value.slice none (0:Nat) (0:Nat)) (bk M k),Dat.n (db M k),Dat.n (cO M k),Dat.n (cJ M k),Dat.n (cP M k)]),true,false⟩]⟩) gG else none) else none)) ((bif Nat.blt (0:Nat) (bk M k).length&&(bk M k).length.ble (1000000) then (bif decide ((0:Int)<=k)&&decide (k<(M.length:Int)) then ao Γu15 prog L0 (ab 0 1 cL) fK n (mk cL [.ptr 0 0,.ptr 1 0,.row 1,.v (I nn),.v (I (wI (k+(1:Int))))] ⟨[[.row 1,.v (I r1),.v (I r2),.v (I r3),.v (I r4),.v (I r5),.v (I r6),.v (I r7),.v (I r8)],[.v (Value.slice none (0:Nat) (0:Nat)),.v (I 0),.v (I 0),.v (I 0),.v (I 0),.v (I 0),.v (I 0),.v (I 0),.v (I 0)]],[true,true],[.live ⟨117,aS,L,own,mark⟩,.live ⟨117,aS,M.set k.toNat (dR (M.getD k.toNat []) (0:Nat) [Dat.l (Value.slice none (0:Nat) (0:Nat)) (bk M k),Dat.n (db M k),Dat.n (cO M k),Dat.n (cJ M k),Dat.n (cP M k)]),true,false⟩]⟩) gG else none) else none)))) ((bif Nat.blt (0:Nat) (bk M k).length&&(bk M k).length.ble (1000000) then (bif decide ((0:Int)<=k)&&decide (k<(M.length:Int)) then ao Γu15 prog L0 (ab 0 1 cL) fK n (mk cL [.ptr 0 0,.ptr 1 0,.row 1,.v (I nn),.v (I (wI (k+(1:Int))))] ⟨[[.row 1,.v (I r1),.v (I r2),.v (I r3),.v (I r4),.v (I r5),.v (I r6),.v (I r7),.v (I r8)],[.v (Value.slice none (0:Nat) (0:Nat)),.v (I 0),.v (I 0),.v (I 0),.v (I 0),.v (I 0),.v (I 0),.v (I 0),.v (I 0)]],[true,true],[.live ⟨117,aS,L,own,mark⟩,.live ⟨117,aS,M.set k.toNat (dR (M.getD k.toNat []) (0:Nat) [Dat.l (Value.slice none (0:Nat) (0:Nat)) (bk M k),Dat.n (db M k),Dat.n (cO M k),Dat.n (cJ M k),Dat.n (cP M k)]),true,false⟩]⟩) gG else none) else none)))))) ((same ((same ((same ((bif Nat.blt (0:Nat) (bk M k).length&&(bk M k).length.ble (1000000) then (bif decide ((0:Int)<=k)&&decide (k<(M.length:Int)) then ao Γu15 prog L0 (ab 0 1 cL) fK n (mk cL [.ptr 0 0,.ptr 1 0,.row 1,.v (I nn),.v (I (wI (k+(1:Int))))] ⟨[[.row 1,.v (I r1),.v (I r2),.v (I r3),.v (I r4),.v (I r5),.v (I r6),.v (I r7),.v (I r8)],[.v (Value.slice none (0:Nat) (0:Nat)),.v (I 0),.v (I 0),.v (I 0),.v (I 0),.v (I 0),.v (I 0),.v (I 0),.v (I 0)]],[true,true],[.live ⟨117,aS,L,own,mark⟩,.live ⟨117,aS,M.set k.toNat (dR (M.getD k.toNat []) (0:Nat) [Dat.l (Value.slice none (0:Nat) (0:Nat)) (bk M k),Dat.n (db M k),Dat.n (cO M k),Dat.n (cJ M k),Dat.n (cP M k)]),true,false⟩]⟩) gG else none) else none)) ((bif Nat.blt (0:Nat) (bk M k).length&&(bk M k).length.ble (1000000) then (bif decide ((0:Int)<=k)&&decide (k<(M.length:Int)) then ao Γu15 prog L0 (ab 0 1 cL) fK n (mk cL [.ptr 0 0,.ptr 1 0,.row 1,.v (I nn),.v (I (wI (k+(1:Int))))] ⟨[[.row 1,.v (I r1),.v (I r2),.v (I r3),.v (I r4),.v (I r5),.v (I r6),.v (I r7),.v (I r8)],[.v (Value.slice none (0:Nat) (0:Nat)),.v (I 0),.v (I 0),.v (I 0),.v (I 0),.v (I 0),.v (I 0),.v (I 0),.v (I 0)]],[true,true],[.live ⟨117,aS,L,own,mark⟩,.live ⟨117,aS,M.set k.toNat (dR (M.getD k.toNat []) (0:Nat) [Dat.l (Value.slice none (0:Nat) (0:Nat)) (bk M k),Dat.n (db M k),Dat.n (cO M k),Dat.n (cJ M k),Dat.n (cP M k)]),true,false⟩]⟩) gG else none) else none)))) ((bif Nat.blt (0:Nat) (bk M k).length&&(bk M k).length.ble (1000000) then (bif decide ((0:Int)<=k)&&decide (k<(M.length:Int)) then ao Γu15 prog L0 (ab 0 1 cL) fK n (mk cL [.ptr 0 0,.ptr 1 0,.row 1,.v (I nn),.v (I (wI (k+(1:Int))))] ⟨[[.row 1,.v (I r1),.v (I r2),.v (I r3),.v (I r4),.v (I r5),.v (I r6),.v (I r7),.v (I r8)],[.v (Value.slice none (0:Nat) (0:Nat)),.v (I 0),.v (I 0),.v (I 0),.v (I 0),.v (I 0),.v (I 0),.v (I 0),.v (I 0)]],[true,true],[.live ⟨117,aS,L,own,mark⟩,.live ⟨117,aS,M.set k.toNat (dR (M.getD k.toNat []) (0:Nat) [Dat.l (Value.slice none (0:Nat) (0:Nat)) (bk M k),Dat.n (db M k),Dat.n (cO M k),Dat.n (cJ M k),Dat.n (cP M k)]),true,false⟩]⟩) gG else none) else none)))) ((bif Nat.blt (0:Nat) (bk M k).length&&(bk M k).length.ble (1000000) then (bif decide ((0:Int)<=k)&&decide (k<(M.length:Int)) then ao Γu15 prog L0 (ab 0 1 cL) fK n (mk cL [.ptr 0 0,.ptr 1 0,.row 1,.v (I nn),.v (I (wI (k+(1:Int))))] ⟨[[.row 1,.v (I r1),.v (I r2),.v (I r3),.v (I r4),.v (I r5),.v (I r6),.v (I r7),.v (I r8)],[.v (Value.slice none (0:Nat) (0:Nat)),.v (I 0),.v (I 0),.v (I 0),.v (I 0),.v (I 0),.v (I 0),.v (I 0),.v (I 0)]],[true,true],[.live ⟨117,aS,L,own,mark⟩,.live ⟨117,aS,M.set k.toNat (dR (M.getD k.toNat []) (0:Nat) [Dat.l (Value.slice none (0:Nat) (0:Nat)) (bk M k),Dat.n (db M k),Dat.n (cO M k),Dat.n (cJ M k),Dat.n (cP M k)]),true,false⟩]⟩) gG else none) else none))))) else none) else some ((.exit 0),mk (oJ (.exit 0)) [.ptr 0 0,.ptr 1 0] ⟨[[.row 1,.v (I r1),.v (I r2),.v (I r3),.v (I r4),.v (I r5),.v (I r6),.v (I r7),.v (I r8)],[.v (Value.slice none (0:Nat) (0:Nat)),.v (I 0),.v (I 0),.v (I 0),.v (I 0),.v (I 0),.v (I 0),.v (I 0),.v (I 0)]],[true,true],[.live ⟨117,aS,L,own,mark⟩,.live ⟨117,aS,M,true,false⟩]⟩)):=by kernel_rfl
theorem Lu (r1:Int) (r2:Int) (r3:Int) (r4:Int) (r5:Int) (r6:Int) (r7:Int) (r8:Int) (nn:Int) (k:Int) (L:List (List Dat)) (own:Bool) (mark:Bool) (M:List (List Dat)) (n:Nat):ao Γu15 prog L0 (ab 0 1 cL) fK (n+1) (mk cL [.ptr 0 0,.ptr 1 0,.row 1,.v (I nn),.v (I k)] ⟨[[.row 1,.v (I r1),.v (I r2),.v (I r3),.v (I r4),.v (I r5),.v (I r6),.v (I r7),.v (I r8)],[.v (.slice none 0 0),.v (I 0),.v (I 0),.v (I 0),.v (I 0),.v (I 0),.v (I 0),.v (I 0),.v (I 0)]],[true,true],[rH L own mark,rH M true false]⟩) gG =
 (bif decide (k<nn) then (bif decide ((0:Int)<=k)&&decide (k<(M.length:Int)) then (bif Nat.blt (0:Nat) (bk M k).length&&(bk M k).length.ble (1000000) then (bif decide ((0:Int)<=k)&&decide (k<(M.length:Int)) then ao Γu15 prog L0 (ab 0 1 cL) fK n (mk cL [.ptr 0 0,.ptr 1 0,.row 1,.v (I nn),.v (I (wI (k+(1:Int))))] ⟨[[.row 1,.v (I r1),.v (I r2),.v (I r3),.v (I r4),.v (I r5),.v (I r6),.v (I r7),.v (I r8)],[.v (Value.slice none (0:Nat) (0:Nat)),.v (I 0),.v (I 0),.v (I 0),.v (I 0),.v (I 0),.v (I 0),.v (I 0),.v (I 0)]],[true,true],[.live ⟨117,aS,L,own,mark⟩,.live ⟨117,aS,M.set k.toNat (dR (M.getD k.toNat []) (0:Nat) [Dat.l (Value.slice none (0:Nat) (0:Nat)) (bk M k),Dat.n (db M k),Dat.n (cO M k),Dat.n (cJ M k),Dat.n (cP M k)]),true,false⟩]⟩) gG else none) else none) else none) else some ((.exit 0),mk (oJ (.exit 0)) [.ptr 0 0,.ptr 1 0] ⟨[[.row 1,.v (I r1),.v (I r2),.v (I r3),.v (I r4),.v (I r5),.v (I r6),.v (I r7),.v (I r8)],[.v (Value.slice none (0:Nat) (0:Nat)),.v (I 0),.v (I 0),.v (I 0),.v (I 0),.v (I 0),.v (I 0),.v (I 0),.v (I 0)]],[true,true],[.live ⟨117,aS,L,own,mark⟩,.live ⟨117,aS,M,true,false⟩]⟩)):=(UN _ _ _ _ _ _ _ _ _ _ _ _ _ _ _).trans (by simp only [fY])
def S0 (n:Nat) (r1:Int) (r2:Int) (r3:Int) (r4:Int) (r5:Int) (r6:Int) (r7:Int) (r8:Int) (nn:Int) (k:Int) (L:List (List Dat)) (own:Bool) (mark:Bool) (M:List (List Dat)):Option (Ex×St) :=
 ao Γu15 prog L0 (ab 0 1 cL) fK n (mk cL [.ptr 0 0,.ptr 1 0,.row 1,.v (I nn),.v (I k)] ⟨[[.row 1,.v (I r1),.v (I r2),.v (I r3),.v (I r4),.v (I r5),.v (I r6),.v (I r7),.v (I r8)],[.v (.slice none 0 0),.v (I 0),.v (I 0),.v (I 0),.v (I 0),.v (I 0),.v (I 0),.v (I 0),.v (I 0)]],[true,true],[rH L own mark,rH M true false]⟩) gG
def fq (L:List (List Dat)):Bool:=L.all fun l=>Nat.blt 0 (l.headD (.n 0)).toL.length
theorem Mw {L:List (List Dat)} (h:fq L=true) {k:Int} (h0:0<=k) (h1:k<(L.length:Int)):Nat.blt 0 (bk L k).length=true:=by
 have hk:k.toNat<L.length:=by omega
 have hm:L.getD k.toNat []∈L:=by
  rw [List.getD,List.getElem?_eq_getElem hk]
  exact List.getElem_mem hk
 exact List.all_eq_true.1 h _ hm
theorem U5 {α:Type} {L:List α} {k:Nat} {x:α} (d:α) (hx:L.getD k d=x) (hk:k<L.length):L.set k x=L:=by
 subst hx
 apply List.ext_getElem?
 intro i
 by_cases hi:k=i
 ·subst hi
  rw [List.getElem?_set_self hk,List.getD,List.getElem?_eq_getElem hk]
  rfl
 ·rw [List.getElem?_set_ne hi]
theorem U7 {L:List (List Dat)} (h:co L=true) {k:Int} (h0:0<=k) (h1:k<(L.length:Int)):L.set k.toNat (dR (L.getD k.toNat []) 0 [.l (.slice none 0 0) (bk L k),.n (db L k),.n (cO L k),.n (cJ L k),.n (cP L k)])=L:=by
 have e:=(wB h h0 h1).1
 refine U5 [] ?_ (by omega)
 rw [e]
 rfl
def NK (r1 r2 r3 r4 r5 r6 r7 r8:Int) (L:List (List Dat)) (own mark:Bool):LT:=.leaf (.exit 0) (mk (oJ (.exit 0)) [.ptr 0 0,.ptr 1 0] ⟨[[.row 1,.v (I r1),.v (I r2),.v (I r3),.v (I r4),.v (I r5),.v (I r6),.v (I r7),.v (I r8)],[.v (.slice none 0 0),.v (I 0),.v (I 0),.v (I 0),.v (I 0),.v (I 0),.v (I 0),.v (I 0),.v (I 0)]],[true,true],[rH L own mark,rH L true false]⟩)
theorem qc2 (r1 r2 r3 r4 r5 r6 r7 r8:Int) (L:List (List Dat)) (own mark:Bool) (hl:co L=true) (hn:fq L=true):S0 (L.length+1) r1 r2 r3 r4 r5 r6 r7 r8 (L.length:Int) 0 L own mark L=some (NK r1 r2 r3 r4 r5 r6 r7 r8 L own mark).pick:=by
 have hll:=Co hl
 refine (qg4 (fun _ s=>s) (fun _ _=>True) (L.length:Int) (fun n k (s:Unit)=>S0 n r1 r2 r3 r4 r5 r6 r7 r8 (L.length:Int) k L own mark L) (fun _=>some (.exit 0,mk (oJ (.exit 0)) [.ptr 0 0,.ptr 1 0] ⟨[[.row 1,.v (I r1),.v (I r2),.v (I r3),.v (I r4),.v (I r5),.v (I r6),.v (I r7),.v (I r8)],[.v (.slice none 0 0),.v (I 0),.v (I 0),.v (I 0),.v (I 0),.v (I 0),.v (I 0),.v (I 0),.v (I 0)]],[true,true],[rH L own mark,rH L true false]⟩)) (fun n k s hk _=>?_) (fun _ _ _ _=>trivial) (fun n k s hk _=>?_) L.length 0 () (by omega) (by omega) trivial).trans rfl
 ·refine (Lu r1 r2 r3 r4 r5 r6 r7 r8 (L.length:Int) k L own mark L n).trans ?_
  rw [decide_eq_false hk]
  rfl
 ·refine (Lu r1 r2 r3 r4 r5 r6 r7 r8 (L.length:Int) k L own mark L n).trans ?_
  rw [U7 hl hk.1 hk.2,decide_eq_true hk.2,decide_eq_true hk.1,(wB hl hk.1 hk.2).2,Mw hn hk.1 hk.2,aM (n:=k+1) (by omega)]
  rfl
def J2 (vals:List SV) (m:Mem):Option (Bool×LT) :=
 match vals,m with
 | [.ptr 0 0,.ptr 1 0,.row 1,.v (.int .i64 nn),.v (.int .i64 k)],⟨[[.row 1,.v (.int .i64 r1),.v (.int .i64 r2),.v (.int .i64 r3),.v (.int .i64 r4),.v (.int .i64 r5),.v (.int .i64 r6),.v (.int .i64 r7),.v (.int .i64 r8)],[.v (.slice none 0 0),.v (.int .i64 0),.v (.int .i64 0),.v (.int .i64 0),.v (.int .i64 0),.v (.int .i64 0),.v (.int .i64 0),.v (.int .i64 0),.v (.int .i64 0)]],[true,true],[.live ⟨117,[.sl 162 [.num .i64,.num .i64],.num .i64,.num .i64,.num .i64,.num .i64],L,own,mark⟩,.live ⟨117,[.sl 162 [.num .i64,.num .i64],.num .i64,.num .i64,.num .i64,.num .i64],M,true,false⟩]⟩=>some (nn==(L.length:Int)&&(k==0&&(co L&&(fq L&&eQ (M=L)))),NK r1 r2 r3 r4 r5 r6 r7 r8 L own mark)
 | _,_=>none
def ΛCo:aV:=fun _ st=>fR 0 1 cL J2 st
theorem qcV (z:Base) (z1:z.L.length=0) (z2:z.U.length=1):aQ ΛCo prog z fK:=by
 refine gV (Λ:=L0) (kx:=oJ) Iq mixed z1 z2 (fun b hb st t h=>by cases h) (G:=J2) (fun _=>rfl) ?_
 intro vals m t h
 unfold J2 at h
 split at h
 ·rename_i nn k r1 r2 r3 r4 r5 r6 r7 r8 L own mark M
  obtain ⟨h1,rfl⟩:=aa h
  simp only [Bool.and_eq_true,beq_iff_eq,nH] at h1
  obtain ⟨rfl,rfl,hl,hn,rfl⟩:=h1
  exact ⟨_,qc2 r1 r2 r3 r4 r5 r6 r7 r8 M own mark hl hn⟩
 ·cases h
theorem qcf:loopsOf (f262.body.getD .skip)=[fK]:=by kernel_rfl
theorem Zq (r1:Int) (r2:Int) (r3:Int) (r4:Int) (r5:Int) (r6:Int) (r7:Int) (r8:Int) (L:List (List Dat)) (own:Bool) (mark:Bool):runG Γu15 ΛCo prog f262 [.ag [.row 0,.v (I r1),.v (I r2),.v (I r3),.v (I r4),.v (I r5),.v (I r6),.v (I r7),.v (I r8)]] ⟨[],[],[rH L own mark]⟩ =
 (bif Nat.blt (0:Nat) L.length&&L.length.ble (1000000) then (bif (L.length:Int)==(L.length:Int)&&(true&&(co L&&(fq L&&eQ (L=L)))) then some (.ag [.row 1,.v (I r1),.v (I r2),.v (I r3),.v (I r4),.v (I r5),.v (I r6),.v (I r7),.v (I r8)],⟨[],[],[.live ⟨117,aS,L,own,mark⟩,.live ⟨117,aS,L,true,false⟩]⟩) else none) else none):=by kernel_rfl
def Gu (xs:List SV) (m:Mem):Option (Bool×SV×Mem) :=
 match xs,m with
 | [.ag [.row 0,.v (.int .i64 r1),.v (.int .i64 r2),.v (.int .i64 r3),.v (.int .i64 r4),.v (.int .i64 r5),.v (.int .i64 r6),.v (.int .i64 r7),.v (.int .i64 r8)]],⟨[],[],[.live ⟨117,[.sl 162 [.num .i64,.num .i64],.num .i64,.num .i64,.num .i64,.num .i64],L,own,mark⟩]⟩=>some (co L&&(fq L&&Nat.blt 0 L.length),.ag [.row 1,.v (I r1),.v (I r2),.v (I r3),.v (I r4),.v (I r5),.v (I r6),.v (I r7),.v (I r8)],⟨[],[],[rH L own mark,rH L true false]⟩)
 | _,_=>none
theorem qgn:aT 262 Gu:=by
 intro xs m r m' h
 unfold Gu at h
 split at h
 ·rename_i r1 r2 r3 r4 r5 r6 r7 r8 L own mark
  obtain ⟨h1,rfl,rfl⟩:=az h
  refine aj (Λ:=ΛCo) Iq func262 rfl (fun z z1 z2=>bW qcf (qcV z z1 z2)) ?_
  refine (Zq r1 r2 r3 r4 r5 r6 r7 r8 L own mark).trans ?_
  rw [Bool.and_eq_true,Bool.and_eq_true] at h1
  obtain ⟨h1,h2,h3⟩:=h1
  have h4:=Co h1
  rw [h1,h2,h3,show Nat.ble L.length 1000000=true from Nat.ble_eq_true_of_le h4,beq_self_eq_true,nH.2 rfl]
  rfl
 ·cases h
def Γu16:Orc:=aE 262 Gu Γu15
theorem qiS:Γu16.Ok prog:=aA Iq qgn
def ΓR3:Orc:=Γu16
theorem OkR3:ΓR3.Ok prog:=qiS
end Go.Proofs.YtainfdcfkgemhaaGreat
namespace Go.Proofs.YtainfdcfkgemhaaGreat
open Go Go.Proofs Go.Sx
def ΓA13:Orc:=ΓR3
theorem mC:ΓA13.Ok prog:=OkR3
end Go.Proofs.YtainfdcfkgemhaaGreat
