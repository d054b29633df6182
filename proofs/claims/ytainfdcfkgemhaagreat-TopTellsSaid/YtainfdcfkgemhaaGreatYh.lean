/-
  What is known of this program: phases,pairs,impacts,verdicts.
-/
import Derived.Test.YtainfdcfkgemhaaGreatYc
import Derived.Test.YtainfdcfkgemhaaGreatYe
import Derived.Test.YtainfdcfkgemhaaGreatYg
import Derived.Test.YtainfdcfkgemhaaGreatYa
set_option maxRecDepth 100000
noncomputable section
open Go.Proofs.Tryz
namespace Go.Proofs.YtainfdcfkgemhaaGreat.Ph
open Go Go.Proofs Go.Sx
def Γv1:Orc:=aw 280 sZ ΓA13
theorem qih:Γv1.Ok prog:=aq uy DW
def Γv2:Orc:=aw 175 gCUp Γv1
theorem qig:Γv2.Ok prog:=aq qih gCUp_ok
def Γv3:Orc:=aw 217 tc Γv2
theorem qif:Γv3.Ok prog:=aq qig Gz
def Γv4:Orc:=aw 176 tf Γv3
theorem Ie:Γv4.Ok prog:=aq qif GA
end Go.Proofs.YtainfdcfkgemhaaGreat.Ph
namespace Go.Proofs.YtainfdcfkgemhaaGreat.Ph
open Go Go.Proofs Go.Sx
set_option linter.unusedVariables false
def SW (f:FuncId):Bool:=AH f||(Nat.beq f 214||Nat.beq f 144||Nat.beq f 194||Nat.beq f 152||Nat.beq f 195||false)
def Γp0:Orc:={ Γv4 with wr:=SW,sb:=true,bs:=true }
theorem QJ:Γp0.Ok prog:=⟨Ie.call,Ie.rd,Ie.eqv⟩
theorem Xp (r1:Int) (r2:Int) (r3:Int) (r4:Int) (r5:Int) (r6:Int) (r7:Int) (r8:Int) (p:Int) (a:Int) (v:Int) (L:List (List Dat)) (own:Bool) (mark:Bool):runG Γp0 L0 prog f220 [.ptr 0 0] ⟨[[.row 0,.v (I r1),.v (I r2),.v (I r3),.v (I r4),.v (I r5),.v (I r6),.v (I r7),.v (I r8),.v (I p),.ptr 1 0],[.v (I a),.v (I v)]],[true,true],[rH L own mark]⟩ =
 some (.v (Bo (decide (p>=wI ((L.length:Int) - (1:Int))))),⟨[[.row 0,.v (I r1),.v (I r2),.v (I r3),.v (I r4),.v (I r5),.v (I r6),.v (I r7),.v (I r8),.v (I p),.ptr 1 0],[.v (I a),.v (I v)]],[true,true],[.live ⟨117,aP,L,own,mark⟩]⟩):=by kernel_rfl
def ES (xs:List SV) (m:Mem):Option (Bool×Value) :=
 match xs,m with
 | [.ptr 0 0],⟨[[.row 0,.v (.int .i64 r1),.v (.int .i64 r2),.v (.int .i64 r3),.v (.int .i64 r4),.v (.int .i64 r5),.v (.int .i64 r6),.v (.int .i64 r7),.v (.int .i64 r8),.v (.int .i64 p),.ptr 1 0],[.v (.int .i64 a),.v (.int .i64 v)]],[true,true],[.live ⟨117,[.sl 162 [.num .i64,.num .i64],.num .i64,.num .i64,.num .i64,.num .i64],L,own,mark⟩]⟩=>some (true,Bo (decide (p>=wI ((L.length:Int) - 1))))
 | _,_=>none
theorem qer:bi 220 ES:=by
 intro xs m r h
 unfold ES at h
 split at h
 ·rename_i r1 r2 r3 r4 r5 r6 r7 r8 p a v L own mark
  obtain ⟨h1,rfl⟩:=ab h
  refine af (Λ:=L0) QJ func220 rfl ai ?_
  refine (Xp r1 r2 r3 r4 r5 r6 r7 r8 p a v L own mark).trans ?_
  rfl
 ·cases h
def Γp1:Orc:=aQ 220 ES Γp0
theorem QI:Γp1.Ok prog:=aJ QJ qer
theorem Xq (r1:Int) (r2:Int) (r3:Int) (r4:Int) (r5:Int) (r6:Int) (r7:Int) (r8:Int) (p:Int) (a:Int) (v:Int) (L:List (List Dat)) (own:Bool) (mark:Bool):runG Γp1 L0 prog f154 [.ptr 0 0] ⟨[[.row 0,.v (I r1),.v (I r2),.v (I r3),.v (I r4),.v (I r5),.v (I r6),.v (I r7),.v (I r8),.v (I p),.ptr 1 0],[.v (I a),.v (I v)]],[true,true],[rH L own mark]⟩ =
 some (.v (I v),⟨[[.row 0,.v (I r1),.v (I r2),.v (I r3),.v (I r4),.v (I r5),.v (I r6),.v (I r7),.v (I r8),.v (I p),.ptr 1 0],[.v (I a),.v (I v)]],[true,true],[.live ⟨117,aP,L,own,mark⟩]⟩):=by kernel_rfl
def gPin (xs:List SV) (m:Mem):Option (Bool×Value) :=
 match xs,m with
 | [.ptr 0 0],⟨[[.row 0,.v (.int .i64 r1),.v (.int .i64 r2),.v (.int .i64 r3),.v (.int .i64 r4),.v (.int .i64 r5),.v (.int .i64 r6),.v (.int .i64 r7),.v (.int .i64 r8),.v (.int .i64 p),.ptr 1 0],[.v (.int .i64 a),.v (.int .i64 v)]],[true,true],[.live ⟨117,[.sl 162 [.num .i64,.num .i64],.num .i64,.num .i64,.num .i64,.num .i64],L,own,mark⟩]⟩=>some (true,I v)
 | _,_=>none
theorem gPin_ok:bi 154 gPin:=by
 intro xs m r h
 unfold gPin at h
 split at h
 ·rename_i r1 r2 r3 r4 r5 r6 r7 r8 p a v L own mark
  obtain ⟨h1,rfl⟩:=ab h
  refine af (Λ:=L0) QI func154 rfl ai ?_
  refine (Xq r1 r2 r3 r4 r5 r6 r7 r8 p a v L own mark).trans ?_
  rfl
 ·cases h
def Γp2:Orc:=aQ 154 gPin Γp1
theorem QH:Γp2.Ok prog:=aJ QI gPin_ok
theorem Xm (r1:Int) (r2:Int) (r3:Int) (r4:Int) (r5:Int) (r6:Int) (r7:Int) (r8:Int) (p:Int) (a:Int) (v:Int) (L:List (List Dat)) (own:Bool) (mark:Bool):runG Γp2 L0 prog f150 [.ptr 0 0] ⟨[[.row 0,.v (I r1),.v (I r2),.v (I r3),.v (I r4),.v (I r5),.v (I r6),.v (I r7),.v (I r8),.v (I p),.ptr 1 0],[.v (I a),.v (I v)]],[true,true],[rH L own mark]⟩ =
 some (.v (I p),⟨[[.row 0,.v (I r1),.v (I r2),.v (I r3),.v (I r4),.v (I r5),.v (I r6),.v (I r7),.v (I r8),.v (I p),.ptr 1 0],[.v (I a),.v (I v)]],[true,true],[.live ⟨117,aP,L,own,mark⟩]⟩):=by kernel_rfl
def gPph (xs:List SV) (m:Mem):Option (Bool×Value) :=
 match xs,m with
 | [.ptr 0 0],⟨[[.row 0,.v (.int .i64 r1),.v (.int .i64 r2),.v (.int .i64 r3),.v (.int .i64 r4),.v (.int .i64 r5),.v (.int .i64 r6),.v (.int .i64 r7),.v (.int .i64 r8),.v (.int .i64 p),.ptr 1 0],[.v (.int .i64 a),.v (.int .i64 v)]],[true,true],[.live ⟨117,[.sl 162 [.num .i64,.num .i64],.num .i64,.num .i64,.num .i64,.num .i64],L,own,mark⟩]⟩=>some (true,I p)
 | _,_=>none
theorem gPph_ok:bi 150 gPph:=by
 intro xs m r h
 unfold gPph at h
 split at h
 ·rename_i r1 r2 r3 r4 r5 r6 r7 r8 p a v L own mark
  obtain ⟨h1,rfl⟩:=ab h
  refine af (Λ:=L0) QH func150 rfl ai ?_
  refine (Xm r1 r2 r3 r4 r5 r6 r7 r8 p a v L own mark).trans ?_
  rfl
 ·cases h
def Γp3:Orc:=aQ 150 gPph Γp2
theorem QG:Γp3.Ok prog:=aJ QH gPph_ok
def wishB (L:List (List Dat)) (p v h:Int) (kn:Bool):Bool:=bif decide (p>=wI ((L.length:Int) - 1)) then false else bif !kn then false else bif decide (v>=cV L p) then decide (h>=c4 L p) else false
theorem Xi (ht:Int) (kn:Bool) (r1:Int) (r2:Int) (r3:Int) (r4:Int) (r5:Int) (r6:Int) (r7:Int) (r8:Int) (p:Int) (a:Int) (v:Int) (L:List (List Dat)) (own:Bool) (mark:Bool):runG Γp3 L0 prog f151 [.ptr 0 0,.v (I ht),.v (Bo kn)] ⟨[[.row 0,.v (I r1),.v (I r2),.v (I r3),.v (I r4),.v (I r5),.v (I r6),.v (I r7),.v (I r8),.v (I p),.ptr 1 0],[.v (I a),.v (I v)]],[true,true],[rH L own mark]⟩ =
 (bif decide (p>=wI ((L.length:Int) - (1:Int))) then some (.v (Bo false),⟨[[.row 0,.v (I r1),.v (I r2),.v (I r3),.v (I r4),.v (I r5),.v (I r6),.v (I r7),.v (I r8),.v (I p),.ptr 1 0],[.v (I a),.v (I v)]],[true,true],[.live ⟨117,aP,L,own,mark⟩]⟩) else (bif !kn then some (.v (Bo false),⟨[[.row 0,.v (I r1),.v (I r2),.v (I r3),.v (I r4),.v (I r5),.v (I r6),.v (I r7),.v (I r8),.v (I p),.ptr 1 0],[.v (I a),.v (I v)]],[true,true],[.live ⟨117,aP,L,own,mark⟩]⟩) else (bif decide ((0:Int)<=p)&&decide (p<(L.length:Int)) then (same ((bif decide (v>=(cV L p)) then some (.v (Bo (decide (ht>=(c4 L p)))),⟨[[.row 0,.v (I r1),.v (I r2),.v (I r3),.v (I r4),.v (I r5),.v (I r6),.v (I r7),.v (I r8),.v (I p),.ptr 1 0],[.v (I a),.v (I v)]],[true,true],[.live ⟨117,aP,L,own,mark⟩]⟩) else some (.v (Bo false),⟨[[.row 0,.v (I r1),.v (I r2),.v (I r3),.v (I r4),.v (I r5),.v (I r6),.v (I r7),.v (I r8),.v (I p),.ptr 1 0],[.v (I a),.v (I v)]],[true,true],[.live ⟨117,aP,L,own,mark⟩]⟩))) ((bif decide (v>=(cV L p)) then some (.v (Bo (decide (ht>=(c4 L p)))),⟨[[.row 0,.v (I r1),.v (I r2),.v (I r3),.v (I r4),.v (I r5),.v (I r6),.v (I r7),.v (I r8),.v (I p),.ptr 1 0],[.v (I a),.v (I v)]],[true,true],[.live ⟨117,aP,L,own,mark⟩]⟩) else some (.v (Bo false),⟨[[.row 0,.v (I r1),.v (I r2),.v (I r3),.v (I r4),.v (I r5),.v (I r6),.v (I r7),.v (I r8),.v (I p),.ptr 1 0],[.v (I a),.v (I v)]],[true,true],[.live ⟨117,aP,L,own,mark⟩]⟩)))) else none))):=by kernel_rfl
def gPwi (xs:List SV) (m:Mem):Option (Bool×Value) :=
 match xs,m with
 | [.ptr 0 0,.v (.int .i64 ht),.v (.bool kn)],⟨[[.row 0,.v (.int .i64 r1),.v (.int .i64 r2),.v (.int .i64 r3),.v (.int .i64 r4),.v (.int .i64 r5),.v (.int .i64 r6),.v (.int .i64 r7),.v (.int .i64 r8),.v (.int .i64 p),.ptr 1 0],[.v (.int .i64 a),.v (.int .i64 v)]],[true,true],[.live ⟨117,[.sl 162 [.num .i64,.num .i64],.num .i64,.num .i64,.num .i64,.num .i64],L,own,mark⟩]⟩=>some (decide (0<=p)&&decide (p<(L.length:Int)),Bo (wishB L p v ht kn))
 | _,_=>none
theorem gPwi_ok:bi 151 gPwi:=by
 intro xs m r h
 unfold gPwi at h
 split at h
 ·rename_i ht kn r1 r2 r3 r4 r5 r6 r7 r8 p a v L own mark
  obtain ⟨h1,rfl⟩:=ab h
  refine af (Λ:=L0) QG func151 rfl ai ?_
  refine (Xi ht kn r1 r2 r3 r4 r5 r6 r7 r8 p a v L own mark).trans ?_
  rw [h1,iH]
  unfold wishB
  cases decide (p>=wI ((L.length:Int) - 1))<;>first|rfl|(cases kn<;>first|rfl|(cases decide (v>=cV L p)<;>rfl))
 ·cases h
def Γp4:Orc:=aQ 151 gPwi Γp3
theorem QF:Γp4.Ok prog:=aJ QG gPwi_ok
def cyB (L:List (List Dat)) (p:Int) (mi th:Bool):Bool:=bif decide (p>=wI ((L.length:Int) - 1)) then false else bif !mi then false else th
theorem Xr (mi:Bool) (th:Bool) (r1:Int) (r2:Int) (r3:Int) (r4:Int) (r5:Int) (r6:Int) (r7:Int) (r8:Int) (p:Int) (a:Int) (v:Int) (L:List (List Dat)) (own:Bool) (mark:Bool):runG Γp4 L0 prog f152 [.ptr 0 0,.v (Bo mi),.v (Bo th)] ⟨[[.row 0,.v (I r1),.v (I r2),.v (I r3),.v (I r4),.v (I r5),.v (I r6),.v (I r7),.v (I r8),.v (I p),.ptr 1 0],[.v (I a),.v (I v)]],[true,true],[rH L own mark]⟩ =
 (bif decide (p>=wI ((L.length:Int) - (1:Int))) then some (.v (Bo false),⟨[[.row 0,.v (I r1),.v (I r2),.v (I r3),.v (I r4),.v (I r5),.v (I r6),.v (I r7),.v (I r8),.v (I p),.ptr 1 0],[.v (I a),.v (I (ao a v (1:Int)))]],[true,true],[.live ⟨117,aP,L,own,mark⟩]⟩) else (bif !mi then some (.v (Bo false),⟨[[.row 0,.v (I r1),.v (I r2),.v (I r3),.v (I r4),.v (I r5),.v (I r6),.v (I r7),.v (I r8),.v (I p),.ptr 1 0],[.v (I a),.v (I (ao a v (1:Int)))]],[true,true],[.live ⟨117,aP,L,own,mark⟩]⟩) else (bif !th then some (.v (Bo false),⟨[[.row 0,.v (I r1),.v (I r2),.v (I r3),.v (I r4),.v (I r5),.v (I r6),.v (I r7),.v (I r8),.v (I p),.ptr 1 0],[.v (I a),.v (I (ao a v (1:Int)))]],[true,true],[.live ⟨117,aP,L,own,mark⟩]⟩) else some (.v (Bo true),⟨[[.row 0,.v (I r1),.v (I r2),.v (I r3),.v (I r4),.v (I r5),.v (I r6),.v (I r7),.v (I r8),.v (I (wI (p+(1:Int)))),.ptr 1 0],[.v (I a),.v (I (aR (0:Int) a))]],[true,true],[.live ⟨117,aP,L,own,mark⟩]⟩)))):=by kernel_rfl
def gPcy (xs:List SV) (m:Mem):Option (Bool×SV×Mem) :=
 match xs,m with
 | [.ptr 0 0,.v (.bool mi),.v (.bool th)],⟨[[.row 0,.v (.int .i64 r1),.v (.int .i64 r2),.v (.int .i64 r3),.v (.int .i64 r4),.v (.int .i64 r5),.v (.int .i64 r6),.v (.int .i64 r7),.v (.int .i64 r8),.v (.int .i64 p),.ptr 1 0],[.v (.int .i64 a),.v (.int .i64 v)]],[true,true],[.live ⟨117,[.sl 162 [.num .i64,.num .i64],.num .i64,.num .i64,.num .i64,.num .i64],L,own,mark⟩]⟩=>some (true,.v (Bo (cyB L p mi th)),⟨[[.row 0,.v (I r1),.v (I r2),.v (I r3),.v (I r4),.v (I r5),.v (I r6),.v (I r7),.v (I r8),.v (I (bif cyB L p mi th then wI (p+1) else p)),.ptr 1 0],[.v (I a),.v (I (bif cyB L p mi th then aR 0 a else ao a v 1))]],[true,true],[rH L own mark]⟩)
 | _,_=>none
theorem gPcy_ok:aM 152 gPcy:=by
 intro xs m r m' h
 unfold gPcy at h
 split at h
 ·rename_i mi th r1 r2 r3 r4 r5 r6 r7 r8 p a v L own mark
  obtain ⟨h1,rfl,rfl⟩:=an h
  refine af (Λ:=L0) QF func152 rfl ai ?_
  refine (Xr mi th r1 r2 r3 r4 r5 r6 r7 r8 p a v L own mark).trans ?_
  unfold cyB
  cases decide (p>=wI ((L.length:Int) - 1))<;>cases mi<;>cases th<;>rfl
 ·cases h
def Γp5:Orc:=aw 152 gPcy Γp4
theorem QE:Γp5.Ok prog:=aq QF gPcy_ok
def seB (L:List (List Dat)) (q i:Int):Bool:=bif decide (q<0) then false else bif decide (q>=(L.length:Int)) then false else bif decide (i<0) then false else bif decide (i>1000000) then false else true
theorem Xj (q:Int) (i:Int) (r1:Int) (r2:Int) (r3:Int) (r4:Int) (r5:Int) (r6:Int) (r7:Int) (r8:Int) (p:Int) (a:Int) (v:Int) (L:List (List Dat)) (own:Bool) (mark:Bool):runG Γp5 L0 prog f195 [.ptr 0 0,.v (I q),.v (I i)] ⟨[[.row 0,.v (I r1),.v (I r2),.v (I r3),.v (I r4),.v (I r5),.v (I r6),.v (I r7),.v (I r8),.v (I p),.ptr 1 0],[.v (I a),.v (I v)]],[true,true],[rH L own mark]⟩ =
 (bif decide (q<(0:Int)) then some (.v (Bo false),⟨[[.row 0,.v (I r1),.v (I r2),.v (I r3),.v (I r4),.v (I r5),.v (I r6),.v (I r7),.v (I r8),.v (I p),.ptr 1 0],[.v (I a),.v (I v)]],[true,true],[.live ⟨117,aP,L,own,mark⟩]⟩) else (bif decide (q>=(L.length:Int)) then some (.v (Bo false),⟨[[.row 0,.v (I r1),.v (I r2),.v (I r3),.v (I r4),.v (I r5),.v (I r6),.v (I r7),.v (I r8),.v (I p),.ptr 1 0],[.v (I a),.v (I v)]],[true,true],[.live ⟨117,aP,L,own,mark⟩]⟩) else (bif decide (i<(0:Int)) then some (.v (Bo false),⟨[[.row 0,.v (I r1),.v (I r2),.v (I r3),.v (I r4),.v (I r5),.v (I r6),.v (I r7),.v (I r8),.v (I p),.ptr 1 0],[.v (I a),.v (I v)]],[true,true],[.live ⟨117,aP,L,own,mark⟩]⟩) else (bif decide (i>(1000000:Int)) then some (.v (Bo false),⟨[[.row 0,.v (I r1),.v (I r2),.v (I r3),.v (I r4),.v (I r5),.v (I r6),.v (I r7),.v (I r8),.v (I p),.ptr 1 0],[.v (I a),.v (I v)]],[true,true],[.live ⟨117,aP,L,own,mark⟩]⟩) else some (.v (Bo true),⟨[[.row 0,.v (I r1),.v (I r2),.v (I r3),.v (I r4),.v (I r5),.v (I r6),.v (I r7),.v (I r8),.v (I q),.ptr 1 0],[.v (I a),.v (I (aR i a))]],[true,true],[.live ⟨117,aP,L,own,mark⟩]⟩))))):=by kernel_rfl
def gPse (xs:List SV) (m:Mem):Option (Bool×SV×Mem) :=
 match xs,m with
 | [.ptr 0 0,.v (.int .i64 q),.v (.int .i64 i)],⟨[[.row 0,.v (.int .i64 r1),.v (.int .i64 r2),.v (.int .i64 r3),.v (.int .i64 r4),.v (.int .i64 r5),.v (.int .i64 r6),.v (.int .i64 r7),.v (.int .i64 r8),.v (.int .i64 p),.ptr 1 0],[.v (.int .i64 a),.v (.int .i64 v)]],[true,true],[.live ⟨117,[.sl 162 [.num .i64,.num .i64],.num .i64,.num .i64,.num .i64,.num .i64],L,own,mark⟩]⟩=>some (true,.v (Bo (seB L q i)),⟨[[.row 0,.v (I r1),.v (I r2),.v (I r3),.v (I r4),.v (I r5),.v (I r6),.v (I r7),.v (I r8),.v (I (bif seB L q i then q else p)),.ptr 1 0],[.v (I a),.v (I (bif seB L q i then aR i a else v))]],[true,true],[rH L own mark]⟩)
 | _,_=>none
theorem gPse_ok:aM 195 gPse:=by
 intro xs m r m' h
 unfold gPse at h
 split at h
 ·rename_i q i r1 r2 r3 r4 r5 r6 r7 r8 p a v L own mark
  obtain ⟨h1,rfl,rfl⟩:=an h
  refine af (Λ:=L0) QE func195 rfl ai ?_
  refine (Xj q i r1 r2 r3 r4 r5 r6 r7 r8 p a v L own mark).trans ?_
  unfold seB
  cases decide (q<0)<;>cases decide (q>=(L.length:Int))<;>cases decide (i<0)<;>cases decide (i>1000000)<;>rfl
 ·cases h
def Γp6:Orc:=aw 195 gPse Γp5
theorem QD:Γp6.Ok prog:=aq QE gPse_ok
theorem Xk (r1:Int) (r2:Int) (r3:Int) (r4:Int) (r5:Int) (r6:Int) (r7:Int) (r8:Int) (p:Int) (L:List (List Dat)) (own:Bool) (mark:Bool):runG Γp6 L0 prog f214 [.ag [.row 0,.v (I r1),.v (I r2),.v (I r3),.v (I r4),.v (I r5),.v (I r6),.v (I r7),.v (I r8)],.v (I p)] ⟨[],[],[rH L own mark]⟩ =
 (bif decide (p<(0:Int)) then some (.v (.tuple #[(.agg #[(Value.slice none (0:Nat) (0:Nat)),(I 0),(I 0),(I 0),(I 0)]),(Bo false)]),⟨[],[],[.live ⟨117,aP,L,own,mark⟩]⟩) else (bif decide (p>=(L.length:Int)) then some (.v (.tuple #[(.agg #[(Value.slice none (0:Nat) (0:Nat)),(I 0),(I 0),(I 0),(I 0)]),(Bo false)]),⟨[],[],[.live ⟨117,aP,L,own,mark⟩]⟩) else (bif decide ((0:Int)<=p)&&decide (p<(L.length:Int)) then (bif Nat.blt (0:Nat) (bj L p).length&&(bj L p).length.ble (1000000) then some (.tup [.ag [.row 1,.v (I ((c5 L p))),.v (I ((cK L p))),.v (I ((cV L p))),.v (I ((c4 L p)))],.one (.v (Bo true))],⟨[],[],[.live ⟨117,aP,L,own,mark⟩,.live ⟨162,[.num .i64,.num .i64],(bj L p),true,false⟩]⟩) else none) else none))):=by kernel_rfl
def ER (xs:List SV) (m:Mem):Option (Bool×SV×Mem) :=
 match xs,m with
 | [.ag [.row 0,.v (.int .i64 r1),.v (.int .i64 r2),.v (.int .i64 r3),.v (.int .i64 r4),.v (.int .i64 r5),.v (.int .i64 r6),.v (.int .i64 r7),.v (.int .i64 r8)],.v (.int .i64 p)],⟨[],[],[.live ⟨117,[.sl 162 [.num .i64,.num .i64],.num .i64,.num .i64,.num .i64,.num .i64],L,own,mark⟩]⟩=>some (cw L&&(fe L&&(decide (0<=p)&&decide (p<(L.length:Int)))),.tup [.ag [.row 1,.v (I (c5 L p)),.v (I (cK L p)),.v (I (cV L p)),.v (I (c4 L p))],.one (.v (Bo true))],⟨[],[],[rH L own mark,rP (bj L p) true false]⟩)
 | _,_=>none
theorem qeq:aM 214 ER:=by
 intro xs m r m' h
 unfold ER at h
 split at h
 ·rename_i r1 r2 r3 r4 r5 r6 r7 r8 p L own mark
  obtain ⟨h1,rfl,rfl⟩:=an h
  refine af (Λ:=L0) QD func214 rfl ai ?_
  refine (Xk r1 r2 r3 r4 r5 r6 r7 r8 p L own mark).trans ?_
  simp only [Bool.and_eq_true,decide_eq_true_eq] at h1
  obtain ⟨h1,h2,h3,h4⟩:=h1
  rw [decide_eq_false (show ¬ p<0 by omega),decide_eq_false (show ¬ p>=(L.length:Int) by omega),decide_eq_true h3,decide_eq_true h4,(wC h1 h3 h4).2,L9 h2 h3 h4]
  rfl
 ·cases h
def Γp7:Orc:=aw 214 ER Γp6
theorem QC:Γp7.Ok prog:=aq QD qeq
theorem Xo (r1:Int) (r2:Int) (r3:Int) (r4:Int) (r5:Int) (r6:Int) (r7:Int) (r8:Int) (p:Int) (a:Int) (v:Int) (L:List (List Dat)) (own:Bool) (mark:Bool):runG Γp7 L0 prog f144 [.ptr 0 0] ⟨[[.row 0,.v (I r1),.v (I r2),.v (I r3),.v (I r4),.v (I r5),.v (I r6),.v (I r7),.v (I r8),.v (I p),.ptr 1 0],[.v (I a),.v (I v)]],[true,true],[rH L own mark]⟩ =
 (same ((bif cw L&&(fe L&&(decide ((0:Int)<=p)&&decide (p<(L.length:Int)))) then (same (some (.ag [.row 1,.v (I (c5 L p)),.v (I (cK L p)),.v (I (cV L p)),.v (I (c4 L p))],⟨[[.row 0,.v (I r1),.v (I r2),.v (I r3),.v (I r4),.v (I r5),.v (I r6),.v (I r7),.v (I r8),.v (I p),.ptr 1 0],[.v (I a),.v (I v)]],[true,true],[.live ⟨117,aP,L,own,mark⟩,.live ⟨162,[.num .i64,.num .i64],bj L p,true,false⟩]⟩)) (some (.ag [.row 1,.v (I (c5 L p)),.v (I (cK L p)),.v (I (cV L p)),.v (I (c4 L p))],⟨[[.row 0,.v (I r1),.v (I r2),.v (I r3),.v (I r4),.v (I r5),.v (I r6),.v (I r7),.v (I r8),.v (I p),.ptr 1 0],[.v (I a),.v (I v)]],[true,true],[.live ⟨117,aP,L,own,mark⟩,.live ⟨162,[.num .i64,.num .i64],bj L p,true,false⟩]⟩))) else none)) ((bif cw L&&(fe L&&(decide ((0:Int)<=p)&&decide (p<(L.length:Int)))) then (same (some (.ag [.row 1,.v (I (c5 L p)),.v (I (cK L p)),.v (I (cV L p)),.v (I (c4 L p))],⟨[[.row 0,.v (I r1),.v (I r2),.v (I r3),.v (I r4),.v (I r5),.v (I r6),.v (I r7),.v (I r8),.v (I p),.ptr 1 0],[.v (I a),.v (I v)]],[true,true],[.live ⟨117,aP,L,own,mark⟩,.live ⟨162,[.num .i64,.num .i64],bj L p,true,false⟩]⟩)) (some (.ag [.row 1,.v (I (c5 L p)),.v (I (cK L p)),.v (I (cV L p)),.v (I (c4 L p))],⟨[[.row 0,.v (I r1),.v (I r2),.v (I r3),.v (I r4),.v (I r5),.v (I r6),.v (I r7),.v (I r8),.v (I p),.ptr 1 0],[.v (I a),.v (I v)]],[true,true],[.live ⟨117,aP,L,own,mark⟩,.live ⟨162,[.num .i64,.num .i64],bj L p,true,false⟩]⟩))) else none))):=by kernel_rfl
def gPno (xs:List SV) (m:Mem):Option (Bool×SV×Mem) :=
 match xs,m with
 | [.ptr 0 0],⟨[[.row 0,.v (.int .i64 r1),.v (.int .i64 r2),.v (.int .i64 r3),.v (.int .i64 r4),.v (.int .i64 r5),.v (.int .i64 r6),.v (.int .i64 r7),.v (.int .i64 r8),.v (.int .i64 p),.ptr 1 0],[.v (.int .i64 a),.v (.int .i64 v)]],[true,true],[.live ⟨117,[.sl 162 [.num .i64,.num .i64],.num .i64,.num .i64,.num .i64,.num .i64],L,own,mark⟩]⟩=>some (cw L&&(fe L&&(decide (0<=p)&&decide (p<(L.length:Int)))),.ag [.row 1,.v (I (c5 L p)),.v (I (cK L p)),.v (I (cV L p)),.v (I (c4 L p))],⟨[[.row 0,.v (I r1),.v (I r2),.v (I r3),.v (I r4),.v (I r5),.v (I r6),.v (I r7),.v (I r8),.v (I (p)),.ptr 1 0],[.v (I a),.v (I (v))]],[true,true],[rH L own mark,rP (bj L p) true false]⟩)
 | _,_=>none
theorem gPno_ok:aM 144 gPno:=by
 intro xs m r m' h
 unfold gPno at h
 split at h
 ·rename_i r1 r2 r3 r4 r5 r6 r7 r8 p a v L own mark
  obtain ⟨h1,rfl,rfl⟩:=an h
  refine af (Λ:=L0) QC func144 rfl ai ?_
  refine (Xo r1 r2 r3 r4 r5 r6 r7 r8 p a v L own mark).trans ?_
  rw [h1]
  simp only [iH,cond_true]
 ·cases h
def Γp8:Orc:=aw 144 gPno Γp7
theorem qiL:Γp8.Ok prog:=aq QC gPno_ok
theorem Xn (r1:Int) (r2:Int) (r3:Int) (r4:Int) (r5:Int) (r6:Int) (r7:Int) (r8:Int) (L:List (List Dat)) (own:Bool) (mark:Bool):runG Γp8 L0 prog f194 [.ag [.row 0,.v (I r1),.v (I r2),.v (I r3),.v (I r4),.v (I r5),.v (I r6),.v (I r7),.v (I r8)]] ⟨[],[],[rH L own mark]⟩ =
 (bif cw L then (bif !wrB L r1 r2 r3 r4 r5 r6 r7 r8==(0:Int) then some (.v (Value.pointer none),⟨[],[],[.live ⟨117,aP,L,own,mark⟩]⟩) else (bif cw L&&(fe L&&Nat.blt (0:Nat) L.length) then some (.ptr 0 0,⟨[[.row 1,.v (I r1),.v (I r2),.v (I r3),.v (I r4),.v (I r5),.v (I r6),.v (I r7),.v (I r8),.v (I 0),.ptr 1 0],[.v (I 1000000),.v (I 0)]],[true,true],[.live ⟨117,aP,L,own,mark⟩,.live ⟨117,aP,L,true,false⟩]⟩) else none)) else none):=by kernel_rfl
def gPnw (xs:List SV) (m:Mem):Option (Bool×SV×Mem) :=
 match xs,m with
 | [.ag [.row 0,.v (.int .i64 r1),.v (.int .i64 r2),.v (.int .i64 r3),.v (.int .i64 r4),.v (.int .i64 r5),.v (.int .i64 r6),.v (.int .i64 r7),.v (.int .i64 r8)]],⟨[],[],[.live ⟨117,[.sl 162 [.num .i64,.num .i64],.num .i64,.num .i64,.num .i64,.num .i64],L,own,mark⟩]⟩=>some (cw L&&(fe L&&(wrB L r1 r2 r3 r4 r5 r6 r7 r8==0&&Nat.blt 0 L.length)),.ptr 0 0,⟨[[.row 1,.v (I r1),.v (I r2),.v (I r3),.v (I r4),.v (I r5),.v (I r6),.v (I r7),.v (I r8),.v (I 0),.ptr 1 0],[.v (I 1000000),.v (I 0)]],[true,true],[rH L own mark,rH L true false]⟩)
 | _,_=>none
theorem gPnw_ok:aM 194 gPnw:=by
 intro xs m r m' h
 unfold gPnw at h
 split at h
 ·rename_i r1 r2 r3 r4 r5 r6 r7 r8 L own mark
  obtain ⟨h1,rfl,rfl⟩:=an h
  refine af (Λ:=L0) qiL func194 rfl ai ?_
  refine (Xn r1 r2 r3 r4 r5 r6 r7 r8 L own mark).trans ?_
  simp only [Bool.and_eq_true] at h1
  obtain ⟨h1,h2,h3,h4⟩:=h1
  rw [h1,h2,h3,h4]
  rfl
 ·cases h
end Go.Proofs.YtainfdcfkgemhaaGreat.Ph
namespace Go.Proofs.YtainfdcfkgemhaaGreat.Pa
open Go Go.Proofs Go.Sx Nw
set_option linter.unusedVariables false
def epsP (e:Int):Int:=wI (2*cz e (-1) 2305843009213693952)
def cmpP (x y near:Bool):Int:=bif x then (bif y then (bif near then 3 else 4) else 1) else (bif y then 2 else 0)
def hgt (a b:Int) (x y:Bool):Int:=bif x then (bif y then (if b<a then b else a) else a) else (bif y then b else 0)
theorem Xz (a:Int) (b:Int) (c:Int) (d:Int) (e:Int) (f:Int) (g:Int) (q:Int) (a':Int) (b':Int) (c':Int) (d':Int) (e':Int) (f':Int) (g':Int) (q':Int) (x:Bool) (y:Bool) (w:Int):runG ΓNb L0 prog f145 [.v (.agg #[I a,I b,I c,I d,I e,I f,I g,I q]),.v (.agg #[I a',I b',I c',I d',I e',I f',I g',I q']),.v (Bo x),.v (Bo y),.v (I w)] M0 =
 (bif !x then (bif !y then some (.v (I 0),M0) else (bif !y then some (.v (I 1),M0) else (bif !x then some (.v (I 2),M0) else (bif pH (wI ((2:Int)*cz w (-1:Int) (2305843009213693952:Int))) c c' d d' e e' f f' g g' q q' then some (.v (I 3),M0) else some (.v (I 4),M0))))) else (bif !y then some (.v (I 1),M0) else (bif !x then some (.v (I 2),M0) else (bif pH (wI ((2:Int)*cz w (-1:Int) (2305843009213693952:Int))) c c' d d' e e' f f' g g' q q' then some (.v (I 3),M0) else some (.v (I 4),M0))))):=by kernel_rfl
def gPCmp (vs:List Value):Option (Bool×Value) :=
 match vs with
 | [.agg ⟨[.int .i64 a,.int .i64 b,.int .i64 c,.int .i64 d,.int .i64 e,.int .i64 f,.int .i64 g,.int .i64 q]⟩,.agg ⟨[.int .i64 a',.int .i64 b',.int .i64 c',.int .i64 d',.int .i64 e',.int .i64 f',.int .i64 g',.int .i64 q']⟩,.bool x,.bool y,.int .i64 w]=>some (true,I (cmpP x y (pH (epsP w) c c' d d' e e' f f' g g' q q')))
 | _=>none
theorem gPCmp_ok:am 145 gPCmp:=by
 intro vs r h
 unfold gPCmp at h
 split at h
 ·rename_i a b c d e f g q a' b' c' d' e' f' g' q' x y w
  obtain ⟨h1,rfl⟩:=ab h
  refine ak (vs:=[.agg #[I a,I b,I c,I d,I e,I f,I g,I q],.agg #[I a',I b',I c',I d',I e',I f',I g',I q'],Bo x,Bo y,I w]) (Λ:=L0) (m':=M0) zX func145 rfl ai ?_
  exact (Xz a b c d e f g q a' b' c' d' e' f' g' q' x y w).trans (by rw [show wI (2*cz w (-1) 2305843009213693952)=epsP w from rfl];cases x<;>cases y<;>first|rfl|(cases pH (epsP w) c c' d d' e e' f f' g g' q q'<;>rfl))
 ·cases h
def ΓJ1:Orc:=ah 145 gPCmp ΓNb
theorem OkJ1:ΓJ1.Ok prog:=ac zX gPCmp_ok
def ΓJ2:Orc:=ΓJ1
theorem OkJ2:ΓJ2.Ok prog:=OkJ1
theorem Xw (a:Int) (b:Int) (c:Int) (d:Int) (e:Int) (f:Int) (g:Int) (q:Int) (a':Int) (b':Int) (c':Int) (d':Int) (e':Int) (f':Int) (g':Int) (q':Int) (x:Bool) (y:Bool):runG ΓJ2 L0 prog f146 [.v (.agg #[I a,I b,I c,I d,I e,I f,I g,I q]),.v (.agg #[I a',I b',I c',I d',I e',I f',I g',I q']),.v (Bo x),.v (Bo y)] M0 =
 (bif x then (bif y then some (.v (.tuple #[(I (if e'<e then e' else e)),(Bo true)]),M0) else (bif x then some (.v (.tuple #[(I e),(Bo true)]),M0) else (bif y then some (.v (.tuple #[(I e'),(Bo true)]),M0) else some (.v (.tuple #[(I 0),(Bo false)]),M0)))) else (bif x then some (.v (.tuple #[(I e),(Bo true)]),M0) else (bif y then some (.v (.tuple #[(I e'),(Bo true)]),M0) else some (.v (.tuple #[(I 0),(Bo false)]),M0)))):=by kernel_rfl
def gPHgt (vs:List Value):Option (Bool×Value) :=
 match vs with
 | [.agg ⟨[.int .i64 a,.int .i64 b,.int .i64 c,.int .i64 d,.int .i64 e,.int .i64 f,.int .i64 g,.int .i64 q]⟩,.agg ⟨[.int .i64 a',.int .i64 b',.int .i64 c',.int .i64 d',.int .i64 e',.int .i64 f',.int .i64 g',.int .i64 q']⟩,.bool x,.bool y]=>some (true,Value.tuple #[I (hgt e e' x y),Bo (x||y)])
 | _=>none
theorem gPHgt_ok:am 146 gPHgt:=by
 intro vs r h
 unfold gPHgt at h
 split at h
 ·rename_i a b c d e f g q a' b' c' d' e' f' g' q' x y
  obtain ⟨h1,rfl⟩:=ab h
  refine ak (vs:=[.agg #[I a,I b,I c,I d,I e,I f,I g,I q],.agg #[I a',I b',I c',I d',I e',I f',I g',I q'],Bo x,Bo y]) (Λ:=L0) (m':=M0) OkJ2 func146 rfl ai ?_
  exact (Xw a b c d e f g q a' b' c' d' e' f' g' q' x y).trans (by cases x<;>cases y<;>rfl)
 ·cases h
end Go.Proofs.YtainfdcfkgemhaaGreat.Pa
namespace Go.Proofs.YtainfdcfkgemhaaGreat.Im
open Go Go.Proofs Go.Sx
set_option linter.unusedVariables false
def jk:Code:=cH (f172.body.getD .skip) 0
theorem qbI:aL (f172.body.getD .skip)=[jk]:=by kernel_rfl
def ec:List Bool:=aE 64 [2,3,6,11,42,43]
def uJ (e:Ex):List Bool:=match e with
 | .exit _=>aE 64 [6,11]
 | .ret=>aE 64 [6]
 | .normal=>aE 64 [2,3,6,11,42,43]
def lr (e:Ex) (st:St):Option (Ex×St):=some (e,aj 0 0 (uJ e) st)
def oF (p q x y z vx vy vz a b c d:Int):Mem:=⟨[[.v (I p),.v (I q),.v (I x),.v (I y),.v (I z),.v (I vx),.v (I vy),.v (I vz)],[.v (I 0),.v (I 0),.v (I 0),.v (I 0)],[.v (I a),.v (I b),.v (I c),.v (I d)]],[true,true,true],[]⟩
theorem Ui (p q x y z vx vy vz a b c d e lo hi:Int) (n:Nat):au ΓBx prog L0 (aj 0 0 ec) jk (n+1) (mk ec [.v (I e),.ptr 0 0,.ptr 1 0,.ptr 2 0,.v (.agg #[I lo,I hi]),.v (I 0)] (oF p q x y z vx vy vz a b c d)) lr =
 (bif kq x y vx vy (wI ((0:Int) - e)) lo then (bif kz (x+(vx+wI ((0:Int) - e))*lo) (y+(vy+wI ((0:Int) - e))*lo) e then (bif a8 a b c d&&a8 (x+(vx+wI ((0:Int) - e))*lo - e) (y+(vy+wI ((0:Int) - e))*lo - e) (x+(vx+wI ((0:Int) - e))*lo+e) (y+(vy+wI ((0:Int) - e))*lo+e) then (bif kq x y vx vy e lo then (bif kz (x+(vx+e)*lo) (y+(vy+e)*lo) e then (bif a8 (mn a (x+(vx+wI ((0:Int) - e))*lo - e)) (mn b (y+(vy+wI ((0:Int) - e))*lo - e)) (mx c (x+(vx+wI ((0:Int) - e))*lo+e)) (mx d (y+(vy+wI ((0:Int) - e))*lo+e))&&a8 (x+(vx+e)*lo - e) (y+(vy+e)*lo - e) (x+(vx+e)*lo+e) (y+(vy+e)*lo+e) then au ΓBx prog L0 (aj 0 0 ec) jk n (mk ec [.v (I e),.ptr 0 0,.ptr 1 0,.ptr 2 0,.v (.agg #[(I lo),(I hi)]),.v (I 1)] ⟨[[.v (I p),.v (I q),.v (I x),.v (I y),.v (I z),.v (I vx),.v (I vy),.v (I vz)],[.v (I 0),.v (I 0),.v (I 0),.v (I 0)],[.v (I (mn (mn a (x+(vx+wI ((0:Int) - e))*lo - e)) (x+(vx+e)*lo - e))),.v (I (mn (mn b (y+(vy+wI ((0:Int) - e))*lo - e)) (y+(vy+e)*lo - e))),.v (I (mx (mx c (x+(vx+wI ((0:Int) - e))*lo+e)) (x+(vx+e)*lo+e))),.v (I (mx (mx d (y+(vy+wI ((0:Int) - e))*lo+e)) (y+(vy+e)*lo+e)))]],[true,true,true],[]⟩) lr else none) else none) else none) else none) else none) else none):=by kernel_rfl
theorem Uh (p q x y z vx vy vz a b c d e lo hi:Int) (n:Nat):au ΓBx prog L0 (aj 0 0 ec) jk (n+1) (mk ec [.v (I e),.ptr 0 0,.ptr 1 0,.ptr 2 0,.v (.agg #[I lo,I hi]),.v (I 1)] (oF p q x y z vx vy vz a b c d)) lr =
 (bif kq x y vx vy (wI ((0:Int) - e)) hi then (bif kz (x+(vx+wI ((0:Int) - e))*hi) (y+(vy+wI ((0:Int) - e))*hi) e then (bif a8 a b c d&&a8 (x+(vx+wI ((0:Int) - e))*hi - e) (y+(vy+wI ((0:Int) - e))*hi - e) (x+(vx+wI ((0:Int) - e))*hi+e) (y+(vy+wI ((0:Int) - e))*hi+e) then (bif kq x y vx vy e hi then (bif kz (x+(vx+e)*hi) (y+(vy+e)*hi) e then (bif a8 (mn a (x+(vx+wI ((0:Int) - e))*hi - e)) (mn b (y+(vy+wI ((0:Int) - e))*hi - e)) (mx c (x+(vx+wI ((0:Int) - e))*hi+e)) (mx d (y+(vy+wI ((0:Int) - e))*hi+e))&&a8 (x+(vx+e)*hi - e) (y+(vy+e)*hi - e) (x+(vx+e)*hi+e) (y+(vy+e)*hi+e) then au ΓBx prog L0 (aj 0 0 ec) jk n (mk ec [.v (I e),.ptr 0 0,.ptr 1 0,.ptr 2 0,.v (.agg #[(I lo),(I hi)]),.v (I 2)] ⟨[[.v (I p),.v (I q),.v (I x),.v (I y),.v (I z),.v (I vx),.v (I vy),.v (I vz)],[.v (I 0),.v (I 0),.v (I 0),.v (I 0)],[.v (I (mn (mn a (x+(vx+wI ((0:Int) - e))*hi - e)) (x+(vx+e)*hi - e))),.v (I (mn (mn b (y+(vy+wI ((0:Int) - e))*hi - e)) (y+(vy+e)*hi - e))),.v (I (mx (mx c (x+(vx+wI ((0:Int) - e))*hi+e)) (x+(vx+e)*hi+e))),.v (I (mx (mx d (y+(vy+wI ((0:Int) - e))*hi+e)) (y+(vy+e)*hi+e)))]],[true,true,true],[]⟩) lr else none) else none) else none) else none) else none) else none):=by kernel_rfl
theorem Ug (p q x y z vx vy vz a b c d e lo hi:Int) (n:Nat):au ΓBx prog L0 (aj 0 0 ec) jk (n+1) (mk ec [.v (I e),.ptr 0 0,.ptr 1 0,.ptr 2 0,.v (.agg #[I lo,I hi]),.v (I 2)] (oF p q x y z vx vy vz a b c d)) lr =
 some ((.exit 0),mk (uJ (.exit 0)) [.ptr 0 0,.ptr 1 0] ⟨[[.v (I 0),.v (I 0),.v (I 0),.v (I 0)],[.v (I a),.v (I b),.v (I c),.v (I d)]],[true,true],[]⟩):=by kernel_rfl
theorem gr {x v f t:Int} (h1:-2147483648<=x/\x<=2147483648) (h2:-131072<=v/\v<=131072) (h3:-2048<=f/\f<=2048) (h4:0<=t/\t<=2097154):-300000000000<=x+(v+f)*t/\x+(v+f)*t<=300000000000:=by
 have p:=sg (a:=v+f) (b:=t) (A:=133120) (B:=2097154) (by omega) (by omega) (by omega) (by omega)
 omega
def Bd (a b c d:Int):Prop:=a<=c/\b<=d/\(-310000000000<=a/\c<=310000000000)/\-310000000000<=b/\d<=310000000000
def HP (a b c d:Int):Bool:=decide (a<=c/\b<=d/\(-310000000000<=a/\c<=310000000000)/\-310000000000<=b/\d<=310000000000)
theorem PW {a b c d:Int}:HP a b c d=true↔Bd a b c d:=decide_eq_true_iff
theorem Bd.bo {a b c d:Int} (h:Bd a b c d):a8 a b c d=true:=by
 obtain ⟨h1,h2,h3,h4⟩:=h
 exact HJ.2 ⟨wA.2 (by omega),wA.2 (by omega),h1,h2⟩
theorem Bd.of {x y e:Int} (he:0<=e/\e<=2048) (hx:-300000000000<=x/\x<=300000000000) (hy:-300000000000<=y/\y<=300000000000):Bd (x - e) (y - e) (x+e) (y+e):=⟨by omega,by omega,by omega,by omega⟩
theorem Bd.join {a b c d a' b' c' d':Int} (h:Bd a b c d) (h':Bd a' b' c' d'):Bd (mn a a') (mn b b') (mx c c') (mx d d'):=by
 obtain ⟨h1,h2,h3,h4⟩:=h
 obtain ⟨k1,k2,k3,k4⟩:=h'
 have m1:=ir a a'
 have m2:=ir b b'
 have m3:=iu c c'
 have m4:=iu d d'
 exact ⟨by omega,by omega,by omega,by omega⟩
theorem sd {x y e:Int} (he:0<=e/\e<=2048) (hx:-300000000000<=x/\x<=300000000000) (hy:-300000000000<=y/\y<=300000000000):kz x y e=true:=Mr.2 ⟨by omega,by omega,by omega⟩
theorem rQ {x y vx vy f t:Int} (h:gk x y vx vy=true) (h3:-2048<=f/\f<=2048) (h4:0<=t/\t<=2097154):kq x y vx vy f t=true:=by
 have:=nu.1 h
 exact LS.2 ⟨by omega,by omega,by omega,by omega,by omega,by omega⟩
def jL (a x v e t:Int):Int:=mn (mn a (x+(v+-e)*t - e)) (x+(v+e)*t - e)
def jH (a x v e t:Int):Int:=mx (mx a (x+(v+-e)*t+e)) (x+(v+e)*t+e)
theorem jBd {a b c d x y vx vy e t:Int} (h:Bd a b c d) (hn:gk x y vx vy=true) (he:0<=e/\e<=2048) (ht:0<=t/\t<=2097154):Bd (jL a x vx e t) (jL b y vy e t) (jH c x vx e t) (jH d y vy e t):=by
 have n:=nu.1 hn
 refine (h.join (Bd.of he (gr n.1 n.2.2.1 (f:=-e) ?_ ht) (gr n.2.1 n.2.2.2 (f:=-e) ?_ ht))).join (Bd.of he (gr n.1 n.2.2.1 (f:=e) ?_ ht) (gr n.2.1 n.2.2.2 (f:=e) ?_ ht))<;>omega
theorem Z2 (p q x y z vx vy vz a b c d e lo hi:Int) (n:Nat) (h:Bd a b c d) (hn:gk x y vx vy=true) (he:0<=e/\e<=2048) (ht:0<=lo/\lo<=2097154) :
  au ΓBx prog L0 (aj 0 0 ec) jk (n+1) (mk ec [.v (I e),.ptr 0 0,.ptr 1 0,.ptr 2 0,.v (.agg #[I lo,I hi]),.v (I 0)] (oF p q x y z vx vy vz a b c d)) lr =
  au ΓBx prog L0 (aj 0 0 ec) jk n (mk ec [.v (I e),.ptr 0 0,.ptr 1 0,.ptr 2 0,.v (.agg #[I lo,I hi]),.v (I 1)] (oF p q x y z vx vy vz (jL a x vx e lo) (jL b y vy e lo) (jH c x vx e lo) (jH d y vy e lo))) lr:=by
 refine (Ui p q x y z vx vy vz a b c d e lo hi n).trans ?_
 have nn:=nu.1 hn
 have q1:=gr nn.1 nn.2.2.1 (f:=-e) (t:=lo) (by omega) ht
 have q2:=gr nn.2.1 nn.2.2.2 (f:=-e) (t:=lo) (by omega) ht
 have q3:=gr nn.1 nn.2.2.1 (f:=e) (t:=lo) (by omega) ht
 have q4:=gr nn.2.1 nn.2.2.2 (f:=e) (t:=lo) (by omega) ht
 have b1:=Bd.of he q1 q2
 have b2:=Bd.of he q3 q4
 rw [show wI (0 - e)=-e by rw [aC (by omega)];omega,rQ hn (by omega) ht,rQ hn (by omega) ht,sd he q1 q2,sd he q3 q4,h.bo,b1.bo,(h.join b1).bo,b2.bo]
 rfl
theorem Z1 (p q x y z vx vy vz a b c d e lo hi:Int) (n:Nat) (h:Bd a b c d) (hn:gk x y vx vy=true) (he:0<=e/\e<=2048) (ht:0<=hi/\hi<=2097154) :
  au ΓBx prog L0 (aj 0 0 ec) jk (n+1) (mk ec [.v (I e),.ptr 0 0,.ptr 1 0,.ptr 2 0,.v (.agg #[I lo,I hi]),.v (I 1)] (oF p q x y z vx vy vz a b c d)) lr =
  au ΓBx prog L0 (aj 0 0 ec) jk n (mk ec [.v (I e),.ptr 0 0,.ptr 1 0,.ptr 2 0,.v (.agg #[I lo,I hi]),.v (I 2)] (oF p q x y z vx vy vz (jL a x vx e hi) (jL b y vy e hi) (jH c x vx e hi) (jH d y vy e hi))) lr:=by
 refine (Uh p q x y z vx vy vz a b c d e lo hi n).trans ?_
 have nn:=nu.1 hn
 have q1:=gr nn.1 nn.2.2.1 (f:=-e) (t:=hi) (by omega) ht
 have q2:=gr nn.2.1 nn.2.2.2 (f:=-e) (t:=hi) (by omega) ht
 have q3:=gr nn.1 nn.2.2.1 (f:=e) (t:=hi) (by omega) ht
 have q4:=gr nn.2.1 nn.2.2.2 (f:=e) (t:=hi) (by omega) ht
 have b1:=Bd.of he q1 q2
 have b2:=Bd.of he q3 q4
 rw [show wI (0 - e)=-e by rw [aC (by omega)];omega,rQ hn (by omega) ht,rQ hn (by omega) ht,sd he q1 q2,sd he q3 q4,h.bo,b1.bo,(h.join b1).bo,b2.bo]
 rfl
def XIm (a b c d:Int):St:=mk (uJ (.exit 0)) [.ptr 0 0,.ptr 1 0] ⟨[[.v (I 0),.v (I 0),.v (I 0),.v (I 0)],[.v (I a),.v (I b),.v (I c),.v (I d)]],[true,true],[]⟩
def JJ (vals:List SV) (m:Mem):Option (Bool×Ex×St) :=
 match vals,m with
 | [.v (.int .i64 e),.ptr 0 0,.ptr 1 0,.ptr 2 0,.v (.agg ⟨[.int .i64 lo,.int .i64 hi]⟩),.v (.int .i64 0)],⟨[[.v (.int .i64 p),.v (.int .i64 q),.v (.int .i64 x),.v (.int .i64 y),.v (.int .i64 z),.v (.int .i64 vx),.v (.int .i64 vy),.v (.int .i64 vz)],[.v (.int .i64 0),.v (.int .i64 0),.v (.int .i64 0),.v (.int .i64 0)],[.v (.int .i64 a),.v (.int .i64 b),.v (.int .i64 c),.v (.int .i64 d)]],[true,true,true],[]⟩ =>
  some (HP a b c d&&(gk x y vx vy&&(decide (0<=e/\e<=2048)&&(decide (0<=lo/\lo<=2097154)&&decide (0<=hi/\hi<=2097154)))),.exit 0,XIm (jL (jL a x vx e lo) x vx e hi) (jL (jL b y vy e lo) y vy e hi) (jH (jH c x vx e lo) x vx e hi) (jH (jH d y vy e lo) y vy e hi))
 | _,_=>none
def ΛIm:bg:=fun _ st=>dg 0 0 ec JJ st
theorem qck (z:Base) (z1:z.L.length=0) (z2:z.U.length=0):a9 ΛIm prog z jk:=by
 refine d9 (Λ:=L0) (kx:=uJ) Ac mixed z1 z2 (fun b hb st t h=>by cases h) (G:=JJ) (fun _=>rfl) ?_
 intro vals m e st' h
 unfold JJ at h
 split at h
 ·rename_i e lo hi p q x y z vx vy vz a b c d
  obtain ⟨h1,rfl,rfl⟩:=an h
  simp only [Bool.and_eq_true,decide_eq_true_eq] at h1
  obtain ⟨hb,hn,he,hlo,hhi⟩:=h1
  have hB:=PW.1 hb
  exact ⟨3,((Z2 p q x y z vx vy vz a b c d e lo hi 2 hB hn he hlo).trans (Z1 p q x y z vx vy vz _ _ _ _ e lo hi 1 (jBd hB hn he hlo) hn he hhi)).trans (Ug p q x y z vx vy vz _ _ _ _ e lo hi 0)⟩
 ·cases h
theorem Ym (p q x y z vx vy vz g e:Int):runG ΓBx ΛIm prog f172 [.v (.agg #[I p,I q,I x,I y,I z,I vx,I vy,I vz]),.v (I g),.v (I e)] M0 =
 (bif !(bT z vz g&&decide ((0:Int)<=e/\e<=(2048:Int))) then some (.v (.tuple #[(.agg #[(I 0),(I 0),(I 0),(I 0)]),(Bo false)]),M0) else (bif !gk x y vx vy then some (.v (.tuple #[(.agg #[(I 0),(I 0),(I 0),(I 0)]),(Bo false)]),M0) else (bif kq x y vx vy (0:Int) (bif bT z vz g&&decide ((0:Int)<=e/\e<=(2048:Int)) then bw (z - e) (vz - e) g else (0:Int)) then (bif kz (x+(vx+(0:Int))*bif bT z vz g&&decide ((0:Int)<=e/\e<=(2048:Int)) then bw (z - e) (vz - e) g else (0:Int)) (y+(vy+(0:Int))*bif bT z vz g&&decide ((0:Int)<=e/\e<=(2048:Int)) then bw (z - e) (vz - e) g else (0:Int)) e then (bif HP ((x+(vx+(0:Int))*bif bT z vz g&&decide ((0:Int)<=e/\e<=(2048:Int)) then bw (z - e) (vz - e) g else (0:Int)) - e) ((y+(vy+(0:Int))*bif bT z vz g&&decide ((0:Int)<=e/\e<=(2048:Int)) then bw (z - e) (vz - e) g else (0:Int)) - e) ((x+(vx+(0:Int))*bif bT z vz g&&decide ((0:Int)<=e/\e<=(2048:Int)) then bw (z - e) (vz - e) g else (0:Int))+e) ((y+(vy+(0:Int))*bif bT z vz g&&decide ((0:Int)<=e/\e<=(2048:Int)) then bw (z - e) (vz - e) g else (0:Int))+e)&&(gk x y vx vy&&(decide ((0:Int)<=e/\e<=(2048:Int))&&(decide (((0:Int)<=bif bT z vz g&&decide ((0:Int)<=e/\e<=(2048:Int)) then bw (z - e) (vz - e) g else (0:Int))/\(bif bT z vz g&&decide ((0:Int)<=e/\e<=(2048:Int)) then bw (z - e) (vz - e) g else (0:Int))<=(2097154:Int))&&decide (((0:Int)<=bif bT z vz g&&decide ((0:Int)<=e/\e<=(2048:Int)) then bw (z+e) (vz+e) g+(2:Int) else (0:Int))/\(bif bT z vz g&&decide ((0:Int)<=e/\e<=(2048:Int)) then bw (z+e) (vz+e) g+(2:Int) else (0:Int))<=(2097154:Int))))) then some (.v (.tuple #[(.agg #[(I (jL (jL ((x+(vx+(0:Int))*bif bT z vz g&&decide ((0:Int)<=e/\e<=(2048:Int)) then bw (z - e) (vz - e) g else (0:Int)) - e) x vx e (bif bT z vz g&&decide ((0:Int)<=e/\e<=(2048:Int)) then bw (z - e) (vz - e) g else (0:Int))) x vx e (bif bT z vz g&&decide ((0:Int)<=e/\e<=(2048:Int)) then bw (z+e) (vz+e) g+(2:Int) else (0:Int)))),(I (jL (jL ((y+(vy+(0:Int))*bif bT z vz g&&decide ((0:Int)<=e/\e<=(2048:Int)) then bw (z - e) (vz - e) g else (0:Int)) - e) y vy e (bif bT z vz g&&decide ((0:Int)<=e/\e<=(2048:Int)) then bw (z - e) (vz - e) g else (0:Int))) y vy e (bif bT z vz g&&decide ((0:Int)<=e/\e<=(2048:Int)) then bw (z+e) (vz+e) g+(2:Int) else (0:Int)))),(I (jH (jH ((x+(vx+(0:Int))*bif bT z vz g&&decide ((0:Int)<=e/\e<=(2048:Int)) then bw (z - e) (vz - e) g else (0:Int))+e) x vx e (bif bT z vz g&&decide ((0:Int)<=e/\e<=(2048:Int)) then bw (z - e) (vz - e) g else (0:Int))) x vx e (bif bT z vz g&&decide ((0:Int)<=e/\e<=(2048:Int)) then bw (z+e) (vz+e) g+(2:Int) else (0:Int)))),(I (jH (jH ((y+(vy+(0:Int))*bif bT z vz g&&decide ((0:Int)<=e/\e<=(2048:Int)) then bw (z - e) (vz - e) g else (0:Int))+e) y vy e (bif bT z vz g&&decide ((0:Int)<=e/\e<=(2048:Int)) then bw (z - e) (vz - e) g else (0:Int))) y vy e (bif bT z vz g&&decide ((0:Int)<=e/\e<=(2048:Int)) then bw (z+e) (vz+e) g+(2:Int) else (0:Int))))]),(Bo true)]),M0) else none) else none) else none))):=by kernel_rfl
end Go.Proofs.YtainfdcfkgemhaaGreat.Im
namespace Go.Proofs.YtainfdcfkgemhaaGreat.Im
open Go Go.Proofs Go.Sx
set_option linter.unusedVariables false
end Go.Proofs.YtainfdcfkgemhaaGreat.Im
namespace Go.Proofs.YtainfdcfkgemhaaGreat.Im
open Go Go.Proofs Go.Sx
set_option linter.unusedVariables false
def gM (z vz g e:Int):Int:=bw (z - e) (vz - e) g
def iW (z vz g e:Int):Int:=bw (z+e) (vz+e) g+2
def imR (x y z vx vy vz g e:Int):Bool:=(bT z vz g&&decide (0<=e/\e<=2048))&&gk x y vx vy
def zr (x v e a b:Int):Int:=x - e+xa v e a b
def zt (x v e a b:Int):Int:=x+e+wY v e a b
theorem NH {x y z vx vy vz g e:Int}:imR x y z vx vy vz g e=true↔(bT z vz g=true/\0<=e/\e<=2048)/\gk x y vx vy=true:=by
 unfold imR
 simp only [Bool.and_eq_true,decide_eq_true_eq]
theorem TF {z vz g e:Int} (h:bT z vz g=true) (he:0<=e/\e<=2048):(0<=gM z vz g e/\gM z vz g e<=2097154)/\(0<=iW z vz g e/\iW z vz g e<=2097154)/\gM z vz g e+2<=iW z vz g e:=by
 have k1:ed (z - e) (vz - e) g=true:=by rw [Int.sub_eq_add_neg,Int.sub_eq_add_neg];exact yC h (by omega) (by omega) (by omega) (by omega)
 have k2:ed (z+e) (vz+e) g=true:=yC h (by omega) (by omega) (by omega) (by omega)
 have a1:=o4 k1
 have a2:=vt k1
 have a3:=o4 k2
 have a4:=vt k2
 have a5:=TE k1 k2 (by omega) (by omega)
 unfold gM iW
 omega
theorem jj (x v:Int) {e a b:Int} (he:0<=e) (hab:a<=b):jL (jL (x+(v+0)*a - e) x v e a) x v e b=zr x v e a b/\jH (jH (x+(v+0)*a+e) x v e a) x v e b=zt x v e a b:=by
 have:=qcF x v he hab
 unfold jL jH zr zt
 rw [Int.add_zero]
 exact this
def nQ (x y z vx vy vz g e:Int):Int:=bif imR x y z vx vy vz g e then zr x vx e (gM z vz g e) (iW z vz g e) else 0
def nO (x y z vx vy vz g e:Int):Int:=bif imR x y z vx vy vz g e then zr y vy e (gM z vz g e) (iW z vz g e) else 0
def nT (x y z vx vy vz g e:Int):Int:=bif imR x y z vx vy vz g e then zt x vx e (gM z vz g e) (iW z vz g e) else 0
def nR (x y z vx vy vz g e:Int):Int:=bif imR x y z vx vy vz g e then zt y vy e (gM z vz g e) (iW z vz g e) else 0
def FG (vs:List Value):Option (Bool×Value) :=
 match vs with
 | [.agg ⟨[.int .i64 p,.int .i64 q,.int .i64 x,.int .i64 y,.int .i64 z,.int .i64 vx,.int .i64 vy,.int .i64 vz]⟩,.int .i64 g,.int .i64 e]=>some (true,.tuple #[.agg #[I (nQ x y z vx vy vz g e),I (nO x y z vx vy vz g e),I (nT x y z vx vy vz g e),I (nR x y z vx vy vz g e)],Bo (imR x y z vx vy vz g e)])
 | _=>none
theorem qfa:am 172 FG:=by
 intro vs r h
 unfold FG at h
 split at h
 ·rename_i p q x y z vx vy vz g e
  obtain ⟨_,rfl⟩:=ab h
  refine ak (vs:=[.agg #[I p,I q,I x,I y,I z,I vx,I vy,I vz],I g,I e]) (Λ:=ΛIm) (m':=M0) Ac func172 rfl (fun z z1 z2=>bX (c:=f172.body.getD .skip) qbI (qck z z1 z2)) ?_
  refine (Ym p q x y z vx vy vz g e).trans ?_
  unfold nQ nO nT nR imR
  cases h1:bT z vz g&&decide (0<=e/\e<=2048)
  ·rfl
  ·cases h2:gk x y vx vy
   ·rfl
   ·have h1':=h1
    simp only [Bool.and_eq_true,decide_eq_true_eq] at h1'
    obtain ⟨t1,t2,t3⟩:=TF h1'.1 h1'.2
    have nn:=nu.1 h2
    have q1:=gr nn.1 nn.2.2.1 (f:=0) (t:=gM z vz g e) (by omega) t1
    have q2:=gr nn.2.1 nn.2.2.2 (f:=0) (t:=gM z vz g e) (by omega) t1
    obtain ⟨j1,j2⟩:=jj x vx h1'.2.1 (a:=gM z vz g e) (b:=iW z vz g e) (by omega)
    obtain ⟨j3,j4⟩:=jj y vy h1'.2.1 (a:=gM z vz g e) (b:=iW z vz g e) (by omega)
    simp only [Bool.not_true,cond_true,cond_false,Bool.and_self]
    rw [show bw (z - e) (vz - e) g=gM z vz g e from rfl,show bw (z+e) (vz+e) g+2=iW z vz g e from rfl,rQ h2 (by omega) t1,sd h1'.2 q1 q2,PW.2 (Bd.of h1'.2 q1 q2),decide_eq_true h1'.2,decide_eq_true t1,decide_eq_true t2,j1,j2,j3,j4]
    rfl
 ·cases h
end Go.Proofs.YtainfdcfkgemhaaGreat.Im
namespace Go.Proofs.YtainfdcfkgemhaaGreat.Im
open Go Go.Proofs Go.Sx
set_option linter.unusedVariables false
theorem imR_of {x y z vx vy vz g e:Int} (h1:-2147483648<=x/\x<=2147483648) (h2:-2147483648<=y/\y<=2147483648) (h3:-2147483648<=z/\z<=2147483648) (h4:-131072<=vx/\vx<=131072) (h5:-131072<=vy/\vy<=131072) (h6:-131072<=vz/\vz<=131072) (h7:1<=g/\g<=100) (h8:0<=e/\e<=2048):imR x y z vx vy vz g e=true :=
 NH.2 ⟨⟨yD.2 (by omega),h8⟩,nu.2 ⟨h1,h2,h4,h5⟩⟩
end Go.Proofs.YtainfdcfkgemhaaGreat.Im
namespace Go.Proofs.YtainfdcfkgemhaaGreat.Im
open Go Go.Proofs Go.Sx
set_option linter.unusedVariables false
def Γe0:Orc:=ah 172 FG ΓA13
theorem QN:Γe0.Ok prog:=ac uy qfa
def aO (v:Int):Int:=bif decide (v<0) then -v else v
theorem HX (v:Int):(0<=v/\aO v=v)\/(v<0/\aO v=-v):=by
 unfold aO
 by_cases h:v<0
 ·rw [decide_eq_true h];exact .inr ⟨h,rfl⟩
 ·rw [decide_eq_false h];exact .inl ⟨by omega,rfl⟩
def gL (a:Int):Bool:=decide (-2199023255552<=a/\a<=2199023255552)
def m2 (a b:Int):Int:=if aO b>aO a then aO b else aO a
def m3 (a b c:Int):Int:=if aO c>m2 a b then aO c else m2 a b
theorem qbg (a b c:Int):aO a<=m3 a b c/\aO b<=m3 a b c/\aO c<=m3 a b c/\(m3 a b c=aO a\/m3 a b c=aO b\/m3 a b c=aO c):=by
 unfold m3 m2
 split<;>split at *<;>(try split at *)<;>omega
def spI (f m e:Int):Int:=bif decide (f>m+e) then -1 else bif decide (f<=m - e) then 1 else 0
theorem Va (v:Int):runG Γe0 L0 prog f227 [.v (I v)] M0 =
 (bif decide (v<(0:Int)) then some (.v (.int .u64 (IntKind.u64.wrap ((0:Int) - IntKind.u64.wrap v))),M0) else some (.v (.int .u64 (IntKind.u64.wrap v)),M0)):=by kernel_rfl
def Ds (vs:List Value):Option (Bool×Value) :=
 match vs with
 | [.int .i64 v]=>some (gL v,.int .u64 (aO v))
 | _=>none
theorem qdh:am 227 Ds:=by
 intro vs r h
 unfold Ds at h
 split at h
 ·rename_i v
  obtain ⟨h1,rfl⟩:=ab h
  refine ak (vs:=[I v]) (Λ:=L0) (m':=M0) QN func227 rfl ai ?_
  exact (Va v).trans (by
   have h:-2199023255552<=v/\v<=2199023255552:=of_decide_eq_true h1
   unfold aO
   by_cases hv:v<0
   ·rw [decide_eq_true hv,wrU,wrU,show ((0:Int) - v % 18446744073709551616) % 18446744073709551616=-v by omega]
    rfl
   ·rw [decide_eq_false hv,ka (n:=v) (by omega)]
    rfl)
 ·cases h
def Γe1:Orc:=ah 227 Ds Γe0
theorem QM:Γe1.Ok prog:=ac QN qdh
theorem Vd (n:Int) (a:Int) (b:Int):runG Γe1 L0 prog f228 [.v (.int .u64 n),.v (I a),.v (I b)] M0 =
 (bif bD a&&bD b then (bif decide (jv (a+b)<(0:Int)) then some (.v (Bo true),M0) else (bif !bD (a+b) then (bif decide (a<(0:Int)) then some (.v (Bo true),M0) else some (.v (Bo (decide (n>IntKind.u64.wrap (IntKind.u64.wrap a+IntKind.u64.wrap b)))),M0)) else some (.v (Bo (decide (n>IntKind.u64.wrap (IntKind.u64.wrap a+IntKind.u64.wrap b)))),M0))) else none):=by kernel_rfl
def Du (vs:List Value):Option (Bool×Value) :=
 match vs with
 | [.int .u64 n,.int .i64 a,.int .i64 b]=>some (decide (0<=n/\n<=4398046511104)&&(decide (0<=a/\a<=2199023255552)&&decide (0<=b/\b<=2199023255552)),Bo (decide (n>a+b)))
 | _=>none
theorem qdj:am 228 Du:=by
 intro vs r h
 unfold Du at h
 split at h
 ·rename_i n a b
  obtain ⟨h1,rfl⟩:=ab h
  refine ak (vs:=[.int .u64 n,I a,I b]) (Λ:=L0) (m':=M0) QM func228 rfl ai ?_
  exact (Vd n a b).trans (by
   simp only [Bool.and_eq_true,decide_eq_true_eq] at h1
   obtain ⟨h1,h2,h3⟩:=h1
   have i:=eP.2 (show -9223372036854775808<=a+b/\a+b<9223372036854775808 by omega)
   rw [eP.2 (show -9223372036854775808<=a/\a<9223372036854775808 by omega),eP.2 (show -9223372036854775808<=b/\b<9223372036854775808 by omega),i,show jv (a+b)=a+b by unfold jv;rw [i];rfl,decide_eq_false (show ¬ a+b<0 by omega),ka (n:=a) (by omega),ka (n:=b) (by omega),ka (n:=a+b) (by omega)]
   rfl)
 ·cases h
def Γe2:Orc:=ah 228 Du Γe1
theorem QL:Γe2.Ok prog:=ac QM qdj
theorem U9 (n:Int) (a:Int) (b:Int):runG Γe2 L0 prog f229 [.v (.int .u64 n),.v (I a),.v (I b)] M0 =
 (bif decide (a>=b) then some (.v (Bo (decide (n<=IntKind.u64.wrap (IntKind.u64.wrap a - IntKind.u64.wrap b)))),M0) else some (.v (Bo false),M0)):=by kernel_rfl
def Dr (vs:List Value):Option (Bool×Value) :=
 match vs with
 | [.int .u64 n,.int .i64 a,.int .i64 b]=>some (decide (0<=n/\n<=4398046511104)&&(decide (0<=a/\a<=2199023255552)&&decide (0<=b/\b<=2199023255552)),Bo (decide (n<=a - b)))
 | _=>none
theorem qdg:am 229 Dr:=by
 intro vs r h
 unfold Dr at h
 split at h
 ·rename_i n a b
  obtain ⟨h1,rfl⟩:=ab h
  refine ak (vs:=[.int .u64 n,I a,I b]) (Λ:=L0) (m':=M0) QL func229 rfl ai ?_
  exact (U9 n a b).trans (by
   simp only [Bool.and_eq_true,decide_eq_true_eq] at h1
   obtain ⟨h1,h2,h3⟩:=h1
   by_cases h:a>=b
   ·rw [decide_eq_true h,ka (n:=a) (by omega),ka (n:=b) (by omega),ka (n:=a - b) (by omega)]
    rfl
   ·rw [decide_eq_false h,decide_eq_false (show ¬ n<=a - b by omega)]
    rfl)
 ·cases h
def Γe3:Orc:=ah 229 Dr Γe2
theorem QK:Γe3.Ok prog:=ac QL qdg
theorem Vb (p:Int) (q:Int) (x:Int) (y:Int) (z:Int) (vx:Int) (vy:Int) (vz:Int) (mo:Int) (e:Int):runG Γe3 L0 prog f167 [.v (.agg #[I p,I q,I x,I y,I z,I vx,I vy,I vz]),.v (I mo),.v (I e)] M0 =
 (bif gL vx then (bif gL vy then (bif gL vz then (bif decide (((0:Int)<=if aO vz>if aO vy>aO vx then aO vy else aO vx then aO vz else if aO vy>aO vx then aO vy else aO vx)/\(if aO vz>if aO vy>aO vx then aO vy else aO vx then aO vz else if aO vy>aO vx then aO vy else aO vx)<=(4398046511104:Int))&&(decide ((0:Int)<=mo/\mo<=(2199023255552:Int))&&decide ((0:Int)<=e/\e<=(2199023255552:Int))) then (bif decide ((if aO vz>if aO vy>aO vx then aO vy else aO vx then aO vz else if aO vy>aO vx then aO vy else aO vx)>mo+e) then some (.v (I (-1)),M0) else (bif decide (((0:Int)<=if aO vz>if aO vy>aO vx then aO vy else aO vx then aO vz else if aO vy>aO vx then aO vy else aO vx)/\(if aO vz>if aO vy>aO vx then aO vy else aO vx then aO vz else if aO vy>aO vx then aO vy else aO vx)<=(4398046511104:Int))&&(decide ((0:Int)<=mo/\mo<=(2199023255552:Int))&&decide ((0:Int)<=e/\e<=(2199023255552:Int))) then (bif decide ((if aO vz>if aO vy>aO vx then aO vy else aO vx then aO vz else if aO vy>aO vx then aO vy else aO vx)<=mo - e) then some (.v (I 1),M0) else some (.v (I 0),M0)) else none)) else none) else none) else none) else none):=by kernel_rfl
def Dt (vs:List Value):Option (Bool×Value) :=
 match vs with
 | [.agg ⟨[.int .i64 p,.int .i64 q,.int .i64 x,.int .i64 y,.int .i64 z,.int .i64 vx,.int .i64 vy,.int .i64 vz]⟩,.int .i64 mo,.int .i64 e]=>some (gL vx&&(gL vy&&(gL vz&&(decide (0<=mo/\mo<=2199023255552)&&decide (0<=e/\e<=2199023255552)))),I (spI (m3 vx vy vz) mo e))
 | _=>none
theorem qdi:am 167 Dt:=by
 intro vs r h
 unfold Dt at h
 split at h
 ·rename_i p q x y z vx vy vz mo e
  obtain ⟨h1,rfl⟩:=ab h
  refine ak (vs:=[.agg #[I p,I q,I x,I y,I z,I vx,I vy,I vz],I mo,I e]) (Λ:=L0) (m':=M0) QK func167 rfl ai ?_
  exact (Vb p q x y z vx vy vz mo e).trans (by
   simp only [Bool.and_eq_true] at h1
   obtain ⟨h1,h2,h3,h4,h5⟩:=h1
   rw [h1,h2,h3]
   have b1:-2199023255552<=vx/\vx<=2199023255552:=of_decide_eq_true h1
   have b2:-2199023255552<=vy/\vy<=2199023255552:=of_decide_eq_true h2
   have b3:-2199023255552<=vz/\vz<=2199023255552:=of_decide_eq_true h3
   have a1:=HX vx
   have a2:=HX vy
   have a3:=HX vz
   have a4:=qbg vx vy vz
   show (bif decide (0<=m3 vx vy vz/\m3 vx vy vz<=4398046511104)&&_ then (bif decide (m3 vx vy vz>mo+e) then _ else (bif decide (0<=m3 vx vy vz/\m3 vx vy vz<=4398046511104)&&_ then (bif decide (m3 vx vy vz<=mo - e) then _ else _) else none)) else none)=_
   rw [decide_eq_true (show 0<=m3 vx vy vz/\m3 vx vy vz<=4398046511104 by omega),h4,h5]
   unfold spI
   cases decide (m3 vx vy vz>mo+e)<;>cases decide (m3 vx vy vz<=mo - e)<;>rfl)
 ·cases h
def Γe4:Orc:=ah 167 Dt Γe3
theorem qiT:Γe4.Ok prog:=ac QK qdi
def boxI (x y z vx vy vz g e:Int) (L:List (List Dat)):Int:=nm (nQ x y z vx vy vz g e) (nO x y z vx vy vz g e) (nT x y z vx vy vz g e) (nR x y z vx vy vz g e) L
def wsI (r s:Int):Int:=if r<s then r else s
def ofI (x y z vx vy vz g mo e:Int) (L:List (List Dat)):Int:=bif !imR x y z vx vy vz g e then 4 else (bif wsI (boxI x y z vx vy vz g e L) (spI (m3 vx vy vz) mo e)==-1 then 3 else bif wsI (boxI x y z vx vy vz g e L) (spI (m3 vx vy vz) mo e)==1 then 1 else 2)
theorem Vc (p:Int) (q:Int) (x:Int) (y:Int) (z:Int) (vx:Int) (vy:Int) (vz:Int) (g:Int) (v:Int) (m:Int) (u:Int) (e:Int) (L:List (List Dat)) (own:Bool) (mark:Bool):runG Γe4 L0 prog f103 [.v (.agg #[I p,I q,I x,I y,I z,I vx,I vy,I vz]),.ag [.row 0,.v (I g),.v (I v),.v (I m),.v (I u)],.v (I e)] ⟨[],[],[rP L own mark]⟩ =
 (bif !imR x y z vx vy vz g e then some (.v (I 4),⟨[],[],[.live ⟨162,[.num .i64,.num .i64],L,own,mark⟩]⟩) else (bif gL vx&&(gL vy&&(gL vz&&(decide ((0:Int)<=v/\v<=(2199023255552:Int))&&decide ((0:Int)<=e/\e<=(2199023255552:Int))))) then (bif L.length.ble (1000000) then (bif (if nm (nQ x y z vx vy vz g e) (nO x y z vx vy vz g e) (nT x y z vx vy vz g e) (nR x y z vx vy vz g e) L<spI (m3 vx vy vz) v e then nm (nQ x y z vx vy vz g e) (nO x y z vx vy vz g e) (nT x y z vx vy vz g e) (nR x y z vx vy vz g e) L else spI (m3 vx vy vz) v e)==(-1:Int) then some (.v (I 3),⟨[],[],[.live ⟨162,[.num .i64,.num .i64],L,own,mark⟩]⟩) else (bif (if nm (nQ x y z vx vy vz g e) (nO x y z vx vy vz g e) (nT x y z vx vy vz g e) (nR x y z vx vy vz g e) L<spI (m3 vx vy vz) v e then nm (nQ x y z vx vy vz g e) (nO x y z vx vy vz g e) (nT x y z vx vy vz g e) (nR x y z vx vy vz g e) L else spI (m3 vx vy vz) v e)==(1:Int) then some (.v (I 1),⟨[],[],[.live ⟨162,[.num .i64,.num .i64],L,own,mark⟩]⟩) else some (.v (I 2),⟨[],[],[.live ⟨162,[.num .i64,.num .i64],L,own,mark⟩]⟩))) else none) else none)):=by kernel_rfl
def gVof (xs:List SV) (m:Mem):Option (Bool×Value) :=
 match xs,m with
 | [.v (.agg ⟨[.int .i64 p,.int .i64 q,.int .i64 x,.int .i64 y,.int .i64 z,.int .i64 vx,.int .i64 vy,.int .i64 vz]⟩),.ag [.row 0,.v (.int .i64 g),.v (.int .i64 v),.v (.int .i64 m),.v (.int .i64 u)],.v (.int .i64 e)],⟨[],[],[.live ⟨162,[.num .i64,.num .i64],L,own,mark⟩]⟩=>some (Nat.ble L.length 1000000&&decide (0<=v/\v<=2199023255552),I (ofI x y z vx vy vz g v e L))
 | _,_=>none
theorem gVof_ok:bi 103 gVof:=by
 intro xs m r h
 unfold gVof at h
 split at h
 ·rename_i p q x y z vx vy vz g v m u e L own mark
  obtain ⟨h1,rfl⟩:=ab h
  refine af (Λ:=L0) qiT func103 rfl ai ?_
  refine (Vc p q x y z vx vy vz g v m u e L own mark).trans ?_
  rw [Bool.and_eq_true] at h1
  obtain ⟨h1,h2⟩:=h1
  rw [h1]
  unfold ofI
  cases hi:imR x y z vx vy vz g e
  ·rfl
  have h3:=NH.1 hi
  have h4:=nu.1 h3.2
  have h5:=yD.1 h3.1.1
  have b1:gL vx=true:=decide_eq_true (by omega)
  have b2:gL vy=true:=decide_eq_true (by omega)
  have b3:gL vz=true:=decide_eq_true (by omega)
  rw [b1,b2,b3,h2,decide_eq_true (show 0<=e/\e<=2199023255552 by omega)]
  show (bif wsI (boxI x y z vx vy vz g e L) (spI (m3 vx vy vz) v e)==-1 then _ else (bif wsI (boxI x y z vx vy vz g e L) (spI (m3 vx vy vz) v e)==1 then _ else _))=_
  simp only [Bool.not_true,cond_false]
  cases wsI (boxI x y z vx vy vz g e L) (spI (m3 vx vy vz) v e)==-1<;>cases wsI (boxI x y z vx vy vz g e L) (spI (m3 vx vy vz) v e)==1<;>rfl
 ·cases h
end Go.Proofs.YtainfdcfkgemhaaGreat.Im
