/-
  What is known of this program: phases,pairs,impacts,verdicts.
-/
import Derived.Test.YtainfdcfkgemhaaGreatYc
import Derived.Test.YtainfdcfkgemhaaGreatYe
import Derived.Test.YtainfdcfkgemhaaGreatYg
import Derived.Test.YtainfdcfkgemhaaGreatYa
set_option maxRecDepth 100000
noncomputable section
open Go.Proofs.Tryz
namespace Go.Proofs.YtainfdcfkgemhaaGreat.Ph
open Go Go.Proofs Go.Sx
def Γv1:Orc:=aC 280 tr ΓA13
theorem qjI:Γv1.Ok prog:=aA uF DK
def Γv2:Orc:=aC 175 gCUp Γv1
theorem qjH:Γv2.Ok prog:=aA qjI gCUp_ok
def Γv3:Orc:=aC 217 tv Γv2
theorem qjG:Γv3.Ok prog:=aA qjH Gv
def Γv4:Orc:=aC 176 tw Γv3
theorem H9:Γv4.Ok prog:=aA qjG Gw
end Go.Proofs.YtainfdcfkgemhaaGreat.Ph
namespace Go.Proofs.YtainfdcfkgemhaaGreat.Ph
open Go Go.Proofs Go.Sx
set_option linter.unusedVariables false
def Tk (f:FuncId):Bool:=AC f||(Nat.beq f 214||Nat.beq f 144||Nat.beq f 194||Nat.beq f 152||Nat.beq f 195||false)
def Γp0:Orc:={ Γv4 with wr:=Tk,sb:=true,bs:=true }
theorem QW:Γp0.Ok prog:=⟨H9.call,H9.rd,H9.eqv⟩
theorem XX (r1:Int) (r2:Int) (r3:Int) (r4:Int) (r5:Int) (r6:Int) (r7:Int) (r8:Int) (p:Int) (a:Int) (v:Int) (L:List (List Dat)) (own:Bool) (mark:Bool):runG Γp0 L0 prog f220 [.ptr 0 0] ⟨[[.row 0,.v (I r1),.v (I r2),.v (I r3),.v (I r4),.v (I r5),.v (I r6),.v (I r7),.v (I r8),.v (I p),.ptr 1 0],[.v (I a),.v (I v)]],[true,true],[rH L own mark]⟩ =
 some (.v (Bo (decide (p>=wI ((L.length:Int) - (1:Int))))),⟨[[.row 0,.v (I r1),.v (I r2),.v (I r3),.v (I r4),.v (I r5),.v (I r6),.v (I r7),.v (I r8),.v (I p),.ptr 1 0],[.v (I a),.v (I v)]],[true,true],[.live ⟨117,aP,L,own,mark⟩]⟩):=by kernel_rfl
def ET (xs:List SV) (m:Mem):Option (Bool×Value) :=
 match xs,m with
 | [.ptr 0 0],⟨[[.row 0,.v (.int .i64 r1),.v (.int .i64 r2),.v (.int .i64 r3),.v (.int .i64 r4),.v (.int .i64 r5),.v (.int .i64 r6),.v (.int .i64 r7),.v (.int .i64 r8),.v (.int .i64 p),.ptr 1 0],[.v (.int .i64 a),.v (.int .i64 v)]],[true,true],[.live ⟨117,[.sl 162 [.num .i64,.num .i64],.num .i64,.num .i64,.num .i64,.num .i64],L,own,mark⟩]⟩=>some (true,Bo (decide (p>=wI ((L.length:Int) - 1))))
 | _,_=>none
theorem qfD:bk 220 ET:=by
 intro xs m r h
 unfold ET at h
 split at h
 ·rename_i r1 r2 r3 r4 r5 r6 r7 r8 p a v L own mark
  obtain ⟨h1,rfl⟩:=ab h
  refine aj (Λ:=L0) QW func220 rfl ai ?_
  refine (XX r1 r2 r3 r4 r5 r6 r7 r8 p a v L own mark).trans ?_
  rfl
 ·cases h
def Γp1:Orc:=aU 220 ET Γp0
theorem QV:Γp1.Ok prog:=aO QW qfD
theorem XZ (r1:Int) (r2:Int) (r3:Int) (r4:Int) (r5:Int) (r6:Int) (r7:Int) (r8:Int) (p:Int) (a:Int) (v:Int) (L:List (List Dat)) (own:Bool) (mark:Bool):runG Γp1 L0 prog f154 [.ptr 0 0] ⟨[[.row 0,.v (I r1),.v (I r2),.v (I r3),.v (I r4),.v (I r5),.v (I r6),.v (I r7),.v (I r8),.v (I p),.ptr 1 0],[.v (I a),.v (I v)]],[true,true],[rH L own mark]⟩ =
 some (.v (I v),⟨[[.row 0,.v (I r1),.v (I r2),.v (I r3),.v (I r4),.v (I r5),.v (I r6),.v (I r7),.v (I r8),.v (I p),.ptr 1 0],[.v (I a),.v (I v)]],[true,true],[.live ⟨117,aP,L,own,mark⟩]⟩):=by kernel_rfl
def gPin (xs:List SV) (m:Mem):Option (Bool×Value) :=
 match xs,m with
 | [.ptr 0 0],⟨[[.row 0,.v (.int .i64 r1),.v (.int .i64 r2),.v (.int .i64 r3),.v (.int .i64 r4),.v (.int .i64 r5),.v (.int .i64 r6),.v (.int .i64 r7),.v (.int .i64 r8),.v (.int .i64 p),.ptr 1 0],[.v (.int .i64 a),.v (.int .i64 v)]],[true,true],[.live ⟨117,[.sl 162 [.num .i64,.num .i64],.num .i64,.num .i64,.num .i64,.num .i64],L,own,mark⟩]⟩=>some (true,I v)
 | _,_=>none
theorem gPin_ok:bk 154 gPin:=by
 intro xs m r h
 unfold gPin at h
 split at h
 ·rename_i r1 r2 r3 r4 r5 r6 r7 r8 p a v L own mark
  obtain ⟨h1,rfl⟩:=ab h
  refine aj (Λ:=L0) QV func154 rfl ai ?_
  refine (XZ r1 r2 r3 r4 r5 r6 r7 r8 p a v L own mark).trans ?_
  rfl
 ·cases h
def Γp2:Orc:=aU 154 gPin Γp1
theorem QU:Γp2.Ok prog:=aO QV gPin_ok
theorem XU (r1:Int) (r2:Int) (r3:Int) (r4:Int) (r5:Int) (r6:Int) (r7:Int) (r8:Int) (p:Int) (a:Int) (v:Int) (L:List (List Dat)) (own:Bool) (mark:Bool):runG Γp2 L0 prog f150 [.ptr 0 0] ⟨[[.row 0,.v (I r1),.v (I r2),.v (I r3),.v (I r4),.v (I r5),.v (I r6),.v (I r7),.v (I r8),.v (I p),.ptr 1 0],[.v (I a),.v (I v)]],[true,true],[rH L own mark]⟩ =
 some (.v (I p),⟨[[.row 0,.v (I r1),.v (I r2),.v (I r3),.v (I r4),.v (I r5),.v (I r6),.v (I r7),.v (I r8),.v (I p),.ptr 1 0],[.v (I a),.v (I v)]],[true,true],[.live ⟨117,aP,L,own,mark⟩]⟩):=by kernel_rfl
def gPph (xs:List SV) (m:Mem):Option (Bool×Value) :=
 match xs,m with
 | [.ptr 0 0],⟨[[.row 0,.v (.int .i64 r1),.v (.int .i64 r2),.v (.int .i64 r3),.v (.int .i64 r4),.v (.int .i64 r5),.v (.int .i64 r6),.v (.int .i64 r7),.v (.int .i64 r8),.v (.int .i64 p),.ptr 1 0],[.v (.int .i64 a),.v (.int .i64 v)]],[true,true],[.live ⟨117,[.sl 162 [.num .i64,.num .i64],.num .i64,.num .i64,.num .i64,.num .i64],L,own,mark⟩]⟩=>some (true,I p)
 | _,_=>none
theorem gPph_ok:bk 150 gPph:=by
 intro xs m r h
 unfold gPph at h
 split at h
 ·rename_i r1 r2 r3 r4 r5 r6 r7 r8 p a v L own mark
  obtain ⟨h1,rfl⟩:=ab h
  refine aj (Λ:=L0) QU func150 rfl ai ?_
  refine (XU r1 r2 r3 r4 r5 r6 r7 r8 p a v L own mark).trans ?_
  rfl
 ·cases h
def Γp3:Orc:=aU 150 gPph Γp2
theorem QT:Γp3.Ok prog:=aO QU gPph_ok
def wishB (L:List (List Dat)) (p v h:Int) (kn:Bool):Bool:=bif decide (p>=wI ((L.length:Int) - 1)) then false else bif !kn then false else bif decide (v>=cT L p) then decide (h>=c0 L p) else false
theorem XQ (ht:Int) (kn:Bool) (r1:Int) (r2:Int) (r3:Int) (r4:Int) (r5:Int) (r6:Int) (r7:Int) (r8:Int) (p:Int) (a:Int) (v:Int) (L:List (List Dat)) (own:Bool) (mark:Bool):runG Γp3 L0 prog f151 [.ptr 0 0,.v (I ht),.v (Bo kn)] ⟨[[.row 0,.v (I r1),.v (I r2),.v (I r3),.v (I r4),.v (I r5),.v (I r6),.v (I r7),.v (I r8),.v (I p),.ptr 1 0],[.v (I a),.v (I v)]],[true,true],[rH L own mark]⟩ =
 (bif decide (p>=wI ((L.length:Int) - (1:Int))) then some (.v (Bo false),⟨[[.row 0,.v (I r1),.v (I r2),.v (I r3),.v (I r4),.v (I r5),.v (I r6),.v (I r7),.v (I r8),.v (I p),.ptr 1 0],[.v (I a),.v (I v)]],[true,true],[.live ⟨117,aP,L,own,mark⟩]⟩) else (bif !kn then some (.v (Bo false),⟨[[.row 0,.v (I r1),.v (I r2),.v (I r3),.v (I r4),.v (I r5),.v (I r6),.v (I r7),.v (I r8),.v (I p),.ptr 1 0],[.v (I a),.v (I v)]],[true,true],[.live ⟨117,aP,L,own,mark⟩]⟩) else (bif decide ((0:Int)<=p)&&decide (p<(L.length:Int)) then (same ((bif decide (v>=(cT L p)) then some (.v (Bo (decide (ht>=(c0 L p)))),⟨[[.row 0,.v (I r1),.v (I r2),.v (I r3),.v (I r4),.v (I r5),.v (I r6),.v (I r7),.v (I r8),.v (I p),.ptr 1 0],[.v (I a),.v (I v)]],[true,true],[.live ⟨117,aP,L,own,mark⟩]⟩) else some (.v (Bo false),⟨[[.row 0,.v (I r1),.v (I r2),.v (I r3),.v (I r4),.v (I r5),.v (I r6),.v (I r7),.v (I r8),.v (I p),.ptr 1 0],[.v (I a),.v (I v)]],[true,true],[.live ⟨117,aP,L,own,mark⟩]⟩))) ((bif decide (v>=(cT L p)) then some (.v (Bo (decide (ht>=(c0 L p)))),⟨[[.row 0,.v (I r1),.v (I r2),.v (I r3),.v (I r4),.v (I r5),.v (I r6),.v (I r7),.v (I r8),.v (I p),.ptr 1 0],[.v (I a),.v (I v)]],[true,true],[.live ⟨117,aP,L,own,mark⟩]⟩) else some (.v (Bo false),⟨[[.row 0,.v (I r1),.v (I r2),.v (I r3),.v (I r4),.v (I r5),.v (I r6),.v (I r7),.v (I r8),.v (I p),.ptr 1 0],[.v (I a),.v (I v)]],[true,true],[.live ⟨117,aP,L,own,mark⟩]⟩)))) else none))):=by kernel_rfl
def gPwi (xs:List SV) (m:Mem):Option (Bool×Value) :=
 match xs,m with
 | [.ptr 0 0,.v (.int .i64 ht),.v (.bool kn)],⟨[[.row 0,.v (.int .i64 r1),.v (.int .i64 r2),.v (.int .i64 r3),.v (.int .i64 r4),.v (.int .i64 r5),.v (.int .i64 r6),.v (.int .i64 r7),.v (.int .i64 r8),.v (.int .i64 p),.ptr 1 0],[.v (.int .i64 a),.v (.int .i64 v)]],[true,true],[.live ⟨117,[.sl 162 [.num .i64,.num .i64],.num .i64,.num .i64,.num .i64,.num .i64],L,own,mark⟩]⟩=>some (decide (0<=p)&&decide (p<(L.length:Int)),Bo (wishB L p v ht kn))
 | _,_=>none
theorem gPwi_ok:bk 151 gPwi:=by
 intro xs m r h
 unfold gPwi at h
 split at h
 ·rename_i ht kn r1 r2 r3 r4 r5 r6 r7 r8 p a v L own mark
  obtain ⟨h1,rfl⟩:=ab h
  refine aj (Λ:=L0) QT func151 rfl ai ?_
  refine (XQ ht kn r1 r2 r3 r4 r5 r6 r7 r8 p a v L own mark).trans ?_
  rw [h1,iV]
  unfold wishB
  cases decide (p>=wI ((L.length:Int) - 1))<;>first|rfl|(cases kn<;>first|rfl|(cases decide (v>=cT L p)<;>rfl))
 ·cases h
def Γp4:Orc:=aU 151 gPwi Γp3
theorem QS:Γp4.Ok prog:=aO QT gPwi_ok
def cyB (L:List (List Dat)) (p:Int) (mi th:Bool):Bool:=bif decide (p>=wI ((L.length:Int) - 1)) then false else bif !mi then false else th
theorem X0 (mi:Bool) (th:Bool) (r1:Int) (r2:Int) (r3:Int) (r4:Int) (r5:Int) (r6:Int) (r7:Int) (r8:Int) (p:Int) (a:Int) (v:Int) (L:List (List Dat)) (own:Bool) (mark:Bool):runG Γp4 L0 prog f152 [.ptr 0 0,.v (Bo mi),.v (Bo th)] ⟨[[.row 0,.v (I r1),.v (I r2),.v (I r3),.v (I r4),.v (I r5),.v (I r6),.v (I r7),.v (I r8),.v (I p),.ptr 1 0],[.v (I a),.v (I v)]],[true,true],[rH L own mark]⟩ =
 (bif decide (p>=wI ((L.length:Int) - (1:Int))) then some (.v (Bo false),⟨[[.row 0,.v (I r1),.v (I r2),.v (I r3),.v (I r4),.v (I r5),.v (I r6),.v (I r7),.v (I r8),.v (I p),.ptr 1 0],[.v (I a),.v (I (au a v (1:Int)))]],[true,true],[.live ⟨117,aP,L,own,mark⟩]⟩) else (bif !mi then some (.v (Bo false),⟨[[.row 0,.v (I r1),.v (I r2),.v (I r3),.v (I r4),.v (I r5),.v (I r6),.v (I r7),.v (I r8),.v (I p),.ptr 1 0],[.v (I a),.v (I (au a v (1:Int)))]],[true,true],[.live ⟨117,aP,L,own,mark⟩]⟩) else (bif !th then some (.v (Bo false),⟨[[.row 0,.v (I r1),.v (I r2),.v (I r3),.v (I r4),.v (I r5),.v (I r6),.v (I r7),.v (I r8),.v (I p),.ptr 1 0],[.v (I a),.v (I (au a v (1:Int)))]],[true,true],[.live ⟨117,aP,L,own,mark⟩]⟩) else some (.v (Bo true),⟨[[.row 0,.v (I r1),.v (I r2),.v (I r3),.v (I r4),.v (I r5),.v (I r6),.v (I r7),.v (I r8),.v (I (wI (p+(1:Int)))),.ptr 1 0],[.v (I a),.v (I (aR (0:Int) a))]],[true,true],[.live ⟨117,aP,L,own,mark⟩]⟩)))):=by kernel_rfl
def gPcy (xs:List SV) (m:Mem):Option (Bool×SV×Mem) :=
 match xs,m with
 | [.ptr 0 0,.v (.bool mi),.v (.bool th)],⟨[[.row 0,.v (.int .i64 r1),.v (.int .i64 r2),.v (.int .i64 r3),.v (.int .i64 r4),.v (.int .i64 r5),.v (.int .i64 r6),.v (.int .i64 r7),.v (.int .i64 r8),.v (.int .i64 p),.ptr 1 0],[.v (.int .i64 a),.v (.int .i64 v)]],[true,true],[.live ⟨117,[.sl 162 [.num .i64,.num .i64],.num .i64,.num .i64,.num .i64,.num .i64],L,own,mark⟩]⟩=>some (true,.v (Bo (cyB L p mi th)),⟨[[.row 0,.v (I r1),.v (I r2),.v (I r3),.v (I r4),.v (I r5),.v (I r6),.v (I r7),.v (I r8),.v (I (bif cyB L p mi th then wI (p+1) else p)),.ptr 1 0],[.v (I a),.v (I (bif cyB L p mi th then aR 0 a else au a v 1))]],[true,true],[rH L own mark]⟩)
 | _,_=>none
theorem gPcy_ok:aQ 152 gPcy:=by
 intro xs m r m' h
 unfold gPcy at h
 split at h
 ·rename_i mi th r1 r2 r3 r4 r5 r6 r7 r8 p a v L own mark
  obtain ⟨h1,rfl,rfl⟩:=aw h
  refine aj (Λ:=L0) QS func152 rfl ai ?_
  refine (X0 mi th r1 r2 r3 r4 r5 r6 r7 r8 p a v L own mark).trans ?_
  unfold cyB
  cases decide (p>=wI ((L.length:Int) - 1))<;>cases mi<;>cases th<;>rfl
 ·cases h
def Γp5:Orc:=aC 152 gPcy Γp4
theorem QR:Γp5.Ok prog:=aA QS gPcy_ok
def seB (L:List (List Dat)) (q i:Int):Bool:=bif decide (q<0) then false else bif decide (q>=(L.length:Int)) then false else bif decide (i<0) then false else bif decide (i>1000000) then false else true
theorem XR (q:Int) (i:Int) (r1:Int) (r2:Int) (r3:Int) (r4:Int) (r5:Int) (r6:Int) (r7:Int) (r8:Int) (p:Int) (a:Int) (v:Int) (L:List (List Dat)) (own:Bool) (mark:Bool):runG Γp5 L0 prog f195 [.ptr 0 0,.v (I q),.v (I i)] ⟨[[.row 0,.v (I r1),.v (I r2),.v (I r3),.v (I r4),.v (I r5),.v (I r6),.v (I r7),.v (I r8),.v (I p),.ptr 1 0],[.v (I a),.v (I v)]],[true,true],[rH L own mark]⟩ =
 (bif decide (q<(0:Int)) then some (.v (Bo false),⟨[[.row 0,.v (I r1),.v (I r2),.v (I r3),.v (I r4),.v (I r5),.v (I r6),.v (I r7),.v (I r8),.v (I p),.ptr 1 0],[.v (I a),.v (I v)]],[true,true],[.live ⟨117,aP,L,own,mark⟩]⟩) else (bif decide (q>=(L.length:Int)) then some (.v (Bo false),⟨[[.row 0,.v (I r1),.v (I r2),.v (I r3),.v (I r4),.v (I r5),.v (I r6),.v (I r7),.v (I r8),.v (I p),.ptr 1 0],[.v (I a),.v (I v)]],[true,true],[.live ⟨117,aP,L,own,mark⟩]⟩) else (bif decide (i<(0:Int)) then some (.v (Bo false),⟨[[.row 0,.v (I r1),.v (I r2),.v (I r3),.v (I r4),.v (I r5),.v (I r6),.v (I r7),.v (I r8),.v (I p),.ptr 1 0],[.v (I a),.v (I v)]],[true,true],[.live ⟨117,aP,L,own,mark⟩]⟩) else (bif decide (i>(1000000:Int)) then some (.v (Bo false),⟨[[.row 0,.v (I r1),.v (I r2),.v (I r3),.v (I r4),.v (I r5),.v (I r6),.v (I r7),.v (I r8),.v (I p),.ptr 1 0],[.v (I a),.v (I v)]],[true,true],[.live ⟨117,aP,L,own,mark⟩]⟩) else some (.v (Bo true),⟨[[.row 0,.v (I r1),.v (I r2),.v (I r3),.v (I r4),.v (I r5),.v (I r6),.v (I r7),.v (I r8),.v (I q),.ptr 1 0],[.v (I a),.v (I (aR i a))]],[true,true],[.live ⟨117,aP,L,own,mark⟩]⟩))))):=by kernel_rfl
def gPse (xs:List SV) (m:Mem):Option (Bool×SV×Mem) :=
 match xs,m with
 | [.ptr 0 0,.v (.int .i64 q),.v (.int .i64 i)],⟨[[.row 0,.v (.int .i64 r1),.v (.int .i64 r2),.v (.int .i64 r3),.v (.int .i64 r4),.v (.int .i64 r5),.v (.int .i64 r6),.v (.int .i64 r7),.v (.int .i64 r8),.v (.int .i64 p),.ptr 1 0],[.v (.int .i64 a),.v (.int .i64 v)]],[true,true],[.live ⟨117,[.sl 162 [.num .i64,.num .i64],.num .i64,.num .i64,.num .i64,.num .i64],L,own,mark⟩]⟩=>some (true,.v (Bo (seB L q i)),⟨[[.row 0,.v (I r1),.v (I r2),.v (I r3),.v (I r4),.v (I r5),.v (I r6),.v (I r7),.v (I r8),.v (I (bif seB L q i then q else p)),.ptr 1 0],[.v (I a),.v (I (bif seB L q i then aR i a else v))]],[true,true],[rH L own mark]⟩)
 | _,_=>none
theorem gPse_ok:aQ 195 gPse:=by
 intro xs m r m' h
 unfold gPse at h
 split at h
 ·rename_i q i r1 r2 r3 r4 r5 r6 r7 r8 p a v L own mark
  obtain ⟨h1,rfl,rfl⟩:=aw h
  refine aj (Λ:=L0) QR func195 rfl ai ?_
  refine (XR q i r1 r2 r3 r4 r5 r6 r7 r8 p a v L own mark).trans ?_
  unfold seB
  cases decide (q<0)<;>cases decide (q>=(L.length:Int))<;>cases decide (i<0)<;>cases decide (i>1000000)<;>rfl
 ·cases h
def Γp6:Orc:=aC 195 gPse Γp5
theorem QQ:Γp6.Ok prog:=aA QR gPse_ok
theorem XS (r1:Int) (r2:Int) (r3:Int) (r4:Int) (r5:Int) (r6:Int) (r7:Int) (r8:Int) (p:Int) (L:List (List Dat)) (own:Bool) (mark:Bool):runG Γp6 L0 prog f214 [.ag [.row 0,.v (I r1),.v (I r2),.v (I r3),.v (I r4),.v (I r5),.v (I r6),.v (I r7),.v (I r8)],.v (I p)] ⟨[],[],[rH L own mark]⟩ =
 (bif decide (p<(0:Int)) then some (.v (.tuple #[(.agg #[(Value.slice none (0:Nat) (0:Nat)),(I 0),(I 0),(I 0),(I 0)]),(Bo false)]),⟨[],[],[.live ⟨117,aP,L,own,mark⟩]⟩) else (bif decide (p>=(L.length:Int)) then some (.v (.tuple #[(.agg #[(Value.slice none (0:Nat) (0:Nat)),(I 0),(I 0),(I 0),(I 0)]),(Bo false)]),⟨[],[],[.live ⟨117,aP,L,own,mark⟩]⟩) else (bif decide ((0:Int)<=p)&&decide (p<(L.length:Int)) then (bif Nat.blt (0:Nat) (bp L p).length&&(bp L p).length.ble (1000000) then some (.tup [.ag [.row 1,.v (I ((c4 L p))),.v (I ((cK L p))),.v (I ((cT L p))),.v (I ((c0 L p)))],.one (.v (Bo true))],⟨[],[],[.live ⟨117,aP,L,own,mark⟩,.live ⟨162,[.num .i64,.num .i64],(bp L p),true,false⟩]⟩) else none) else none))):=by kernel_rfl
def ES (xs:List SV) (m:Mem):Option (Bool×SV×Mem) :=
 match xs,m with
 | [.ag [.row 0,.v (.int .i64 r1),.v (.int .i64 r2),.v (.int .i64 r3),.v (.int .i64 r4),.v (.int .i64 r5),.v (.int .i64 r6),.v (.int .i64 r7),.v (.int .i64 r8)],.v (.int .i64 p)],⟨[],[],[.live ⟨117,[.sl 162 [.num .i64,.num .i64],.num .i64,.num .i64,.num .i64,.num .i64],L,own,mark⟩]⟩=>some (cz L&&(fu L&&(decide (0<=p)&&decide (p<(L.length:Int)))),.tup [.ag [.row 1,.v (I (c4 L p)),.v (I (cK L p)),.v (I (cT L p)),.v (I (c0 L p))],.one (.v (Bo true))],⟨[],[],[rH L own mark,rP (bp L p) true false]⟩)
 | _,_=>none
theorem qfC:aQ 214 ES:=by
 intro xs m r m' h
 unfold ES at h
 split at h
 ·rename_i r1 r2 r3 r4 r5 r6 r7 r8 p L own mark
  obtain ⟨h1,rfl,rfl⟩:=aw h
  refine aj (Λ:=L0) QQ func214 rfl ai ?_
  refine (XS r1 r2 r3 r4 r5 r6 r7 r8 p L own mark).trans ?_
  simp only [Bool.and_eq_true,decide_eq_true_eq] at h1
  obtain ⟨h1,h2,h3,h4⟩:=h1
  rw [decide_eq_false (show ¬ p<0 by omega),decide_eq_false (show ¬ p>=(L.length:Int) by omega),decide_eq_true h3,decide_eq_true h4,(ws h1 h3 h4).2,Mh h2 h3 h4]
  rfl
 ·cases h
def Γp7:Orc:=aC 214 ES Γp6
theorem QP:Γp7.Ok prog:=aA QQ qfC
theorem XW (r1:Int) (r2:Int) (r3:Int) (r4:Int) (r5:Int) (r6:Int) (r7:Int) (r8:Int) (p:Int) (a:Int) (v:Int) (L:List (List Dat)) (own:Bool) (mark:Bool):runG Γp7 L0 prog f144 [.ptr 0 0] ⟨[[.row 0,.v (I r1),.v (I r2),.v (I r3),.v (I r4),.v (I r5),.v (I r6),.v (I r7),.v (I r8),.v (I p),.ptr 1 0],[.v (I a),.v (I v)]],[true,true],[rH L own mark]⟩ =
 (same ((bif cz L&&(fu L&&(decide ((0:Int)<=p)&&decide (p<(L.length:Int)))) then (same (some (.ag [.row 1,.v (I (c4 L p)),.v (I (cK L p)),.v (I (cT L p)),.v (I (c0 L p))],⟨[[.row 0,.v (I r1),.v (I r2),.v (I r3),.v (I r4),.v (I r5),.v (I r6),.v (I r7),.v (I r8),.v (I p),.ptr 1 0],[.v (I a),.v (I v)]],[true,true],[.live ⟨117,aP,L,own,mark⟩,.live ⟨162,[.num .i64,.num .i64],bp L p,true,false⟩]⟩)) (some (.ag [.row 1,.v (I (c4 L p)),.v (I (cK L p)),.v (I (cT L p)),.v (I (c0 L p))],⟨[[.row 0,.v (I r1),.v (I r2),.v (I r3),.v (I r4),.v (I r5),.v (I r6),.v (I r7),.v (I r8),.v (I p),.ptr 1 0],[.v (I a),.v (I v)]],[true,true],[.live ⟨117,aP,L,own,mark⟩,.live ⟨162,[.num .i64,.num .i64],bp L p,true,false⟩]⟩))) else none)) ((bif cz L&&(fu L&&(decide ((0:Int)<=p)&&decide (p<(L.length:Int)))) then (same (some (.ag [.row 1,.v (I (c4 L p)),.v (I (cK L p)),.v (I (cT L p)),.v (I (c0 L p))],⟨[[.row 0,.v (I r1),.v (I r2),.v (I r3),.v (I r4),.v (I r5),.v (I r6),.v (I r7),.v (I r8),.v (I p),.ptr 1 0],[.v (I a),.v (I v)]],[true,true],[.live ⟨117,aP,L,own,mark⟩,.live ⟨162,[.num .i64,.num .i64],bp L p,true,false⟩]⟩)) (some (.ag [.row 1,.v (I (c4 L p)),.v (I (cK L p)),.v (I (cT L p)),.v (I (c0 L p))],⟨[[.row 0,.v (I r1),.v (I r2),.v (I r3),.v (I r4),.v (I r5),.v (I r6),.v (I r7),.v (I r8),.v (I p),.ptr 1 0],[.v (I a),.v (I v)]],[true,true],[.live ⟨117,aP,L,own,mark⟩,.live ⟨162,[.num .i64,.num .i64],bp L p,true,false⟩]⟩))) else none))):=by kernel_rfl
def gPno (xs:List SV) (m:Mem):Option (Bool×SV×Mem) :=
 match xs,m with
 | [.ptr 0 0],⟨[[.row 0,.v (.int .i64 r1),.v (.int .i64 r2),.v (.int .i64 r3),.v (.int .i64 r4),.v (.int .i64 r5),.v (.int .i64 r6),.v (.int .i64 r7),.v (.int .i64 r8),.v (.int .i64 p),.ptr 1 0],[.v (.int .i64 a),.v (.int .i64 v)]],[true,true],[.live ⟨117,[.sl 162 [.num .i64,.num .i64],.num .i64,.num .i64,.num .i64,.num .i64],L,own,mark⟩]⟩=>some (cz L&&(fu L&&(decide (0<=p)&&decide (p<(L.length:Int)))),.ag [.row 1,.v (I (c4 L p)),.v (I (cK L p)),.v (I (cT L p)),.v (I (c0 L p))],⟨[[.row 0,.v (I r1),.v (I r2),.v (I r3),.v (I r4),.v (I r5),.v (I r6),.v (I r7),.v (I r8),.v (I (p)),.ptr 1 0],[.v (I a),.v (I (v))]],[true,true],[rH L own mark,rP (bp L p) true false]⟩)
 | _,_=>none
theorem gPno_ok:aQ 144 gPno:=by
 intro xs m r m' h
 unfold gPno at h
 split at h
 ·rename_i r1 r2 r3 r4 r5 r6 r7 r8 p a v L own mark
  obtain ⟨h1,rfl,rfl⟩:=aw h
  refine aj (Λ:=L0) QP func144 rfl ai ?_
  refine (XW r1 r2 r3 r4 r5 r6 r7 r8 p a v L own mark).trans ?_
  rw [h1]
  simp only [iV,cond_true]
 ·cases h
def Γp8:Orc:=aC 144 gPno Γp7
theorem qj7:Γp8.Ok prog:=aA QP gPno_ok
theorem XV (r1:Int) (r2:Int) (r3:Int) (r4:Int) (r5:Int) (r6:Int) (r7:Int) (r8:Int) (L:List (List Dat)) (own:Bool) (mark:Bool):runG Γp8 L0 prog f194 [.ag [.row 0,.v (I r1),.v (I r2),.v (I r3),.v (I r4),.v (I r5),.v (I r6),.v (I r7),.v (I r8)]] ⟨[],[],[rH L own mark]⟩ =
 (bif cz L then (bif !wrB L r1 r2 r3 r4 r5 r6 r7 r8==(0:Int) then some (.v (Value.pointer none),⟨[],[],[.live ⟨117,aP,L,own,mark⟩]⟩) else (bif cz L&&(fu L&&Nat.blt (0:Nat) L.length) then some (.ptr 0 0,⟨[[.row 1,.v (I r1),.v (I r2),.v (I r3),.v (I r4),.v (I r5),.v (I r6),.v (I r7),.v (I r8),.v (I 0),.ptr 1 0],[.v (I 1000000),.v (I 0)]],[true,true],[.live ⟨117,aP,L,own,mark⟩,.live ⟨117,aP,L,true,false⟩]⟩) else none)) else none):=by kernel_rfl
def gPnw (xs:List SV) (m:Mem):Option (Bool×SV×Mem) :=
 match xs,m with
 | [.ag [.row 0,.v (.int .i64 r1),.v (.int .i64 r2),.v (.int .i64 r3),.v (.int .i64 r4),.v (.int .i64 r5),.v (.int .i64 r6),.v (.int .i64 r7),.v (.int .i64 r8)]],⟨[],[],[.live ⟨117,[.sl 162 [.num .i64,.num .i64],.num .i64,.num .i64,.num .i64,.num .i64],L,own,mark⟩]⟩=>some (cz L&&(fu L&&(wrB L r1 r2 r3 r4 r5 r6 r7 r8==0&&Nat.blt 0 L.length)),.ptr 0 0,⟨[[.row 1,.v (I r1),.v (I r2),.v (I r3),.v (I r4),.v (I r5),.v (I r6),.v (I r7),.v (I r8),.v (I 0),.ptr 1 0],[.v (I 1000000),.v (I 0)]],[true,true],[rH L own mark,rH L true false]⟩)
 | _,_=>none
theorem gPnw_ok:aQ 194 gPnw:=by
 intro xs m r m' h
 unfold gPnw at h
 split at h
 ·rename_i r1 r2 r3 r4 r5 r6 r7 r8 L own mark
  obtain ⟨h1,rfl,rfl⟩:=aw h
  refine aj (Λ:=L0) qj7 func194 rfl ai ?_
  refine (XV r1 r2 r3 r4 r5 r6 r7 r8 L own mark).trans ?_
  simp only [Bool.and_eq_true] at h1
  obtain ⟨h1,h2,h3,h4⟩:=h1
  rw [h1,h2,h3,h4]
  rfl
 ·cases h
end Go.Proofs.YtainfdcfkgemhaaGreat.Ph
namespace Go.Proofs.YtainfdcfkgemhaaGreat.Pa
open Go Go.Proofs Go.Sx Nw
set_option linter.unusedVariables false
def epsP (e:Int):Int:=wI (2*cB e (-1) 2305843009213693952)
def cmpP (x y near:Bool):Int:=bif x then (bif y then (bif near then 3 else 4) else 1) else (bif y then 2 else 0)
def hgt (a b:Int) (x y:Bool):Int:=bif x then (bif y then (if b<a then b else a) else a) else (bif y then b else 0)
theorem X8 (a:Int) (b:Int) (c:Int) (d:Int) (e:Int) (f:Int) (g:Int) (q:Int) (a':Int) (b':Int) (c':Int) (d':Int) (e':Int) (f':Int) (g':Int) (q':Int) (x:Bool) (y:Bool) (w:Int):runG ΓNb L0 prog f145 [.v (.agg #[I a,I b,I c,I d,I e,I f,I g,I q]),.v (.agg #[I a',I b',I c',I d',I e',I f',I g',I q']),.v (Bo x),.v (Bo y),.v (I w)] M0 =
 (bif !x then (bif !y then some (.v (I 0),M0) else (bif !y then some (.v (I 1),M0) else (bif !x then some (.v (I 2),M0) else (bif pL (wI ((2:Int)*cB w (-1:Int) (2305843009213693952:Int))) c c' d d' e e' f f' g g' q q' then some (.v (I 3),M0) else some (.v (I 4),M0))))) else (bif !y then some (.v (I 1),M0) else (bif !x then some (.v (I 2),M0) else (bif pL (wI ((2:Int)*cB w (-1:Int) (2305843009213693952:Int))) c c' d d' e e' f f' g g' q q' then some (.v (I 3),M0) else some (.v (I 4),M0))))):=by kernel_rfl
def gPCmp (vs:List Value):Option (Bool×Value) :=
 match vs with
 | [.agg ⟨[.int .i64 a,.int .i64 b,.int .i64 c,.int .i64 d,.int .i64 e,.int .i64 f,.int .i64 g,.int .i64 q]⟩,.agg ⟨[.int .i64 a',.int .i64 b',.int .i64 c',.int .i64 d',.int .i64 e',.int .i64 f',.int .i64 g',.int .i64 q']⟩,.bool x,.bool y,.int .i64 w]=>some (true,I (cmpP x y (pL (epsP w) c c' d d' e e' f f' g g' q q')))
 | _=>none
theorem gPCmp_ok:am 145 gPCmp:=by
 intro vs r h
 unfold gPCmp at h
 split at h
 ·rename_i a b c d e f g q a' b' c' d' e' f' g' q' x y w
  obtain ⟨h1,rfl⟩:=ab h
  refine ak (vs:=[.agg #[I a,I b,I c,I d,I e,I f,I g,I q],.agg #[I a',I b',I c',I d',I e',I f',I g',I q'],Bo x,Bo y,I w]) (Λ:=L0) (m':=M0) zM func145 rfl ai ?_
  exact (X8 a b c d e f g q a' b' c' d' e' f' g' q' x y w).trans (by rw [show wI (2*cB w (-1) 2305843009213693952)=epsP w from rfl];cases x<;>cases y<;>first|rfl|(cases pL (epsP w) c c' d d' e e' f f' g g' q q'<;>rfl))
 ·cases h
def ΓJ1:Orc:=ah 145 gPCmp ΓNb
theorem OkJ1:ΓJ1.Ok prog:=af zM gPCmp_ok
def ΓJ2:Orc:=ΓJ1
theorem OkJ2:ΓJ2.Ok prog:=OkJ1
theorem X5 (a:Int) (b:Int) (c:Int) (d:Int) (e:Int) (f:Int) (g:Int) (q:Int) (a':Int) (b':Int) (c':Int) (d':Int) (e':Int) (f':Int) (g':Int) (q':Int) (x:Bool) (y:Bool):runG ΓJ2 L0 prog f146 [.v (.agg #[I a,I b,I c,I d,I e,I f,I g,I q]),.v (.agg #[I a',I b',I c',I d',I e',I f',I g',I q']),.v (Bo x),.v (Bo y)] M0 =
 (bif x then (bif y then some (.v (.tuple #[(I (if e'<e then e' else e)),(Bo true)]),M0) else (bif x then some (.v (.tuple #[(I e),(Bo true)]),M0) else (bif y then some (.v (.tuple #[(I e'),(Bo true)]),M0) else some (.v (.tuple #[(I 0),(Bo false)]),M0)))) else (bif x then some (.v (.tuple #[(I e),(Bo true)]),M0) else (bif y then some (.v (.tuple #[(I e'),(Bo true)]),M0) else some (.v (.tuple #[(I 0),(Bo false)]),M0)))):=by kernel_rfl
def gPHgt (vs:List Value):Option (Bool×Value) :=
 match vs with
 | [.agg ⟨[.int .i64 a,.int .i64 b,.int .i64 c,.int .i64 d,.int .i64 e,.int .i64 f,.int .i64 g,.int .i64 q]⟩,.agg ⟨[.int .i64 a',.int .i64 b',.int .i64 c',.int .i64 d',.int .i64 e',.int .i64 f',.int .i64 g',.int .i64 q']⟩,.bool x,.bool y]=>some (true,Value.tuple #[I (hgt e e' x y),Bo (x||y)])
 | _=>none
theorem gPHgt_ok:am 146 gPHgt:=by
 intro vs r h
 unfold gPHgt at h
 split at h
 ·rename_i a b c d e f g q a' b' c' d' e' f' g' q' x y
  obtain ⟨h1,rfl⟩:=ab h
  refine ak (vs:=[.agg #[I a,I b,I c,I d,I e,I f,I g,I q],.agg #[I a',I b',I c',I d',I e',I f',I g',I q'],Bo x,Bo y]) (Λ:=L0) (m':=M0) OkJ2 func146 rfl ai ?_
  exact (X5 a b c d e f g q a' b' c' d' e' f' g' q' x y).trans (by cases x<;>cases y<;>rfl)
 ·cases h
end Go.Proofs.YtainfdcfkgemhaaGreat.Pa
namespace Go.Proofs.YtainfdcfkgemhaaGreat.Im
open Go Go.Proofs Go.Sx
set_option linter.unusedVariables false
def jC:Code:=ch (f172.body.getD .skip) 0
theorem qcu:aF (f172.body.getD .skip)=[jC]:=by kernel_rfl
def eu:List Bool:=aB 64 [2,3,6,11,42,43]
def uT (e:Ex):List Bool:=match e with
 | .exit _=>aB 64 [6,11]
 | .ret=>aB 64 [6]
 | .normal=>aB 64 [2,3,6,11,42,43]
def lD (e:Ex) (st:St):Option (Ex×St):=some (e,ac 0 0 (uT e) st)
def oS (p q x y z vx vy vz a b c d:Int):Mem:=⟨[[.v (I p),.v (I q),.v (I x),.v (I y),.v (I z),.v (I vx),.v (I vy),.v (I vz)],[.v (I 0),.v (I 0),.v (I 0),.v (I 0)],[.v (I a),.v (I b),.v (I c),.v (I d)]],[true,true,true],[]⟩
theorem UM (p q x y z vx vy vz a b c d e lo hi:Int) (n:Nat):an ΓBx prog L0 (ac 0 0 eu) jC (n+1) (mk eu [.v (I e),.ptr 0 0,.ptr 1 0,.ptr 2 0,.v (.agg #[I lo,I hi]),.v (I 0)] (oS p q x y z vx vy vz a b c d)) lD =
 (bif kF x y vx vy (wI ((0:Int) - e)) lo then (bif kL (x+(vx+wI ((0:Int) - e))*lo) (y+(vy+wI ((0:Int) - e))*lo) e then (bif bi a b c d&&bi (x+(vx+wI ((0:Int) - e))*lo - e) (y+(vy+wI ((0:Int) - e))*lo - e) (x+(vx+wI ((0:Int) - e))*lo+e) (y+(vy+wI ((0:Int) - e))*lo+e) then (bif kF x y vx vy e lo then (bif kL (x+(vx+e)*lo) (y+(vy+e)*lo) e then (bif bi (mn a (x+(vx+wI ((0:Int) - e))*lo - e)) (mn b (y+(vy+wI ((0:Int) - e))*lo - e)) (mx c (x+(vx+wI ((0:Int) - e))*lo+e)) (mx d (y+(vy+wI ((0:Int) - e))*lo+e))&&bi (x+(vx+e)*lo - e) (y+(vy+e)*lo - e) (x+(vx+e)*lo+e) (y+(vy+e)*lo+e) then an ΓBx prog L0 (ac 0 0 eu) jC n (mk eu [.v (I e),.ptr 0 0,.ptr 1 0,.ptr 2 0,.v (.agg #[(I lo),(I hi)]),.v (I 1)] ⟨[[.v (I p),.v (I q),.v (I x),.v (I y),.v (I z),.v (I vx),.v (I vy),.v (I vz)],[.v (I 0),.v (I 0),.v (I 0),.v (I 0)],[.v (I (mn (mn a (x+(vx+wI ((0:Int) - e))*lo - e)) (x+(vx+e)*lo - e))),.v (I (mn (mn b (y+(vy+wI ((0:Int) - e))*lo - e)) (y+(vy+e)*lo - e))),.v (I (mx (mx c (x+(vx+wI ((0:Int) - e))*lo+e)) (x+(vx+e)*lo+e))),.v (I (mx (mx d (y+(vy+wI ((0:Int) - e))*lo+e)) (y+(vy+e)*lo+e)))]],[true,true,true],[]⟩) lD else none) else none) else none) else none) else none) else none):=by kernel_rfl
theorem UL (p q x y z vx vy vz a b c d e lo hi:Int) (n:Nat):an ΓBx prog L0 (ac 0 0 eu) jC (n+1) (mk eu [.v (I e),.ptr 0 0,.ptr 1 0,.ptr 2 0,.v (.agg #[I lo,I hi]),.v (I 1)] (oS p q x y z vx vy vz a b c d)) lD =
 (bif kF x y vx vy (wI ((0:Int) - e)) hi then (bif kL (x+(vx+wI ((0:Int) - e))*hi) (y+(vy+wI ((0:Int) - e))*hi) e then (bif bi a b c d&&bi (x+(vx+wI ((0:Int) - e))*hi - e) (y+(vy+wI ((0:Int) - e))*hi - e) (x+(vx+wI ((0:Int) - e))*hi+e) (y+(vy+wI ((0:Int) - e))*hi+e) then (bif kF x y vx vy e hi then (bif kL (x+(vx+e)*hi) (y+(vy+e)*hi) e then (bif bi (mn a (x+(vx+wI ((0:Int) - e))*hi - e)) (mn b (y+(vy+wI ((0:Int) - e))*hi - e)) (mx c (x+(vx+wI ((0:Int) - e))*hi+e)) (mx d (y+(vy+wI ((0:Int) - e))*hi+e))&&bi (x+(vx+e)*hi - e) (y+(vy+e)*hi - e) (x+(vx+e)*hi+e) (y+(vy+e)*hi+e) then an ΓBx prog L0 (ac 0 0 eu) jC n (mk eu [.v (I e),.ptr 0 0,.ptr 1 0,.ptr 2 0,.v (.agg #[(I lo),(I hi)]),.v (I 2)] ⟨[[.v (I p),.v (I q),.v (I x),.v (I y),.v (I z),.v (I vx),.v (I vy),.v (I vz)],[.v (I 0),.v (I 0),.v (I 0),.v (I 0)],[.v (I (mn (mn a (x+(vx+wI ((0:Int) - e))*hi - e)) (x+(vx+e)*hi - e))),.v (I (mn (mn b (y+(vy+wI ((0:Int) - e))*hi - e)) (y+(vy+e)*hi - e))),.v (I (mx (mx c (x+(vx+wI ((0:Int) - e))*hi+e)) (x+(vx+e)*hi+e))),.v (I (mx (mx d (y+(vy+wI ((0:Int) - e))*hi+e)) (y+(vy+e)*hi+e)))]],[true,true,true],[]⟩) lD else none) else none) else none) else none) else none) else none):=by kernel_rfl
theorem UK (p q x y z vx vy vz a b c d e lo hi:Int) (n:Nat):an ΓBx prog L0 (ac 0 0 eu) jC (n+1) (mk eu [.v (I e),.ptr 0 0,.ptr 1 0,.ptr 2 0,.v (.agg #[I lo,I hi]),.v (I 2)] (oS p q x y z vx vy vz a b c d)) lD =
 some ((.exit 0),mk (uT (.exit 0)) [.ptr 0 0,.ptr 1 0] ⟨[[.v (I 0),.v (I 0),.v (I 0),.v (I 0)],[.v (I a),.v (I b),.v (I c),.v (I d)]],[true,true],[]⟩):=by kernel_rfl
theorem gD {x v f t:Int} (h1:-2147483648<=x/\x<=2147483648) (h2:-131072<=v/\v<=131072) (h3:-2048<=f/\f<=2048) (h4:0<=t/\t<=2097154):-300000000000<=x+(v+f)*t/\x+(v+f)*t<=300000000000:=by
 have p:=sI (a:=v+f) (b:=t) (A:=133120) (B:=2097154) (by omega) (by omega) (by omega) (by omega)
 omega
def Bd (a b c d:Int):Prop:=a<=c/\b<=d/\(-310000000000<=a/\c<=310000000000)/\-310000000000<=b/\d<=310000000000
def HI (a b c d:Int):Bool:=decide (a<=c/\b<=d/\(-310000000000<=a/\c<=310000000000)/\-310000000000<=b/\d<=310000000000)
theorem P9 {a b c d:Int}:HI a b c d=true↔Bd a b c d:=decide_eq_true_iff
theorem Bd.bo {a b c d:Int} (h:Bd a b c d):bi a b c d=true:=by
 obtain ⟨h1,h2,h3,h4⟩:=h
 exact HC.2 ⟨wo.2 (by omega),wo.2 (by omega),h1,h2⟩
theorem Bd.of {x y e:Int} (he:0<=e/\e<=2048) (hx:-300000000000<=x/\x<=300000000000) (hy:-300000000000<=y/\y<=300000000000):Bd (x - e) (y - e) (x+e) (y+e):=⟨by omega,by omega,by omega,by omega⟩
theorem Bd.join {a b c d a' b' c' d':Int} (h:Bd a b c d) (h':Bd a' b' c' d'):Bd (mn a a') (mn b b') (mx c c') (mx d d'):=by
 obtain ⟨h1,h2,h3,h4⟩:=h
 obtain ⟨k1,k2,k3,k4⟩:=h'
 have m1:=iD a a'
 have m2:=iD b b'
 have m3:=iE c c'
 have m4:=iE d d'
 exact ⟨by omega,by omega,by omega,by omega⟩
theorem sF {x y e:Int} (he:0<=e/\e<=2048) (hx:-300000000000<=x/\x<=300000000000) (hy:-300000000000<=y/\y<=300000000000):kL x y e=true:=MK.2 ⟨by omega,by omega,by omega⟩
theorem si {x y vx vy f t:Int} (h:gv x y vx vy=true) (h3:-2048<=f/\f<=2048) (h4:0<=t/\t<=2097154):kF x y vx vy f t=true:=by
 have:=nC.1 h
 exact L5.2 ⟨by omega,by omega,by omega,by omega,by omega,by omega⟩
def jL (a x v e t:Int):Int:=mn (mn a (x+(v+-e)*t - e)) (x+(v+e)*t - e)
def jH (a x v e t:Int):Int:=mx (mx a (x+(v+-e)*t+e)) (x+(v+e)*t+e)
theorem jBd {a b c d x y vx vy e t:Int} (h:Bd a b c d) (hn:gv x y vx vy=true) (he:0<=e/\e<=2048) (ht:0<=t/\t<=2097154):Bd (jL a x vx e t) (jL b y vy e t) (jH c x vx e t) (jH d y vy e t):=by
 have n:=nC.1 hn
 refine (h.join (Bd.of he (gD n.1 n.2.2.1 (f:=-e) ?_ ht) (gD n.2.1 n.2.2.2 (f:=-e) ?_ ht))).join (Bd.of he (gD n.1 n.2.2.1 (f:=e) ?_ ht) (gD n.2.1 n.2.2.2 (f:=e) ?_ ht))<;>omega
theorem qax (p q x y z vx vy vz a b c d e lo hi:Int) (n:Nat) (h:Bd a b c d) (hn:gv x y vx vy=true) (he:0<=e/\e<=2048) (ht:0<=lo/\lo<=2097154) :
  an ΓBx prog L0 (ac 0 0 eu) jC (n+1) (mk eu [.v (I e),.ptr 0 0,.ptr 1 0,.ptr 2 0,.v (.agg #[I lo,I hi]),.v (I 0)] (oS p q x y z vx vy vz a b c d)) lD =
  an ΓBx prog L0 (ac 0 0 eu) jC n (mk eu [.v (I e),.ptr 0 0,.ptr 1 0,.ptr 2 0,.v (.agg #[I lo,I hi]),.v (I 1)] (oS p q x y z vx vy vz (jL a x vx e lo) (jL b y vy e lo) (jH c x vx e lo) (jH d y vy e lo))) lD:=by
 refine (UM p q x y z vx vy vz a b c d e lo hi n).trans ?_
 have nn:=nC.1 hn
 have q1:=gD nn.1 nn.2.2.1 (f:=-e) (t:=lo) (by omega) ht
 have q2:=gD nn.2.1 nn.2.2.2 (f:=-e) (t:=lo) (by omega) ht
 have q3:=gD nn.1 nn.2.2.1 (f:=e) (t:=lo) (by omega) ht
 have q4:=gD nn.2.1 nn.2.2.2 (f:=e) (t:=lo) (by omega) ht
 have b1:=Bd.of he q1 q2
 have b2:=Bd.of he q3 q4
 rw [show wI (0 - e)=-e by rw [az (by omega)];omega,si hn (by omega) ht,si hn (by omega) ht,sF he q1 q2,sF he q3 q4,h.bo,b1.bo,(h.join b1).bo,b2.bo]
 rfl
theorem qaw (p q x y z vx vy vz a b c d e lo hi:Int) (n:Nat) (h:Bd a b c d) (hn:gv x y vx vy=true) (he:0<=e/\e<=2048) (ht:0<=hi/\hi<=2097154) :
  an ΓBx prog L0 (ac 0 0 eu) jC (n+1) (mk eu [.v (I e),.ptr 0 0,.ptr 1 0,.ptr 2 0,.v (.agg #[I lo,I hi]),.v (I 1)] (oS p q x y z vx vy vz a b c d)) lD =
  an ΓBx prog L0 (ac 0 0 eu) jC n (mk eu [.v (I e),.ptr 0 0,.ptr 1 0,.ptr 2 0,.v (.agg #[I lo,I hi]),.v (I 2)] (oS p q x y z vx vy vz (jL a x vx e hi) (jL b y vy e hi) (jH c x vx e hi) (jH d y vy e hi))) lD:=by
 refine (UL p q x y z vx vy vz a b c d e lo hi n).trans ?_
 have nn:=nC.1 hn
 have q1:=gD nn.1 nn.2.2.1 (f:=-e) (t:=hi) (by omega) ht
 have q2:=gD nn.2.1 nn.2.2.2 (f:=-e) (t:=hi) (by omega) ht
 have q3:=gD nn.1 nn.2.2.1 (f:=e) (t:=hi) (by omega) ht
 have q4:=gD nn.2.1 nn.2.2.2 (f:=e) (t:=hi) (by omega) ht
 have b1:=Bd.of he q1 q2
 have b2:=Bd.of he q3 q4
 rw [show wI (0 - e)=-e by rw [az (by omega)];omega,si hn (by omega) ht,si hn (by omega) ht,sF he q1 q2,sF he q3 q4,h.bo,b1.bo,(h.join b1).bo,b2.bo]
 rfl
def XIm (a b c d:Int):St:=mk (uT (.exit 0)) [.ptr 0 0,.ptr 1 0] ⟨[[.v (I 0),.v (I 0),.v (I 0),.v (I 0)],[.v (I a),.v (I b),.v (I c),.v (I d)]],[true,true],[]⟩
def JQ (vals:List SV) (m:Mem):Option (Bool×Ex×St) :=
 match vals,m with
 | [.v (.int .i64 e),.ptr 0 0,.ptr 1 0,.ptr 2 0,.v (.agg ⟨[.int .i64 lo,.int .i64 hi]⟩),.v (.int .i64 0)],⟨[[.v (.int .i64 p),.v (.int .i64 q),.v (.int .i64 x),.v (.int .i64 y),.v (.int .i64 z),.v (.int .i64 vx),.v (.int .i64 vy),.v (.int .i64 vz)],[.v (.int .i64 0),.v (.int .i64 0),.v (.int .i64 0),.v (.int .i64 0)],[.v (.int .i64 a),.v (.int .i64 b),.v (.int .i64 c),.v (.int .i64 d)]],[true,true,true],[]⟩ =>
  some (HI a b c d&&(gv x y vx vy&&(decide (0<=e/\e<=2048)&&(decide (0<=lo/\lo<=2097154)&&decide (0<=hi/\hi<=2097154)))),.exit 0,XIm (jL (jL a x vx e lo) x vx e hi) (jL (jL b y vy e lo) y vy e hi) (jH (jH c x vx e lo) x vx e hi) (jH (jH d y vy e lo) y vy e hi))
 | _,_=>none
def ΛIm:aV:=fun _ st=>cJ 0 0 eu JQ st
theorem qdg (z:Base) (z1:z.L.length=0) (z2:z.U.length=0):aS ΛIm prog z jC:=by
 refine du (Λ:=L0) (kx:=uT) zU mixed z1 z2 (fun b hb st t h=>by cases h) (G:=JQ) (fun _=>rfl) ?_
 intro vals m e st' h
 unfold JQ at h
 split at h
 ·rename_i e lo hi p q x y z vx vy vz a b c d
  obtain ⟨h1,rfl,rfl⟩:=aw h
  simp only [Bool.and_eq_true,decide_eq_true_eq] at h1
  obtain ⟨hb,hn,he,hlo,hhi⟩:=h1
  have hB:=P9.1 hb
  exact ⟨3,((qax p q x y z vx vy vz a b c d e lo hi 2 hB hn he hlo).trans (qaw p q x y z vx vy vz _ _ _ _ e lo hi 1 (jBd hB hn he hlo) hn he hhi)).trans (UK p q x y z vx vy vz _ _ _ _ e lo hi 0)⟩
 ·cases h
theorem YU (p q x y z vx vy vz g e:Int):runG ΓBx ΛIm prog f172 [.v (.agg #[I p,I q,I x,I y,I z,I vx,I vy,I vz]),.v (I g),.v (I e)] M0 =
 (bif !(bW z vz g&&decide ((0:Int)<=e/\e<=(2048:Int))) then some (.v (.tuple #[(.agg #[(I 0),(I 0),(I 0),(I 0)]),(Bo false)]),M0) else (bif !gv x y vx vy then some (.v (.tuple #[(.agg #[(I 0),(I 0),(I 0),(I 0)]),(Bo false)]),M0) else (bif kF x y vx vy (0:Int) (bif bW z vz g&&decide ((0:Int)<=e/\e<=(2048:Int)) then bC (z - e) (vz - e) g else (0:Int)) then (bif kL (x+(vx+(0:Int))*bif bW z vz g&&decide ((0:Int)<=e/\e<=(2048:Int)) then bC (z - e) (vz - e) g else (0:Int)) (y+(vy+(0:Int))*bif bW z vz g&&decide ((0:Int)<=e/\e<=(2048:Int)) then bC (z - e) (vz - e) g else (0:Int)) e then (bif HI ((x+(vx+(0:Int))*bif bW z vz g&&decide ((0:Int)<=e/\e<=(2048:Int)) then bC (z - e) (vz - e) g else (0:Int)) - e) ((y+(vy+(0:Int))*bif bW z vz g&&decide ((0:Int)<=e/\e<=(2048:Int)) then bC (z - e) (vz - e) g else (0:Int)) - e) ((x+(vx+(0:Int))*bif bW z vz g&&decide ((0:Int)<=e/\e<=(2048:Int)) then bC (z - e) (vz - e) g else (0:Int))+e) ((y+(vy+(0:Int))*bif bW z vz g&&decide ((0:Int)<=e/\e<=(2048:Int)) then bC (z - e) (vz - e) g else (0:Int))+e)&&(gv x y vx vy&&(decide ((0:Int)<=e/\e<=(2048:Int))&&(decide (((0:Int)<=bif bW z vz g&&decide ((0:Int)<=e/\e<=(2048:Int)) then bC (z - e) (vz - e) g else (0:Int))/\(bif bW z vz g&&decide ((0:Int)<=e/\e<=(2048:Int)) then bC (z - e) (vz - e) g else (0:Int))<=(2097154:Int))&&decide (((0:Int)<=bif bW z vz g&&decide ((0:Int)<=e/\e<=(2048:Int)) then bC (z+e) (vz+e) g+(2:Int) else (0:Int))/\(bif bW z vz g&&decide ((0:Int)<=e/\e<=(2048:Int)) then bC (z+e) (vz+e) g+(2:Int) else (0:Int))<=(2097154:Int))))) then some (.v (.tuple #[(.agg #[(I (jL (jL ((x+(vx+(0:Int))*bif bW z vz g&&decide ((0:Int)<=e/\e<=(2048:Int)) then bC (z - e) (vz - e) g else (0:Int)) - e) x vx e (bif bW z vz g&&decide ((0:Int)<=e/\e<=(2048:Int)) then bC (z - e) (vz - e) g else (0:Int))) x vx e (bif bW z vz g&&decide ((0:Int)<=e/\e<=(2048:Int)) then bC (z+e) (vz+e) g+(2:Int) else (0:Int)))),(I (jL (jL ((y+(vy+(0:Int))*bif bW z vz g&&decide ((0:Int)<=e/\e<=(2048:Int)) then bC (z - e) (vz - e) g else (0:Int)) - e) y vy e (bif bW z vz g&&decide ((0:Int)<=e/\e<=(2048:Int)) then bC (z - e) (vz - e) g else (0:Int))) y vy e (bif bW z vz g&&decide ((0:Int)<=e/\e<=(2048:Int)) then bC (z+e) (vz+e) g+(2:Int) else (0:Int)))),(I (jH (jH ((x+(vx+(0:Int))*bif bW z vz g&&decide ((0:Int)<=e/\e<=(2048:Int)) then bC (z - e) (vz - e) g else (0:Int))+e) x vx e (bif bW z vz g&&decide ((0:Int)<=e/\e<=(2048:Int)) then bC (z - e) (vz - e) g else (0:Int))) x vx e (bif bW z vz g&&decide ((0:Int)<=e/\e<=(2048:Int)) then bC (z+e) (vz+e) g+(2:Int) else (0:Int)))),(I (jH (jH ((y+(vy+(0:Int))*bif bW z vz g&&decide ((0:Int)<=e/\e<=(2048:Int)) then bC (z - e) (vz - e) g else (0:Int))+e) y vy e (bif bW z vz g&&decide ((0:Int)<=e/\e<=(2048:Int)) then bC (z - e) (vz - e) g else (0:Int))) y vy e (bif bW z vz g&&decide ((0:Int)<=e/\e<=(2048:Int)) then bC (z+e) (vz+e) g+(2:Int) else (0:Int))))]),(Bo true)]),M0) else none) else none) else none))):=by kernel_rfl
end Go.Proofs.YtainfdcfkgemhaaGreat.Im
namespace Go.Proofs.YtainfdcfkgemhaaGreat.Im
open Go Go.Proofs Go.Sx
set_option linter.unusedVariables false
end Go.Proofs.YtainfdcfkgemhaaGreat.Im
namespace Go.Proofs.YtainfdcfkgemhaaGreat.Im
open Go Go.Proofs Go.Sx
set_option linter.unusedVariables false
def gW (z vz g e:Int):Int:=bC (z - e) (vz - e) g
def jq (z vz g e:Int):Int:=bC (z+e) (vz+e) g+2
def imR (x y z vx vy vz g e:Int):Bool:=(bW z vz g&&decide (0<=e/\e<=2048))&&gv x y vx vy
def ze (x v e a b:Int):Int:=x - e+wU v e a b
def zf (x v e a b:Int):Int:=x+e+wR v e a b
theorem NP {x y z vx vy vz g e:Int}:imR x y z vx vy vz g e=true↔(bW z vz g=true/\0<=e/\e<=2048)/\gv x y vx vy=true:=by
 unfold imR
 simp only [Bool.and_eq_true,decide_eq_true_eq]
theorem T4 {z vz g e:Int} (h:bW z vz g=true) (he:0<=e/\e<=2048):(0<=gW z vz g e/\gW z vz g e<=2097154)/\(0<=jq z vz g e/\jq z vz g e<=2097154)/\gW z vz g e+2<=jq z vz g e:=by
 have k1:ez (z - e) (vz - e) g=true:=by rw [Int.sub_eq_add_neg,Int.sub_eq_add_neg];exact yo h (by omega) (by omega) (by omega) (by omega)
 have k2:ez (z+e) (vz+e) g=true:=yo h (by omega) (by omega) (by omega) (by omega)
 have a1:=pe k1
 have a2:=vf k1
 have a3:=pe k2
 have a4:=vf k2
 have a5:=T3 k1 k2 (by omega) (by omega)
 unfold gW jq
 omega
theorem jj (x v:Int) {e a b:Int} (he:0<=e) (hab:a<=b):jL (jL (x+(v+0)*a - e) x v e a) x v e b=ze x v e a b/\jH (jH (x+(v+0)*a+e) x v e a) x v e b=zf x v e a b:=by
 have:=qdF x v he hab
 unfold jL jH ze zf
 rw [Int.add_zero]
 exact this
def n6 (x y z vx vy vz g e:Int):Int:=bif imR x y z vx vy vz g e then ze x vx e (gW z vz g e) (jq z vz g e) else 0
def n5 (x y z vx vy vz g e:Int):Int:=bif imR x y z vx vy vz g e then ze y vy e (gW z vz g e) (jq z vz g e) else 0
def n8 (x y z vx vy vz g e:Int):Int:=bif imR x y z vx vy vz g e then zf x vx e (gW z vz g e) (jq z vz g e) else 0
def n7 (x y z vx vy vz g e:Int):Int:=bif imR x y z vx vy vz g e then zf y vy e (gW z vz g e) (jq z vz g e) else 0
def FE (vs:List Value):Option (Bool×Value) :=
 match vs with
 | [.agg ⟨[.int .i64 p,.int .i64 q,.int .i64 x,.int .i64 y,.int .i64 z,.int .i64 vx,.int .i64 vy,.int .i64 vz]⟩,.int .i64 g,.int .i64 e]=>some (true,.tuple #[.agg #[I (n6 x y z vx vy vz g e),I (n5 x y z vx vy vz g e),I (n8 x y z vx vy vz g e),I (n7 x y z vx vy vz g e)],Bo (imR x y z vx vy vz g e)])
 | _=>none
theorem qgn:am 172 FE:=by
 intro vs r h
 unfold FE at h
 split at h
 ·rename_i p q x y z vx vy vz g e
  obtain ⟨_,rfl⟩:=ab h
  refine ak (vs:=[.agg #[I p,I q,I x,I y,I z,I vx,I vy,I vz],I g,I e]) (Λ:=ΛIm) (m':=M0) zU func172 rfl (fun z z1 z2=>bR (c:=f172.body.getD .skip) qcu (qdg z z1 z2)) ?_
  refine (YU p q x y z vx vy vz g e).trans ?_
  unfold n6 n5 n8 n7 imR
  cases h1:bW z vz g&&decide (0<=e/\e<=2048)
  ·rfl
  ·cases h2:gv x y vx vy
   ·rfl
   ·have h1':=h1
    simp only [Bool.and_eq_true,decide_eq_true_eq] at h1'
    obtain ⟨t1,t2,t3⟩:=T4 h1'.1 h1'.2
    have nn:=nC.1 h2
    have q1:=gD nn.1 nn.2.2.1 (f:=0) (t:=gW z vz g e) (by omega) t1
    have q2:=gD nn.2.1 nn.2.2.2 (f:=0) (t:=gW z vz g e) (by omega) t1
    obtain ⟨j1,j2⟩:=jj x vx h1'.2.1 (a:=gW z vz g e) (b:=jq z vz g e) (by omega)
    obtain ⟨j3,j4⟩:=jj y vy h1'.2.1 (a:=gW z vz g e) (b:=jq z vz g e) (by omega)
    simp only [Bool.not_true,cond_true,cond_false,Bool.and_self]
    rw [show bC (z - e) (vz - e) g=gW z vz g e from rfl,show bC (z+e) (vz+e) g+2=jq z vz g e from rfl,si h2 (by omega) t1,sF h1'.2 q1 q2,P9.2 (Bd.of h1'.2 q1 q2),decide_eq_true h1'.2,decide_eq_true t1,decide_eq_true t2,j1,j2,j3,j4]
    rfl
 ·cases h
end Go.Proofs.YtainfdcfkgemhaaGreat.Im
namespace Go.Proofs.YtainfdcfkgemhaaGreat.Im
open Go Go.Proofs Go.Sx
set_option linter.unusedVariables false
theorem imR_of {x y z vx vy vz g e:Int} (h1:-2147483648<=x/\x<=2147483648) (h2:-2147483648<=y/\y<=2147483648) (h3:-2147483648<=z/\z<=2147483648) (h4:-131072<=vx/\vx<=131072) (h5:-131072<=vy/\vy<=131072) (h6:-131072<=vz/\vz<=131072) (h7:1<=g/\g<=100) (h8:0<=e/\e<=2048):imR x y z vx vy vz g e=true :=
 NP.2 ⟨⟨yp.2 (by omega),h8⟩,nC.2 ⟨h1,h2,h4,h5⟩⟩
end Go.Proofs.YtainfdcfkgemhaaGreat.Im
namespace Go.Proofs.YtainfdcfkgemhaaGreat.Im
open Go Go.Proofs Go.Sx
set_option linter.unusedVariables false
def Γe0:Orc:=ah 172 FE ΓA13
theorem Q1:Γe0.Ok prog:=af uF qgn
def aM (v:Int):Int:=bif decide (v<0) then -v else v
theorem HR (v:Int):(0<=v/\aM v=v)\/(v<0/\aM v=-v):=by
 unfold aM
 by_cases h:v<0
 ·rw [decide_eq_true h];exact .inr ⟨h,rfl⟩
 ·rw [decide_eq_false h];exact .inl ⟨by omega,rfl⟩
def gU (a:Int):Bool:=decide (-2199023255552<=a/\a<=2199023255552)
def m2 (a b:Int):Int:=if aM b>aM a then aM b else aM a
def m3 (a b c:Int):Int:=if aM c>m2 a b then aM c else m2 a b
theorem qbV (a b c:Int):aM a<=m3 a b c/\aM b<=m3 a b c/\aM c<=m3 a b c/\(m3 a b c=aM a\/m3 a b c=aM b\/m3 a b c=aM c):=by
 unfold m3 m2
 split<;>split at *<;>(try split at *)<;>omega
def spI (f m e:Int):Int:=bif decide (f>m+e) then -1 else bif decide (f<=m - e) then 1 else 0
theorem VH (v:Int):runG Γe0 L0 prog f227 [.v (I v)] M0 =
 (bif decide (v<(0:Int)) then some (.v (.int .u64 (IntKind.u64.wrap ((0:Int) - IntKind.u64.wrap v))),M0) else some (.v (.int .u64 (IntKind.u64.wrap v)),M0)):=by kernel_rfl
def Dl (vs:List Value):Option (Bool×Value) :=
 match vs with
 | [.int .i64 v]=>some (gU v,.int .u64 (aM v))
 | _=>none
theorem qei:am 227 Dl:=by
 intro vs r h
 unfold Dl at h
 split at h
 ·rename_i v
  obtain ⟨h1,rfl⟩:=ab h
  refine ak (vs:=[I v]) (Λ:=L0) (m':=M0) Q1 func227 rfl ai ?_
  exact (VH v).trans (by
   have h:-2199023255552<=v/\v<=2199023255552:=of_decide_eq_true h1
   unfold aM
   by_cases hv:v<0
   ·rw [decide_eq_true hv,wrU,wrU,show ((0:Int) - v % 18446744073709551616) % 18446744073709551616=-v by omega]
    rfl
   ·rw [decide_eq_false hv,kr (n:=v) (by omega)]
    rfl)
 ·cases h
def Γe1:Orc:=ah 227 Dl Γe0
theorem Q0:Γe1.Ok prog:=af Q1 qei
theorem VK (n:Int) (a:Int) (b:Int):runG Γe1 L0 prog f228 [.v (.int .u64 n),.v (I a),.v (I b)] M0 =
 (bif bf a&&bf b then (bif decide (jP (a+b)<(0:Int)) then some (.v (Bo true),M0) else (bif !bf (a+b) then (bif decide (a<(0:Int)) then some (.v (Bo true),M0) else some (.v (Bo (decide (n>IntKind.u64.wrap (IntKind.u64.wrap a+IntKind.u64.wrap b)))),M0)) else some (.v (Bo (decide (n>IntKind.u64.wrap (IntKind.u64.wrap a+IntKind.u64.wrap b)))),M0))) else none):=by kernel_rfl
def Dn (vs:List Value):Option (Bool×Value) :=
 match vs with
 | [.int .u64 n,.int .i64 a,.int .i64 b]=>some (decide (0<=n/\n<=4398046511104)&&(decide (0<=a/\a<=2199023255552)&&decide (0<=b/\b<=2199023255552)),Bo (decide (n>a+b)))
 | _=>none
theorem qek:am 228 Dn:=by
 intro vs r h
 unfold Dn at h
 split at h
 ·rename_i n a b
  obtain ⟨h1,rfl⟩:=ab h
  refine ak (vs:=[.int .u64 n,I a,I b]) (Λ:=L0) (m':=M0) Q0 func228 rfl ai ?_
  exact (VK n a b).trans (by
   simp only [Bool.and_eq_true,decide_eq_true_eq] at h1
   obtain ⟨h1,h2,h3⟩:=h1
   have i:=ew.2 (show -9223372036854775808<=a+b/\a+b<9223372036854775808 by omega)
   rw [ew.2 (show -9223372036854775808<=a/\a<9223372036854775808 by omega),ew.2 (show -9223372036854775808<=b/\b<9223372036854775808 by omega),i,show jP (a+b)=a+b by unfold jP;rw [i];rfl,decide_eq_false (show ¬ a+b<0 by omega),kr (n:=a) (by omega),kr (n:=b) (by omega),kr (n:=a+b) (by omega)]
   rfl)
 ·cases h
def Γe2:Orc:=ah 228 Dn Γe1
theorem QZ:Γe2.Ok prog:=af Q0 qek
theorem VG (n:Int) (a:Int) (b:Int):runG Γe2 L0 prog f229 [.v (.int .u64 n),.v (I a),.v (I b)] M0 =
 (bif decide (a>=b) then some (.v (Bo (decide (n<=IntKind.u64.wrap (IntKind.u64.wrap a - IntKind.u64.wrap b)))),M0) else some (.v (Bo false),M0)):=by kernel_rfl
def Dk (vs:List Value):Option (Bool×Value) :=
 match vs with
 | [.int .u64 n,.int .i64 a,.int .i64 b]=>some (decide (0<=n/\n<=4398046511104)&&(decide (0<=a/\a<=2199023255552)&&decide (0<=b/\b<=2199023255552)),Bo (decide (n<=a - b)))
 | _=>none
theorem qeh:am 229 Dk:=by
 intro vs r h
 unfold Dk at h
 split at h
 ·rename_i n a b
  obtain ⟨h1,rfl⟩:=ab h
  refine ak (vs:=[.int .u64 n,I a,I b]) (Λ:=L0) (m':=M0) QZ func229 rfl ai ?_
  exact (VG n a b).trans (by
   simp only [Bool.and_eq_true,decide_eq_true_eq] at h1
   obtain ⟨h1,h2,h3⟩:=h1
   by_cases h:a>=b
   ·rw [decide_eq_true h,kr (n:=a) (by omega),kr (n:=b) (by omega),kr (n:=a - b) (by omega)]
    rfl
   ·rw [decide_eq_false h,decide_eq_false (show ¬ n<=a - b by omega)]
    rfl)
 ·cases h
def Γe3:Orc:=ah 229 Dk Γe2
theorem QY:Γe3.Ok prog:=af QZ qeh
theorem VI (p:Int) (q:Int) (x:Int) (y:Int) (z:Int) (vx:Int) (vy:Int) (vz:Int) (mo:Int) (e:Int):runG Γe3 L0 prog f167 [.v (.agg #[I p,I q,I x,I y,I z,I vx,I vy,I vz]),.v (I mo),.v (I e)] M0 =
 (bif gU vx then (bif gU vy then (bif gU vz then (bif decide (((0:Int)<=if aM vz>if aM vy>aM vx then aM vy else aM vx then aM vz else if aM vy>aM vx then aM vy else aM vx)/\(if aM vz>if aM vy>aM vx then aM vy else aM vx then aM vz else if aM vy>aM vx then aM vy else aM vx)<=(4398046511104:Int))&&(decide ((0:Int)<=mo/\mo<=(2199023255552:Int))&&decide ((0:Int)<=e/\e<=(2199023255552:Int))) then (bif decide ((if aM vz>if aM vy>aM vx then aM vy else aM vx then aM vz else if aM vy>aM vx then aM vy else aM vx)>mo+e) then some (.v (I (-1)),M0) else (bif decide (((0:Int)<=if aM vz>if aM vy>aM vx then aM vy else aM vx then aM vz else if aM vy>aM vx then aM vy else aM vx)/\(if aM vz>if aM vy>aM vx then aM vy else aM vx then aM vz else if aM vy>aM vx then aM vy else aM vx)<=(4398046511104:Int))&&(decide ((0:Int)<=mo/\mo<=(2199023255552:Int))&&decide ((0:Int)<=e/\e<=(2199023255552:Int))) then (bif decide ((if aM vz>if aM vy>aM vx then aM vy else aM vx then aM vz else if aM vy>aM vx then aM vy else aM vx)<=mo - e) then some (.v (I 1),M0) else some (.v (I 0),M0)) else none)) else none) else none) else none) else none):=by kernel_rfl
def Dm (vs:List Value):Option (Bool×Value) :=
 match vs with
 | [.agg ⟨[.int .i64 p,.int .i64 q,.int .i64 x,.int .i64 y,.int .i64 z,.int .i64 vx,.int .i64 vy,.int .i64 vz]⟩,.int .i64 mo,.int .i64 e]=>some (gU vx&&(gU vy&&(gU vz&&(decide (0<=mo/\mo<=2199023255552)&&decide (0<=e/\e<=2199023255552)))),I (spI (m3 vx vy vz) mo e))
 | _=>none
theorem qej:am 167 Dm:=by
 intro vs r h
 unfold Dm at h
 split at h
 ·rename_i p q x y z vx vy vz mo e
  obtain ⟨h1,rfl⟩:=ab h
  refine ak (vs:=[.agg #[I p,I q,I x,I y,I z,I vx,I vy,I vz],I mo,I e]) (Λ:=L0) (m':=M0) QY func167 rfl ai ?_
  exact (VI p q x y z vx vy vz mo e).trans (by
   simp only [Bool.and_eq_true] at h1
   obtain ⟨h1,h2,h3,h4,h5⟩:=h1
   rw [h1,h2,h3]
   have b1:-2199023255552<=vx/\vx<=2199023255552:=of_decide_eq_true h1
   have b2:-2199023255552<=vy/\vy<=2199023255552:=of_decide_eq_true h2
   have b3:-2199023255552<=vz/\vz<=2199023255552:=of_decide_eq_true h3
   have a1:=HR vx
   have a2:=HR vy
   have a3:=HR vz
   have a4:=qbV vx vy vz
   show (bif decide (0<=m3 vx vy vz/\m3 vx vy vz<=4398046511104)&&_ then (bif decide (m3 vx vy vz>mo+e) then _ else (bif decide (0<=m3 vx vy vz/\m3 vx vy vz<=4398046511104)&&_ then (bif decide (m3 vx vy vz<=mo - e) then _ else _) else none)) else none)=_
   rw [decide_eq_true (show 0<=m3 vx vy vz/\m3 vx vy vz<=4398046511104 by omega),h4,h5]
   unfold spI
   cases decide (m3 vx vy vz>mo+e)<;>cases decide (m3 vx vy vz<=mo - e)<;>rfl)
 ·cases h
def Γe4:Orc:=ah 167 Dm Γe3
theorem qkg:Γe4.Ok prog:=af QY qej
def boxI (x y z vx vy vz g e:Int) (L:List (List Dat)):Int:=nw (n6 x y z vx vy vz g e) (n5 x y z vx vy vz g e) (n8 x y z vx vy vz g e) (n7 x y z vx vy vz g e) L
def wsI (r s:Int):Int:=if r<s then r else s
def ofI (x y z vx vy vz g mo e:Int) (L:List (List Dat)):Int:=bif !imR x y z vx vy vz g e then 4 else (bif wsI (boxI x y z vx vy vz g e L) (spI (m3 vx vy vz) mo e)==-1 then 3 else bif wsI (boxI x y z vx vy vz g e L) (spI (m3 vx vy vz) mo e)==1 then 1 else 2)
theorem VJ (p:Int) (q:Int) (x:Int) (y:Int) (z:Int) (vx:Int) (vy:Int) (vz:Int) (g:Int) (v:Int) (m:Int) (u:Int) (e:Int) (L:List (List Dat)) (own:Bool) (mark:Bool):runG Γe4 L0 prog f103 [.v (.agg #[I p,I q,I x,I y,I z,I vx,I vy,I vz]),.ag [.row 0,.v (I g),.v (I v),.v (I m),.v (I u)],.v (I e)] ⟨[],[],[rP L own mark]⟩ =
 (bif !imR x y z vx vy vz g e then some (.v (I 4),⟨[],[],[.live ⟨162,[.num .i64,.num .i64],L,own,mark⟩]⟩) else (bif gU vx&&(gU vy&&(gU vz&&(decide ((0:Int)<=v/\v<=(2199023255552:Int))&&decide ((0:Int)<=e/\e<=(2199023255552:Int))))) then (bif L.length.ble (1000000) then (bif (if nw (n6 x y z vx vy vz g e) (n5 x y z vx vy vz g e) (n8 x y z vx vy vz g e) (n7 x y z vx vy vz g e) L<spI (m3 vx vy vz) v e then nw (n6 x y z vx vy vz g e) (n5 x y z vx vy vz g e) (n8 x y z vx vy vz g e) (n7 x y z vx vy vz g e) L else spI (m3 vx vy vz) v e)==(-1:Int) then some (.v (I 3),⟨[],[],[.live ⟨162,[.num .i64,.num .i64],L,own,mark⟩]⟩) else (bif (if nw (n6 x y z vx vy vz g e) (n5 x y z vx vy vz g e) (n8 x y z vx vy vz g e) (n7 x y z vx vy vz g e) L<spI (m3 vx vy vz) v e then nw (n6 x y z vx vy vz g e) (n5 x y z vx vy vz g e) (n8 x y z vx vy vz g e) (n7 x y z vx vy vz g e) L else spI (m3 vx vy vz) v e)==(1:Int) then some (.v (I 1),⟨[],[],[.live ⟨162,[.num .i64,.num .i64],L,own,mark⟩]⟩) else some (.v (I 2),⟨[],[],[.live ⟨162,[.num .i64,.num .i64],L,own,mark⟩]⟩))) else none) else none)):=by kernel_rfl
def gVof (xs:List SV) (m:Mem):Option (Bool×Value) :=
 match xs,m with
 | [.v (.agg ⟨[.int .i64 p,.int .i64 q,.int .i64 x,.int .i64 y,.int .i64 z,.int .i64 vx,.int .i64 vy,.int .i64 vz]⟩),.ag [.row 0,.v (.int .i64 g),.v (.int .i64 v),.v (.int .i64 m),.v (.int .i64 u)],.v (.int .i64 e)],⟨[],[],[.live ⟨162,[.num .i64,.num .i64],L,own,mark⟩]⟩=>some (Nat.ble L.length 1000000&&decide (0<=v/\v<=2199023255552),I (ofI x y z vx vy vz g v e L))
 | _,_=>none
theorem gVof_ok:bk 103 gVof:=by
 intro xs m r h
 unfold gVof at h
 split at h
 ·rename_i p q x y z vx vy vz g v m u e L own mark
  obtain ⟨h1,rfl⟩:=ab h
  refine aj (Λ:=L0) qkg func103 rfl ai ?_
  refine (VJ p q x y z vx vy vz g v m u e L own mark).trans ?_
  rw [Bool.and_eq_true] at h1
  obtain ⟨h1,h2⟩:=h1
  rw [h1]
  unfold ofI
  cases hi:imR x y z vx vy vz g e
  ·rfl
  have h3:=NP.1 hi
  have h4:=nC.1 h3.2
  have h5:=yp.1 h3.1.1
  have b1:gU vx=true:=decide_eq_true (by omega)
  have b2:gU vy=true:=decide_eq_true (by omega)
  have b3:gU vz=true:=decide_eq_true (by omega)
  rw [b1,b2,b3,h2,decide_eq_true (show 0<=e/\e<=2199023255552 by omega)]
  show (bif wsI (boxI x y z vx vy vz g e L) (spI (m3 vx vy vz) v e)==-1 then _ else (bif wsI (boxI x y z vx vy vz g e L) (spI (m3 vx vy vz) v e)==1 then _ else _))=_
  simp only [Bool.not_true,cond_false]
  cases wsI (boxI x y z vx vy vz g e L) (spI (m3 vx vy vz) v e)==-1<;>cases wsI (boxI x y z vx vy vz g e L) (spI (m3 vx vy vz) v e)==1<;>rfl
 ·cases h
end Go.Proofs.YtainfdcfkgemhaaGreat.Im
