/-
  What is known of this program: phases,pairs,impacts,verdicts.
-/
import Derived.Test.YtainfdcfkgemhaaGreatYc
import Derived.Test.YtainfdcfkgemhaaGreatYe
import Derived.Test.YtainfdcfkgemhaaGreatYg
import Derived.Test.YtainfdcfkgemhaaGreatYa
set_option maxRecDepth 100000
noncomputable section
namespace Go.Proofs.YtainfdcfkgemhaaGreat.Ph
open Go Go.Proofs Go.Sx
def Γv1:Orc:=qau 280 qj2 ΓA13
theorem Okv1:Γv1.Ok Tryz.prog:=qad qtl qgq
def Γv2:Orc:=qau 175 gCUp Γv1
theorem Okv2:Γv2.Ok Tryz.prog:=qad Okv1 gCUp_ok
def Γv3:Orc:=qau 217 qsA Γv2
theorem Okv3:Γv3.Ok Tryz.prog:=qad Okv2 qiG
def Γv4:Orc:=qau 176 qgu Γv3
theorem qMM:Γv4.Ok Tryz.prog:=qad Okv3 qeV
end Go.Proofs.YtainfdcfkgemhaaGreat.Ph
namespace Go.Proofs.YtainfdcfkgemhaaGreat.Ph
open Go Go.Proofs Go.Sx
set_option linter.unusedVariables false
def wrP (f:FuncId):Bool:=qJr f||(Nat.beq f 214||Nat.beq f 144||Nat.beq f 194||Nat.beq f 152||Nat.beq f 195||false)
def Γp0:Orc:={ Γv4 with wr:=wrP,sb:=true,bs:=true }
theorem qON:Γp0.Ok Tryz.prog:=⟨qMM.call,qMM.rd,qMM.eqv⟩
theorem qFb (r1:Int) (r2:Int) (r3:Int) (r4:Int) (r5:Int) (r6:Int) (r7:Int) (r8:Int) (p:Int) (a:Int) (v:Int) (L:List (List Dat)) (own:Bool) (mark:Bool):runG Γp0 L0 Tryz.prog Tryz.f220 [.ptr 0 0] ⟨[[.row 0,.v (I r1),.v (I r2),.v (I r3),.v (I r4),.v (I r5),.v (I r6),.v (I r7),.v (I r8),.v (I p),.ptr 1 0],[.v (I a),.v (I v)]],[true,true],[rH L own mark]⟩ =
 some (.v (Bo (decide (p≥wI ((L.length:Int) - (1:Int))))),⟨[[.row 0,.v (I r1),.v (I r2),.v (I r3),.v (I r4),.v (I r5),.v (I r6),.v (I r7),.v (I r8),.v (I p),.ptr 1 0],[.v (I a),.v (I v)]],[true,true],[.live ⟨117,kPh,L,own,mark⟩]⟩):=by kernel_rfl
def qLO (xs:List SV) (m:Mem):Option (Bool×Value) :=
 match xs,m with
 | [.ptr 0 0],⟨[[.row 0,.v (.int .i64 r1),.v (.int .i64 r2),.v (.int .i64 r3),.v (.int .i64 r4),.v (.int .i64 r5),.v (.int .i64 r6),.v (.int .i64 r7),.v (.int .i64 r8),.v (.int .i64 p),.ptr 1 0],[.v (.int .i64 a),.v (.int .i64 v)]],[true,true],[.live ⟨117,[.sl 162 [.num .i64,.num .i64],.num .i64,.num .i64,.num .i64,.num .i64],L,own,mark⟩]⟩=>some (true,Bo (decide (p≥wI ((L.length:Int) - 1))))
 | _,_=>none
theorem qBi:CtR 220 qLO:=by
 intro xs m r h
 unfold qLO at h
 split at h
 ·rename_i r1 r2 r3 r4 r5 r6 r7 r8 p a v L own mark
  obtain ⟨h1,rfl⟩:=qac h
  refine qal (Λ:=L0) qON Tryz.func220 rfl l00 ?_
  refine (qFb r1 r2 r3 r4 r5 r6 r7 r8 p a v L own mark).trans ?_
  rfl
 ·cases h
def Γp1:Orc:=qay 220 qLO Γp0
theorem qOM:Γp1.Ok Tryz.prog:=qai qON qBi
theorem qFc (r1:Int) (r2:Int) (r3:Int) (r4:Int) (r5:Int) (r6:Int) (r7:Int) (r8:Int) (p:Int) (a:Int) (v:Int) (L:List (List Dat)) (own:Bool) (mark:Bool):runG Γp1 L0 Tryz.prog Tryz.f154 [.ptr 0 0] ⟨[[.row 0,.v (I r1),.v (I r2),.v (I r3),.v (I r4),.v (I r5),.v (I r6),.v (I r7),.v (I r8),.v (I p),.ptr 1 0],[.v (I a),.v (I v)]],[true,true],[rH L own mark]⟩ =
 some (.v (I v),⟨[[.row 0,.v (I r1),.v (I r2),.v (I r3),.v (I r4),.v (I r5),.v (I r6),.v (I r7),.v (I r8),.v (I p),.ptr 1 0],[.v (I a),.v (I v)]],[true,true],[.live ⟨117,kPh,L,own,mark⟩]⟩):=by kernel_rfl
def gPin (xs:List SV) (m:Mem):Option (Bool×Value) :=
 match xs,m with
 | [.ptr 0 0],⟨[[.row 0,.v (.int .i64 r1),.v (.int .i64 r2),.v (.int .i64 r3),.v (.int .i64 r4),.v (.int .i64 r5),.v (.int .i64 r6),.v (.int .i64 r7),.v (.int .i64 r8),.v (.int .i64 p),.ptr 1 0],[.v (.int .i64 a),.v (.int .i64 v)]],[true,true],[.live ⟨117,[.sl 162 [.num .i64,.num .i64],.num .i64,.num .i64,.num .i64,.num .i64],L,own,mark⟩]⟩=>some (true,I v)
 | _,_=>none
theorem gPin_ok:CtR 154 gPin:=by
 intro xs m r h
 unfold gPin at h
 split at h
 ·rename_i r1 r2 r3 r4 r5 r6 r7 r8 p a v L own mark
  obtain ⟨h1,rfl⟩:=qac h
  refine qal (Λ:=L0) qOM Tryz.func154 rfl l00 ?_
  refine (qFc r1 r2 r3 r4 r5 r6 r7 r8 p a v L own mark).trans ?_
  rfl
 ·cases h
def Γp2:Orc:=qay 154 gPin Γp1
theorem qOL:Γp2.Ok Tryz.prog:=qai qOM gPin_ok
theorem qE8 (r1:Int) (r2:Int) (r3:Int) (r4:Int) (r5:Int) (r6:Int) (r7:Int) (r8:Int) (p:Int) (a:Int) (v:Int) (L:List (List Dat)) (own:Bool) (mark:Bool):runG Γp2 L0 Tryz.prog Tryz.f150 [.ptr 0 0] ⟨[[.row 0,.v (I r1),.v (I r2),.v (I r3),.v (I r4),.v (I r5),.v (I r6),.v (I r7),.v (I r8),.v (I p),.ptr 1 0],[.v (I a),.v (I v)]],[true,true],[rH L own mark]⟩ =
 some (.v (I p),⟨[[.row 0,.v (I r1),.v (I r2),.v (I r3),.v (I r4),.v (I r5),.v (I r6),.v (I r7),.v (I r8),.v (I p),.ptr 1 0],[.v (I a),.v (I v)]],[true,true],[.live ⟨117,kPh,L,own,mark⟩]⟩):=by kernel_rfl
def gPph (xs:List SV) (m:Mem):Option (Bool×Value) :=
 match xs,m with
 | [.ptr 0 0],⟨[[.row 0,.v (.int .i64 r1),.v (.int .i64 r2),.v (.int .i64 r3),.v (.int .i64 r4),.v (.int .i64 r5),.v (.int .i64 r6),.v (.int .i64 r7),.v (.int .i64 r8),.v (.int .i64 p),.ptr 1 0],[.v (.int .i64 a),.v (.int .i64 v)]],[true,true],[.live ⟨117,[.sl 162 [.num .i64,.num .i64],.num .i64,.num .i64,.num .i64,.num .i64],L,own,mark⟩]⟩=>some (true,I p)
 | _,_=>none
theorem gPph_ok:CtR 150 gPph:=by
 intro xs m r h
 unfold gPph at h
 split at h
 ·rename_i r1 r2 r3 r4 r5 r6 r7 r8 p a v L own mark
  obtain ⟨h1,rfl⟩:=qac h
  refine qal (Λ:=L0) qOL Tryz.func150 rfl l00 ?_
  refine (qE8 r1 r2 r3 r4 r5 r6 r7 r8 p a v L own mark).trans ?_
  rfl
 ·cases h
def Γp3:Orc:=qay 150 gPph Γp2
theorem qOK:Γp3.Ok Tryz.prog:=qai qOL gPph_ok
def wishB (L:List (List Dat)) (p v h:Int) (kn:Bool):Bool:=bif decide (p≥wI ((L.length:Int) - 1)) then false else bif !kn then false else bif decide (v≥phM L p) then decide (h≥phU L p) else false
theorem qE5 (ht:Int) (kn:Bool) (r1:Int) (r2:Int) (r3:Int) (r4:Int) (r5:Int) (r6:Int) (r7:Int) (r8:Int) (p:Int) (a:Int) (v:Int) (L:List (List Dat)) (own:Bool) (mark:Bool):runG Γp3 L0 Tryz.prog Tryz.f151 [.ptr 0 0,.v (I ht),.v (Bo kn)] ⟨[[.row 0,.v (I r1),.v (I r2),.v (I r3),.v (I r4),.v (I r5),.v (I r6),.v (I r7),.v (I r8),.v (I p),.ptr 1 0],[.v (I a),.v (I v)]],[true,true],[rH L own mark]⟩ =
 (bif decide (p≥wI ((L.length:Int) - (1:Int))) then some (.v (Bo false),⟨[[.row 0,.v (I r1),.v (I r2),.v (I r3),.v (I r4),.v (I r5),.v (I r6),.v (I r7),.v (I r8),.v (I p),.ptr 1 0],[.v (I a),.v (I v)]],[true,true],[.live ⟨117,kPh,L,own,mark⟩]⟩) else (bif !kn then some (.v (Bo false),⟨[[.row 0,.v (I r1),.v (I r2),.v (I r3),.v (I r4),.v (I r5),.v (I r6),.v (I r7),.v (I r8),.v (I p),.ptr 1 0],[.v (I a),.v (I v)]],[true,true],[.live ⟨117,kPh,L,own,mark⟩]⟩) else (bif decide ((0:Int)≤p)&&decide (p<(L.length:Int)) then (same ((bif decide (v≥(phM L p)) then some (.v (Bo (decide (ht≥(phU L p)))),⟨[[.row 0,.v (I r1),.v (I r2),.v (I r3),.v (I r4),.v (I r5),.v (I r6),.v (I r7),.v (I r8),.v (I p),.ptr 1 0],[.v (I a),.v (I v)]],[true,true],[.live ⟨117,kPh,L,own,mark⟩]⟩) else some (.v (Bo false),⟨[[.row 0,.v (I r1),.v (I r2),.v (I r3),.v (I r4),.v (I r5),.v (I r6),.v (I r7),.v (I r8),.v (I p),.ptr 1 0],[.v (I a),.v (I v)]],[true,true],[.live ⟨117,kPh,L,own,mark⟩]⟩))) ((bif decide (v≥(phM L p)) then some (.v (Bo (decide (ht≥(phU L p)))),⟨[[.row 0,.v (I r1),.v (I r2),.v (I r3),.v (I r4),.v (I r5),.v (I r6),.v (I r7),.v (I r8),.v (I p),.ptr 1 0],[.v (I a),.v (I v)]],[true,true],[.live ⟨117,kPh,L,own,mark⟩]⟩) else some (.v (Bo false),⟨[[.row 0,.v (I r1),.v (I r2),.v (I r3),.v (I r4),.v (I r5),.v (I r6),.v (I r7),.v (I r8),.v (I p),.ptr 1 0],[.v (I a),.v (I v)]],[true,true],[.live ⟨117,kPh,L,own,mark⟩]⟩)))) else none))):=by kernel_rfl
def gPwi (xs:List SV) (m:Mem):Option (Bool×Value) :=
 match xs,m with
 | [.ptr 0 0,.v (.int .i64 ht),.v (.bool kn)],⟨[[.row 0,.v (.int .i64 r1),.v (.int .i64 r2),.v (.int .i64 r3),.v (.int .i64 r4),.v (.int .i64 r5),.v (.int .i64 r6),.v (.int .i64 r7),.v (.int .i64 r8),.v (.int .i64 p),.ptr 1 0],[.v (.int .i64 a),.v (.int .i64 v)]],[true,true],[.live ⟨117,[.sl 162 [.num .i64,.num .i64],.num .i64,.num .i64,.num .i64,.num .i64],L,own,mark⟩]⟩=>some (decide (0≤p)&&decide (p<(L.length:Int)),Bo (wishB L p v ht kn))
 | _,_=>none
theorem gPwi_ok:CtR 151 gPwi:=by
 intro xs m r h
 unfold gPwi at h
 split at h
 ·rename_i ht kn r1 r2 r3 r4 r5 r6 r7 r8 p a v L own mark
  obtain ⟨h1,rfl⟩:=qac h
  refine qal (Λ:=L0) qOK Tryz.func151 rfl l00 ?_
  refine (qE5 ht kn r1 r2 r3 r4 r5 r6 r7 r8 p a v L own mark).trans ?_
  rw [h1,qa1]
  unfold wishB
  cases decide (p≥wI ((L.length:Int) - 1))<;>first|rfl|(cases kn<;>first|rfl|(cases decide (v≥phM L p)<;>rfl))
 ·cases h
def Γp4:Orc:=qay 151 gPwi Γp3
theorem qOJ:Γp4.Ok Tryz.prog:=qai qOK gPwi_ok
def cyB (L:List (List Dat)) (p:Int) (mi th:Bool):Bool:=bif decide (p≥wI ((L.length:Int) - 1)) then false else bif !mi then false else th
theorem qFd (mi:Bool) (th:Bool) (r1:Int) (r2:Int) (r3:Int) (r4:Int) (r5:Int) (r6:Int) (r7:Int) (r8:Int) (p:Int) (a:Int) (v:Int) (L:List (List Dat)) (own:Bool) (mark:Bool):runG Γp4 L0 Tryz.prog Tryz.f152 [.ptr 0 0,.v (Bo mi),.v (Bo th)] ⟨[[.row 0,.v (I r1),.v (I r2),.v (I r3),.v (I r4),.v (I r5),.v (I r6),.v (I r7),.v (I r8),.v (I p),.ptr 1 0],[.v (I a),.v (I v)]],[true,true],[rH L own mark]⟩ =
 (bif decide (p≥wI ((L.length:Int) - (1:Int))) then some (.v (Bo false),⟨[[.row 0,.v (I r1),.v (I r2),.v (I r3),.v (I r4),.v (I r5),.v (I r6),.v (I r7),.v (I r8),.v (I p),.ptr 1 0],[.v (I a),.v (I (qap a v (1:Int)))]],[true,true],[.live ⟨117,kPh,L,own,mark⟩]⟩) else (bif !mi then some (.v (Bo false),⟨[[.row 0,.v (I r1),.v (I r2),.v (I r3),.v (I r4),.v (I r5),.v (I r6),.v (I r7),.v (I r8),.v (I p),.ptr 1 0],[.v (I a),.v (I (qap a v (1:Int)))]],[true,true],[.live ⟨117,kPh,L,own,mark⟩]⟩) else (bif !th then some (.v (Bo false),⟨[[.row 0,.v (I r1),.v (I r2),.v (I r3),.v (I r4),.v (I r5),.v (I r6),.v (I r7),.v (I r8),.v (I p),.ptr 1 0],[.v (I a),.v (I (qap a v (1:Int)))]],[true,true],[.live ⟨117,kPh,L,own,mark⟩]⟩) else some (.v (Bo true),⟨[[.row 0,.v (I r1),.v (I r2),.v (I r3),.v (I r4),.v (I r5),.v (I r6),.v (I r7),.v (I r8),.v (I (wI (p+(1:Int)))),.ptr 1 0],[.v (I a),.v (I (qat (0:Int) a))]],[true,true],[.live ⟨117,kPh,L,own,mark⟩]⟩)))):=by kernel_rfl
def gPcy (xs:List SV) (m:Mem):Option (Bool×SV×Mem) :=
 match xs,m with
 | [.ptr 0 0,.v (.bool mi),.v (.bool th)],⟨[[.row 0,.v (.int .i64 r1),.v (.int .i64 r2),.v (.int .i64 r3),.v (.int .i64 r4),.v (.int .i64 r5),.v (.int .i64 r6),.v (.int .i64 r7),.v (.int .i64 r8),.v (.int .i64 p),.ptr 1 0],[.v (.int .i64 a),.v (.int .i64 v)]],[true,true],[.live ⟨117,[.sl 162 [.num .i64,.num .i64],.num .i64,.num .i64,.num .i64,.num .i64],L,own,mark⟩]⟩=>some (true,.v (Bo (cyB L p mi th)),⟨[[.row 0,.v (I r1),.v (I r2),.v (I r3),.v (I r4),.v (I r5),.v (I r6),.v (I r7),.v (I r8),.v (I (bif cyB L p mi th then wI (p+1) else p)),.ptr 1 0],[.v (I a),.v (I (bif cyB L p mi th then qat 0 a else qap a v 1))]],[true,true],[rH L own mark]⟩)
 | _,_=>none
theorem gPcy_ok:CtC 152 gPcy:=by
 intro xs m r m' h
 unfold gPcy at h
 split at h
 ·rename_i mi th r1 r2 r3 r4 r5 r6 r7 r8 p a v L own mark
  obtain ⟨h1,rfl,rfl⟩:=qaf h
  refine qal (Λ:=L0) qOJ Tryz.func152 rfl l00 ?_
  refine (qFd mi th r1 r2 r3 r4 r5 r6 r7 r8 p a v L own mark).trans ?_
  unfold cyB
  cases decide (p≥wI ((L.length:Int) - 1))<;>cases mi<;>cases th<;>rfl
 ·cases h
def Γp5:Orc:=qau 152 gPcy Γp4
theorem qOI:Γp5.Ok Tryz.prog:=qad qOJ gPcy_ok
def seB (L:List (List Dat)) (q i:Int):Bool:=bif decide (q<0) then false else bif decide (q≥(L.length:Int)) then false else bif decide (i<0) then false else bif decide (i>1000000) then false else true
theorem qE6 (q:Int) (i:Int) (r1:Int) (r2:Int) (r3:Int) (r4:Int) (r5:Int) (r6:Int) (r7:Int) (r8:Int) (p:Int) (a:Int) (v:Int) (L:List (List Dat)) (own:Bool) (mark:Bool):runG Γp5 L0 Tryz.prog Tryz.f195 [.ptr 0 0,.v (I q),.v (I i)] ⟨[[.row 0,.v (I r1),.v (I r2),.v (I r3),.v (I r4),.v (I r5),.v (I r6),.v (I r7),.v (I r8),.v (I p),.ptr 1 0],[.v (I a),.v (I v)]],[true,true],[rH L own mark]⟩ =
 (bif decide (q<(0:Int)) then some (.v (Bo false),⟨[[.row 0,.v (I r1),.v (I r2),.v (I r3),.v (I r4),.v (I r5),.v (I r6),.v (I r7),.v (I r8),.v (I p),.ptr 1 0],[.v (I a),.v (I v)]],[true,true],[.live ⟨117,kPh,L,own,mark⟩]⟩) else (bif decide (q≥(L.length:Int)) then some (.v (Bo false),⟨[[.row 0,.v (I r1),.v (I r2),.v (I r3),.v (I r4),.v (I r5),.v (I r6),.v (I r7),.v (I r8),.v (I p),.ptr 1 0],[.v (I a),.v (I v)]],[true,true],[.live ⟨117,kPh,L,own,mark⟩]⟩) else (bif decide (i<(0:Int)) then some (.v (Bo false),⟨[[.row 0,.v (I r1),.v (I r2),.v (I r3),.v (I r4),.v (I r5),.v (I r6),.v (I r7),.v (I r8),.v (I p),.ptr 1 0],[.v (I a),.v (I v)]],[true,true],[.live ⟨117,kPh,L,own,mark⟩]⟩) else (bif decide (i>(1000000:Int)) then some (.v (Bo false),⟨[[.row 0,.v (I r1),.v (I r2),.v (I r3),.v (I r4),.v (I r5),.v (I r6),.v (I r7),.v (I r8),.v (I p),.ptr 1 0],[.v (I a),.v (I v)]],[true,true],[.live ⟨117,kPh,L,own,mark⟩]⟩) else some (.v (Bo true),⟨[[.row 0,.v (I r1),.v (I r2),.v (I r3),.v (I r4),.v (I r5),.v (I r6),.v (I r7),.v (I r8),.v (I q),.ptr 1 0],[.v (I a),.v (I (qat i a))]],[true,true],[.live ⟨117,kPh,L,own,mark⟩]⟩))))):=by kernel_rfl
def gPse (xs:List SV) (m:Mem):Option (Bool×SV×Mem) :=
 match xs,m with
 | [.ptr 0 0,.v (.int .i64 q),.v (.int .i64 i)],⟨[[.row 0,.v (.int .i64 r1),.v (.int .i64 r2),.v (.int .i64 r3),.v (.int .i64 r4),.v (.int .i64 r5),.v (.int .i64 r6),.v (.int .i64 r7),.v (.int .i64 r8),.v (.int .i64 p),.ptr 1 0],[.v (.int .i64 a),.v (.int .i64 v)]],[true,true],[.live ⟨117,[.sl 162 [.num .i64,.num .i64],.num .i64,.num .i64,.num .i64,.num .i64],L,own,mark⟩]⟩=>some (true,.v (Bo (seB L q i)),⟨[[.row 0,.v (I r1),.v (I r2),.v (I r3),.v (I r4),.v (I r5),.v (I r6),.v (I r7),.v (I r8),.v (I (bif seB L q i then q else p)),.ptr 1 0],[.v (I a),.v (I (bif seB L q i then qat i a else v))]],[true,true],[rH L own mark]⟩)
 | _,_=>none
theorem gPse_ok:CtC 195 gPse:=by
 intro xs m r m' h
 unfold gPse at h
 split at h
 ·rename_i q i r1 r2 r3 r4 r5 r6 r7 r8 p a v L own mark
  obtain ⟨h1,rfl,rfl⟩:=qaf h
  refine qal (Λ:=L0) qOI Tryz.func195 rfl l00 ?_
  refine (qE6 q i r1 r2 r3 r4 r5 r6 r7 r8 p a v L own mark).trans ?_
  unfold seB
  cases decide (q<0)<;>cases decide (q≥(L.length:Int))<;>cases decide (i<0)<;>cases decide (i>1000000)<;>rfl
 ·cases h
def Γp6:Orc:=qau 195 gPse Γp5
theorem qOH:Γp6.Ok Tryz.prog:=qad qOI gPse_ok
theorem qE7 (r1:Int) (r2:Int) (r3:Int) (r4:Int) (r5:Int) (r6:Int) (r7:Int) (r8:Int) (p:Int) (L:List (List Dat)) (own:Bool) (mark:Bool):runG Γp6 L0 Tryz.prog Tryz.f214 [.ag [.row 0,.v (I r1),.v (I r2),.v (I r3),.v (I r4),.v (I r5),.v (I r6),.v (I r7),.v (I r8)],.v (I p)] ⟨[],[],[rH L own mark]⟩ =
 (bif decide (p<(0:Int)) then some (.v (.tuple #[(.agg #[(Value.slice none (0:Nat) (0:Nat)),(I 0),(I 0),(I 0),(I 0)]),(Bo false)]),⟨[],[],[.live ⟨117,kPh,L,own,mark⟩]⟩) else (bif decide (p≥(L.length:Int)) then some (.v (.tuple #[(.agg #[(Value.slice none (0:Nat) (0:Nat)),(I 0),(I 0),(I 0),(I 0)]),(Bo false)]),⟨[],[],[.live ⟨117,kPh,L,own,mark⟩]⟩) else (bif decide ((0:Int)≤p)&&decide (p<(L.length:Int)) then (bif Nat.blt (0:Nat) (phA L p).length&&(phA L p).length.ble (1000000) then some (.tup [.ag [.row 1,.v (I ((phG L p))),.v (I ((phV L p))),.v (I ((phM L p))),.v (I ((phU L p)))],.one (.v (Bo true))],⟨[],[],[.live ⟨117,kPh,L,own,mark⟩,.live ⟨162,[.num .i64,.num .i64],(phA L p),true,false⟩]⟩) else none) else none))):=by kernel_rfl
def qLN (xs:List SV) (m:Mem):Option (Bool×SV×Mem) :=
 match xs,m with
 | [.ag [.row 0,.v (.int .i64 r1),.v (.int .i64 r2),.v (.int .i64 r3),.v (.int .i64 r4),.v (.int .i64 r5),.v (.int .i64 r6),.v (.int .i64 r7),.v (.int .i64 r8)],.v (.int .i64 p)],⟨[],[],[.live ⟨117,[.sl 162 [.num .i64,.num .i64],.num .i64,.num .i64,.num .i64,.num .i64],L,own,mark⟩]⟩=>some (qdI L&&(qkO L&&(decide (0≤p)&&decide (p<(L.length:Int)))),.tup [.ag [.row 1,.v (I (phG L p)),.v (I (phV L p)),.v (I (phM L p)),.v (I (phU L p))],.one (.v (Bo true))],⟨[],[],[rH L own mark,rP (phA L p) true false]⟩)
 | _,_=>none
theorem qBh:CtC 214 qLN:=by
 intro xs m r m' h
 unfold qLN at h
 split at h
 ·rename_i r1 r2 r3 r4 r5 r6 r7 r8 p L own mark
  obtain ⟨h1,rfl,rfl⟩:=qaf h
  refine qal (Λ:=L0) qOH Tryz.func214 rfl l00 ?_
  refine (qE7 r1 r2 r3 r4 r5 r6 r7 r8 p L own mark).trans ?_
  simp only [Bool.and_eq_true,decide_eq_true_eq] at h1
  obtain ⟨h1,h2,h3,h4⟩:=h1
  rw [decide_eq_false (show ¬ p<0 by omega),decide_eq_false (show ¬ p≥(L.length:Int) by omega),decide_eq_true h3,decide_eq_true h4,(qfy h1 h3 h4).2,qm0 h2 h3 h4]
  rfl
 ·cases h
def Γp7:Orc:=qau 214 qLN Γp6
theorem qOG:Γp7.Ok Tryz.prog:=qad qOH qBh
theorem qFa (r1:Int) (r2:Int) (r3:Int) (r4:Int) (r5:Int) (r6:Int) (r7:Int) (r8:Int) (p:Int) (a:Int) (v:Int) (L:List (List Dat)) (own:Bool) (mark:Bool):runG Γp7 L0 Tryz.prog Tryz.f144 [.ptr 0 0] ⟨[[.row 0,.v (I r1),.v (I r2),.v (I r3),.v (I r4),.v (I r5),.v (I r6),.v (I r7),.v (I r8),.v (I p),.ptr 1 0],[.v (I a),.v (I v)]],[true,true],[rH L own mark]⟩ =
 (same ((bif qdI L&&(qkO L&&(decide ((0:Int)≤p)&&decide (p<(L.length:Int)))) then (same (some (.ag [.row 1,.v (I (phG L p)),.v (I (phV L p)),.v (I (phM L p)),.v (I (phU L p))],⟨[[.row 0,.v (I r1),.v (I r2),.v (I r3),.v (I r4),.v (I r5),.v (I r6),.v (I r7),.v (I r8),.v (I p),.ptr 1 0],[.v (I a),.v (I v)]],[true,true],[.live ⟨117,kPh,L,own,mark⟩,.live ⟨162,[.num .i64,.num .i64],phA L p,true,false⟩]⟩)) (some (.ag [.row 1,.v (I (phG L p)),.v (I (phV L p)),.v (I (phM L p)),.v (I (phU L p))],⟨[[.row 0,.v (I r1),.v (I r2),.v (I r3),.v (I r4),.v (I r5),.v (I r6),.v (I r7),.v (I r8),.v (I p),.ptr 1 0],[.v (I a),.v (I v)]],[true,true],[.live ⟨117,kPh,L,own,mark⟩,.live ⟨162,[.num .i64,.num .i64],phA L p,true,false⟩]⟩))) else none)) ((bif qdI L&&(qkO L&&(decide ((0:Int)≤p)&&decide (p<(L.length:Int)))) then (same (some (.ag [.row 1,.v (I (phG L p)),.v (I (phV L p)),.v (I (phM L p)),.v (I (phU L p))],⟨[[.row 0,.v (I r1),.v (I r2),.v (I r3),.v (I r4),.v (I r5),.v (I r6),.v (I r7),.v (I r8),.v (I p),.ptr 1 0],[.v (I a),.v (I v)]],[true,true],[.live ⟨117,kPh,L,own,mark⟩,.live ⟨162,[.num .i64,.num .i64],phA L p,true,false⟩]⟩)) (some (.ag [.row 1,.v (I (phG L p)),.v (I (phV L p)),.v (I (phM L p)),.v (I (phU L p))],⟨[[.row 0,.v (I r1),.v (I r2),.v (I r3),.v (I r4),.v (I r5),.v (I r6),.v (I r7),.v (I r8),.v (I p),.ptr 1 0],[.v (I a),.v (I v)]],[true,true],[.live ⟨117,kPh,L,own,mark⟩,.live ⟨162,[.num .i64,.num .i64],phA L p,true,false⟩]⟩))) else none))):=by kernel_rfl
def gPno (xs:List SV) (m:Mem):Option (Bool×SV×Mem) :=
 match xs,m with
 | [.ptr 0 0],⟨[[.row 0,.v (.int .i64 r1),.v (.int .i64 r2),.v (.int .i64 r3),.v (.int .i64 r4),.v (.int .i64 r5),.v (.int .i64 r6),.v (.int .i64 r7),.v (.int .i64 r8),.v (.int .i64 p),.ptr 1 0],[.v (.int .i64 a),.v (.int .i64 v)]],[true,true],[.live ⟨117,[.sl 162 [.num .i64,.num .i64],.num .i64,.num .i64,.num .i64,.num .i64],L,own,mark⟩]⟩=>some (qdI L&&(qkO L&&(decide (0≤p)&&decide (p<(L.length:Int)))),.ag [.row 1,.v (I (phG L p)),.v (I (phV L p)),.v (I (phM L p)),.v (I (phU L p))],⟨[[.row 0,.v (I r1),.v (I r2),.v (I r3),.v (I r4),.v (I r5),.v (I r6),.v (I r7),.v (I r8),.v (I (p)),.ptr 1 0],[.v (I a),.v (I (v))]],[true,true],[rH L own mark,rP (phA L p) true false]⟩)
 | _,_=>none
theorem gPno_ok:CtC 144 gPno:=by
 intro xs m r m' h
 unfold gPno at h
 split at h
 ·rename_i r1 r2 r3 r4 r5 r6 r7 r8 p a v L own mark
  obtain ⟨h1,rfl,rfl⟩:=qaf h
  refine qal (Λ:=L0) qOG Tryz.func144 rfl l00 ?_
  refine (qFa r1 r2 r3 r4 r5 r6 r7 r8 p a v L own mark).trans ?_
  rw [h1]
  simp only [qa1,cond_true]
 ·cases h
def Γp8:Orc:=qau 144 gPno Γp7
theorem Okp8:Γp8.Ok Tryz.prog:=qad qOG gPno_ok
theorem qE9 (r1:Int) (r2:Int) (r3:Int) (r4:Int) (r5:Int) (r6:Int) (r7:Int) (r8:Int) (L:List (List Dat)) (own:Bool) (mark:Bool):runG Γp8 L0 Tryz.prog Tryz.f194 [.ag [.row 0,.v (I r1),.v (I r2),.v (I r3),.v (I r4),.v (I r5),.v (I r6),.v (I r7),.v (I r8)]] ⟨[],[],[rH L own mark]⟩ =
 (bif qdI L then (bif !wrB L r1 r2 r3 r4 r5 r6 r7 r8==(0:Int) then some (.v (Value.pointer none),⟨[],[],[.live ⟨117,kPh,L,own,mark⟩]⟩) else (bif qdI L&&(qkO L&&Nat.blt (0:Nat) L.length) then some (.ptr 0 0,⟨[[.row 1,.v (I r1),.v (I r2),.v (I r3),.v (I r4),.v (I r5),.v (I r6),.v (I r7),.v (I r8),.v (I 0),.ptr 1 0],[.v (I 1000000),.v (I 0)]],[true,true],[.live ⟨117,kPh,L,own,mark⟩,.live ⟨117,kPh,L,true,false⟩]⟩) else none)) else none):=by kernel_rfl
def gPnw (xs:List SV) (m:Mem):Option (Bool×SV×Mem) :=
 match xs,m with
 | [.ag [.row 0,.v (.int .i64 r1),.v (.int .i64 r2),.v (.int .i64 r3),.v (.int .i64 r4),.v (.int .i64 r5),.v (.int .i64 r6),.v (.int .i64 r7),.v (.int .i64 r8)]],⟨[],[],[.live ⟨117,[.sl 162 [.num .i64,.num .i64],.num .i64,.num .i64,.num .i64,.num .i64],L,own,mark⟩]⟩=>some (qdI L&&(qkO L&&(wrB L r1 r2 r3 r4 r5 r6 r7 r8==0&&Nat.blt 0 L.length)),.ptr 0 0,⟨[[.row 1,.v (I r1),.v (I r2),.v (I r3),.v (I r4),.v (I r5),.v (I r6),.v (I r7),.v (I r8),.v (I 0),.ptr 1 0],[.v (I 1000000),.v (I 0)]],[true,true],[rH L own mark,rH L true false]⟩)
 | _,_=>none
theorem gPnw_ok:CtC 194 gPnw:=by
 intro xs m r m' h
 unfold gPnw at h
 split at h
 ·rename_i r1 r2 r3 r4 r5 r6 r7 r8 L own mark
  obtain ⟨h1,rfl,rfl⟩:=qaf h
  refine qal (Λ:=L0) Okp8 Tryz.func194 rfl l00 ?_
  refine (qE9 r1 r2 r3 r4 r5 r6 r7 r8 L own mark).trans ?_
  simp only [Bool.and_eq_true] at h1
  obtain ⟨h1,h2,h3,h4⟩:=h1
  rw [h1,h2,h3,h4]
  rfl
 ·cases h
end Go.Proofs.YtainfdcfkgemhaaGreat.Ph
namespace Go.Proofs.YtainfdcfkgemhaaGreat.Pa
open Go Go.Proofs Go.Sx Nw
set_option linter.unusedVariables false
def epsP (e:Int):Int:=wI (2*clI e (-1) 2305843009213693952)
def cmpP (x y near:Bool):Int:=bif x then (bif y then (bif near then 3 else 4) else 1) else (bif y then 2 else 0)
def hgt (a b:Int) (x y:Bool):Int:=bif x then (bif y then (if b<a then b else a) else a) else (bif y then b else 0)
theorem qzk (a:Int) (b:Int) (c:Int) (d:Int) (e:Int) (f:Int) (g:Int) (q:Int) (a':Int) (b':Int) (c':Int) (d':Int) (e':Int) (f':Int) (g':Int) (q':Int) (x:Bool) (y:Bool) (w:Int):runG ΓNb L0 Tryz.prog Tryz.f145 [.v (.agg #[I a,I b,I c,I d,I e,I f,I g,I q]),.v (.agg #[I a',I b',I c',I d',I e',I f',I g',I q']),.v (Bo x),.v (Bo y),.v (I w)] M0 =
 (bif !x then (bif !y then some (.v (I 0),M0) else (bif !y then some (.v (I 1),M0) else (bif !x then some (.v (I 2),M0) else (bif qou (wI ((2:Int)*clI w (-1:Int) (2305843009213693952:Int))) c c' d d' e e' f f' g g' q q' then some (.v (I 3),M0) else some (.v (I 4),M0))))) else (bif !y then some (.v (I 1),M0) else (bif !x then some (.v (I 2),M0) else (bif qou (wI ((2:Int)*clI w (-1:Int) (2305843009213693952:Int))) c c' d d' e e' f f' g g' q q' then some (.v (I 3),M0) else some (.v (I 4),M0))))):=by kernel_rfl
def gPCmp (vs:List Value):Option (Bool×Value) :=
 match vs with
 | [.agg ⟨[.int .i64 a,.int .i64 b,.int .i64 c,.int .i64 d,.int .i64 e,.int .i64 f,.int .i64 g,.int .i64 q]⟩,.agg ⟨[.int .i64 a',.int .i64 b',.int .i64 c',.int .i64 d',.int .i64 e',.int .i64 f',.int .i64 g',.int .i64 q']⟩,.bool x,.bool y,.int .i64 w]=>some (true,I (cmpP x y (qou (epsP w) c c' d d' e e' f f' g g' q q')))
 | _=>none
theorem gPCmp_ok:CtV 145 gPCmp:=by
 intro vs r h
 unfold gPCmp at h
 split at h
 ·rename_i a b c d e f g q a' b' c' d' e' f' g' q' x y w
  obtain ⟨h1,rfl⟩:=qac h
  refine qaA (vs:=[.agg #[I a,I b,I c,I d,I e,I f,I g,I q],.agg #[I a',I b',I c',I d',I e',I f',I g',I q'],Bo x,Bo y,I w]) (Λ:=L0) (m':=M0) qJf Tryz.func145 rfl l00 ?_
  exact (qzk a b c d e f g q a' b' c' d' e' f' g' q' x y w).trans (by rw [show wI (2*clI w (-1) 2305843009213693952)=epsP w from rfl];cases x<;>cases y<;>first|rfl|(cases qou (epsP w) c c' d d' e e' f f' g g' q q'<;>rfl))
 ·cases h
def ΓJ1:Orc:=qah 145 gPCmp ΓNb
theorem OkJ1:ΓJ1.Ok Tryz.prog:=qaa qJf gPCmp_ok
def ΓJ2:Orc:=ΓJ1
theorem OkJ2:ΓJ2.Ok Tryz.prog:=OkJ1
theorem qzi (a:Int) (b:Int) (c:Int) (d:Int) (e:Int) (f:Int) (g:Int) (q:Int) (a':Int) (b':Int) (c':Int) (d':Int) (e':Int) (f':Int) (g':Int) (q':Int) (x:Bool) (y:Bool):runG ΓJ2 L0 Tryz.prog Tryz.f146 [.v (.agg #[I a,I b,I c,I d,I e,I f,I g,I q]),.v (.agg #[I a',I b',I c',I d',I e',I f',I g',I q']),.v (Bo x),.v (Bo y)] M0 =
 (bif x then (bif y then some (.v (.tuple #[(I (if e'<e then e' else e)),(Bo true)]),M0) else (bif x then some (.v (.tuple #[(I e),(Bo true)]),M0) else (bif y then some (.v (.tuple #[(I e'),(Bo true)]),M0) else some (.v (.tuple #[(I 0),(Bo false)]),M0)))) else (bif x then some (.v (.tuple #[(I e),(Bo true)]),M0) else (bif y then some (.v (.tuple #[(I e'),(Bo true)]),M0) else some (.v (.tuple #[(I 0),(Bo false)]),M0)))):=by kernel_rfl
def gPHgt (vs:List Value):Option (Bool×Value) :=
 match vs with
 | [.agg ⟨[.int .i64 a,.int .i64 b,.int .i64 c,.int .i64 d,.int .i64 e,.int .i64 f,.int .i64 g,.int .i64 q]⟩,.agg ⟨[.int .i64 a',.int .i64 b',.int .i64 c',.int .i64 d',.int .i64 e',.int .i64 f',.int .i64 g',.int .i64 q']⟩,.bool x,.bool y]=>some (true,Value.tuple #[I (hgt e e' x y),Bo (x||y)])
 | _=>none
theorem gPHgt_ok:CtV 146 gPHgt:=by
 intro vs r h
 unfold gPHgt at h
 split at h
 ·rename_i a b c d e f g q a' b' c' d' e' f' g' q' x y
  obtain ⟨h1,rfl⟩:=qac h
  refine qaA (vs:=[.agg #[I a,I b,I c,I d,I e,I f,I g,I q],.agg #[I a',I b',I c',I d',I e',I f',I g',I q'],Bo x,Bo y]) (Λ:=L0) (m':=M0) OkJ2 Tryz.func146 rfl l00 ?_
  exact (qzi a b c d e f g q a' b' c' d' e' f' g' q' x y).trans (by cases x<;>cases y<;>rfl)
 ·cases h
end Go.Proofs.YtainfdcfkgemhaaGreat.Pa
namespace Go.Proofs.YtainfdcfkgemhaaGreat.Im
open Go Go.Proofs Go.Sx
set_option linter.unusedVariables false
def qs9:Code:=qaH (Tryz.f172.body.getD .skip) 0
theorem qz8:qak (Tryz.f172.body.getD .skip)=[qs9]:=by kernel_rfl
def kIm:List Bool:=qam 64 [2,3,6,11,42,43]
def xIm (e:Ex):List Bool:=match e with
 | .exit _=>qam 64 [6,11]
 | .ret=>qam 64 [6]
 | .normal=>qam 64 [2,3,6,11,42,43]
def KIm (e:Ex) (st:St):Option (Ex×St):=some (e,qav 0 0 (xIm e) st)
def MIm (p q x y z vx vy vz a b c d:Int):Mem:=⟨[[.v (I p),.v (I q),.v (I x),.v (I y),.v (I z),.v (I vx),.v (I vy),.v (I vz)],[.v (I 0),.v (I 0),.v (I 0),.v (I 0)],[.v (I a),.v (I b),.v (I c),.v (I d)]],[true,true,true],[]⟩
theorem qyQ (p q x y z vx vy vz a b c d e lo hi:Int) (n:Nat):qaj ΓBx Tryz.prog L0 (qav 0 0 kIm) qs9 (n+1) (mk kIm [.v (I e),.ptr 0 0,.ptr 1 0,.ptr 2 0,.v (.agg #[I lo,I hi]),.v (I 0)] (MIm p q x y z vx vy vz a b c d)) KIm =
 (bif rcG x y vx vy (wI ((0:Int) - e)) lo then (bif ofG (x+(vx+wI ((0:Int) - e))*lo) (y+(vy+wI ((0:Int) - e))*lo) e then (bif boR a b c d&&boR (x+(vx+wI ((0:Int) - e))*lo - e) (y+(vy+wI ((0:Int) - e))*lo - e) (x+(vx+wI ((0:Int) - e))*lo+e) (y+(vy+wI ((0:Int) - e))*lo+e) then (bif rcG x y vx vy e lo then (bif ofG (x+(vx+e)*lo) (y+(vy+e)*lo) e then (bif boR (mn a (x+(vx+wI ((0:Int) - e))*lo - e)) (mn b (y+(vy+wI ((0:Int) - e))*lo - e)) (mx c (x+(vx+wI ((0:Int) - e))*lo+e)) (mx d (y+(vy+wI ((0:Int) - e))*lo+e))&&boR (x+(vx+e)*lo - e) (y+(vy+e)*lo - e) (x+(vx+e)*lo+e) (y+(vy+e)*lo+e) then qaj ΓBx Tryz.prog L0 (qav 0 0 kIm) qs9 n (mk kIm [.v (I e),.ptr 0 0,.ptr 1 0,.ptr 2 0,.v (.agg #[(I lo),(I hi)]),.v (I 1)] ⟨[[.v (I p),.v (I q),.v (I x),.v (I y),.v (I z),.v (I vx),.v (I vy),.v (I vz)],[.v (I 0),.v (I 0),.v (I 0),.v (I 0)],[.v (I (mn (mn a (x+(vx+wI ((0:Int) - e))*lo - e)) (x+(vx+e)*lo - e))),.v (I (mn (mn b (y+(vy+wI ((0:Int) - e))*lo - e)) (y+(vy+e)*lo - e))),.v (I (mx (mx c (x+(vx+wI ((0:Int) - e))*lo+e)) (x+(vx+e)*lo+e))),.v (I (mx (mx d (y+(vy+wI ((0:Int) - e))*lo+e)) (y+(vy+e)*lo+e)))]],[true,true,true],[]⟩) KIm else none) else none) else none) else none) else none) else none):=by kernel_rfl
theorem qyP (p q x y z vx vy vz a b c d e lo hi:Int) (n:Nat):qaj ΓBx Tryz.prog L0 (qav 0 0 kIm) qs9 (n+1) (mk kIm [.v (I e),.ptr 0 0,.ptr 1 0,.ptr 2 0,.v (.agg #[I lo,I hi]),.v (I 1)] (MIm p q x y z vx vy vz a b c d)) KIm =
 (bif rcG x y vx vy (wI ((0:Int) - e)) hi then (bif ofG (x+(vx+wI ((0:Int) - e))*hi) (y+(vy+wI ((0:Int) - e))*hi) e then (bif boR a b c d&&boR (x+(vx+wI ((0:Int) - e))*hi - e) (y+(vy+wI ((0:Int) - e))*hi - e) (x+(vx+wI ((0:Int) - e))*hi+e) (y+(vy+wI ((0:Int) - e))*hi+e) then (bif rcG x y vx vy e hi then (bif ofG (x+(vx+e)*hi) (y+(vy+e)*hi) e then (bif boR (mn a (x+(vx+wI ((0:Int) - e))*hi - e)) (mn b (y+(vy+wI ((0:Int) - e))*hi - e)) (mx c (x+(vx+wI ((0:Int) - e))*hi+e)) (mx d (y+(vy+wI ((0:Int) - e))*hi+e))&&boR (x+(vx+e)*hi - e) (y+(vy+e)*hi - e) (x+(vx+e)*hi+e) (y+(vy+e)*hi+e) then qaj ΓBx Tryz.prog L0 (qav 0 0 kIm) qs9 n (mk kIm [.v (I e),.ptr 0 0,.ptr 1 0,.ptr 2 0,.v (.agg #[(I lo),(I hi)]),.v (I 2)] ⟨[[.v (I p),.v (I q),.v (I x),.v (I y),.v (I z),.v (I vx),.v (I vy),.v (I vz)],[.v (I 0),.v (I 0),.v (I 0),.v (I 0)],[.v (I (mn (mn a (x+(vx+wI ((0:Int) - e))*hi - e)) (x+(vx+e)*hi - e))),.v (I (mn (mn b (y+(vy+wI ((0:Int) - e))*hi - e)) (y+(vy+e)*hi - e))),.v (I (mx (mx c (x+(vx+wI ((0:Int) - e))*hi+e)) (x+(vx+e)*hi+e))),.v (I (mx (mx d (y+(vy+wI ((0:Int) - e))*hi+e)) (y+(vy+e)*hi+e)))]],[true,true,true],[]⟩) KIm else none) else none) else none) else none) else none) else none):=by kernel_rfl
theorem qyO (p q x y z vx vy vz a b c d e lo hi:Int) (n:Nat):qaj ΓBx Tryz.prog L0 (qav 0 0 kIm) qs9 (n+1) (mk kIm [.v (I e),.ptr 0 0,.ptr 1 0,.ptr 2 0,.v (.agg #[I lo,I hi]),.v (I 2)] (MIm p q x y z vx vy vz a b c d)) KIm =
 some ((.exit 0),mk (xIm (.exit 0)) [.ptr 0 0,.ptr 1 0] ⟨[[.v (I 0),.v (I 0),.v (I 0),.v (I 0)],[.v (I a),.v (I b),.v (I c),.v (I d)]],[true,true],[]⟩):=by kernel_rfl
theorem inP {x v f t:Int} (h1:-2147483648≤x∧x≤2147483648) (h2:-131072≤v∧v≤131072) (h3:-2048≤f∧f≤2048) (h4:0≤t∧t≤2097154):-300000000000≤x+(v+f)*t∧x+(v+f)*t≤300000000000:=by
 have p:=qF9 (a:=v+f) (b:=t) (A:=133120) (B:=2097154) (by omega) (by omega) (by omega) (by omega)
 omega
def Bd (a b c d:Int):Prop:=a≤c∧b≤d∧(-310000000000≤a∧c≤310000000000)∧-310000000000≤b∧d≤310000000000
def bdB (a b c d:Int):Bool:=decide (a≤c∧b≤d∧(-310000000000≤a∧c≤310000000000)∧-310000000000≤b∧d≤310000000000)
theorem qta {a b c d:Int}:bdB a b c d=true↔Bd a b c d:=decide_eq_true_iff
theorem Bd.bo {a b c d:Int} (h:Bd a b c d):boR a b c d=true:=by
 obtain ⟨h1,h2,h3,h4⟩:=h
 exact qmk.2 ⟨qh1.2 (by omega),qh1.2 (by omega),h1,h2⟩
theorem Bd.of {x y e:Int} (he:0≤e∧e≤2048) (hx:-300000000000≤x∧x≤300000000000) (hy:-300000000000≤y∧y≤300000000000):Bd (x - e) (y - e) (x+e) (y+e):=⟨by omega,by omega,by omega,by omega⟩
theorem Bd.join {a b c d a' b' c' d':Int} (h:Bd a b c d) (h':Bd a' b' c' d'):Bd (mn a a') (mn b b') (mx c c') (mx d d'):=by
 obtain ⟨h1,h2,h3,h4⟩:=h
 obtain ⟨k1,k2,k3,k4⟩:=h'
 have m1:=qfn a a'
 have m2:=qfn b b'
 have m3:=qfo c c'
 have m4:=qfo d d'
 exact ⟨by omega,by omega,by omega,by omega⟩
theorem qjy {x y e:Int} (he:0≤e∧e≤2048) (hx:-300000000000≤x∧x≤300000000000) (hy:-300000000000≤y∧y≤300000000000):ofG x y e=true:=qqU.2 ⟨by omega,by omega,by omega⟩
theorem qju {x y vx vy f t:Int} (h:nvR x y vx vy=true) (h3:-2048≤f∧f≤2048) (h4:0≤t∧t≤2097154):rcG x y vx vy f t=true:=by
 have:=qeS.1 h
 exact qqA.2 ⟨by omega,by omega,by omega,by omega,by omega,by omega⟩
def jL (a x v e t:Int):Int:=mn (mn a (x+(v+-e)*t - e)) (x+(v+e)*t - e)
def jH (a x v e t:Int):Int:=mx (mx a (x+(v+-e)*t+e)) (x+(v+e)*t+e)
theorem jBd {a b c d x y vx vy e t:Int} (h:Bd a b c d) (hn:nvR x y vx vy=true) (he:0≤e∧e≤2048) (ht:0≤t∧t≤2097154):Bd (jL a x vx e t) (jL b y vy e t) (jH c x vx e t) (jH d y vy e t):=by
 have n:=qeS.1 hn
 refine (h.join (Bd.of he (inP n.1 n.2.2.1 (f:=-e) ?_ ht) (inP n.2.1 n.2.2.2 (f:=-e) ?_ ht))).join (Bd.of he (inP n.1 n.2.2.1 (f:=e) ?_ ht) (inP n.2.1 n.2.2.2 (f:=e) ?_ ht))<;>omega
theorem qFU (p q x y z vx vy vz a b c d e lo hi:Int) (n:Nat) (h:Bd a b c d) (hn:nvR x y vx vy=true) (he:0≤e∧e≤2048) (ht:0≤lo∧lo≤2097154) :
  qaj ΓBx Tryz.prog L0 (qav 0 0 kIm) qs9 (n+1) (mk kIm [.v (I e),.ptr 0 0,.ptr 1 0,.ptr 2 0,.v (.agg #[I lo,I hi]),.v (I 0)] (MIm p q x y z vx vy vz a b c d)) KIm =
  qaj ΓBx Tryz.prog L0 (qav 0 0 kIm) qs9 n (mk kIm [.v (I e),.ptr 0 0,.ptr 1 0,.ptr 2 0,.v (.agg #[I lo,I hi]),.v (I 1)] (MIm p q x y z vx vy vz (jL a x vx e lo) (jL b y vy e lo) (jH c x vx e lo) (jH d y vy e lo))) KIm:=by
 refine (qyQ p q x y z vx vy vz a b c d e lo hi n).trans ?_
 have nn:=qeS.1 hn
 have q1:=inP nn.1 nn.2.2.1 (f:=-e) (t:=lo) (by omega) ht
 have q2:=inP nn.2.1 nn.2.2.2 (f:=-e) (t:=lo) (by omega) ht
 have q3:=inP nn.1 nn.2.2.1 (f:=e) (t:=lo) (by omega) ht
 have q4:=inP nn.2.1 nn.2.2.2 (f:=e) (t:=lo) (by omega) ht
 have b1:=Bd.of he q1 q2
 have b2:=Bd.of he q3 q4
 rw [show wI (0 - e)=-e by rw [qaw (by omega)];omega,qju hn (by omega) ht,qju hn (by omega) ht,qjy he q1 q2,qjy he q3 q4,h.bo,b1.bo,(h.join b1).bo,b2.bo]
 rfl
theorem qFT (p q x y z vx vy vz a b c d e lo hi:Int) (n:Nat) (h:Bd a b c d) (hn:nvR x y vx vy=true) (he:0≤e∧e≤2048) (ht:0≤hi∧hi≤2097154) :
  qaj ΓBx Tryz.prog L0 (qav 0 0 kIm) qs9 (n+1) (mk kIm [.v (I e),.ptr 0 0,.ptr 1 0,.ptr 2 0,.v (.agg #[I lo,I hi]),.v (I 1)] (MIm p q x y z vx vy vz a b c d)) KIm =
  qaj ΓBx Tryz.prog L0 (qav 0 0 kIm) qs9 n (mk kIm [.v (I e),.ptr 0 0,.ptr 1 0,.ptr 2 0,.v (.agg #[I lo,I hi]),.v (I 2)] (MIm p q x y z vx vy vz (jL a x vx e hi) (jL b y vy e hi) (jH c x vx e hi) (jH d y vy e hi))) KIm:=by
 refine (qyP p q x y z vx vy vz a b c d e lo hi n).trans ?_
 have nn:=qeS.1 hn
 have q1:=inP nn.1 nn.2.2.1 (f:=-e) (t:=hi) (by omega) ht
 have q2:=inP nn.2.1 nn.2.2.2 (f:=-e) (t:=hi) (by omega) ht
 have q3:=inP nn.1 nn.2.2.1 (f:=e) (t:=hi) (by omega) ht
 have q4:=inP nn.2.1 nn.2.2.2 (f:=e) (t:=hi) (by omega) ht
 have b1:=Bd.of he q1 q2
 have b2:=Bd.of he q3 q4
 rw [show wI (0 - e)=-e by rw [qaw (by omega)];omega,qju hn (by omega) ht,qju hn (by omega) ht,qjy he q1 q2,qjy he q3 q4,h.bo,b1.bo,(h.join b1).bo,b2.bo]
 rfl
def XIm (a b c d:Int):St:=mk (xIm (.exit 0)) [.ptr 0 0,.ptr 1 0] ⟨[[.v (I 0),.v (I 0),.v (I 0),.v (I 0)],[.v (I a),.v (I b),.v (I c),.v (I d)]],[true,true],[]⟩
def GIm (vals:List SV) (m:Mem):Option (Bool×Ex×St) :=
 match vals,m with
 | [.v (.int .i64 e),.ptr 0 0,.ptr 1 0,.ptr 2 0,.v (.agg ⟨[.int .i64 lo,.int .i64 hi]⟩),.v (.int .i64 0)],⟨[[.v (.int .i64 p),.v (.int .i64 q),.v (.int .i64 x),.v (.int .i64 y),.v (.int .i64 z),.v (.int .i64 vx),.v (.int .i64 vy),.v (.int .i64 vz)],[.v (.int .i64 0),.v (.int .i64 0),.v (.int .i64 0),.v (.int .i64 0)],[.v (.int .i64 a),.v (.int .i64 b),.v (.int .i64 c),.v (.int .i64 d)]],[true,true,true],[]⟩ =>
  some (bdB a b c d&&(nvR x y vx vy&&(decide (0≤e∧e≤2048)&&(decide (0≤lo∧lo≤2097154)&&decide (0≤hi∧hi≤2097154)))),.exit 0,XIm (jL (jL a x vx e lo) x vx e hi) (jL (jL b y vy e lo) y vy e hi) (jH (jH c x vx e lo) x vx e hi) (jH (jH d y vy e lo) y vy e hi))
 | _,_=>none
def ΛIm:qao:=fun _ st=>qeb 0 0 kIm GIm st
theorem qvP (z:Base) (z1:z.L.length=0) (z2:z.U.length=0):qas ΛIm Tryz.prog z qs9:=by
 refine qaF (Λ:=L0) (kx:=xIm) qJk mixed z1 z2 (fun b hb st t h=>by cases h) (G:=GIm) (fun _=>rfl) ?_
 intro vals m e st' h
 unfold GIm at h
 split at h
 ·rename_i e lo hi p q x y z vx vy vz a b c d
  obtain ⟨h1,rfl,rfl⟩:=qaf h
  simp only [Bool.and_eq_true,decide_eq_true_eq] at h1
  obtain ⟨hb,hn,he,hlo,hhi⟩:=h1
  have hB:=qta.1 hb
  exact ⟨3,((qFU p q x y z vx vy vz a b c d e lo hi 2 hB hn he hlo).trans (qFT p q x y z vx vy vz _ _ _ _ e lo hi 1 (jBd hB hn he hlo) hn he hhi)).trans (qyO p q x y z vx vy vz _ _ _ _ e lo hi 0)⟩
 ·cases h
theorem qzs (p q x y z vx vy vz g e:Int):runG ΓBx ΛIm Tryz.prog Tryz.f172 [.v (.agg #[I p,I q,I x,I y,I z,I vx,I vy,I vz]),.v (I g),.v (I e)] M0 =
 (bif !(frR z vz g&&decide ((0:Int)≤e∧e≤(2048:Int))) then some (.v (.tuple #[(.agg #[(I 0),(I 0),(I 0),(I 0)]),(Bo false)]),M0) else (bif !nvR x y vx vy then some (.v (.tuple #[(.agg #[(I 0),(I 0),(I 0),(I 0)]),(Bo false)]),M0) else (bif rcG x y vx vy (0:Int) (bif frR z vz g&&decide ((0:Int)≤e∧e≤(2048:Int)) then tmF (z - e) (vz - e) g else (0:Int)) then (bif ofG (x+(vx+(0:Int))*bif frR z vz g&&decide ((0:Int)≤e∧e≤(2048:Int)) then tmF (z - e) (vz - e) g else (0:Int)) (y+(vy+(0:Int))*bif frR z vz g&&decide ((0:Int)≤e∧e≤(2048:Int)) then tmF (z - e) (vz - e) g else (0:Int)) e then (bif bdB ((x+(vx+(0:Int))*bif frR z vz g&&decide ((0:Int)≤e∧e≤(2048:Int)) then tmF (z - e) (vz - e) g else (0:Int)) - e) ((y+(vy+(0:Int))*bif frR z vz g&&decide ((0:Int)≤e∧e≤(2048:Int)) then tmF (z - e) (vz - e) g else (0:Int)) - e) ((x+(vx+(0:Int))*bif frR z vz g&&decide ((0:Int)≤e∧e≤(2048:Int)) then tmF (z - e) (vz - e) g else (0:Int))+e) ((y+(vy+(0:Int))*bif frR z vz g&&decide ((0:Int)≤e∧e≤(2048:Int)) then tmF (z - e) (vz - e) g else (0:Int))+e)&&(nvR x y vx vy&&(decide ((0:Int)≤e∧e≤(2048:Int))&&(decide (((0:Int)≤bif frR z vz g&&decide ((0:Int)≤e∧e≤(2048:Int)) then tmF (z - e) (vz - e) g else (0:Int))∧(bif frR z vz g&&decide ((0:Int)≤e∧e≤(2048:Int)) then tmF (z - e) (vz - e) g else (0:Int))≤(2097154:Int))&&decide (((0:Int)≤bif frR z vz g&&decide ((0:Int)≤e∧e≤(2048:Int)) then tmF (z+e) (vz+e) g+(2:Int) else (0:Int))∧(bif frR z vz g&&decide ((0:Int)≤e∧e≤(2048:Int)) then tmF (z+e) (vz+e) g+(2:Int) else (0:Int))≤(2097154:Int))))) then some (.v (.tuple #[(.agg #[(I (jL (jL ((x+(vx+(0:Int))*bif frR z vz g&&decide ((0:Int)≤e∧e≤(2048:Int)) then tmF (z - e) (vz - e) g else (0:Int)) - e) x vx e (bif frR z vz g&&decide ((0:Int)≤e∧e≤(2048:Int)) then tmF (z - e) (vz - e) g else (0:Int))) x vx e (bif frR z vz g&&decide ((0:Int)≤e∧e≤(2048:Int)) then tmF (z+e) (vz+e) g+(2:Int) else (0:Int)))),(I (jL (jL ((y+(vy+(0:Int))*bif frR z vz g&&decide ((0:Int)≤e∧e≤(2048:Int)) then tmF (z - e) (vz - e) g else (0:Int)) - e) y vy e (bif frR z vz g&&decide ((0:Int)≤e∧e≤(2048:Int)) then tmF (z - e) (vz - e) g else (0:Int))) y vy e (bif frR z vz g&&decide ((0:Int)≤e∧e≤(2048:Int)) then tmF (z+e) (vz+e) g+(2:Int) else (0:Int)))),(I (jH (jH ((x+(vx+(0:Int))*bif frR z vz g&&decide ((0:Int)≤e∧e≤(2048:Int)) then tmF (z - e) (vz - e) g else (0:Int))+e) x vx e (bif frR z vz g&&decide ((0:Int)≤e∧e≤(2048:Int)) then tmF (z - e) (vz - e) g else (0:Int))) x vx e (bif frR z vz g&&decide ((0:Int)≤e∧e≤(2048:Int)) then tmF (z+e) (vz+e) g+(2:Int) else (0:Int)))),(I (jH (jH ((y+(vy+(0:Int))*bif frR z vz g&&decide ((0:Int)≤e∧e≤(2048:Int)) then tmF (z - e) (vz - e) g else (0:Int))+e) y vy e (bif frR z vz g&&decide ((0:Int)≤e∧e≤(2048:Int)) then tmF (z - e) (vz - e) g else (0:Int))) y vy e (bif frR z vz g&&decide ((0:Int)≤e∧e≤(2048:Int)) then tmF (z+e) (vz+e) g+(2:Int) else (0:Int))))]),(Bo true)]),M0) else none) else none) else none))):=by kernel_rfl
end Go.Proofs.YtainfdcfkgemhaaGreat.Im
namespace Go.Proofs.YtainfdcfkgemhaaGreat.Im
open Go Go.Proofs Go.Sx
set_option linter.unusedVariables false
end Go.Proofs.YtainfdcfkgemhaaGreat.Im
namespace Go.Proofs.YtainfdcfkgemhaaGreat.Im
open Go Go.Proofs Go.Sx
set_option linter.unusedVariables false
def loT (z vz g e:Int):Int:=tmF (z - e) (vz - e) g
def hiT (z vz g e:Int):Int:=tmF (z+e) (vz+e) g+2
def imR (x y z vx vy vz g e:Int):Bool:=(frR z vz g&&decide (0≤e∧e≤2048))&&nvR x y vx vy
def boL (x v e a b:Int):Int:=x - e+mn4 v e a b
def boH (x v e a b:Int):Int:=x+e+mx4 v e a b
theorem qAi {x y z vx vy vz g e:Int}:imR x y z vx vy vz g e=true↔(frR z vz g=true∧0≤e∧e≤2048)∧nvR x y vx vy=true:=by
 unfold imR
 simp only [Bool.and_eq_true,decide_eq_true_eq]
theorem qJx {z vz g e:Int} (h:frR z vz g=true) (he:0≤e∧e≤2048):(0≤loT z vz g e∧loT z vz g e≤2097154)∧(0≤hiT z vz g e∧hiT z vz g e≤2097154)∧loT z vz g e+2≤hiT z vz g e:=by
 have k1:frX (z - e) (vz - e) g=true:=by rw [Int.sub_eq_add_neg,Int.sub_eq_add_neg];exact qwH h (by omega) (by omega) (by omega) (by omega)
 have k2:frX (z+e) (vz+e) g=true:=qwH h (by omega) (by omega) (by omega) (by omega)
 have a1:=qcz k1
 have a2:=qtO k1
 have a3:=qcz k2
 have a4:=qtO k2
 have a5:=qyK k1 k2 (by omega) (by omega)
 unfold loT hiT
 omega
theorem jj (x v:Int) {e a b:Int} (he:0≤e) (hab:a≤b):jL (jL (x+(v+0)*a - e) x v e a) x v e b=boL x v e a b∧jH (jH (x+(v+0)*a+e) x v e a) x v e b=boH x v e a b:=by
 have:=qKZ x v he hab
 unfold jL jH boL boH
 rw [Int.add_zero]
 exact this
def iLX (x y z vx vy vz g e:Int):Int:=bif imR x y z vx vy vz g e then boL x vx e (loT z vz g e) (hiT z vz g e) else 0
def iLY (x y z vx vy vz g e:Int):Int:=bif imR x y z vx vy vz g e then boL y vy e (loT z vz g e) (hiT z vz g e) else 0
def iHX (x y z vx vy vz g e:Int):Int:=bif imR x y z vx vy vz g e then boH x vx e (loT z vz g e) (hiT z vz g e) else 0
def iHY (x y z vx vy vz g e:Int):Int:=bif imR x y z vx vy vz g e then boH y vy e (loT z vz g e) (hiT z vz g e) else 0
def qBG (vs:List Value):Option (Bool×Value) :=
 match vs with
 | [.agg ⟨[.int .i64 p,.int .i64 q,.int .i64 x,.int .i64 y,.int .i64 z,.int .i64 vx,.int .i64 vy,.int .i64 vz]⟩,.int .i64 g,.int .i64 e]=>some (true,.tuple #[.agg #[I (iLX x y z vx vy vz g e),I (iLY x y z vx vy vz g e),I (iHX x y z vx vy vz g e),I (iHY x y z vx vy vz g e)],Bo (imR x y z vx vy vz g e)])
 | _=>none
theorem qwx:CtV 172 qBG:=by
 intro vs r h
 unfold qBG at h
 split at h
 ·rename_i p q x y z vx vy vz g e
  obtain ⟨_,rfl⟩:=qac h
  refine qaA (vs:=[.agg #[I p,I q,I x,I y,I z,I vx,I vy,I vz],I g,I e]) (Λ:=ΛIm) (m':=M0) qJk Tryz.func172 rfl (fun z z1 z2=>qax (c:=Tryz.f172.body.getD .skip) qz8 (qvP z z1 z2)) ?_
  refine (qzs p q x y z vx vy vz g e).trans ?_
  unfold iLX iLY iHX iHY imR
  cases h1:frR z vz g&&decide (0≤e∧e≤2048)
  ·rfl
  ·cases h2:nvR x y vx vy
   ·rfl
   ·have h1':=h1
    simp only [Bool.and_eq_true,decide_eq_true_eq] at h1'
    obtain ⟨t1,t2,t3⟩:=qJx h1'.1 h1'.2
    have nn:=qeS.1 h2
    have q1:=inP nn.1 nn.2.2.1 (f:=0) (t:=loT z vz g e) (by omega) t1
    have q2:=inP nn.2.1 nn.2.2.2 (f:=0) (t:=loT z vz g e) (by omega) t1
    obtain ⟨j1,j2⟩:=jj x vx h1'.2.1 (a:=loT z vz g e) (b:=hiT z vz g e) (by omega)
    obtain ⟨j3,j4⟩:=jj y vy h1'.2.1 (a:=loT z vz g e) (b:=hiT z vz g e) (by omega)
    simp only [Bool.not_true,cond_true,cond_false,Bool.and_self]
    rw [show tmF (z - e) (vz - e) g=loT z vz g e from rfl,show tmF (z+e) (vz+e) g+2=hiT z vz g e from rfl,qju h2 (by omega) t1,qjy h1'.2 q1 q2,qta.2 (Bd.of h1'.2 q1 q2),decide_eq_true h1'.2,decide_eq_true t1,decide_eq_true t2,j1,j2,j3,j4]
    rfl
 ·cases h
end Go.Proofs.YtainfdcfkgemhaaGreat.Im
namespace Go.Proofs.YtainfdcfkgemhaaGreat.Im
open Go Go.Proofs Go.Sx
set_option linter.unusedVariables false
end Go.Proofs.YtainfdcfkgemhaaGreat.Im
namespace Go.Proofs.YtainfdcfkgemhaaGreat.Im
open Go Go.Proofs Go.Sx
set_option linter.unusedVariables false
def Γe0:Orc:=qah 172 qBG ΓA13
theorem qOS:Γe0.Ok Tryz.prog:=qaa qtl qwx
def abI (v:Int):Int:=bif decide (v<0) then -v else v
theorem qti (v:Int):(0≤v∧abI v=v)∨(v<0∧abI v=-v):=by
 unfold abI
 by_cases h:v<0
 ·rw [decide_eq_true h];exact .inr ⟨h,rfl⟩
 ·rw [decide_eq_false h];exact .inl ⟨by omega,rfl⟩
def mdB (a:Int):Bool:=decide (-2199023255552≤a∧a≤2199023255552)
def m2 (a b:Int):Int:=if abI b>abI a then abI b else abI a
def m3 (a b c:Int):Int:=if abI c>m2 a b then abI c else m2 a b
theorem qKP (a b c:Int):abI a≤m3 a b c∧abI b≤m3 a b c∧abI c≤m3 a b c∧(m3 a b c=abI a∨m3 a b c=abI b∨m3 a b c=abI c):=by
 unfold m3 m2
 split<;>split at *<;>(try split at *)<;>omega
def spI (f m e:Int):Int:=bif decide (f>m+e) then -1 else bif decide (f≤m - e) then 1 else 0
theorem qEl (v:Int):runG Γe0 L0 Tryz.prog Tryz.f227 [.v (I v)] M0 =
 (bif decide (v<(0:Int)) then some (.v (.int .u64 (IntKind.u64.wrap ((0:Int) - IntKind.u64.wrap v))),M0) else some (.v (.int .u64 (IntKind.u64.wrap v)),M0)):=by kernel_rfl
def qK8 (vs:List Value):Option (Bool×Value) :=
 match vs with
 | [.int .i64 v]=>some (mdB v,.int .u64 (abI v))
 | _=>none
theorem qAv:CtV 227 qK8:=by
 intro vs r h
 unfold qK8 at h
 split at h
 ·rename_i v
  obtain ⟨h1,rfl⟩:=qac h
  refine qaA (vs:=[I v]) (Λ:=L0) (m':=M0) qOS Tryz.func227 rfl l00 ?_
  exact (qEl v).trans (by
   have h:-2199023255552≤v∧v≤2199023255552:=of_decide_eq_true h1
   unfold abI
   by_cases hv:v<0
   ·rw [decide_eq_true hv,wrU,wrU,show ((0:Int) - v % 18446744073709551616) % 18446744073709551616=-v by omega]
    rfl
   ·rw [decide_eq_false hv,qd9 (n:=v) (by omega)]
    rfl)
 ·cases h
def Γe1:Orc:=qah 227 qK8 Γe0
theorem qOR:Γe1.Ok Tryz.prog:=qaa qOS qAv
theorem qEo (n:Int) (a:Int) (b:Int):runG Γe1 L0 Tryz.prog Tryz.f228 [.v (.int .u64 n),.v (I a),.v (I b)] M0 =
 (bif inI a&&inI b then (bif decide (smI (a+b)<(0:Int)) then some (.v (Bo true),M0) else (bif !inI (a+b) then (bif decide (a<(0:Int)) then some (.v (Bo true),M0) else some (.v (Bo (decide (n>IntKind.u64.wrap (IntKind.u64.wrap a+IntKind.u64.wrap b)))),M0)) else some (.v (Bo (decide (n>IntKind.u64.wrap (IntKind.u64.wrap a+IntKind.u64.wrap b)))),M0))) else none):=by kernel_rfl
def qLa (vs:List Value):Option (Bool×Value) :=
 match vs with
 | [.int .u64 n,.int .i64 a,.int .i64 b]=>some (decide (0≤n∧n≤4398046511104)&&(decide (0≤a∧a≤2199023255552)&&decide (0≤b∧b≤2199023255552)),Bo (decide (n>a+b)))
 | _=>none
theorem qAx:CtV 228 qLa:=by
 intro vs r h
 unfold qLa at h
 split at h
 ·rename_i n a b
  obtain ⟨h1,rfl⟩:=qac h
  refine qaA (vs:=[.int .u64 n,I a,I b]) (Λ:=L0) (m':=M0) qOR Tryz.func228 rfl l00 ?_
  exact (qEo n a b).trans (by
   simp only [Bool.and_eq_true,decide_eq_true_eq] at h1
   obtain ⟨h1,h2,h3⟩:=h1
   have i:=qa0.2 (show -9223372036854775808≤a+b∧a+b<9223372036854775808 by omega)
   rw [qa0.2 (show -9223372036854775808≤a∧a<9223372036854775808 by omega),qa0.2 (show -9223372036854775808≤b∧b<9223372036854775808 by omega),i,show smI (a+b)=a+b by unfold smI;rw [i];rfl,decide_eq_false (show ¬ a+b<0 by omega),qd9 (n:=a) (by omega),qd9 (n:=b) (by omega),qd9 (n:=a+b) (by omega)]
   rfl)
 ·cases h
def Γe2:Orc:=qah 228 qLa Γe1
theorem qOQ:Γe2.Ok Tryz.prog:=qaa qOR qAx
theorem qEk (n:Int) (a:Int) (b:Int):runG Γe2 L0 Tryz.prog Tryz.f229 [.v (.int .u64 n),.v (I a),.v (I b)] M0 =
 (bif decide (a≥b) then some (.v (Bo (decide (n≤IntKind.u64.wrap (IntKind.u64.wrap a - IntKind.u64.wrap b)))),M0) else some (.v (Bo false),M0)):=by kernel_rfl
def qK7 (vs:List Value):Option (Bool×Value) :=
 match vs with
 | [.int .u64 n,.int .i64 a,.int .i64 b]=>some (decide (0≤n∧n≤4398046511104)&&(decide (0≤a∧a≤2199023255552)&&decide (0≤b∧b≤2199023255552)),Bo (decide (n≤a - b)))
 | _=>none
theorem qAu:CtV 229 qK7:=by
 intro vs r h
 unfold qK7 at h
 split at h
 ·rename_i n a b
  obtain ⟨h1,rfl⟩:=qac h
  refine qaA (vs:=[.int .u64 n,I a,I b]) (Λ:=L0) (m':=M0) qOQ Tryz.func229 rfl l00 ?_
  exact (qEk n a b).trans (by
   simp only [Bool.and_eq_true,decide_eq_true_eq] at h1
   obtain ⟨h1,h2,h3⟩:=h1
   by_cases h:a≥b
   ·rw [decide_eq_true h,qd9 (n:=a) (by omega),qd9 (n:=b) (by omega),qd9 (n:=a - b) (by omega)]
    rfl
   ·rw [decide_eq_false h,decide_eq_false (show ¬ n≤a - b by omega)]
    rfl)
 ·cases h
def Γe3:Orc:=qah 229 qK7 Γe2
theorem qOP:Γe3.Ok Tryz.prog:=qaa qOQ qAu
theorem qEm (p:Int) (q:Int) (x:Int) (y:Int) (z:Int) (vx:Int) (vy:Int) (vz:Int) (mo:Int) (e:Int):runG Γe3 L0 Tryz.prog Tryz.f167 [.v (.agg #[I p,I q,I x,I y,I z,I vx,I vy,I vz]),.v (I mo),.v (I e)] M0 =
 (bif mdB vx then (bif mdB vy then (bif mdB vz then (bif decide (((0:Int)≤if abI vz>if abI vy>abI vx then abI vy else abI vx then abI vz else if abI vy>abI vx then abI vy else abI vx)∧(if abI vz>if abI vy>abI vx then abI vy else abI vx then abI vz else if abI vy>abI vx then abI vy else abI vx)≤(4398046511104:Int))&&(decide ((0:Int)≤mo∧mo≤(2199023255552:Int))&&decide ((0:Int)≤e∧e≤(2199023255552:Int))) then (bif decide ((if abI vz>if abI vy>abI vx then abI vy else abI vx then abI vz else if abI vy>abI vx then abI vy else abI vx)>mo+e) then some (.v (I (-1)),M0) else (bif decide (((0:Int)≤if abI vz>if abI vy>abI vx then abI vy else abI vx then abI vz else if abI vy>abI vx then abI vy else abI vx)∧(if abI vz>if abI vy>abI vx then abI vy else abI vx then abI vz else if abI vy>abI vx then abI vy else abI vx)≤(4398046511104:Int))&&(decide ((0:Int)≤mo∧mo≤(2199023255552:Int))&&decide ((0:Int)≤e∧e≤(2199023255552:Int))) then (bif decide ((if abI vz>if abI vy>abI vx then abI vy else abI vx then abI vz else if abI vy>abI vx then abI vy else abI vx)≤mo - e) then some (.v (I 1),M0) else some (.v (I 0),M0)) else none)) else none) else none) else none) else none):=by kernel_rfl
def qK9 (vs:List Value):Option (Bool×Value) :=
 match vs with
 | [.agg ⟨[.int .i64 p,.int .i64 q,.int .i64 x,.int .i64 y,.int .i64 z,.int .i64 vx,.int .i64 vy,.int .i64 vz]⟩,.int .i64 mo,.int .i64 e]=>some (mdB vx&&(mdB vy&&(mdB vz&&(decide (0≤mo∧mo≤2199023255552)&&decide (0≤e∧e≤2199023255552)))),I (spI (m3 vx vy vz) mo e))
 | _=>none
theorem qAw:CtV 167 qK9:=by
 intro vs r h
 unfold qK9 at h
 split at h
 ·rename_i p q x y z vx vy vz mo e
  obtain ⟨h1,rfl⟩:=qac h
  refine qaA (vs:=[.agg #[I p,I q,I x,I y,I z,I vx,I vy,I vz],I mo,I e]) (Λ:=L0) (m':=M0) qOP Tryz.func167 rfl l00 ?_
  exact (qEm p q x y z vx vy vz mo e).trans (by
   simp only [Bool.and_eq_true] at h1
   obtain ⟨h1,h2,h3,h4,h5⟩:=h1
   rw [h1,h2,h3]
   have b1:-2199023255552≤vx∧vx≤2199023255552:=of_decide_eq_true h1
   have b2:-2199023255552≤vy∧vy≤2199023255552:=of_decide_eq_true h2
   have b3:-2199023255552≤vz∧vz≤2199023255552:=of_decide_eq_true h3
   have a1:=qti vx
   have a2:=qti vy
   have a3:=qti vz
   have a4:=qKP vx vy vz
   show (bif decide (0≤m3 vx vy vz∧m3 vx vy vz≤4398046511104)&&_ then (bif decide (m3 vx vy vz>mo+e) then _ else (bif decide (0≤m3 vx vy vz∧m3 vx vy vz≤4398046511104)&&_ then (bif decide (m3 vx vy vz≤mo - e) then _ else _) else none)) else none)=_
   rw [decide_eq_true (show 0≤m3 vx vy vz∧m3 vx vy vz≤4398046511104 by omega),h4,h5]
   unfold spI
   cases decide (m3 vx vy vz>mo+e)<;>cases decide (m3 vx vy vz≤mo - e)<;>rfl)
 ·cases h
def Γe4:Orc:=qah 167 qK9 Γe3
theorem Oke4:Γe4.Ok Tryz.prog:=qaa qOP qAw
def qDo (x y z vx vy vz g e:Int) (L:List (List Dat)):Int:=qlc (iLX x y z vx vy vz g e) (iLY x y z vx vy vz g e) (iHX x y z vx vy vz g e) (iHY x y z vx vy vz g e) L
def wsI (r s:Int):Int:=if r<s then r else s
def ofI (x y z vx vy vz g mo e:Int) (L:List (List Dat)):Int:=bif !imR x y z vx vy vz g e then 4 else (bif wsI (qDo x y z vx vy vz g e L) (spI (m3 vx vy vz) mo e)==-1 then 3 else bif wsI (qDo x y z vx vy vz g e L) (spI (m3 vx vy vz) mo e)==1 then 1 else 2)
theorem qEn (p:Int) (q:Int) (x:Int) (y:Int) (z:Int) (vx:Int) (vy:Int) (vz:Int) (g:Int) (v:Int) (m:Int) (u:Int) (e:Int) (L:List (List Dat)) (own:Bool) (mark:Bool):runG Γe4 L0 Tryz.prog Tryz.f103 [.v (.agg #[I p,I q,I x,I y,I z,I vx,I vy,I vz]),.ag [.row 0,.v (I g),.v (I v),.v (I m),.v (I u)],.v (I e)] ⟨[],[],[rP L own mark]⟩ =
 (bif !imR x y z vx vy vz g e then some (.v (I 4),⟨[],[],[.live ⟨162,[.num .i64,.num .i64],L,own,mark⟩]⟩) else (bif mdB vx&&(mdB vy&&(mdB vz&&(decide ((0:Int)≤v∧v≤(2199023255552:Int))&&decide ((0:Int)≤e∧e≤(2199023255552:Int))))) then (bif L.length.ble (1000000) then (bif (if qlc (iLX x y z vx vy vz g e) (iLY x y z vx vy vz g e) (iHX x y z vx vy vz g e) (iHY x y z vx vy vz g e) L<spI (m3 vx vy vz) v e then qlc (iLX x y z vx vy vz g e) (iLY x y z vx vy vz g e) (iHX x y z vx vy vz g e) (iHY x y z vx vy vz g e) L else spI (m3 vx vy vz) v e)==(-1:Int) then some (.v (I 3),⟨[],[],[.live ⟨162,[.num .i64,.num .i64],L,own,mark⟩]⟩) else (bif (if qlc (iLX x y z vx vy vz g e) (iLY x y z vx vy vz g e) (iHX x y z vx vy vz g e) (iHY x y z vx vy vz g e) L<spI (m3 vx vy vz) v e then qlc (iLX x y z vx vy vz g e) (iLY x y z vx vy vz g e) (iHX x y z vx vy vz g e) (iHY x y z vx vy vz g e) L else spI (m3 vx vy vz) v e)==(1:Int) then some (.v (I 1),⟨[],[],[.live ⟨162,[.num .i64,.num .i64],L,own,mark⟩]⟩) else some (.v (I 2),⟨[],[],[.live ⟨162,[.num .i64,.num .i64],L,own,mark⟩]⟩))) else none) else none)):=by kernel_rfl
def gVof (xs:List SV) (m:Mem):Option (Bool×Value) :=
 match xs,m with
 | [.v (.agg ⟨[.int .i64 p,.int .i64 q,.int .i64 x,.int .i64 y,.int .i64 z,.int .i64 vx,.int .i64 vy,.int .i64 vz]⟩),.ag [.row 0,.v (.int .i64 g),.v (.int .i64 v),.v (.int .i64 m),.v (.int .i64 u)],.v (.int .i64 e)],⟨[],[],[.live ⟨162,[.num .i64,.num .i64],L,own,mark⟩]⟩=>some (Nat.ble L.length 1000000&&decide (0≤v∧v≤2199023255552),I (ofI x y z vx vy vz g v e L))
 | _,_=>none
theorem gVof_ok:CtR 103 gVof:=by
 intro xs m r h
 unfold gVof at h
 split at h
 ·rename_i p q x y z vx vy vz g v m u e L own mark
  obtain ⟨h1,rfl⟩:=qac h
  refine qal (Λ:=L0) Oke4 Tryz.func103 rfl l00 ?_
  refine (qEn p q x y z vx vy vz g v m u e L own mark).trans ?_
  rw [Bool.and_eq_true] at h1
  obtain ⟨h1,h2⟩:=h1
  rw [h1]
  unfold ofI
  cases hi:imR x y z vx vy vz g e
  ·rfl
  have h3:=qAi.1 hi
  have h4:=qeS.1 h3.2
  have h5:=ql8.1 h3.1.1
  have b1:mdB vx=true:=decide_eq_true (by omega)
  have b2:mdB vy=true:=decide_eq_true (by omega)
  have b3:mdB vz=true:=decide_eq_true (by omega)
  rw [b1,b2,b3,h2,decide_eq_true (show 0≤e∧e≤2199023255552 by omega)]
  show (bif wsI (qDo x y z vx vy vz g e L) (spI (m3 vx vy vz) v e)==-1 then _ else (bif wsI (qDo x y z vx vy vz g e L) (spI (m3 vx vy vz) v e)==1 then _ else _))=_
  simp only [Bool.not_true,cond_false]
  cases wsI (qDo x y z vx vy vz g e L) (spI (m3 vx vy vz) v e)==-1<;>cases wsI (qDo x y z vx vy vz g e L) (spI (m3 vx vy vz) v e)==1<;>rfl
 ·cases h
end Go.Proofs.YtainfdcfkgemhaaGreat.Im
