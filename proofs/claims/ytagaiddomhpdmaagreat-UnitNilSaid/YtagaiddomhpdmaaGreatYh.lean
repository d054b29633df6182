/-
  What is known of this program: phases,pairs,impacts,verdicts.
-/
import Derived.Test.YtagaiddomhpdmaaGreatYc
import Derived.Test.YtagaiddomhpdmaaGreatYe
import Derived.Test.YtagaiddomhpdmaaGreatYg
import Derived.Test.YtagaiddomhpdmaaGreatYa
set_option maxRecDepth 100000
namespace Go.Proofs.YtagaiddomhpdmaaGreat.Ph
open Go Go.Proofs Go.Sx
noncomputable def Γv1:Orc:=addCl 230 gStore ΓA13
theorem Okv1:Γv1.Ok Tryz.prog:=addCl_ok OkA13 gStore_ok
noncomputable def Γv2:Orc:=addCl 172 gCUp Γv1
theorem Okv2:Γv2.Ok Tryz.prog:=addCl_ok Okv1 gCUp_ok
noncomputable def Γv3:Orc:=addCl 173 gCSet Γv2
theorem Okv3:Γv3.Ok Tryz.prog:=addCl_ok Okv2 gCSet_ok
noncomputable def Γv4:Orc:=addCl 157 gCReset Γv3
theorem Okv4:Γv4.Ok Tryz.prog:=addCl_ok Okv3 gCReset_ok
end Go.Proofs.YtagaiddomhpdmaaGreat.Ph
namespace Go.Proofs.YtagaiddomhpdmaaGreat.Ph
open Go Go.Proofs Go.Sx
set_option linter.unusedVariables false
def wrP (f:FuncId):Bool:=wr13 f||(Nat.beq f 168||Nat.beq f 110||Nat.beq f 144||Nat.beq f 120||Nat.beq f 146||false)
noncomputable def Γp0:Orc:={ Γv4 with wr:=wrP,sb:=true,bs:=true }
theorem Okp0:Γp0.Ok Tryz.prog:=⟨Okv4.call,Okv4.rd,Okv4.eqv⟩
theorem runPla (r1:Int) (r2:Int) (r3:Int) (r4:Int) (r5:Int) (r6:Int) (r7:Int) (r8:Int) (p:Int) (a:Int) (v:Int) (L:List (List Dat)) (own:Bool) (mark:Bool):runG Γp0 L0 Tryz.prog Tryz.f177 [.ptr 0 0] ⟨[[.row 0,.v (I r1),.v (I r2),.v (I r3),.v (I r4),.v (I r5),.v (I r6),.v (I r7),.v (I r8),.v (I p),.ptr 1 0],[.v (I a),.v (I v)]],[true,true],[rH L own mark]⟩ =
    some (.v (Bo (decide (p≥wI ((L.length:Int) - (1:Int))))),⟨[[.row 0,.v (I r1),.v (I r2),.v (I r3),.v (I r4),.v (I r5),.v (I r6),.v (I r7),.v (I r8),.v (I p),.ptr 1 0],[.v (I a),.v (I v)]],[true,true],[.live ⟨154,kPh,L,own,mark⟩]⟩):=by kernel_rfl
def gPla (xs:List SV) (m:Mem):Option (Bool×Value) :=
  match xs,m with
  | [.ptr 0 0],⟨[[.row 0,.v (.int .i64 r1),.v (.int .i64 r2),.v (.int .i64 r3),.v (.int .i64 r4),.v (.int .i64 r5),.v (.int .i64 r6),.v (.int .i64 r7),.v (.int .i64 r8),.v (.int .i64 p),.ptr 1 0],[.v (.int .i64 a),.v (.int .i64 v)]],[true,true],[.live ⟨154,[.sl 151 [.num .i64,.num .i64],.num .i64,.num .i64,.num .i64,.num .i64],L,own,mark⟩]⟩=>some (true,Bo (decide (p≥wI ((L.length:Int) - 1))))
  | _,_=>none
theorem gPla_ok:CtR 177 gPla:=by
  intro xs m r h
  unfold gPla at h
  split at h
  · rename_i r1 r2 r3 r4 r5 r6 r7 r8 p a v L own mark
    obtain ⟨h1,rfl⟩:=some_t h
    refine runOk (Λ:=L0) Okp0 Tryz.func177 rfl l00 ?_
    refine (runPla r1 r2 r3 r4 r5 r6 r7 r8 p a v L own mark).trans ?_
    rfl
  · cases h
noncomputable def Γp1:Orc:=addRd 177 gPla Γp0
theorem Okp1:Γp1.Ok Tryz.prog:=addRd_ok Okp0 gPla_ok
theorem runPin (r1:Int) (r2:Int) (r3:Int) (r4:Int) (r5:Int) (r6:Int) (r7:Int) (r8:Int) (p:Int) (a:Int) (v:Int) (L:List (List Dat)) (own:Bool) (mark:Bool):runG Γp1 L0 Tryz.prog Tryz.f122 [.ptr 0 0] ⟨[[.row 0,.v (I r1),.v (I r2),.v (I r3),.v (I r4),.v (I r5),.v (I r6),.v (I r7),.v (I r8),.v (I p),.ptr 1 0],[.v (I a),.v (I v)]],[true,true],[rH L own mark]⟩ =
    some (.v (I v),⟨[[.row 0,.v (I r1),.v (I r2),.v (I r3),.v (I r4),.v (I r5),.v (I r6),.v (I r7),.v (I r8),.v (I p),.ptr 1 0],[.v (I a),.v (I v)]],[true,true],[.live ⟨154,kPh,L,own,mark⟩]⟩):=by kernel_rfl
def gPin (xs:List SV) (m:Mem):Option (Bool×Value) :=
  match xs,m with
  | [.ptr 0 0],⟨[[.row 0,.v (.int .i64 r1),.v (.int .i64 r2),.v (.int .i64 r3),.v (.int .i64 r4),.v (.int .i64 r5),.v (.int .i64 r6),.v (.int .i64 r7),.v (.int .i64 r8),.v (.int .i64 p),.ptr 1 0],[.v (.int .i64 a),.v (.int .i64 v)]],[true,true],[.live ⟨154,[.sl 151 [.num .i64,.num .i64],.num .i64,.num .i64,.num .i64,.num .i64],L,own,mark⟩]⟩=>some (true,I v)
  | _,_=>none
theorem gPin_ok:CtR 122 gPin:=by
  intro xs m r h
  unfold gPin at h
  split at h
  · rename_i r1 r2 r3 r4 r5 r6 r7 r8 p a v L own mark
    obtain ⟨h1,rfl⟩:=some_t h
    refine runOk (Λ:=L0) Okp1 Tryz.func122 rfl l00 ?_
    refine (runPin r1 r2 r3 r4 r5 r6 r7 r8 p a v L own mark).trans ?_
    rfl
  · cases h
noncomputable def Γp2:Orc:=addRd 122 gPin Γp1
theorem Okp2:Γp2.Ok Tryz.prog:=addRd_ok Okp1 gPin_ok
theorem runPph (r1:Int) (r2:Int) (r3:Int) (r4:Int) (r5:Int) (r6:Int) (r7:Int) (r8:Int) (p:Int) (a:Int) (v:Int) (L:List (List Dat)) (own:Bool) (mark:Bool):runG Γp2 L0 Tryz.prog Tryz.f118 [.ptr 0 0] ⟨[[.row 0,.v (I r1),.v (I r2),.v (I r3),.v (I r4),.v (I r5),.v (I r6),.v (I r7),.v (I r8),.v (I p),.ptr 1 0],[.v (I a),.v (I v)]],[true,true],[rH L own mark]⟩ =
    some (.v (I p),⟨[[.row 0,.v (I r1),.v (I r2),.v (I r3),.v (I r4),.v (I r5),.v (I r6),.v (I r7),.v (I r8),.v (I p),.ptr 1 0],[.v (I a),.v (I v)]],[true,true],[.live ⟨154,kPh,L,own,mark⟩]⟩):=by kernel_rfl
def gPph (xs:List SV) (m:Mem):Option (Bool×Value) :=
  match xs,m with
  | [.ptr 0 0],⟨[[.row 0,.v (.int .i64 r1),.v (.int .i64 r2),.v (.int .i64 r3),.v (.int .i64 r4),.v (.int .i64 r5),.v (.int .i64 r6),.v (.int .i64 r7),.v (.int .i64 r8),.v (.int .i64 p),.ptr 1 0],[.v (.int .i64 a),.v (.int .i64 v)]],[true,true],[.live ⟨154,[.sl 151 [.num .i64,.num .i64],.num .i64,.num .i64,.num .i64,.num .i64],L,own,mark⟩]⟩=>some (true,I p)
  | _,_=>none
theorem gPph_ok:CtR 118 gPph:=by
  intro xs m r h
  unfold gPph at h
  split at h
  · rename_i r1 r2 r3 r4 r5 r6 r7 r8 p a v L own mark
    obtain ⟨h1,rfl⟩:=some_t h
    refine runOk (Λ:=L0) Okp2 Tryz.func118 rfl l00 ?_
    refine (runPph r1 r2 r3 r4 r5 r6 r7 r8 p a v L own mark).trans ?_
    rfl
  · cases h
noncomputable def Γp3:Orc:=addRd 118 gPph Γp2
theorem Okp3:Γp3.Ok Tryz.prog:=addRd_ok Okp2 gPph_ok
def wishB (L:List (List Dat)) (p v h:Int) (kn:Bool):Bool:=bif decide (p≥wI ((L.length:Int) - 1)) then false else bif !kn then false else bif decide (v≥phM L p) then decide (h≥phU L p) else false
theorem runPwi (ht:Int) (kn:Bool) (r1:Int) (r2:Int) (r3:Int) (r4:Int) (r5:Int) (r6:Int) (r7:Int) (r8:Int) (p:Int) (a:Int) (v:Int) (L:List (List Dat)) (own:Bool) (mark:Bool):runG Γp3 L0 Tryz.prog Tryz.f119 [.ptr 0 0,.v (I ht),.v (Bo kn)] ⟨[[.row 0,.v (I r1),.v (I r2),.v (I r3),.v (I r4),.v (I r5),.v (I r6),.v (I r7),.v (I r8),.v (I p),.ptr 1 0],[.v (I a),.v (I v)]],[true,true],[rH L own mark]⟩ =
    (bif decide (p≥wI ((L.length:Int) - (1:Int))) then some (.v (Bo false),⟨[[.row 0,.v (I r1),.v (I r2),.v (I r3),.v (I r4),.v (I r5),.v (I r6),.v (I r7),.v (I r8),.v (I p),.ptr 1 0],[.v (I a),.v (I v)]],[true,true],[.live ⟨154,kPh,L,own,mark⟩]⟩) else (bif !kn then some (.v (Bo false),⟨[[.row 0,.v (I r1),.v (I r2),.v (I r3),.v (I r4),.v (I r5),.v (I r6),.v (I r7),.v (I r8),.v (I p),.ptr 1 0],[.v (I a),.v (I v)]],[true,true],[.live ⟨154,kPh,L,own,mark⟩]⟩) else (bif decide ((0:Int)≤p)&&decide (p<(L.length:Int)) then (same ((bif decide (v≥(phM L p)) then some (.v (Bo (decide (ht≥(phU L p)))),⟨[[.row 0,.v (I r1),.v (I r2),.v (I r3),.v (I r4),.v (I r5),.v (I r6),.v (I r7),.v (I r8),.v (I p),.ptr 1 0],[.v (I a),.v (I v)]],[true,true],[.live ⟨154,kPh,L,own,mark⟩]⟩) else some (.v (Bo false),⟨[[.row 0,.v (I r1),.v (I r2),.v (I r3),.v (I r4),.v (I r5),.v (I r6),.v (I r7),.v (I r8),.v (I p),.ptr 1 0],[.v (I a),.v (I v)]],[true,true],[.live ⟨154,kPh,L,own,mark⟩]⟩))) ((bif decide (v≥(phM L p)) then some (.v (Bo (decide (ht≥(phU L p)))),⟨[[.row 0,.v (I r1),.v (I r2),.v (I r3),.v (I r4),.v (I r5),.v (I r6),.v (I r7),.v (I r8),.v (I p),.ptr 1 0],[.v (I a),.v (I v)]],[true,true],[.live ⟨154,kPh,L,own,mark⟩]⟩) else some (.v (Bo false),⟨[[.row 0,.v (I r1),.v (I r2),.v (I r3),.v (I r4),.v (I r5),.v (I r6),.v (I r7),.v (I r8),.v (I p),.ptr 1 0],[.v (I a),.v (I v)]],[true,true],[.live ⟨154,kPh,L,own,mark⟩]⟩)))) else none))):=by kernel_rfl
def gPwi (xs:List SV) (m:Mem):Option (Bool×Value) :=
  match xs,m with
  | [.ptr 0 0,.v (.int .i64 ht),.v (.bool kn)],⟨[[.row 0,.v (.int .i64 r1),.v (.int .i64 r2),.v (.int .i64 r3),.v (.int .i64 r4),.v (.int .i64 r5),.v (.int .i64 r6),.v (.int .i64 r7),.v (.int .i64 r8),.v (.int .i64 p),.ptr 1 0],[.v (.int .i64 a),.v (.int .i64 v)]],[true,true],[.live ⟨154,[.sl 151 [.num .i64,.num .i64],.num .i64,.num .i64,.num .i64,.num .i64],L,own,mark⟩]⟩=>some (decide (0≤p)&&decide (p<(L.length:Int)),Bo (wishB L p v ht kn))
  | _,_=>none
theorem gPwi_ok:CtR 119 gPwi:=by
  intro xs m r h
  unfold gPwi at h
  split at h
  · rename_i ht kn r1 r2 r3 r4 r5 r6 r7 r8 p a v L own mark
    obtain ⟨h1,rfl⟩:=some_t h
    refine runOk (Λ:=L0) Okp3 Tryz.func119 rfl l00 ?_
    refine (runPwi ht kn r1 r2 r3 r4 r5 r6 r7 r8 p a v L own mark).trans ?_
    rw [h1,same_self]
    unfold wishB
    cases decide (p≥wI ((L.length:Int) - 1))<;>first|rfl|(cases kn<;>first|rfl|(cases decide (v≥phM L p)<;>rfl))
  · cases h
noncomputable def Γp4:Orc:=addRd 119 gPwi Γp3
theorem Okp4:Γp4.Ok Tryz.prog:=addRd_ok Okp3 gPwi_ok
def cyB (L:List (List Dat)) (p:Int) (mi th:Bool):Bool:=bif decide (p≥wI ((L.length:Int) - 1)) then false else bif !mi then false else th
theorem runPcy (mi:Bool) (th:Bool) (r1:Int) (r2:Int) (r3:Int) (r4:Int) (r5:Int) (r6:Int) (r7:Int) (r8:Int) (p:Int) (a:Int) (v:Int) (L:List (List Dat)) (own:Bool) (mark:Bool):runG Γp4 L0 Tryz.prog Tryz.f120 [.ptr 0 0,.v (Bo mi),.v (Bo th)] ⟨[[.row 0,.v (I r1),.v (I r2),.v (I r3),.v (I r4),.v (I r5),.v (I r6),.v (I r7),.v (I r8),.v (I p),.ptr 1 0],[.v (I a),.v (I v)]],[true,true],[rH L own mark]⟩ =
    (bif decide (p≥wI ((L.length:Int) - (1:Int))) then some (.v (Bo false),⟨[[.row 0,.v (I r1),.v (I r2),.v (I r3),.v (I r4),.v (I r5),.v (I r6),.v (I r7),.v (I r8),.v (I p),.ptr 1 0],[.v (I a),.v (I (addN' a v (1:Int)))]],[true,true],[.live ⟨154,kPh,L,own,mark⟩]⟩) else (bif !mi then some (.v (Bo false),⟨[[.row 0,.v (I r1),.v (I r2),.v (I r3),.v (I r4),.v (I r5),.v (I r6),.v (I r7),.v (I r8),.v (I p),.ptr 1 0],[.v (I a),.v (I (addN' a v (1:Int)))]],[true,true],[.live ⟨154,kPh,L,own,mark⟩]⟩) else (bif !th then some (.v (Bo false),⟨[[.row 0,.v (I r1),.v (I r2),.v (I r3),.v (I r4),.v (I r5),.v (I r6),.v (I r7),.v (I r8),.v (I p),.ptr 1 0],[.v (I a),.v (I (addN' a v (1:Int)))]],[true,true],[.live ⟨154,kPh,L,own,mark⟩]⟩) else some (.v (Bo true),⟨[[.row 0,.v (I r1),.v (I r2),.v (I r3),.v (I r4),.v (I r5),.v (I r6),.v (I r7),.v (I r8),.v (I (wI (p+(1:Int)))),.ptr 1 0],[.v (I a),.v (I (clampI (0:Int) a))]],[true,true],[.live ⟨154,kPh,L,own,mark⟩]⟩)))):=by kernel_rfl
def gPcy (xs:List SV) (m:Mem):Option (Bool×SV×Mem) :=
  match xs,m with
  | [.ptr 0 0,.v (.bool mi),.v (.bool th)],⟨[[.row 0,.v (.int .i64 r1),.v (.int .i64 r2),.v (.int .i64 r3),.v (.int .i64 r4),.v (.int .i64 r5),.v (.int .i64 r6),.v (.int .i64 r7),.v (.int .i64 r8),.v (.int .i64 p),.ptr 1 0],[.v (.int .i64 a),.v (.int .i64 v)]],[true,true],[.live ⟨154,[.sl 151 [.num .i64,.num .i64],.num .i64,.num .i64,.num .i64,.num .i64],L,own,mark⟩]⟩=>some (true,.v (Bo (cyB L p mi th)),⟨[[.row 0,.v (I r1),.v (I r2),.v (I r3),.v (I r4),.v (I r5),.v (I r6),.v (I r7),.v (I r8),.v (I (bif cyB L p mi th then wI (p+1) else p)),.ptr 1 0],[.v (I a),.v (I (bif cyB L p mi th then clampI 0 a else addN' a v 1))]],[true,true],[rH L own mark]⟩)
  | _,_=>none
theorem gPcy_ok:CtC 120 gPcy:=by
  intro xs m r m' h
  unfold gPcy at h
  split at h
  · rename_i mi th r1 r2 r3 r4 r5 r6 r7 r8 p a v L own mark
    obtain ⟨h1,rfl,rfl⟩:=some_t2 h
    refine runOk (Λ:=L0) Okp4 Tryz.func120 rfl l00 ?_
    refine (runPcy mi th r1 r2 r3 r4 r5 r6 r7 r8 p a v L own mark).trans ?_
    unfold cyB
    cases decide (p≥wI ((L.length:Int) - 1))<;>cases mi<;>cases th<;>rfl
  · cases h
noncomputable def Γp5:Orc:=addCl 120 gPcy Γp4
theorem Okp5:Γp5.Ok Tryz.prog:=addCl_ok Okp4 gPcy_ok
def seB (L:List (List Dat)) (q i:Int):Bool:=bif decide (q<0) then false else bif decide (q≥(L.length:Int)) then false else bif decide (i<0) then false else bif decide (i>1000000) then false else true
theorem runPse (q:Int) (i:Int) (r1:Int) (r2:Int) (r3:Int) (r4:Int) (r5:Int) (r6:Int) (r7:Int) (r8:Int) (p:Int) (a:Int) (v:Int) (L:List (List Dat)) (own:Bool) (mark:Bool):runG Γp5 L0 Tryz.prog Tryz.f146 [.ptr 0 0,.v (I q),.v (I i)] ⟨[[.row 0,.v (I r1),.v (I r2),.v (I r3),.v (I r4),.v (I r5),.v (I r6),.v (I r7),.v (I r8),.v (I p),.ptr 1 0],[.v (I a),.v (I v)]],[true,true],[rH L own mark]⟩ =
    (bif decide (q<(0:Int)) then some (.v (Bo false),⟨[[.row 0,.v (I r1),.v (I r2),.v (I r3),.v (I r4),.v (I r5),.v (I r6),.v (I r7),.v (I r8),.v (I p),.ptr 1 0],[.v (I a),.v (I v)]],[true,true],[.live ⟨154,kPh,L,own,mark⟩]⟩) else (bif decide (q≥(L.length:Int)) then some (.v (Bo false),⟨[[.row 0,.v (I r1),.v (I r2),.v (I r3),.v (I r4),.v (I r5),.v (I r6),.v (I r7),.v (I r8),.v (I p),.ptr 1 0],[.v (I a),.v (I v)]],[true,true],[.live ⟨154,kPh,L,own,mark⟩]⟩) else (bif decide (i<(0:Int)) then some (.v (Bo false),⟨[[.row 0,.v (I r1),.v (I r2),.v (I r3),.v (I r4),.v (I r5),.v (I r6),.v (I r7),.v (I r8),.v (I p),.ptr 1 0],[.v (I a),.v (I v)]],[true,true],[.live ⟨154,kPh,L,own,mark⟩]⟩) else (bif decide (i>(1000000:Int)) then some (.v (Bo false),⟨[[.row 0,.v (I r1),.v (I r2),.v (I r3),.v (I r4),.v (I r5),.v (I r6),.v (I r7),.v (I r8),.v (I p),.ptr 1 0],[.v (I a),.v (I v)]],[true,true],[.live ⟨154,kPh,L,own,mark⟩]⟩) else some (.v (Bo true),⟨[[.row 0,.v (I r1),.v (I r2),.v (I r3),.v (I r4),.v (I r5),.v (I r6),.v (I r7),.v (I r8),.v (I q),.ptr 1 0],[.v (I a),.v (I (clampI i a))]],[true,true],[.live ⟨154,kPh,L,own,mark⟩]⟩))))):=by kernel_rfl
def gPse (xs:List SV) (m:Mem):Option (Bool×SV×Mem) :=
  match xs,m with
  | [.ptr 0 0,.v (.int .i64 q),.v (.int .i64 i)],⟨[[.row 0,.v (.int .i64 r1),.v (.int .i64 r2),.v (.int .i64 r3),.v (.int .i64 r4),.v (.int .i64 r5),.v (.int .i64 r6),.v (.int .i64 r7),.v (.int .i64 r8),.v (.int .i64 p),.ptr 1 0],[.v (.int .i64 a),.v (.int .i64 v)]],[true,true],[.live ⟨154,[.sl 151 [.num .i64,.num .i64],.num .i64,.num .i64,.num .i64,.num .i64],L,own,mark⟩]⟩=>some (true,.v (Bo (seB L q i)),⟨[[.row 0,.v (I r1),.v (I r2),.v (I r3),.v (I r4),.v (I r5),.v (I r6),.v (I r7),.v (I r8),.v (I (bif seB L q i then q else p)),.ptr 1 0],[.v (I a),.v (I (bif seB L q i then clampI i a else v))]],[true,true],[rH L own mark]⟩)
  | _,_=>none
theorem gPse_ok:CtC 146 gPse:=by
  intro xs m r m' h
  unfold gPse at h
  split at h
  · rename_i q i r1 r2 r3 r4 r5 r6 r7 r8 p a v L own mark
    obtain ⟨h1,rfl,rfl⟩:=some_t2 h
    refine runOk (Λ:=L0) Okp5 Tryz.func146 rfl l00 ?_
    refine (runPse q i r1 r2 r3 r4 r5 r6 r7 r8 p a v L own mark).trans ?_
    unfold seB
    cases decide (q<0)<;>cases decide (q≥(L.length:Int))<;>cases decide (i<0)<;>cases decide (i>1000000)<;>rfl
  · cases h
noncomputable def Γp6:Orc:=addCl 146 gPse Γp5
theorem Okp6:Γp6.Ok Tryz.prog:=addCl_ok Okp5 gPse_ok
theorem runPrp (r1:Int) (r2:Int) (r3:Int) (r4:Int) (r5:Int) (r6:Int) (r7:Int) (r8:Int) (p:Int) (L:List (List Dat)) (own:Bool) (mark:Bool):runG Γp6 L0 Tryz.prog Tryz.f168 [.ag [.row 0,.v (I r1),.v (I r2),.v (I r3),.v (I r4),.v (I r5),.v (I r6),.v (I r7),.v (I r8)],.v (I p)] ⟨[],[],[rH L own mark]⟩ =
    (bif decide (p<(0:Int)) then some (.v (.tuple #[(.agg #[(Value.slice none (0:Nat) (0:Nat)),(I 0),(I 0),(I 0),(I 0)]),(Bo false)]),⟨[],[],[.live ⟨154,kPh,L,own,mark⟩]⟩) else (bif decide (p≥(L.length:Int)) then some (.v (.tuple #[(.agg #[(Value.slice none (0:Nat) (0:Nat)),(I 0),(I 0),(I 0),(I 0)]),(Bo false)]),⟨[],[],[.live ⟨154,kPh,L,own,mark⟩]⟩) else (bif decide ((0:Int)≤p)&&decide (p<(L.length:Int)) then (bif Nat.blt (0:Nat) (phA L p).length&&(phA L p).length.ble (1000000) then some (.tup [.ag [.row 1,.v (I ((phG L p))),.v (I ((phV L p))),.v (I ((phM L p))),.v (I ((phU L p)))],.one (.v (Bo true))],⟨[],[],[.live ⟨154,kPh,L,own,mark⟩,.live ⟨151,[.num .i64,.num .i64],(phA L p),true,false⟩]⟩) else none) else none))):=by kernel_rfl
def gPrp (xs:List SV) (m:Mem):Option (Bool×SV×Mem) :=
  match xs,m with
  | [.ag [.row 0,.v (.int .i64 r1),.v (.int .i64 r2),.v (.int .i64 r3),.v (.int .i64 r4),.v (.int .i64 r5),.v (.int .i64 r6),.v (.int .i64 r7),.v (.int .i64 r8)],.v (.int .i64 p)],⟨[],[],[.live ⟨154,[.sl 151 [.num .i64,.num .i64],.num .i64,.num .i64,.num .i64,.num .i64],L,own,mark⟩]⟩=>some (phOk L&&(phNe L&&(decide (0≤p)&&decide (p<(L.length:Int)))),.tup [.ag [.row 1,.v (I (phG L p)),.v (I (phV L p)),.v (I (phM L p)),.v (I (phU L p))],.one (.v (Bo true))],⟨[],[],[rH L own mark,rP (phA L p) true false]⟩)
  | _,_=>none
theorem gPrp_ok:CtC 168 gPrp:=by
  intro xs m r m' h
  unfold gPrp at h
  split at h
  · rename_i r1 r2 r3 r4 r5 r6 r7 r8 p L own mark
    obtain ⟨h1,rfl,rfl⟩:=some_t2 h
    refine runOk (Λ:=L0) Okp6 Tryz.func168 rfl l00 ?_
    refine (runPrp r1 r2 r3 r4 r5 r6 r7 r8 p L own mark).trans ?_
    simp only [Bool.and_eq_true,decide_eq_true_eq] at h1
    obtain ⟨h1,h2,h3,h4⟩:=h1
    rw [decide_eq_false (show ¬ p<0 by omega),decide_eq_false (show ¬ p≥(L.length:Int) by omega),decide_eq_true h3,decide_eq_true h4,(phOk_get h1 h3 h4).2,phNe_get h2 h3 h4]
    rfl
  · cases h
noncomputable def Γp7:Orc:=addCl 168 gPrp Γp6
theorem Okp7:Γp7.Ok Tryz.prog:=addCl_ok Okp6 gPrp_ok
theorem runPno (r1:Int) (r2:Int) (r3:Int) (r4:Int) (r5:Int) (r6:Int) (r7:Int) (r8:Int) (p:Int) (a:Int) (v:Int) (L:List (List Dat)) (own:Bool) (mark:Bool):runG Γp7 L0 Tryz.prog Tryz.f110 [.ptr 0 0] ⟨[[.row 0,.v (I r1),.v (I r2),.v (I r3),.v (I r4),.v (I r5),.v (I r6),.v (I r7),.v (I r8),.v (I p),.ptr 1 0],[.v (I a),.v (I v)]],[true,true],[rH L own mark]⟩ =
    (same ((bif phOk L&&(phNe L&&(decide ((0:Int)≤p)&&decide (p<(L.length:Int)))) then (same (some (.ag [.row 1,.v (I (phG L p)),.v (I (phV L p)),.v (I (phM L p)),.v (I (phU L p))],⟨[[.row 0,.v (I r1),.v (I r2),.v (I r3),.v (I r4),.v (I r5),.v (I r6),.v (I r7),.v (I r8),.v (I p),.ptr 1 0],[.v (I a),.v (I v)]],[true,true],[.live ⟨154,kPh,L,own,mark⟩,.live ⟨151,[.num .i64,.num .i64],phA L p,true,false⟩]⟩)) (some (.ag [.row 1,.v (I (phG L p)),.v (I (phV L p)),.v (I (phM L p)),.v (I (phU L p))],⟨[[.row 0,.v (I r1),.v (I r2),.v (I r3),.v (I r4),.v (I r5),.v (I r6),.v (I r7),.v (I r8),.v (I p),.ptr 1 0],[.v (I a),.v (I v)]],[true,true],[.live ⟨154,kPh,L,own,mark⟩,.live ⟨151,[.num .i64,.num .i64],phA L p,true,false⟩]⟩))) else none)) ((bif phOk L&&(phNe L&&(decide ((0:Int)≤p)&&decide (p<(L.length:Int)))) then (same (some (.ag [.row 1,.v (I (phG L p)),.v (I (phV L p)),.v (I (phM L p)),.v (I (phU L p))],⟨[[.row 0,.v (I r1),.v (I r2),.v (I r3),.v (I r4),.v (I r5),.v (I r6),.v (I r7),.v (I r8),.v (I p),.ptr 1 0],[.v (I a),.v (I v)]],[true,true],[.live ⟨154,kPh,L,own,mark⟩,.live ⟨151,[.num .i64,.num .i64],phA L p,true,false⟩]⟩)) (some (.ag [.row 1,.v (I (phG L p)),.v (I (phV L p)),.v (I (phM L p)),.v (I (phU L p))],⟨[[.row 0,.v (I r1),.v (I r2),.v (I r3),.v (I r4),.v (I r5),.v (I r6),.v (I r7),.v (I r8),.v (I p),.ptr 1 0],[.v (I a),.v (I v)]],[true,true],[.live ⟨154,kPh,L,own,mark⟩,.live ⟨151,[.num .i64,.num .i64],phA L p,true,false⟩]⟩))) else none))):=by kernel_rfl
def gPno (xs:List SV) (m:Mem):Option (Bool×SV×Mem) :=
  match xs,m with
  | [.ptr 0 0],⟨[[.row 0,.v (.int .i64 r1),.v (.int .i64 r2),.v (.int .i64 r3),.v (.int .i64 r4),.v (.int .i64 r5),.v (.int .i64 r6),.v (.int .i64 r7),.v (.int .i64 r8),.v (.int .i64 p),.ptr 1 0],[.v (.int .i64 a),.v (.int .i64 v)]],[true,true],[.live ⟨154,[.sl 151 [.num .i64,.num .i64],.num .i64,.num .i64,.num .i64,.num .i64],L,own,mark⟩]⟩=>some (phOk L&&(phNe L&&(decide (0≤p)&&decide (p<(L.length:Int)))),.ag [.row 1,.v (I (phG L p)),.v (I (phV L p)),.v (I (phM L p)),.v (I (phU L p))],⟨[[.row 0,.v (I r1),.v (I r2),.v (I r3),.v (I r4),.v (I r5),.v (I r6),.v (I r7),.v (I r8),.v (I (p)),.ptr 1 0],[.v (I a),.v (I (v))]],[true,true],[rH L own mark,rP (phA L p) true false]⟩)
  | _,_=>none
theorem gPno_ok:CtC 110 gPno:=by
  intro xs m r m' h
  unfold gPno at h
  split at h
  · rename_i r1 r2 r3 r4 r5 r6 r7 r8 p a v L own mark
    obtain ⟨h1,rfl,rfl⟩:=some_t2 h
    refine runOk (Λ:=L0) Okp7 Tryz.func110 rfl l00 ?_
    refine (runPno r1 r2 r3 r4 r5 r6 r7 r8 p a v L own mark).trans ?_
    rw [h1]
    simp only [same_self,cond_true]
  · cases h
noncomputable def Γp8:Orc:=addCl 110 gPno Γp7
theorem Okp8:Γp8.Ok Tryz.prog:=addCl_ok Okp7 gPno_ok
theorem runPnw (r1:Int) (r2:Int) (r3:Int) (r4:Int) (r5:Int) (r6:Int) (r7:Int) (r8:Int) (L:List (List Dat)) (own:Bool) (mark:Bool):runG Γp8 L0 Tryz.prog Tryz.f144 [.ag [.row 0,.v (I r1),.v (I r2),.v (I r3),.v (I r4),.v (I r5),.v (I r6),.v (I r7),.v (I r8)]] ⟨[],[],[rH L own mark]⟩ =
    (bif phOk L then (bif !wrB L r1 r2 r3 r4 r5 r6 r7 r8==(0:Int) then some (.v (Value.pointer none),⟨[],[],[.live ⟨154,kPh,L,own,mark⟩]⟩) else (bif phOk L&&(phNe L&&Nat.blt (0:Nat) L.length) then some (.ptr 0 0,⟨[[.row 1,.v (I r1),.v (I r2),.v (I r3),.v (I r4),.v (I r5),.v (I r6),.v (I r7),.v (I r8),.v (I 0),.ptr 1 0],[.v (I 1000000),.v (I 0)]],[true,true],[.live ⟨154,kPh,L,own,mark⟩,.live ⟨154,kPh,L,true,false⟩]⟩) else none)) else none):=by kernel_rfl
def gPnw (xs:List SV) (m:Mem):Option (Bool×SV×Mem) :=
  match xs,m with
  | [.ag [.row 0,.v (.int .i64 r1),.v (.int .i64 r2),.v (.int .i64 r3),.v (.int .i64 r4),.v (.int .i64 r5),.v (.int .i64 r6),.v (.int .i64 r7),.v (.int .i64 r8)]],⟨[],[],[.live ⟨154,[.sl 151 [.num .i64,.num .i64],.num .i64,.num .i64,.num .i64,.num .i64],L,own,mark⟩]⟩=>some (phOk L&&(phNe L&&(wrB L r1 r2 r3 r4 r5 r6 r7 r8==0&&Nat.blt 0 L.length)),.ptr 0 0,⟨[[.row 1,.v (I r1),.v (I r2),.v (I r3),.v (I r4),.v (I r5),.v (I r6),.v (I r7),.v (I r8),.v (I 0),.ptr 1 0],[.v (I 1000000),.v (I 0)]],[true,true],[rH L own mark,rH L true false]⟩)
  | _,_=>none
theorem gPnw_ok:CtC 144 gPnw:=by
  intro xs m r m' h
  unfold gPnw at h
  split at h
  · rename_i r1 r2 r3 r4 r5 r6 r7 r8 L own mark
    obtain ⟨h1,rfl,rfl⟩:=some_t2 h
    refine runOk (Λ:=L0) Okp8 Tryz.func144 rfl l00 ?_
    refine (runPnw r1 r2 r3 r4 r5 r6 r7 r8 L own mark).trans ?_
    simp only [Bool.and_eq_true] at h1
    obtain ⟨h1,h2,h3,h4⟩:=h1
    rw [h1,h2,h3,h4]
    rfl
  · cases h
end Go.Proofs.YtagaiddomhpdmaaGreat.Ph
namespace Go.Proofs.YtagaiddomhpdmaaGreat.Pa
open Go Go.Proofs Go.Sx Nw
set_option linter.unusedVariables false
def epsP (e:Int):Int:=wI (2*clI e (-1) 2305843009213693952)
def cmpP (x y near:Bool):Int:=bif x then (bif y then (bif near then 3 else 4) else 1) else (bif y then 2 else 0)
def hgt (a b:Int) (x y:Bool):Int:=bif x then (bif y then (if b<a then b else a) else a) else (bif y then b else 0)
theorem runPCmp (a:Int) (b:Int) (c:Int) (d:Int) (e:Int) (f:Int) (g:Int) (q:Int) (a':Int) (b':Int) (c':Int) (d':Int) (e':Int) (f':Int) (g':Int) (q':Int) (x:Bool) (y:Bool) (w:Int):runG ΓNb L0 Tryz.prog Tryz.f111 [.v (.agg #[I a,I b,I c,I d,I e,I f,I g,I q]),.v (.agg #[I a',I b',I c',I d',I e',I f',I g',I q']),.v (Bo x),.v (Bo y),.v (I w)] M0 =
    (bif !x then (bif !y then some (.v (I 0),M0) else (bif !y then some (.v (I 1),M0) else (bif !x then some (.v (I 2),M0) else (bif nearB (wI ((2:Int)*clI w (-1:Int) (2305843009213693952:Int))) c c' d d' e e' f f' g g' q q' then some (.v (I 3),M0) else some (.v (I 4),M0))))) else (bif !y then some (.v (I 1),M0) else (bif !x then some (.v (I 2),M0) else (bif nearB (wI ((2:Int)*clI w (-1:Int) (2305843009213693952:Int))) c c' d d' e e' f f' g g' q q' then some (.v (I 3),M0) else some (.v (I 4),M0))))):=by kernel_rfl
def gPCmp (vs:List Value):Option (Bool×Value) :=
  match vs with
  | [.agg ⟨[.int .i64 a,.int .i64 b,.int .i64 c,.int .i64 d,.int .i64 e,.int .i64 f,.int .i64 g,.int .i64 q]⟩,.agg ⟨[.int .i64 a',.int .i64 b',.int .i64 c',.int .i64 d',.int .i64 e',.int .i64 f',.int .i64 g',.int .i64 q']⟩,.bool x,.bool y,.int .i64 w]=>some (true,I (cmpP x y (nearB (epsP w) c c' d d' e e' f f' g g' q q')))
  | _=>none
theorem gPCmp_ok:CtV 111 gPCmp:=by
  intro vs r h
  unfold gPCmp at h
  split at h
  · rename_i a b c d e f g q a' b' c' d' e' f' g' q' x y w
    obtain ⟨h1,rfl⟩:=some_t h
    refine runV (vs:=[.agg #[I a,I b,I c,I d,I e,I f,I g,I q],.agg #[I a',I b',I c',I d',I e',I f',I g',I q'],Bo x,Bo y,I w]) (Λ:=L0) (m':=M0) OkNb Tryz.func111 rfl l00 ?_
    exact (runPCmp a b c d e f g q a' b' c' d' e' f' g' q' x y w).trans (by rw [show wI (2*clI w (-1) 2305843009213693952)=epsP w from rfl];cases x<;>cases y<;>first|rfl|(cases nearB (epsP w) c c' d d' e e' f f' g g' q q'<;>rfl))
  · cases h
noncomputable def ΓJ1:Orc:=addVal 111 gPCmp ΓNb
theorem OkJ1:ΓJ1.Ok Tryz.prog:=addVal_ok OkNb gPCmp_ok
noncomputable def ΓJ2:Orc:=ΓJ1
theorem OkJ2:ΓJ2.Ok Tryz.prog:=OkJ1
theorem runPHgt (a:Int) (b:Int) (c:Int) (d:Int) (e:Int) (f:Int) (g:Int) (q:Int) (a':Int) (b':Int) (c':Int) (d':Int) (e':Int) (f':Int) (g':Int) (q':Int) (x:Bool) (y:Bool):runG ΓJ2 L0 Tryz.prog Tryz.f112 [.v (.agg #[I a,I b,I c,I d,I e,I f,I g,I q]),.v (.agg #[I a',I b',I c',I d',I e',I f',I g',I q']),.v (Bo x),.v (Bo y)] M0 =
    (bif x then (bif y then some (.v (.tuple #[(I (if e'<e then e' else e)),(Bo true)]),M0) else (bif x then some (.v (.tuple #[(I e),(Bo true)]),M0) else (bif y then some (.v (.tuple #[(I e'),(Bo true)]),M0) else some (.v (.tuple #[(I 0),(Bo false)]),M0)))) else (bif x then some (.v (.tuple #[(I e),(Bo true)]),M0) else (bif y then some (.v (.tuple #[(I e'),(Bo true)]),M0) else some (.v (.tuple #[(I 0),(Bo false)]),M0)))):=by kernel_rfl
def gPHgt (vs:List Value):Option (Bool×Value) :=
  match vs with
  | [.agg ⟨[.int .i64 a,.int .i64 b,.int .i64 c,.int .i64 d,.int .i64 e,.int .i64 f,.int .i64 g,.int .i64 q]⟩,.agg ⟨[.int .i64 a',.int .i64 b',.int .i64 c',.int .i64 d',.int .i64 e',.int .i64 f',.int .i64 g',.int .i64 q']⟩,.bool x,.bool y]=>some (true,Value.tuple #[I (hgt e e' x y),Bo (x||y)])
  | _=>none
theorem gPHgt_ok:CtV 112 gPHgt:=by
  intro vs r h
  unfold gPHgt at h
  split at h
  · rename_i a b c d e f g q a' b' c' d' e' f' g' q' x y
    obtain ⟨h1,rfl⟩:=some_t h
    refine runV (vs:=[.agg #[I a,I b,I c,I d,I e,I f,I g,I q],.agg #[I a',I b',I c',I d',I e',I f',I g',I q'],Bo x,Bo y]) (Λ:=L0) (m':=M0) OkJ2 Tryz.func112 rfl l00 ?_
    exact (runPHgt a b c d e f g q a' b' c' d' e' f' g' q' x y).trans (by cases x<;>cases y<;>rfl)
  · cases h
end Go.Proofs.YtagaiddomhpdmaaGreat.Pa
namespace Go.Proofs.YtagaiddomhpdmaaGreat.Im
open Go Go.Proofs Go.Sx
set_option linter.unusedVariables false
noncomputable def bdIm:Code:=loopAt (Tryz.f165.body.getD .skip) 0
theorem loopsIm:loopsOf (Tryz.f165.body.getD .skip)=[bdIm]:=by kernel_rfl
def kIm:List Bool:=maskOf 64 [2,3,6,11,42,43]
def xIm (e:Ex):List Bool:=match e with
  | .exit _=>maskOf 64 [6,11]
  | .ret=>maskOf 64 [6]
  | .normal=>maskOf 64 [2,3,6,11,42,43]
def KIm (e:Ex) (st:St):Option (Ex×St):=some (e,cutC 0 0 (xIm e) st)
def MIm (p q x y z vx vy vz a b c d:Int):Mem:=⟨[[.v (I p),.v (I q),.v (I x),.v (I y),.v (I z),.v (I vx),.v (I vy),.v (I vz)],[.v (I 0),.v (I 0),.v (I 0),.v (I 0)],[.v (I a),.v (I b),.v (I c),.v (I d)]],[true,true,true],[]⟩
theorem stepIm0 (p q x y z vx vy vz a b c d e lo hi:Int) (n:Nat):evLoop ΓBx Tryz.prog L0 (cutC 0 0 kIm) bdIm (n+1) (mk kIm [.v (I e),.ptr 0 0,.ptr 1 0,.ptr 2 0,.v (.agg #[I lo,I hi]),.v (I 0)] (MIm p q x y z vx vy vz a b c d)) KIm =
    (bif rcG x y vx vy (wI ((0:Int) - e)) lo then (bif ofG (x+(vx+wI ((0:Int) - e))*lo) (y+(vy+wI ((0:Int) - e))*lo) e then (bif boR a b c d&&boR (x+(vx+wI ((0:Int) - e))*lo - e) (y+(vy+wI ((0:Int) - e))*lo - e) (x+(vx+wI ((0:Int) - e))*lo+e) (y+(vy+wI ((0:Int) - e))*lo+e) then (bif rcG x y vx vy e lo then (bif ofG (x+(vx+e)*lo) (y+(vy+e)*lo) e then (bif boR (mn a (x+(vx+wI ((0:Int) - e))*lo - e)) (mn b (y+(vy+wI ((0:Int) - e))*lo - e)) (mx c (x+(vx+wI ((0:Int) - e))*lo+e)) (mx d (y+(vy+wI ((0:Int) - e))*lo+e))&&boR (x+(vx+e)*lo - e) (y+(vy+e)*lo - e) (x+(vx+e)*lo+e) (y+(vy+e)*lo+e) then evLoop ΓBx Tryz.prog L0 (cutC 0 0 kIm) bdIm n (mk kIm [.v (I e),.ptr 0 0,.ptr 1 0,.ptr 2 0,.v (.agg #[(I lo),(I hi)]),.v (I 1)] ⟨[[.v (I p),.v (I q),.v (I x),.v (I y),.v (I z),.v (I vx),.v (I vy),.v (I vz)],[.v (I 0),.v (I 0),.v (I 0),.v (I 0)],[.v (I (mn (mn a (x+(vx+wI ((0:Int) - e))*lo - e)) (x+(vx+e)*lo - e))),.v (I (mn (mn b (y+(vy+wI ((0:Int) - e))*lo - e)) (y+(vy+e)*lo - e))),.v (I (mx (mx c (x+(vx+wI ((0:Int) - e))*lo+e)) (x+(vx+e)*lo+e))),.v (I (mx (mx d (y+(vy+wI ((0:Int) - e))*lo+e)) (y+(vy+e)*lo+e)))]],[true,true,true],[]⟩) KIm else none) else none) else none) else none) else none) else none):=by kernel_rfl
theorem stepIm1 (p q x y z vx vy vz a b c d e lo hi:Int) (n:Nat):evLoop ΓBx Tryz.prog L0 (cutC 0 0 kIm) bdIm (n+1) (mk kIm [.v (I e),.ptr 0 0,.ptr 1 0,.ptr 2 0,.v (.agg #[I lo,I hi]),.v (I 1)] (MIm p q x y z vx vy vz a b c d)) KIm =
    (bif rcG x y vx vy (wI ((0:Int) - e)) hi then (bif ofG (x+(vx+wI ((0:Int) - e))*hi) (y+(vy+wI ((0:Int) - e))*hi) e then (bif boR a b c d&&boR (x+(vx+wI ((0:Int) - e))*hi - e) (y+(vy+wI ((0:Int) - e))*hi - e) (x+(vx+wI ((0:Int) - e))*hi+e) (y+(vy+wI ((0:Int) - e))*hi+e) then (bif rcG x y vx vy e hi then (bif ofG (x+(vx+e)*hi) (y+(vy+e)*hi) e then (bif boR (mn a (x+(vx+wI ((0:Int) - e))*hi - e)) (mn b (y+(vy+wI ((0:Int) - e))*hi - e)) (mx c (x+(vx+wI ((0:Int) - e))*hi+e)) (mx d (y+(vy+wI ((0:Int) - e))*hi+e))&&boR (x+(vx+e)*hi - e) (y+(vy+e)*hi - e) (x+(vx+e)*hi+e) (y+(vy+e)*hi+e) then evLoop ΓBx Tryz.prog L0 (cutC 0 0 kIm) bdIm n (mk kIm [.v (I e),.ptr 0 0,.ptr 1 0,.ptr 2 0,.v (.agg #[(I lo),(I hi)]),.v (I 2)] ⟨[[.v (I p),.v (I q),.v (I x),.v (I y),.v (I z),.v (I vx),.v (I vy),.v (I vz)],[.v (I 0),.v (I 0),.v (I 0),.v (I 0)],[.v (I (mn (mn a (x+(vx+wI ((0:Int) - e))*hi - e)) (x+(vx+e)*hi - e))),.v (I (mn (mn b (y+(vy+wI ((0:Int) - e))*hi - e)) (y+(vy+e)*hi - e))),.v (I (mx (mx c (x+(vx+wI ((0:Int) - e))*hi+e)) (x+(vx+e)*hi+e))),.v (I (mx (mx d (y+(vy+wI ((0:Int) - e))*hi+e)) (y+(vy+e)*hi+e)))]],[true,true,true],[]⟩) KIm else none) else none) else none) else none) else none) else none):=by kernel_rfl
theorem stepIm2 (p q x y z vx vy vz a b c d e lo hi:Int) (n:Nat):evLoop ΓBx Tryz.prog L0 (cutC 0 0 kIm) bdIm (n+1) (mk kIm [.v (I e),.ptr 0 0,.ptr 1 0,.ptr 2 0,.v (.agg #[I lo,I hi]),.v (I 2)] (MIm p q x y z vx vy vz a b c d)) KIm =
    some ((.exit 0),mk (xIm (.exit 0)) [.ptr 0 0,.ptr 1 0] ⟨[[.v (I 0),.v (I 0),.v (I 0),.v (I 0)],[.v (I a),.v (I b),.v (I c),.v (I d)]],[true,true],[]⟩):=by kernel_rfl
theorem inP {x v f t:Int} (h1:-2147483648≤x∧x≤2147483648) (h2:-131072≤v∧v≤131072) (h3:-2048≤f∧f≤2048) (h4:0≤t∧t≤2097154):-300000000000≤x+(v+f)*t∧x+(v+f)*t≤300000000000:=by
  have p:=mulB (a:=v+f) (b:=t) (A:=133120) (B:=2097154) (by omega) (by omega) (by omega) (by omega)
  omega
def Bd (a b c d:Int):Prop:=a≤c∧b≤d∧(-310000000000≤a∧c≤310000000000)∧-310000000000≤b∧d≤310000000000
def bdB (a b c d:Int):Bool:=decide (a≤c∧b≤d∧(-310000000000≤a∧c≤310000000000)∧-310000000000≤b∧d≤310000000000)
theorem bdB_iff {a b c d:Int}:bdB a b c d=true↔Bd a b c d:=decide_eq_true_iff
theorem Bd.bo {a b c d:Int} (h:Bd a b c d):boR a b c d=true:=by
  obtain ⟨h1,h2,h3,h4⟩:=h
  exact boR_iff.2 ⟨plR_iff.2 (by omega),plR_iff.2 (by omega),h1,h2⟩
theorem Bd.of {x y e:Int} (he:0≤e∧e≤2048) (hx:-300000000000≤x∧x≤300000000000) (hy:-300000000000≤y∧y≤300000000000):Bd (x - e) (y - e) (x+e) (y+e):=⟨by omega,by omega,by omega,by omega⟩
theorem Bd.join {a b c d a' b' c' d':Int} (h:Bd a b c d) (h':Bd a' b' c' d'):Bd (mn a a') (mn b b') (mx c c') (mx d d'):=by
  obtain ⟨h1,h2,h3,h4⟩:=h
  obtain ⟨k1,k2,k3,k4⟩:=h'
  have m1:=mn_le a a'
  have m2:=mn_le b b'
  have m3:=le_mx c c'
  have m4:=le_mx d d'
  exact ⟨by omega,by omega,by omega,by omega⟩
theorem ofG_of {x y e:Int} (he:0≤e∧e≤2048) (hx:-300000000000≤x∧x≤300000000000) (hy:-300000000000≤y∧y≤300000000000):ofG x y e=true:=ofG_iff.2 ⟨by omega,by omega,by omega⟩
theorem rcG_of {x y vx vy f t:Int} (h:nvR x y vx vy=true) (h3:-2048≤f∧f≤2048) (h4:0≤t∧t≤2097154):rcG x y vx vy f t=true:=by
  have:=nvR_iff.1 h
  exact rcG_iff.2 ⟨by omega,by omega,by omega,by omega,by omega,by omega⟩
def jL (a x v e t:Int):Int:=mn (mn a (x+(v+-e)*t - e)) (x+(v+e)*t - e)
def jH (a x v e t:Int):Int:=mx (mx a (x+(v+-e)*t+e)) (x+(v+e)*t+e)
theorem jBd {a b c d x y vx vy e t:Int} (h:Bd a b c d) (hn:nvR x y vx vy=true) (he:0≤e∧e≤2048) (ht:0≤t∧t≤2097154):Bd (jL a x vx e t) (jL b y vy e t) (jH c x vx e t) (jH d y vy e t):=by
  have n:=nvR_iff.1 hn
  refine (h.join (Bd.of he (inP n.1 n.2.2.1 (f:=-e) ?_ ht) (inP n.2.1 n.2.2.2 (f:=-e) ?_ ht))).join (Bd.of he (inP n.1 n.2.2.1 (f:=e) ?_ ht) (inP n.2.1 n.2.2.2 (f:=e) ?_ ht))<;>omega
theorem rndIm0 (p q x y z vx vy vz a b c d e lo hi:Int) (n:Nat) (h:Bd a b c d) (hn:nvR x y vx vy=true) (he:0≤e∧e≤2048) (ht:0≤lo∧lo≤2097154) :
    evLoop ΓBx Tryz.prog L0 (cutC 0 0 kIm) bdIm (n+1) (mk kIm [.v (I e),.ptr 0 0,.ptr 1 0,.ptr 2 0,.v (.agg #[I lo,I hi]),.v (I 0)] (MIm p q x y z vx vy vz a b c d)) KIm =
    evLoop ΓBx Tryz.prog L0 (cutC 0 0 kIm) bdIm n (mk kIm [.v (I e),.ptr 0 0,.ptr 1 0,.ptr 2 0,.v (.agg #[I lo,I hi]),.v (I 1)] (MIm p q x y z vx vy vz (jL a x vx e lo) (jL b y vy e lo) (jH c x vx e lo) (jH d y vy e lo))) KIm:=by
  refine (stepIm0 p q x y z vx vy vz a b c d e lo hi n).trans ?_
  have nn:=nvR_iff.1 hn
  have q1:=inP nn.1 nn.2.2.1 (f:=-e) (t:=lo) (by omega) ht
  have q2:=inP nn.2.1 nn.2.2.2 (f:=-e) (t:=lo) (by omega) ht
  have q3:=inP nn.1 nn.2.2.1 (f:=e) (t:=lo) (by omega) ht
  have q4:=inP nn.2.1 nn.2.2.2 (f:=e) (t:=lo) (by omega) ht
  have b1:=Bd.of he q1 q2
  have b2:=Bd.of he q3 q4
  rw [show wI (0 - e)=-e by rw [wI_id (by omega)];omega,rcG_of hn (by omega) ht,rcG_of hn (by omega) ht,ofG_of he q1 q2,ofG_of he q3 q4,h.bo,b1.bo,(h.join b1).bo,b2.bo]
  rfl
theorem rndIm1 (p q x y z vx vy vz a b c d e lo hi:Int) (n:Nat) (h:Bd a b c d) (hn:nvR x y vx vy=true) (he:0≤e∧e≤2048) (ht:0≤hi∧hi≤2097154) :
    evLoop ΓBx Tryz.prog L0 (cutC 0 0 kIm) bdIm (n+1) (mk kIm [.v (I e),.ptr 0 0,.ptr 1 0,.ptr 2 0,.v (.agg #[I lo,I hi]),.v (I 1)] (MIm p q x y z vx vy vz a b c d)) KIm =
    evLoop ΓBx Tryz.prog L0 (cutC 0 0 kIm) bdIm n (mk kIm [.v (I e),.ptr 0 0,.ptr 1 0,.ptr 2 0,.v (.agg #[I lo,I hi]),.v (I 2)] (MIm p q x y z vx vy vz (jL a x vx e hi) (jL b y vy e hi) (jH c x vx e hi) (jH d y vy e hi))) KIm:=by
  refine (stepIm1 p q x y z vx vy vz a b c d e lo hi n).trans ?_
  have nn:=nvR_iff.1 hn
  have q1:=inP nn.1 nn.2.2.1 (f:=-e) (t:=hi) (by omega) ht
  have q2:=inP nn.2.1 nn.2.2.2 (f:=-e) (t:=hi) (by omega) ht
  have q3:=inP nn.1 nn.2.2.1 (f:=e) (t:=hi) (by omega) ht
  have q4:=inP nn.2.1 nn.2.2.2 (f:=e) (t:=hi) (by omega) ht
  have b1:=Bd.of he q1 q2
  have b2:=Bd.of he q3 q4
  rw [show wI (0 - e)=-e by rw [wI_id (by omega)];omega,rcG_of hn (by omega) ht,rcG_of hn (by omega) ht,ofG_of he q1 q2,ofG_of he q3 q4,h.bo,b1.bo,(h.join b1).bo,b2.bo]
  rfl
def XIm (a b c d:Int):St:=mk (xIm (.exit 0)) [.ptr 0 0,.ptr 1 0] ⟨[[.v (I 0),.v (I 0),.v (I 0),.v (I 0)],[.v (I a),.v (I b),.v (I c),.v (I d)]],[true,true],[]⟩
def GIm (vals:List SV) (m:Mem):Option (Bool×Ex×St) :=
  match vals,m with
  | [.v (.int .i64 e),.ptr 0 0,.ptr 1 0,.ptr 2 0,.v (.agg ⟨[.int .i64 lo,.int .i64 hi]⟩),.v (.int .i64 0)],⟨[[.v (.int .i64 p),.v (.int .i64 q),.v (.int .i64 x),.v (.int .i64 y),.v (.int .i64 z),.v (.int .i64 vx),.v (.int .i64 vy),.v (.int .i64 vz)],[.v (.int .i64 0),.v (.int .i64 0),.v (.int .i64 0),.v (.int .i64 0)],[.v (.int .i64 a),.v (.int .i64 b),.v (.int .i64 c),.v (.int .i64 d)]],[true,true,true],[]⟩ =>
    some (bdB a b c d&&(nvR x y vx vy&&(decide (0≤e∧e≤2048)&&(decide (0≤lo∧lo≤2097154)&&decide (0≤hi∧hi≤2097154)))),.exit 0,XIm (jL (jL a x vx e lo) x vx e hi) (jL (jL b y vy e lo) y vy e hi) (jH (jH c x vx e lo) x vx e hi) (jH (jH d y vy e lo) y vy e hi))
  | _,_=>none
noncomputable def ΛIm:LoopOrc:=fun _ st=>viaC 0 0 kIm GIm st
theorem loopOkIm (z:Base) (z1:z.L.length=0) (z2:z.U.length=0):LoopOk ΛIm Tryz.prog z bdIm:=by
  refine loop_okC (Λ:=L0) (kx:=xIm) OkBx mixed z1 z2 (fun b hb st t h=>by cases h) (G:=GIm) (fun _=>rfl) ?_
  intro vals m e st' h
  unfold GIm at h
  split at h
  · rename_i e lo hi p q x y z vx vy vz a b c d
    obtain ⟨h1,rfl,rfl⟩:=some_t2 h
    simp only [Bool.and_eq_true,decide_eq_true_eq] at h1
    obtain ⟨hb,hn,he,hlo,hhi⟩:=h1
    have hB:=bdB_iff.1 hb
    exact ⟨3,((rndIm0 p q x y z vx vy vz a b c d e lo hi 2 hB hn he hlo).trans (rndIm1 p q x y z vx vy vz _ _ _ _ e lo hi 1 (jBd hB hn he hlo) hn he hhi)).trans (stepIm2 p q x y z vx vy vz _ _ _ _ e lo hi 0)⟩
  · cases h
theorem runIBox (p q x y z vx vy vz g e:Int):runG ΓBx ΛIm Tryz.prog Tryz.f165 [.v (.agg #[I p,I q,I x,I y,I z,I vx,I vy,I vz]),.v (I g),.v (I e)] M0 =
    (bif !(frR z vz g&&decide ((0:Int)≤e∧e≤(2048:Int))) then some (.v (.tuple #[(.agg #[(I 0),(I 0),(I 0),(I 0)]),(Bo false)]),M0) else (bif !nvR x y vx vy then some (.v (.tuple #[(.agg #[(I 0),(I 0),(I 0),(I 0)]),(Bo false)]),M0) else (bif rcG x y vx vy (0:Int) (bif frR z vz g&&decide ((0:Int)≤e∧e≤(2048:Int)) then tmF (z - e) (vz - e) g else (0:Int)) then (bif ofG (x+(vx+(0:Int))*bif frR z vz g&&decide ((0:Int)≤e∧e≤(2048:Int)) then tmF (z - e) (vz - e) g else (0:Int)) (y+(vy+(0:Int))*bif frR z vz g&&decide ((0:Int)≤e∧e≤(2048:Int)) then tmF (z - e) (vz - e) g else (0:Int)) e then (bif bdB ((x+(vx+(0:Int))*bif frR z vz g&&decide ((0:Int)≤e∧e≤(2048:Int)) then tmF (z - e) (vz - e) g else (0:Int)) - e) ((y+(vy+(0:Int))*bif frR z vz g&&decide ((0:Int)≤e∧e≤(2048:Int)) then tmF (z - e) (vz - e) g else (0:Int)) - e) ((x+(vx+(0:Int))*bif frR z vz g&&decide ((0:Int)≤e∧e≤(2048:Int)) then tmF (z - e) (vz - e) g else (0:Int))+e) ((y+(vy+(0:Int))*bif frR z vz g&&decide ((0:Int)≤e∧e≤(2048:Int)) then tmF (z - e) (vz - e) g else (0:Int))+e)&&(nvR x y vx vy&&(decide ((0:Int)≤e∧e≤(2048:Int))&&(decide (((0:Int)≤bif frR z vz g&&decide ((0:Int)≤e∧e≤(2048:Int)) then tmF (z - e) (vz - e) g else (0:Int))∧(bif frR z vz g&&decide ((0:Int)≤e∧e≤(2048:Int)) then tmF (z - e) (vz - e) g else (0:Int))≤(2097154:Int))&&decide (((0:Int)≤bif frR z vz g&&decide ((0:Int)≤e∧e≤(2048:Int)) then tmF (z+e) (vz+e) g+(2:Int) else (0:Int))∧(bif frR z vz g&&decide ((0:Int)≤e∧e≤(2048:Int)) then tmF (z+e) (vz+e) g+(2:Int) else (0:Int))≤(2097154:Int))))) then some (.v (.tuple #[(.agg #[(I (jL (jL ((x+(vx+(0:Int))*bif frR z vz g&&decide ((0:Int)≤e∧e≤(2048:Int)) then tmF (z - e) (vz - e) g else (0:Int)) - e) x vx e (bif frR z vz g&&decide ((0:Int)≤e∧e≤(2048:Int)) then tmF (z - e) (vz - e) g else (0:Int))) x vx e (bif frR z vz g&&decide ((0:Int)≤e∧e≤(2048:Int)) then tmF (z+e) (vz+e) g+(2:Int) else (0:Int)))),(I (jL (jL ((y+(vy+(0:Int))*bif frR z vz g&&decide ((0:Int)≤e∧e≤(2048:Int)) then tmF (z - e) (vz - e) g else (0:Int)) - e) y vy e (bif frR z vz g&&decide ((0:Int)≤e∧e≤(2048:Int)) then tmF (z - e) (vz - e) g else (0:Int))) y vy e (bif frR z vz g&&decide ((0:Int)≤e∧e≤(2048:Int)) then tmF (z+e) (vz+e) g+(2:Int) else (0:Int)))),(I (jH (jH ((x+(vx+(0:Int))*bif frR z vz g&&decide ((0:Int)≤e∧e≤(2048:Int)) then tmF (z - e) (vz - e) g else (0:Int))+e) x vx e (bif frR z vz g&&decide ((0:Int)≤e∧e≤(2048:Int)) then tmF (z - e) (vz - e) g else (0:Int))) x vx e (bif frR z vz g&&decide ((0:Int)≤e∧e≤(2048:Int)) then tmF (z+e) (vz+e) g+(2:Int) else (0:Int)))),(I (jH (jH ((y+(vy+(0:Int))*bif frR z vz g&&decide ((0:Int)≤e∧e≤(2048:Int)) then tmF (z - e) (vz - e) g else (0:Int))+e) y vy e (bif frR z vz g&&decide ((0:Int)≤e∧e≤(2048:Int)) then tmF (z - e) (vz - e) g else (0:Int))) y vy e (bif frR z vz g&&decide ((0:Int)≤e∧e≤(2048:Int)) then tmF (z+e) (vz+e) g+(2:Int) else (0:Int))))]),(Bo true)]),M0) else none) else none) else none))):=by kernel_rfl
end Go.Proofs.YtagaiddomhpdmaaGreat.Im
namespace Go.Proofs.YtagaiddomhpdmaaGreat.Im
open Go Go.Proofs Go.Sx
set_option linter.unusedVariables false
end Go.Proofs.YtagaiddomhpdmaaGreat.Im
namespace Go.Proofs.YtagaiddomhpdmaaGreat.Im
open Go Go.Proofs Go.Sx
set_option linter.unusedVariables false
def loT (z vz g e:Int):Int:=tmF (z - e) (vz - e) g
def hiT (z vz g e:Int):Int:=tmF (z+e) (vz+e) g+2
def imR (x y z vx vy vz g e:Int):Bool:=(frR z vz g&&decide (0≤e∧e≤2048))&&nvR x y vx vy
def boL (x v e a b:Int):Int:=x - e+mn4 v e a b
def boH (x v e a b:Int):Int:=x+e+mx4 v e a b
theorem imR_iff {x y z vx vy vz g e:Int}:imR x y z vx vy vz g e=true↔(frR z vz g=true∧0≤e∧e≤2048)∧nvR x y vx vy=true:=by
  unfold imR
  simp only [Bool.and_eq_true,decide_eq_true_eq]
theorem times {z vz g e:Int} (h:frR z vz g=true) (he:0≤e∧e≤2048):(0≤loT z vz g e∧loT z vz g e≤2097154)∧(0≤hiT z vz g e∧hiT z vz g e≤2097154)∧loT z vz g e+2≤hiT z vz g e:=by
  have k1:frX (z - e) (vz - e) g=true:=by rw [Int.sub_eq_add_neg,Int.sub_eq_add_neg];exact frX_e h (by omega) (by omega) (by omega) (by omega)
  have k2:frX (z+e) (vz+e) g=true:=frX_e h (by omega) (by omega) (by omega) (by omega)
  have a1:=tm_nonneg k1
  have a2:=tm_le k1
  have a3:=tm_nonneg k2
  have a4:=tm_le k2
  have a5:=tm_mono k1 k2 (by omega) (by omega)
  unfold loT hiT
  omega
theorem jj (x v:Int) {e a b:Int} (he:0≤e) (hab:a≤b):jL (jL (x+(v+0)*a - e) x v e a) x v e b=boL x v e a b∧jH (jH (x+(v+0)*a+e) x v e a) x v e b=boH x v e a b:=by
  have:=jn_eq x v he hab
  unfold jL jH boL boH
  rw [Int.add_zero]
  exact this
def iLX (x y z vx vy vz g e:Int):Int:=bif imR x y z vx vy vz g e then boL x vx e (loT z vz g e) (hiT z vz g e) else 0
def iLY (x y z vx vy vz g e:Int):Int:=bif imR x y z vx vy vz g e then boL y vy e (loT z vz g e) (hiT z vz g e) else 0
def iHX (x y z vx vy vz g e:Int):Int:=bif imR x y z vx vy vz g e then boH x vx e (loT z vz g e) (hiT z vz g e) else 0
def iHY (x y z vx vy vz g e:Int):Int:=bif imR x y z vx vy vz g e then boH y vy e (loT z vz g e) (hiT z vz g e) else 0
def gIBox (vs:List Value):Option (Bool×Value) :=
  match vs with
  | [.agg ⟨[.int .i64 p,.int .i64 q,.int .i64 x,.int .i64 y,.int .i64 z,.int .i64 vx,.int .i64 vy,.int .i64 vz]⟩,.int .i64 g,.int .i64 e]=>some (true,.tuple #[.agg #[I (iLX x y z vx vy vz g e),I (iLY x y z vx vy vz g e),I (iHX x y z vx vy vz g e),I (iHY x y z vx vy vz g e)],Bo (imR x y z vx vy vz g e)])
  | _=>none
theorem gIBox_ok:CtV 165 gIBox:=by
  intro vs r h
  unfold gIBox at h
  split at h
  · rename_i p q x y z vx vy vz g e
    obtain ⟨_,rfl⟩:=some_t h
    refine runV (vs:=[.agg #[I p,I q,I x,I y,I z,I vx,I vy,I vz],I g,I e]) (Λ:=ΛIm) (m':=M0) OkBx Tryz.func165 rfl (fun z z1 z2=>oneLoop (c:=Tryz.f165.body.getD .skip) loopsIm (loopOkIm z z1 z2)) ?_
    refine (runIBox p q x y z vx vy vz g e).trans ?_
    unfold iLX iLY iHX iHY imR
    cases h1:frR z vz g&&decide (0≤e∧e≤2048)
    · rfl
    · cases h2:nvR x y vx vy
      · rfl
      · have h1':=h1
        simp only [Bool.and_eq_true,decide_eq_true_eq] at h1'
        obtain ⟨t1,t2,t3⟩:=times h1'.1 h1'.2
        have nn:=nvR_iff.1 h2
        have q1:=inP nn.1 nn.2.2.1 (f:=0) (t:=loT z vz g e) (by omega) t1
        have q2:=inP nn.2.1 nn.2.2.2 (f:=0) (t:=loT z vz g e) (by omega) t1
        obtain ⟨j1,j2⟩:=jj x vx h1'.2.1 (a:=loT z vz g e) (b:=hiT z vz g e) (by omega)
        obtain ⟨j3,j4⟩:=jj y vy h1'.2.1 (a:=loT z vz g e) (b:=hiT z vz g e) (by omega)
        simp only [Bool.not_true,cond_true,cond_false,Bool.and_self]
        rw [show tmF (z - e) (vz - e) g=loT z vz g e from rfl,show tmF (z+e) (vz+e) g+2=hiT z vz g e from rfl,rcG_of h2 (by omega) t1,ofG_of h1'.2 q1 q2,bdB_iff.2 (Bd.of h1'.2 q1 q2),decide_eq_true h1'.2,decide_eq_true t1,decide_eq_true t2,j1,j2,j3,j4]
        rfl
  · cases h
end Go.Proofs.YtagaiddomhpdmaaGreat.Im
namespace Go.Proofs.YtagaiddomhpdmaaGreat.Im
open Go Go.Proofs Go.Sx
set_option linter.unusedVariables false
end Go.Proofs.YtagaiddomhpdmaaGreat.Im
namespace Go.Proofs.YtagaiddomhpdmaaGreat.Im
open Go Go.Proofs Go.Sx
set_option linter.unusedVariables false
noncomputable def Γe0:Orc:=addVal 165 gIBox ΓA13
theorem Oke0:Γe0.Ok Tryz.prog:=addVal_ok OkA13 gIBox_ok
def abI (v:Int):Int:=bif decide (v<0) then -v else v
theorem abI_is (v:Int):(0≤v∧abI v=v)∨(v<0∧abI v=-v):=by
  unfold abI
  by_cases h:v<0
  · rw [decide_eq_true h];exact .inr ⟨h,rfl⟩
  · rw [decide_eq_false h];exact .inl ⟨by omega,rfl⟩
def mdB (a:Int):Bool:=decide (-2199023255552≤a∧a≤2199023255552)
def m2 (a b:Int):Int:=if abI b>abI a then abI b else abI a
def m3 (a b c:Int):Int:=if abI c>m2 a b then abI c else m2 a b
theorem m3_is (a b c:Int):abI a≤m3 a b c∧abI b≤m3 a b c∧abI c≤m3 a b c∧(m3 a b c=abI a∨m3 a b c=abI b∨m3 a b c=abI c):=by
  unfold m3 m2
  split<;>split at *<;>(try split at *)<;>omega
def spI (f m e:Int):Int:=bif decide (f>m+e) then -1 else bif decide (f≤m - e) then 1 else 0
theorem runVsz (v:Int):runG Γe0 L0 Tryz.prog Tryz.f220 [.v (I v)] M0 =
    (bif decide (v<(0:Int)) then some (.v (.int .u64 (IntKind.u64.wrap ((0:Int) - IntKind.u64.wrap v))),M0) else some (.v (.int .u64 (IntKind.u64.wrap v)),M0)):=by kernel_rfl
def gVsz (vs:List Value):Option (Bool×Value) :=
  match vs with
  | [.int .i64 v]=>some (mdB v,.int .u64 (abI v))
  | _=>none
theorem gVsz_ok:CtV 220 gVsz:=by
  intro vs r h
  unfold gVsz at h
  split at h
  · rename_i v
    obtain ⟨h1,rfl⟩:=some_t h
    refine runV (vs:=[I v]) (Λ:=L0) (m':=M0) Oke0 Tryz.func220 rfl l00 ?_
    exact (runVsz v).trans (by
      have h:-2199023255552≤v∧v≤2199023255552:=of_decide_eq_true h1
      unfold abI
      by_cases hv:v<0
      · rw [decide_eq_true hv,wrU,wrU,show ((0:Int) - v % 18446744073709551616) % 18446744073709551616=-v by omega]
        rfl
      · rw [decide_eq_false hv,wrU_id (n:=v) (by omega)]
        rfl)
  · cases h
noncomputable def Γe1:Orc:=addVal 220 gVsz Γe0
theorem Oke1:Γe1.Ok Tryz.prog:=addVal_ok Oke0 gVsz_ok
theorem runVas (n:Int) (a:Int) (b:Int):runG Γe1 L0 Tryz.prog Tryz.f221 [.v (.int .u64 n),.v (I a),.v (I b)] M0 =
    (bif inI a&&inI b then (bif decide (smI (a+b)<(0:Int)) then some (.v (Bo true),M0) else (bif !inI (a+b) then (bif decide (a<(0:Int)) then some (.v (Bo true),M0) else some (.v (Bo (decide (n>IntKind.u64.wrap (IntKind.u64.wrap a+IntKind.u64.wrap b)))),M0)) else some (.v (Bo (decide (n>IntKind.u64.wrap (IntKind.u64.wrap a+IntKind.u64.wrap b)))),M0))) else none):=by kernel_rfl
def gVas (vs:List Value):Option (Bool×Value) :=
  match vs with
  | [.int .u64 n,.int .i64 a,.int .i64 b]=>some (decide (0≤n∧n≤4398046511104)&&(decide (0≤a∧a≤2199023255552)&&decide (0≤b∧b≤2199023255552)),Bo (decide (n>a+b)))
  | _=>none
theorem gVas_ok:CtV 221 gVas:=by
  intro vs r h
  unfold gVas at h
  split at h
  · rename_i n a b
    obtain ⟨h1,rfl⟩:=some_t h
    refine runV (vs:=[.int .u64 n,I a,I b]) (Λ:=L0) (m':=M0) Oke1 Tryz.func221 rfl l00 ?_
    exact (runVas n a b).trans (by
      simp only [Bool.and_eq_true,decide_eq_true_eq] at h1
      obtain ⟨h1,h2,h3⟩:=h1
      have i:=inI_iff.2 (show -9223372036854775808≤a+b∧a+b<9223372036854775808 by omega)
      rw [inI_iff.2 (show -9223372036854775808≤a∧a<9223372036854775808 by omega),inI_iff.2 (show -9223372036854775808≤b∧b<9223372036854775808 by omega),i,show smI (a+b)=a+b by unfold smI;rw [i];rfl,decide_eq_false (show ¬ a+b<0 by omega),wrU_id (n:=a) (by omega),wrU_id (n:=b) (by omega),wrU_id (n:=a+b) (by omega)]
      rfl)
  · cases h
noncomputable def Γe2:Orc:=addVal 221 gVas Γe1
theorem Oke2:Γe2.Ok Tryz.prog:=addVal_ok Oke1 gVas_ok
theorem runVud (n:Int) (a:Int) (b:Int):runG Γe2 L0 Tryz.prog Tryz.f222 [.v (.int .u64 n),.v (I a),.v (I b)] M0 =
    (bif decide (a≥b) then some (.v (Bo (decide (n≤IntKind.u64.wrap (IntKind.u64.wrap a - IntKind.u64.wrap b)))),M0) else some (.v (Bo false),M0)):=by kernel_rfl
def gVud (vs:List Value):Option (Bool×Value) :=
  match vs with
  | [.int .u64 n,.int .i64 a,.int .i64 b]=>some (decide (0≤n∧n≤4398046511104)&&(decide (0≤a∧a≤2199023255552)&&decide (0≤b∧b≤2199023255552)),Bo (decide (n≤a - b)))
  | _=>none
theorem gVud_ok:CtV 222 gVud:=by
  intro vs r h
  unfold gVud at h
  split at h
  · rename_i n a b
    obtain ⟨h1,rfl⟩:=some_t h
    refine runV (vs:=[.int .u64 n,I a,I b]) (Λ:=L0) (m':=M0) Oke2 Tryz.func222 rfl l00 ?_
    exact (runVud n a b).trans (by
      simp only [Bool.and_eq_true,decide_eq_true_eq] at h1
      obtain ⟨h1,h2,h3⟩:=h1
      by_cases h:a≥b
      · rw [decide_eq_true h,wrU_id (n:=a) (by omega),wrU_id (n:=b) (by omega),wrU_id (n:=a - b) (by omega)]
        rfl
      · rw [decide_eq_false h,decide_eq_false (show ¬ n≤a - b by omega)]
        rfl)
  · cases h
noncomputable def Γe3:Orc:=addVal 222 gVud Γe2
theorem Oke3:Γe3.Ok Tryz.prog:=addVal_ok Oke2 gVud_ok
theorem runVsp (p:Int) (q:Int) (x:Int) (y:Int) (z:Int) (vx:Int) (vy:Int) (vz:Int) (mo:Int) (e:Int):runG Γe3 L0 Tryz.prog Tryz.f166 [.v (.agg #[I p,I q,I x,I y,I z,I vx,I vy,I vz]),.v (I mo),.v (I e)] M0 =
    (bif mdB vx then (bif mdB vy then (bif mdB vz then (bif decide (((0:Int)≤if abI vz>if abI vy>abI vx then abI vy else abI vx then abI vz else if abI vy>abI vx then abI vy else abI vx)∧(if abI vz>if abI vy>abI vx then abI vy else abI vx then abI vz else if abI vy>abI vx then abI vy else abI vx)≤(4398046511104:Int))&&(decide ((0:Int)≤mo∧mo≤(2199023255552:Int))&&decide ((0:Int)≤e∧e≤(2199023255552:Int))) then (bif decide ((if abI vz>if abI vy>abI vx then abI vy else abI vx then abI vz else if abI vy>abI vx then abI vy else abI vx)>mo+e) then some (.v (I (-1)),M0) else (bif decide (((0:Int)≤if abI vz>if abI vy>abI vx then abI vy else abI vx then abI vz else if abI vy>abI vx then abI vy else abI vx)∧(if abI vz>if abI vy>abI vx then abI vy else abI vx then abI vz else if abI vy>abI vx then abI vy else abI vx)≤(4398046511104:Int))&&(decide ((0:Int)≤mo∧mo≤(2199023255552:Int))&&decide ((0:Int)≤e∧e≤(2199023255552:Int))) then (bif decide ((if abI vz>if abI vy>abI vx then abI vy else abI vx then abI vz else if abI vy>abI vx then abI vy else abI vx)≤mo - e) then some (.v (I 1),M0) else some (.v (I 0),M0)) else none)) else none) else none) else none) else none):=by kernel_rfl
def gVsp (vs:List Value):Option (Bool×Value) :=
  match vs with
  | [.agg ⟨[.int .i64 p,.int .i64 q,.int .i64 x,.int .i64 y,.int .i64 z,.int .i64 vx,.int .i64 vy,.int .i64 vz]⟩,.int .i64 mo,.int .i64 e]=>some (mdB vx&&(mdB vy&&(mdB vz&&(decide (0≤mo∧mo≤2199023255552)&&decide (0≤e∧e≤2199023255552)))),I (spI (m3 vx vy vz) mo e))
  | _=>none
theorem gVsp_ok:CtV 166 gVsp:=by
  intro vs r h
  unfold gVsp at h
  split at h
  · rename_i p q x y z vx vy vz mo e
    obtain ⟨h1,rfl⟩:=some_t h
    refine runV (vs:=[.agg #[I p,I q,I x,I y,I z,I vx,I vy,I vz],I mo,I e]) (Λ:=L0) (m':=M0) Oke3 Tryz.func166 rfl l00 ?_
    exact (runVsp p q x y z vx vy vz mo e).trans (by
      simp only [Bool.and_eq_true] at h1
      obtain ⟨h1,h2,h3,h4,h5⟩:=h1
      rw [h1,h2,h3]
      have b1:-2199023255552≤vx∧vx≤2199023255552:=of_decide_eq_true h1
      have b2:-2199023255552≤vy∧vy≤2199023255552:=of_decide_eq_true h2
      have b3:-2199023255552≤vz∧vz≤2199023255552:=of_decide_eq_true h3
      have a1:=abI_is vx
      have a2:=abI_is vy
      have a3:=abI_is vz
      have a4:=m3_is vx vy vz
      show (bif decide (0≤m3 vx vy vz∧m3 vx vy vz≤4398046511104)&&_ then (bif decide (m3 vx vy vz>mo+e) then _ else (bif decide (0≤m3 vx vy vz∧m3 vx vy vz≤4398046511104)&&_ then (bif decide (m3 vx vy vz≤mo - e) then _ else _) else none)) else none)=_
      rw [decide_eq_true (show 0≤m3 vx vy vz∧m3 vx vy vz≤4398046511104 by omega),h4,h5]
      unfold spI
      cases decide (m3 vx vy vz>mo+e)<;>cases decide (m3 vx vy vz≤mo - e)<;>rfl)
  · cases h
noncomputable def Γe4:Orc:=addVal 166 gVsp Γe3
theorem Oke4:Γe4.Ok Tryz.prog:=addVal_ok Oke3 gVsp_ok
def boxI (x y z vx vy vz g e:Int) (L:List (List Dat)):Int:=relBx (iLX x y z vx vy vz g e) (iLY x y z vx vy vz g e) (iHX x y z vx vy vz g e) (iHY x y z vx vy vz g e) L
def wsI (r s:Int):Int:=if r<s then r else s
def ofI (x y z vx vy vz g mo e:Int) (L:List (List Dat)):Int:=bif !imR x y z vx vy vz g e then 4 else (bif wsI (boxI x y z vx vy vz g e L) (spI (m3 vx vy vz) mo e)==-1 then 3 else bif wsI (boxI x y z vx vy vz g e L) (spI (m3 vx vy vz) mo e)==1 then 1 else 2)
theorem runVof (p:Int) (q:Int) (x:Int) (y:Int) (z:Int) (vx:Int) (vy:Int) (vz:Int) (g:Int) (v:Int) (m:Int) (u:Int) (e:Int) (L:List (List Dat)) (own:Bool) (mark:Bool):runG Γe4 L0 Tryz.prog Tryz.f109 [.v (.agg #[I p,I q,I x,I y,I z,I vx,I vy,I vz]),.ag [.row 0,.v (I g),.v (I v),.v (I m),.v (I u)],.v (I e)] ⟨[],[],[rP L own mark]⟩ =
    (bif !imR x y z vx vy vz g e then some (.v (I 4),⟨[],[],[.live ⟨151,[.num .i64,.num .i64],L,own,mark⟩]⟩) else (bif mdB vx&&(mdB vy&&(mdB vz&&(decide ((0:Int)≤v∧v≤(2199023255552:Int))&&decide ((0:Int)≤e∧e≤(2199023255552:Int))))) then (bif L.length.ble (1000000) then (bif (if relBx (iLX x y z vx vy vz g e) (iLY x y z vx vy vz g e) (iHX x y z vx vy vz g e) (iHY x y z vx vy vz g e) L<spI (m3 vx vy vz) v e then relBx (iLX x y z vx vy vz g e) (iLY x y z vx vy vz g e) (iHX x y z vx vy vz g e) (iHY x y z vx vy vz g e) L else spI (m3 vx vy vz) v e)==(-1:Int) then some (.v (I 3),⟨[],[],[.live ⟨151,[.num .i64,.num .i64],L,own,mark⟩]⟩) else (bif (if relBx (iLX x y z vx vy vz g e) (iLY x y z vx vy vz g e) (iHX x y z vx vy vz g e) (iHY x y z vx vy vz g e) L<spI (m3 vx vy vz) v e then relBx (iLX x y z vx vy vz g e) (iLY x y z vx vy vz g e) (iHX x y z vx vy vz g e) (iHY x y z vx vy vz g e) L else spI (m3 vx vy vz) v e)==(1:Int) then some (.v (I 1),⟨[],[],[.live ⟨151,[.num .i64,.num .i64],L,own,mark⟩]⟩) else some (.v (I 2),⟨[],[],[.live ⟨151,[.num .i64,.num .i64],L,own,mark⟩]⟩))) else none) else none)):=by kernel_rfl
def gVof (xs:List SV) (m:Mem):Option (Bool×Value) :=
  match xs,m with
  | [.v (.agg ⟨[.int .i64 p,.int .i64 q,.int .i64 x,.int .i64 y,.int .i64 z,.int .i64 vx,.int .i64 vy,.int .i64 vz]⟩),.ag [.row 0,.v (.int .i64 g),.v (.int .i64 v),.v (.int .i64 m),.v (.int .i64 u)],.v (.int .i64 e)],⟨[],[],[.live ⟨151,[.num .i64,.num .i64],L,own,mark⟩]⟩=>some (Nat.ble L.length 1000000&&decide (0≤v∧v≤2199023255552),I (ofI x y z vx vy vz g v e L))
  | _,_=>none
theorem gVof_ok:CtR 109 gVof:=by
  intro xs m r h
  unfold gVof at h
  split at h
  · rename_i p q x y z vx vy vz g v m u e L own mark
    obtain ⟨h1,rfl⟩:=some_t h
    refine runOk (Λ:=L0) Oke4 Tryz.func109 rfl l00 ?_
    refine (runVof p q x y z vx vy vz g v m u e L own mark).trans ?_
    rw [Bool.and_eq_true] at h1
    obtain ⟨h1,h2⟩:=h1
    rw [h1]
    unfold ofI
    cases hi:imR x y z vx vy vz g e
    · rfl
    have h3:=imR_iff.1 hi
    have h4:=nvR_iff.1 h3.2
    have h5:=frR_iff.1 h3.1.1
    have b1:mdB vx=true:=decide_eq_true (by omega)
    have b2:mdB vy=true:=decide_eq_true (by omega)
    have b3:mdB vz=true:=decide_eq_true (by omega)
    rw [b1,b2,b3,h2,decide_eq_true (show 0≤e∧e≤2199023255552 by omega)]
    show (bif wsI (boxI x y z vx vy vz g e L) (spI (m3 vx vy vz) v e)==-1 then _ else (bif wsI (boxI x y z vx vy vz g e L) (spI (m3 vx vy vz) v e)==1 then _ else _))=_
    simp only [Bool.not_true,cond_false]
    cases wsI (boxI x y z vx vy vz g e L) (spI (m3 vx vy vz) v e)==-1<;>cases wsI (boxI x y z vx vy vz g e L) (spI (m3 vx vy vz) v e)==1<;>rfl
  · cases h
end Go.Proofs.YtagaiddomhpdmaaGreat.Im
