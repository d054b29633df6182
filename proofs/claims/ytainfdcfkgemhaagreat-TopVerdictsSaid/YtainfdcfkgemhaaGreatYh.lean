/-
  What is known of this program: phases,pairs,impacts,verdicts.
-/
import Derived.Test.YtainfdcfkgemhaaGreatYc
import Derived.Test.YtainfdcfkgemhaaGreatYe
import Derived.Test.YtainfdcfkgemhaaGreatYg
import Derived.Test.YtainfdcfkgemhaaGreatYa
set_option maxRecDepth 100000
noncomputable section
open Go.Proofs.Tryz
namespace Go.Proofs.YtainfdcfkgemhaaGreat.Ph
open Go Go.Proofs Go.Sx
def Γv1:Orc:=aE 280 tu ΓA13
theorem qiO:Γv1.Ok prog:=aA mC D6
def Γv2:Orc:=aE 175 gCUp Γv1
theorem qiN:Γv2.Ok prog:=aA qiO gCUp_ok
def Γv3:Orc:=aE 217 tv Γv2
theorem qiM:Γv3.Ok prog:=aA qiN GL
def Γv4:Orc:=aE 176 tx Γv3
theorem Il:Γv4.Ok prog:=aA qiM GM
end Go.Proofs.YtainfdcfkgemhaaGreat.Ph
namespace Go.Proofs.YtainfdcfkgemhaaGreat.Ph
open Go Go.Proofs Go.Sx
set_option linter.unusedVariables false
def Tj (f:FuncId):Bool:=uK f||(Nat.beq f 214||Nat.beq f 144||Nat.beq f 194||Nat.beq f 152||Nat.beq f 195||false)
def Γp0:Orc:={ Γv4 with wr:=Tj,sb:=true,bs:=true }
theorem Q5:Γp0.Ok prog:=⟨Il.call,Il.rd,Il.eqv⟩
theorem XN (r1:Int) (r2:Int) (r3:Int) (r4:Int) (r5:Int) (r6:Int) (r7:Int) (r8:Int) (p:Int) (a:Int) (v:Int) (L:List (List Dat)) (own:Bool) (mark:Bool):runG Γp0 L0 prog f220 [.ptr 0 0] ⟨[[.row 0,.v (I r1),.v (I r2),.v (I r3),.v (I r4),.v (I r5),.v (I r6),.v (I r7),.v (I r8),.v (I p),.ptr 1 0],[.v (I a),.v (I v)]],[true,true],[rH L own mark]⟩ =
 some (.v (Bo (decide (p>=wI ((L.length:Int) - (1:Int))))),⟨[[.row 0,.v (I r1),.v (I r2),.v (I r3),.v (I r4),.v (I r5),.v (I r6),.v (I r7),.v (I r8),.v (I p),.ptr 1 0],[.v (I a),.v (I v)]],[true,true],[.live ⟨117,aS,L,own,mark⟩]⟩):=by kernel_rfl
def E7 (xs:List SV) (m:Mem):Option (Bool×Value) :=
 match xs,m with
 | [.ptr 0 0],⟨[[.row 0,.v (.int .i64 r1),.v (.int .i64 r2),.v (.int .i64 r3),.v (.int .i64 r4),.v (.int .i64 r5),.v (.int .i64 r6),.v (.int .i64 r7),.v (.int .i64 r8),.v (.int .i64 p),.ptr 1 0],[.v (.int .i64 a),.v (.int .i64 v)]],[true,true],[.live ⟨117,[.sl 162 [.num .i64,.num .i64],.num .i64,.num .i64,.num .i64,.num .i64],L,own,mark⟩]⟩=>some (true,Bo (decide (p>=wI ((L.length:Int) - 1))))
 | _,_=>none
theorem qe7:bi 220 E7:=by
 intro xs m r h
 unfold E7 at h
 split at h
 ·rename_i r1 r2 r3 r4 r5 r6 r7 r8 p a v L own mark
  obtain ⟨h1,rfl⟩:=aa h
  refine aj (Λ:=L0) Q5 func220 rfl af ?_
  refine (XN r1 r2 r3 r4 r5 r6 r7 r8 p a v L own mark).trans ?_
  rfl
 ·cases h
def Γp1:Orc:=aR 220 E7 Γp0
theorem Q4:Γp1.Ok prog:=aL Q5 qe7
theorem XP (r1:Int) (r2:Int) (r3:Int) (r4:Int) (r5:Int) (r6:Int) (r7:Int) (r8:Int) (p:Int) (a:Int) (v:Int) (L:List (List Dat)) (own:Bool) (mark:Bool):runG Γp1 L0 prog f154 [.ptr 0 0] ⟨[[.row 0,.v (I r1),.v (I r2),.v (I r3),.v (I r4),.v (I r5),.v (I r6),.v (I r7),.v (I r8),.v (I p),.ptr 1 0],[.v (I a),.v (I v)]],[true,true],[rH L own mark]⟩ =
 some (.v (I v),⟨[[.row 0,.v (I r1),.v (I r2),.v (I r3),.v (I r4),.v (I r5),.v (I r6),.v (I r7),.v (I r8),.v (I p),.ptr 1 0],[.v (I a),.v (I v)]],[true,true],[.live ⟨117,aS,L,own,mark⟩]⟩):=by kernel_rfl
def gPin (xs:List SV) (m:Mem):Option (Bool×Value) :=
 match xs,m with
 | [.ptr 0 0],⟨[[.row 0,.v (.int .i64 r1),.v (.int .i64 r2),.v (.int .i64 r3),.v (.int .i64 r4),.v (.int .i64 r5),.v (.int .i64 r6),.v (.int .i64 r7),.v (.int .i64 r8),.v (.int .i64 p),.ptr 1 0],[.v (.int .i64 a),.v (.int .i64 v)]],[true,true],[.live ⟨117,[.sl 162 [.num .i64,.num .i64],.num .i64,.num .i64,.num .i64,.num .i64],L,own,mark⟩]⟩=>some (true,I v)
 | _,_=>none
theorem gPin_ok:bi 154 gPin:=by
 intro xs m r h
 unfold gPin at h
 split at h
 ·rename_i r1 r2 r3 r4 r5 r6 r7 r8 p a v L own mark
  obtain ⟨h1,rfl⟩:=aa h
  refine aj (Λ:=L0) Q4 func154 rfl af ?_
  refine (XP r1 r2 r3 r4 r5 r6 r7 r8 p a v L own mark).trans ?_
  rfl
 ·cases h
def Γp2:Orc:=aR 154 gPin Γp1
theorem Q3:Γp2.Ok prog:=aL Q4 gPin_ok
theorem XK (r1:Int) (r2:Int) (r3:Int) (r4:Int) (r5:Int) (r6:Int) (r7:Int) (r8:Int) (p:Int) (a:Int) (v:Int) (L:List (List Dat)) (own:Bool) (mark:Bool):runG Γp2 L0 prog f150 [.ptr 0 0] ⟨[[.row 0,.v (I r1),.v (I r2),.v (I r3),.v (I r4),.v (I r5),.v (I r6),.v (I r7),.v (I r8),.v (I p),.ptr 1 0],[.v (I a),.v (I v)]],[true,true],[rH L own mark]⟩ =
 some (.v (I p),⟨[[.row 0,.v (I r1),.v (I r2),.v (I r3),.v (I r4),.v (I r5),.v (I r6),.v (I r7),.v (I r8),.v (I p),.ptr 1 0],[.v (I a),.v (I v)]],[true,true],[.live ⟨117,aS,L,own,mark⟩]⟩):=by kernel_rfl
def gPph (xs:List SV) (m:Mem):Option (Bool×Value) :=
 match xs,m with
 | [.ptr 0 0],⟨[[.row 0,.v (.int .i64 r1),.v (.int .i64 r2),.v (.int .i64 r3),.v (.int .i64 r4),.v (.int .i64 r5),.v (.int .i64 r6),.v (.int .i64 r7),.v (.int .i64 r8),.v (.int .i64 p),.ptr 1 0],[.v (.int .i64 a),.v (.int .i64 v)]],[true,true],[.live ⟨117,[.sl 162 [.num .i64,.num .i64],.num .i64,.num .i64,.num .i64,.num .i64],L,own,mark⟩]⟩=>some (true,I p)
 | _,_=>none
theorem gPph_ok:bi 150 gPph:=by
 intro xs m r h
 unfold gPph at h
 split at h
 ·rename_i r1 r2 r3 r4 r5 r6 r7 r8 p a v L own mark
  obtain ⟨h1,rfl⟩:=aa h
  refine aj (Λ:=L0) Q3 func150 rfl af ?_
  refine (XK r1 r2 r3 r4 r5 r6 r7 r8 p a v L own mark).trans ?_
  rfl
 ·cases h
def Γp3:Orc:=aR 150 gPph Γp2
theorem Q2:Γp3.Ok prog:=aL Q3 gPph_ok
def wishB (L:List (List Dat)) (p v h:Int) (kn:Bool):Bool:=bif decide (p>=wI ((L.length:Int) - 1)) then false else bif !kn then false else bif decide (v>=cJ L p) then decide (h>=cP L p) else false
theorem XG (ht:Int) (kn:Bool) (r1:Int) (r2:Int) (r3:Int) (r4:Int) (r5:Int) (r6:Int) (r7:Int) (r8:Int) (p:Int) (a:Int) (v:Int) (L:List (List Dat)) (own:Bool) (mark:Bool):runG Γp3 L0 prog f151 [.ptr 0 0,.v (I ht),.v (Bo kn)] ⟨[[.row 0,.v (I r1),.v (I r2),.v (I r3),.v (I r4),.v (I r5),.v (I r6),.v (I r7),.v (I r8),.v (I p),.ptr 1 0],[.v (I a),.v (I v)]],[true,true],[rH L own mark]⟩ =
 (bif decide (p>=wI ((L.length:Int) - (1:Int))) then some (.v (Bo false),⟨[[.row 0,.v (I r1),.v (I r2),.v (I r3),.v (I r4),.v (I r5),.v (I r6),.v (I r7),.v (I r8),.v (I p),.ptr 1 0],[.v (I a),.v (I v)]],[true,true],[.live ⟨117,aS,L,own,mark⟩]⟩) else (bif !kn then some (.v (Bo false),⟨[[.row 0,.v (I r1),.v (I r2),.v (I r3),.v (I r4),.v (I r5),.v (I r6),.v (I r7),.v (I r8),.v (I p),.ptr 1 0],[.v (I a),.v (I v)]],[true,true],[.live ⟨117,aS,L,own,mark⟩]⟩) else (bif decide ((0:Int)<=p)&&decide (p<(L.length:Int)) then (same ((bif decide (v>=(cJ L p)) then some (.v (Bo (decide (ht>=(cP L p)))),⟨[[.row 0,.v (I r1),.v (I r2),.v (I r3),.v (I r4),.v (I r5),.v (I r6),.v (I r7),.v (I r8),.v (I p),.ptr 1 0],[.v (I a),.v (I v)]],[true,true],[.live ⟨117,aS,L,own,mark⟩]⟩) else some (.v (Bo false),⟨[[.row 0,.v (I r1),.v (I r2),.v (I r3),.v (I r4),.v (I r5),.v (I r6),.v (I r7),.v (I r8),.v (I p),.ptr 1 0],[.v (I a),.v (I v)]],[true,true],[.live ⟨117,aS,L,own,mark⟩]⟩))) ((bif decide (v>=(cJ L p)) then some (.v (Bo (decide (ht>=(cP L p)))),⟨[[.row 0,.v (I r1),.v (I r2),.v (I r3),.v (I r4),.v (I r5),.v (I r6),.v (I r7),.v (I r8),.v (I p),.ptr 1 0],[.v (I a),.v (I v)]],[true,true],[.live ⟨117,aS,L,own,mark⟩]⟩) else some (.v (Bo false),⟨[[.row 0,.v (I r1),.v (I r2),.v (I r3),.v (I r4),.v (I r5),.v (I r6),.v (I r7),.v (I r8),.v (I p),.ptr 1 0],[.v (I a),.v (I v)]],[true,true],[.live ⟨117,aS,L,own,mark⟩]⟩)))) else none))):=by kernel_rfl
def gPwi (xs:List SV) (m:Mem):Option (Bool×Value) :=
 match xs,m with
 | [.ptr 0 0,.v (.int .i64 ht),.v (.bool kn)],⟨[[.row 0,.v (.int .i64 r1),.v (.int .i64 r2),.v (.int .i64 r3),.v (.int .i64 r4),.v (.int .i64 r5),.v (.int .i64 r6),.v (.int .i64 r7),.v (.int .i64 r8),.v (.int .i64 p),.ptr 1 0],[.v (.int .i64 a),.v (.int .i64 v)]],[true,true],[.live ⟨117,[.sl 162 [.num .i64,.num .i64],.num .i64,.num .i64,.num .i64,.num .i64],L,own,mark⟩]⟩=>some (decide (0<=p)&&decide (p<(L.length:Int)),Bo (wishB L p v ht kn))
 | _,_=>none
theorem gPwi_ok:bi 151 gPwi:=by
 intro xs m r h
 unfold gPwi at h
 split at h
 ·rename_i ht kn r1 r2 r3 r4 r5 r6 r7 r8 p a v L own mark
  obtain ⟨h1,rfl⟩:=aa h
  refine aj (Λ:=L0) Q2 func151 rfl af ?_
  refine (XG ht kn r1 r2 r3 r4 r5 r6 r7 r8 p a v L own mark).trans ?_
  rw [h1,fY]
  unfold wishB
  cases decide (p>=wI ((L.length:Int) - 1))<;>first|rfl|(cases kn<;>first|rfl|(cases decide (v>=cJ L p)<;>rfl))
 ·cases h
def Γp4:Orc:=aR 151 gPwi Γp3
theorem Q1:Γp4.Ok prog:=aL Q2 gPwi_ok
def cyB (L:List (List Dat)) (p:Int) (mi th:Bool):Bool:=bif decide (p>=wI ((L.length:Int) - 1)) then false else bif !mi then false else th
theorem XQ (mi:Bool) (th:Bool) (r1:Int) (r2:Int) (r3:Int) (r4:Int) (r5:Int) (r6:Int) (r7:Int) (r8:Int) (p:Int) (a:Int) (v:Int) (L:List (List Dat)) (own:Bool) (mark:Bool):runG Γp4 L0 prog f152 [.ptr 0 0,.v (Bo mi),.v (Bo th)] ⟨[[.row 0,.v (I r1),.v (I r2),.v (I r3),.v (I r4),.v (I r5),.v (I r6),.v (I r7),.v (I r8),.v (I p),.ptr 1 0],[.v (I a),.v (I v)]],[true,true],[rH L own mark]⟩ =
 (bif decide (p>=wI ((L.length:Int) - (1:Int))) then some (.v (Bo false),⟨[[.row 0,.v (I r1),.v (I r2),.v (I r3),.v (I r4),.v (I r5),.v (I r6),.v (I r7),.v (I r8),.v (I p),.ptr 1 0],[.v (I a),.v (I (au a v (1:Int)))]],[true,true],[.live ⟨117,aS,L,own,mark⟩]⟩) else (bif !mi then some (.v (Bo false),⟨[[.row 0,.v (I r1),.v (I r2),.v (I r3),.v (I r4),.v (I r5),.v (I r6),.v (I r7),.v (I r8),.v (I p),.ptr 1 0],[.v (I a),.v (I (au a v (1:Int)))]],[true,true],[.live ⟨117,aS,L,own,mark⟩]⟩) else (bif !th then some (.v (Bo false),⟨[[.row 0,.v (I r1),.v (I r2),.v (I r3),.v (I r4),.v (I r5),.v (I r6),.v (I r7),.v (I r8),.v (I p),.ptr 1 0],[.v (I a),.v (I (au a v (1:Int)))]],[true,true],[.live ⟨117,aS,L,own,mark⟩]⟩) else some (.v (Bo true),⟨[[.row 0,.v (I r1),.v (I r2),.v (I r3),.v (I r4),.v (I r5),.v (I r6),.v (I r7),.v (I r8),.v (I (wI (p+(1:Int)))),.ptr 1 0],[.v (I a),.v (I (aK (0:Int) a))]],[true,true],[.live ⟨117,aS,L,own,mark⟩]⟩)))):=by kernel_rfl
def gPcy (xs:List SV) (m:Mem):Option (Bool×SV×Mem) :=
 match xs,m with
 | [.ptr 0 0,.v (.bool mi),.v (.bool th)],⟨[[.row 0,.v (.int .i64 r1),.v (.int .i64 r2),.v (.int .i64 r3),.v (.int .i64 r4),.v (.int .i64 r5),.v (.int .i64 r6),.v (.int .i64 r7),.v (.int .i64 r8),.v (.int .i64 p),.ptr 1 0],[.v (.int .i64 a),.v (.int .i64 v)]],[true,true],[.live ⟨117,[.sl 162 [.num .i64,.num .i64],.num .i64,.num .i64,.num .i64,.num .i64],L,own,mark⟩]⟩=>some (true,.v (Bo (cyB L p mi th)),⟨[[.row 0,.v (I r1),.v (I r2),.v (I r3),.v (I r4),.v (I r5),.v (I r6),.v (I r7),.v (I r8),.v (I (bif cyB L p mi th then wI (p+1) else p)),.ptr 1 0],[.v (I a),.v (I (bif cyB L p mi th then aK 0 a else au a v 1))]],[true,true],[rH L own mark]⟩)
 | _,_=>none
theorem gPcy_ok:aT 152 gPcy:=by
 intro xs m r m' h
 unfold gPcy at h
 split at h
 ·rename_i mi th r1 r2 r3 r4 r5 r6 r7 r8 p a v L own mark
  obtain ⟨h1,rfl,rfl⟩:=az h
  refine aj (Λ:=L0) Q1 func152 rfl af ?_
  refine (XQ mi th r1 r2 r3 r4 r5 r6 r7 r8 p a v L own mark).trans ?_
  unfold cyB
  cases decide (p>=wI ((L.length:Int) - 1))<;>cases mi<;>cases th<;>rfl
 ·cases h
def Γp5:Orc:=aE 152 gPcy Γp4
theorem Q0:Γp5.Ok prog:=aA Q1 gPcy_ok
def seB (L:List (List Dat)) (q i:Int):Bool:=bif decide (q<0) then false else bif decide (q>=(L.length:Int)) then false else bif decide (i<0) then false else bif decide (i>1000000) then false else true
theorem XH (q:Int) (i:Int) (r1:Int) (r2:Int) (r3:Int) (r4:Int) (r5:Int) (r6:Int) (r7:Int) (r8:Int) (p:Int) (a:Int) (v:Int) (L:List (List Dat)) (own:Bool) (mark:Bool):runG Γp5 L0 prog f195 [.ptr 0 0,.v (I q),.v (I i)] ⟨[[.row 0,.v (I r1),.v (I r2),.v (I r3),.v (I r4),.v (I r5),.v (I r6),.v (I r7),.v (I r8),.v (I p),.ptr 1 0],[.v (I a),.v (I v)]],[true,true],[rH L own mark]⟩ =
 (bif decide (q<(0:Int)) then some (.v (Bo false),⟨[[.row 0,.v (I r1),.v (I r2),.v (I r3),.v (I r4),.v (I r5),.v (I r6),.v (I r7),.v (I r8),.v (I p),.ptr 1 0],[.v (I a),.v (I v)]],[true,true],[.live ⟨117,aS,L,own,mark⟩]⟩) else (bif decide (q>=(L.length:Int)) then some (.v (Bo false),⟨[[.row 0,.v (I r1),.v (I r2),.v (I r3),.v (I r4),.v (I r5),.v (I r6),.v (I r7),.v (I r8),.v (I p),.ptr 1 0],[.v (I a),.v (I v)]],[true,true],[.live ⟨117,aS,L,own,mark⟩]⟩) else (bif decide (i<(0:Int)) then some (.v (Bo false),⟨[[.row 0,.v (I r1),.v (I r2),.v (I r3),.v (I r4),.v (I r5),.v (I r6),.v (I r7),.v (I r8),.v (I p),.ptr 1 0],[.v (I a),.v (I v)]],[true,true],[.live ⟨117,aS,L,own,mark⟩]⟩) else (bif decide (i>(1000000:Int)) then some (.v (Bo false),⟨[[.row 0,.v (I r1),.v (I r2),.v (I r3),.v (I r4),.v (I r5),.v (I r6),.v (I r7),.v (I r8),.v (I p),.ptr 1 0],[.v (I a),.v (I v)]],[true,true],[.live ⟨117,aS,L,own,mark⟩]⟩) else some (.v (Bo true),⟨[[.row 0,.v (I r1),.v (I r2),.v (I r3),.v (I r4),.v (I r5),.v (I r6),.v (I r7),.v (I r8),.v (I q),.ptr 1 0],[.v (I a),.v (I (aK i a))]],[true,true],[.live ⟨117,aS,L,own,mark⟩]⟩))))):=by kernel_rfl
def gPse (xs:List SV) (m:Mem):Option (Bool×SV×Mem) :=
 match xs,m with
 | [.ptr 0 0,.v (.int .i64 q),.v (.int .i64 i)],⟨[[.row 0,.v (.int .i64 r1),.v (.int .i64 r2),.v (.int .i64 r3),.v (.int .i64 r4),.v (.int .i64 r5),.v (.int .i64 r6),.v (.int .i64 r7),.v (.int .i64 r8),.v (.int .i64 p),.ptr 1 0],[.v (.int .i64 a),.v (.int .i64 v)]],[true,true],[.live ⟨117,[.sl 162 [.num .i64,.num .i64],.num .i64,.num .i64,.num .i64,.num .i64],L,own,mark⟩]⟩=>some (true,.v (Bo (seB L q i)),⟨[[.row 0,.v (I r1),.v (I r2),.v (I r3),.v (I r4),.v (I r5),.v (I r6),.v (I r7),.v (I r8),.v (I (bif seB L q i then q else p)),.ptr 1 0],[.v (I a),.v (I (bif seB L q i then aK i a else v))]],[true,true],[rH L own mark]⟩)
 | _,_=>none
theorem gPse_ok:aT 195 gPse:=by
 intro xs m r m' h
 unfold gPse at h
 split at h
 ·rename_i q i r1 r2 r3 r4 r5 r6 r7 r8 p a v L own mark
  obtain ⟨h1,rfl,rfl⟩:=az h
  refine aj (Λ:=L0) Q0 func195 rfl af ?_
  refine (XH q i r1 r2 r3 r4 r5 r6 r7 r8 p a v L own mark).trans ?_
  unfold seB
  cases decide (q<0)<;>cases decide (q>=(L.length:Int))<;>cases decide (i<0)<;>cases decide (i>1000000)<;>rfl
 ·cases h
def Γp6:Orc:=aE 195 gPse Γp5
theorem QZ:Γp6.Ok prog:=aA Q0 gPse_ok
theorem XI (r1:Int) (r2:Int) (r3:Int) (r4:Int) (r5:Int) (r6:Int) (r7:Int) (r8:Int) (p:Int) (L:List (List Dat)) (own:Bool) (mark:Bool):runG Γp6 L0 prog f214 [.ag [.row 0,.v (I r1),.v (I r2),.v (I r3),.v (I r4),.v (I r5),.v (I r6),.v (I r7),.v (I r8)],.v (I p)] ⟨[],[],[rH L own mark]⟩ =
 (bif decide (p<(0:Int)) then some (.v (.tuple #[(.agg #[(Value.slice none (0:Nat) (0:Nat)),(I 0),(I 0),(I 0),(I 0)]),(Bo false)]),⟨[],[],[.live ⟨117,aS,L,own,mark⟩]⟩) else (bif decide (p>=(L.length:Int)) then some (.v (.tuple #[(.agg #[(Value.slice none (0:Nat) (0:Nat)),(I 0),(I 0),(I 0),(I 0)]),(Bo false)]),⟨[],[],[.live ⟨117,aS,L,own,mark⟩]⟩) else (bif decide ((0:Int)<=p)&&decide (p<(L.length:Int)) then (bif Nat.blt (0:Nat) (bk L p).length&&(bk L p).length.ble (1000000) then some (.tup [.ag [.row 1,.v (I ((db L p))),.v (I ((cO L p))),.v (I ((cJ L p))),.v (I ((cP L p)))],.one (.v (Bo true))],⟨[],[],[.live ⟨117,aS,L,own,mark⟩,.live ⟨162,[.num .i64,.num .i64],(bk L p),true,false⟩]⟩) else none) else none))):=by kernel_rfl
def E6 (xs:List SV) (m:Mem):Option (Bool×SV×Mem) :=
 match xs,m with
 | [.ag [.row 0,.v (.int .i64 r1),.v (.int .i64 r2),.v (.int .i64 r3),.v (.int .i64 r4),.v (.int .i64 r5),.v (.int .i64 r6),.v (.int .i64 r7),.v (.int .i64 r8)],.v (.int .i64 p)],⟨[],[],[.live ⟨117,[.sl 162 [.num .i64,.num .i64],.num .i64,.num .i64,.num .i64,.num .i64],L,own,mark⟩]⟩=>some (co L&&(fq L&&(decide (0<=p)&&decide (p<(L.length:Int)))),.tup [.ag [.row 1,.v (I (db L p)),.v (I (cO L p)),.v (I (cJ L p)),.v (I (cP L p))],.one (.v (Bo true))],⟨[],[],[rH L own mark,rP (bk L p) true false]⟩)
 | _,_=>none
theorem qe6:aT 214 E6:=by
 intro xs m r m' h
 unfold E6 at h
 split at h
 ·rename_i r1 r2 r3 r4 r5 r6 r7 r8 p L own mark
  obtain ⟨h1,rfl,rfl⟩:=az h
  refine aj (Λ:=L0) QZ func214 rfl af ?_
  refine (XI r1 r2 r3 r4 r5 r6 r7 r8 p L own mark).trans ?_
  simp only [Bool.and_eq_true,decide_eq_true_eq] at h1
  obtain ⟨h1,h2,h3,h4⟩:=h1
  rw [decide_eq_false (show ¬ p<0 by omega),decide_eq_false (show ¬ p>=(L.length:Int) by omega),decide_eq_true h3,decide_eq_true h4,(wB h1 h3 h4).2,Mw h2 h3 h4]
  rfl
 ·cases h
def Γp7:Orc:=aE 214 E6 Γp6
theorem QY:Γp7.Ok prog:=aA QZ qe6
theorem XM (r1:Int) (r2:Int) (r3:Int) (r4:Int) (r5:Int) (r6:Int) (r7:Int) (r8:Int) (p:Int) (a:Int) (v:Int) (L:List (List Dat)) (own:Bool) (mark:Bool):runG Γp7 L0 prog f144 [.ptr 0 0] ⟨[[.row 0,.v (I r1),.v (I r2),.v (I r3),.v (I r4),.v (I r5),.v (I r6),.v (I r7),.v (I r8),.v (I p),.ptr 1 0],[.v (I a),.v (I v)]],[true,true],[rH L own mark]⟩ =
 (same ((bif co L&&(fq L&&(decide ((0:Int)<=p)&&decide (p<(L.length:Int)))) then (same (some (.ag [.row 1,.v (I (db L p)),.v (I (cO L p)),.v (I (cJ L p)),.v (I (cP L p))],⟨[[.row 0,.v (I r1),.v (I r2),.v (I r3),.v (I r4),.v (I r5),.v (I r6),.v (I r7),.v (I r8),.v (I p),.ptr 1 0],[.v (I a),.v (I v)]],[true,true],[.live ⟨117,aS,L,own,mark⟩,.live ⟨162,[.num .i64,.num .i64],bk L p,true,false⟩]⟩)) (some (.ag [.row 1,.v (I (db L p)),.v (I (cO L p)),.v (I (cJ L p)),.v (I (cP L p))],⟨[[.row 0,.v (I r1),.v (I r2),.v (I r3),.v (I r4),.v (I r5),.v (I r6),.v (I r7),.v (I r8),.v (I p),.ptr 1 0],[.v (I a),.v (I v)]],[true,true],[.live ⟨117,aS,L,own,mark⟩,.live ⟨162,[.num .i64,.num .i64],bk L p,true,false⟩]⟩))) else none)) ((bif co L&&(fq L&&(decide ((0:Int)<=p)&&decide (p<(L.length:Int)))) then (same (some (.ag [.row 1,.v (I (db L p)),.v (I (cO L p)),.v (I (cJ L p)),.v (I (cP L p))],⟨[[.row 0,.v (I r1),.v (I r2),.v (I r3),.v (I r4),.v (I r5),.v (I r6),.v (I r7),.v (I r8),.v (I p),.ptr 1 0],[.v (I a),.v (I v)]],[true,true],[.live ⟨117,aS,L,own,mark⟩,.live ⟨162,[.num .i64,.num .i64],bk L p,true,false⟩]⟩)) (some (.ag [.row 1,.v (I (db L p)),.v (I (cO L p)),.v (I (cJ L p)),.v (I (cP L p))],⟨[[.row 0,.v (I r1),.v (I r2),.v (I r3),.v (I r4),.v (I r5),.v (I r6),.v (I r7),.v (I r8),.v (I p),.ptr 1 0],[.v (I a),.v (I v)]],[true,true],[.live ⟨117,aS,L,own,mark⟩,.live ⟨162,[.num .i64,.num .i64],bk L p,true,false⟩]⟩))) else none))):=by kernel_rfl
def gPno (xs:List SV) (m:Mem):Option (Bool×SV×Mem) :=
 match xs,m with
 | [.ptr 0 0],⟨[[.row 0,.v (.int .i64 r1),.v (.int .i64 r2),.v (.int .i64 r3),.v (.int .i64 r4),.v (.int .i64 r5),.v (.int .i64 r6),.v (.int .i64 r7),.v (.int .i64 r8),.v (.int .i64 p),.ptr 1 0],[.v (.int .i64 a),.v (.int .i64 v)]],[true,true],[.live ⟨117,[.sl 162 [.num .i64,.num .i64],.num .i64,.num .i64,.num .i64,.num .i64],L,own,mark⟩]⟩=>some (co L&&(fq L&&(decide (0<=p)&&decide (p<(L.length:Int)))),.ag [.row 1,.v (I (db L p)),.v (I (cO L p)),.v (I (cJ L p)),.v (I (cP L p))],⟨[[.row 0,.v (I r1),.v (I r2),.v (I r3),.v (I r4),.v (I r5),.v (I r6),.v (I r7),.v (I r8),.v (I (p)),.ptr 1 0],[.v (I a),.v (I (v))]],[true,true],[rH L own mark,rP (bk L p) true false]⟩)
 | _,_=>none
theorem gPno_ok:aT 144 gPno:=by
 intro xs m r m' h
 unfold gPno at h
 split at h
 ·rename_i r1 r2 r3 r4 r5 r6 r7 r8 p a v L own mark
  obtain ⟨h1,rfl,rfl⟩:=az h
  refine aj (Λ:=L0) QY func144 rfl af ?_
  refine (XM r1 r2 r3 r4 r5 r6 r7 r8 p a v L own mark).trans ?_
  rw [h1]
  simp only [fY,cond_true]
 ·cases h
def Γp8:Orc:=aE 144 gPno Γp7
theorem qjf:Γp8.Ok prog:=aA QY gPno_ok
theorem XL (r1:Int) (r2:Int) (r3:Int) (r4:Int) (r5:Int) (r6:Int) (r7:Int) (r8:Int) (L:List (List Dat)) (own:Bool) (mark:Bool):runG Γp8 L0 prog f194 [.ag [.row 0,.v (I r1),.v (I r2),.v (I r3),.v (I r4),.v (I r5),.v (I r6),.v (I r7),.v (I r8)]] ⟨[],[],[rH L own mark]⟩ =
 (bif co L then (bif !wrB L r1 r2 r3 r4 r5 r6 r7 r8==(0:Int) then some (.v (Value.pointer none),⟨[],[],[.live ⟨117,aS,L,own,mark⟩]⟩) else (bif co L&&(fq L&&Nat.blt (0:Nat) L.length) then some (.ptr 0 0,⟨[[.row 1,.v (I r1),.v (I r2),.v (I r3),.v (I r4),.v (I r5),.v (I r6),.v (I r7),.v (I r8),.v (I 0),.ptr 1 0],[.v (I 1000000),.v (I 0)]],[true,true],[.live ⟨117,aS,L,own,mark⟩,.live ⟨117,aS,L,true,false⟩]⟩) else none)) else none):=by kernel_rfl
def gPnw (xs:List SV) (m:Mem):Option (Bool×SV×Mem) :=
 match xs,m with
 | [.ag [.row 0,.v (.int .i64 r1),.v (.int .i64 r2),.v (.int .i64 r3),.v (.int .i64 r4),.v (.int .i64 r5),.v (.int .i64 r6),.v (.int .i64 r7),.v (.int .i64 r8)]],⟨[],[],[.live ⟨117,[.sl 162 [.num .i64,.num .i64],.num .i64,.num .i64,.num .i64,.num .i64],L,own,mark⟩]⟩=>some (co L&&(fq L&&(wrB L r1 r2 r3 r4 r5 r6 r7 r8==0&&Nat.blt 0 L.length)),.ptr 0 0,⟨[[.row 1,.v (I r1),.v (I r2),.v (I r3),.v (I r4),.v (I r5),.v (I r6),.v (I r7),.v (I r8),.v (I 0),.ptr 1 0],[.v (I 1000000),.v (I 0)]],[true,true],[rH L own mark,rH L true false]⟩)
 | _,_=>none
theorem gPnw_ok:aT 194 gPnw:=by
 intro xs m r m' h
 unfold gPnw at h
 split at h
 ·rename_i r1 r2 r3 r4 r5 r6 r7 r8 L own mark
  obtain ⟨h1,rfl,rfl⟩:=az h
  refine aj (Λ:=L0) qjf func194 rfl af ?_
  refine (XL r1 r2 r3 r4 r5 r6 r7 r8 L own mark).trans ?_
  simp only [Bool.and_eq_true] at h1
  obtain ⟨h1,h2,h3,h4⟩:=h1
  rw [h1,h2,h3,h4]
  rfl
 ·cases h
end Go.Proofs.YtainfdcfkgemhaaGreat.Ph
namespace Go.Proofs.YtainfdcfkgemhaaGreat.Pa
open Go Go.Proofs Go.Sx Nw
set_option linter.unusedVariables false
def epsP (e:Int):Int:=wI (2*ci e (-1) 2305843009213693952)
def cmpP (x y near:Bool):Int:=bif x then (bif y then (bif near then 3 else 4) else 1) else (bif y then 2 else 0)
def hgt (a b:Int) (x y:Bool):Int:=bif x then (bif y then (if b<a then b else a) else a) else (bif y then b else 0)
theorem XY (a:Int) (b:Int) (c:Int) (d:Int) (e:Int) (f:Int) (g:Int) (q:Int) (a':Int) (b':Int) (c':Int) (d':Int) (e':Int) (f':Int) (g':Int) (q':Int) (x:Bool) (y:Bool) (w:Int):runG ΓNb L0 prog f145 [.v (.agg #[I a,I b,I c,I d,I e,I f,I g,I q]),.v (.agg #[I a',I b',I c',I d',I e',I f',I g',I q']),.v (Bo x),.v (Bo y),.v (I w)] M0 =
 (bif !x then (bif !y then some (.v (I 0),M0) else (bif !y then some (.v (I 1),M0) else (bif !x then some (.v (I 2),M0) else (bif pI (wI ((2:Int)*ci w (-1:Int) (2305843009213693952:Int))) c c' d d' e e' f f' g g' q q' then some (.v (I 3),M0) else some (.v (I 4),M0))))) else (bif !y then some (.v (I 1),M0) else (bif !x then some (.v (I 2),M0) else (bif pI (wI ((2:Int)*ci w (-1:Int) (2305843009213693952:Int))) c c' d d' e e' f f' g g' q q' then some (.v (I 3),M0) else some (.v (I 4),M0))))):=by kernel_rfl
def gPCmp (vs:List Value):Option (Bool×Value) :=
 match vs with
 | [.agg ⟨[.int .i64 a,.int .i64 b,.int .i64 c,.int .i64 d,.int .i64 e,.int .i64 f,.int .i64 g,.int .i64 q]⟩,.agg ⟨[.int .i64 a',.int .i64 b',.int .i64 c',.int .i64 d',.int .i64 e',.int .i64 f',.int .i64 g',.int .i64 q']⟩,.bool x,.bool y,.int .i64 w]=>some (true,I (cmpP x y (pI (epsP w) c c' d d' e e' f f' g g' q q')))
 | _=>none
theorem gPCmp_ok:an 145 gPCmp:=by
 intro vs r h
 unfold gPCmp at h
 split at h
 ·rename_i a b c d e f g q a' b' c' d' e' f' g' q' x y w
  obtain ⟨h1,rfl⟩:=aa h
  refine am (vs:=[.agg #[I a,I b,I c,I d,I e,I f,I g,I q],.agg #[I a',I b',I c',I d',I e',I f',I g',I q'],Bo x,Bo y,I w]) (Λ:=L0) (m':=M0) z0 func145 rfl af ?_
  exact (XY a b c d e f g q a' b' c' d' e' f' g' q' x y w).trans (by rw [show wI (2*ci w (-1) 2305843009213693952)=epsP w from rfl];cases x<;>cases y<;>first|rfl|(cases pI (epsP w) c c' d d' e e' f f' g g' q q'<;>rfl))
 ·cases h
def ΓJ1:Orc:=ah 145 gPCmp ΓNb
theorem OkJ1:ΓJ1.Ok prog:=ac z0 gPCmp_ok
def ΓJ2:Orc:=ΓJ1
theorem OkJ2:ΓJ2.Ok prog:=OkJ1
theorem XV (a:Int) (b:Int) (c:Int) (d:Int) (e:Int) (f:Int) (g:Int) (q:Int) (a':Int) (b':Int) (c':Int) (d':Int) (e':Int) (f':Int) (g':Int) (q':Int) (x:Bool) (y:Bool):runG ΓJ2 L0 prog f146 [.v (.agg #[I a,I b,I c,I d,I e,I f,I g,I q]),.v (.agg #[I a',I b',I c',I d',I e',I f',I g',I q']),.v (Bo x),.v (Bo y)] M0 =
 (bif x then (bif y then some (.v (.tuple #[(I (if e'<e then e' else e)),(Bo true)]),M0) else (bif x then some (.v (.tuple #[(I e),(Bo true)]),M0) else (bif y then some (.v (.tuple #[(I e'),(Bo true)]),M0) else some (.v (.tuple #[(I 0),(Bo false)]),M0)))) else (bif x then some (.v (.tuple #[(I e),(Bo true)]),M0) else (bif y then some (.v (.tuple #[(I e'),(Bo true)]),M0) else some (.v (.tuple #[(I 0),(Bo false)]),M0)))):=by kernel_rfl
def gPHgt (vs:List Value):Option (Bool×Value) :=
 match vs with
 | [.agg ⟨[.int .i64 a,.int .i64 b,.int .i64 c,.int .i64 d,.int .i64 e,.int .i64 f,.int .i64 g,.int .i64 q]⟩,.agg ⟨[.int .i64 a',.int .i64 b',.int .i64 c',.int .i64 d',.int .i64 e',.int .i64 f',.int .i64 g',.int .i64 q']⟩,.bool x,.bool y]=>some (true,Value.tuple #[I (hgt e e' x y),Bo (x||y)])
 | _=>none
theorem gPHgt_ok:an 146 gPHgt:=by
 intro vs r h
 unfold gPHgt at h
 split at h
 ·rename_i a b c d e f g q a' b' c' d' e' f' g' q' x y
  obtain ⟨h1,rfl⟩:=aa h
  refine am (vs:=[.agg #[I a,I b,I c,I d,I e,I f,I g,I q],.agg #[I a',I b',I c',I d',I e',I f',I g',I q'],Bo x,Bo y]) (Λ:=L0) (m':=M0) OkJ2 func146 rfl af ?_
  exact (XV a b c d e f g q a' b' c' d' e' f' g' q' x y).trans (by cases x<;>cases y<;>rfl)
 ·cases h
end Go.Proofs.YtainfdcfkgemhaaGreat.Pa
namespace Go.Proofs.YtainfdcfkgemhaaGreat.Im
open Go Go.Proofs Go.Sx
set_option linter.unusedVariables false
def iS:Code:=bX (f172.body.getD .skip) 0
theorem qb7:loopsOf (f172.body.getD .skip)=[iS]:=by kernel_rfl
def dW:List Bool:=aB 64 [2,3,6,11,42,43]
def uI (e:Ex):List Bool:=match e with
 | .exit _=>aB 64 [6,11]
 | .ret=>aB 64 [6]
 | .normal=>aB 64 [2,3,6,11,42,43]
def lc (e:Ex) (st:St):Option (Ex×St):=some (e,ab 0 0 (uI e) st)
def oE (p q x y z vx vy vz a b c d:Int):Mem:=⟨[[.v (I p),.v (I q),.v (I x),.v (I y),.v (I z),.v (I vx),.v (I vy),.v (I vz)],[.v (I 0),.v (I 0),.v (I 0),.v (I 0)],[.v (I a),.v (I b),.v (I c),.v (I d)]],[true,true,true],[]⟩
theorem UJ (p q x y z vx vy vz a b c d e lo hi:Int) (n:Nat):ao ΓBx prog L0 (ab 0 0 dW) iS (n+1) (mk dW [.v (I e),.ptr 0 0,.ptr 1 0,.ptr 2 0,.v (.agg #[I lo,I hi]),.v (I 0)] (oE p q x y z vx vy vz a b c d)) lc =
 (bif kg x y vx vy (wI ((0:Int) - e)) lo then (bif kp (x+(vx+wI ((0:Int) - e))*lo) (y+(vy+wI ((0:Int) - e))*lo) e then (bif aU a b c d&&aU (x+(vx+wI ((0:Int) - e))*lo - e) (y+(vy+wI ((0:Int) - e))*lo - e) (x+(vx+wI ((0:Int) - e))*lo+e) (y+(vy+wI ((0:Int) - e))*lo+e) then (bif kg x y vx vy e lo then (bif kp (x+(vx+e)*lo) (y+(vy+e)*lo) e then (bif aU (mn a (x+(vx+wI ((0:Int) - e))*lo - e)) (mn b (y+(vy+wI ((0:Int) - e))*lo - e)) (mx c (x+(vx+wI ((0:Int) - e))*lo+e)) (mx d (y+(vy+wI ((0:Int) - e))*lo+e))&&aU (x+(vx+e)*lo - e) (y+(vy+e)*lo - e) (x+(vx+e)*lo+e) (y+(vy+e)*lo+e) then ao ΓBx prog L0 (ab 0 0 dW) iS n (mk dW [.v (I e),.ptr 0 0,.ptr 1 0,.ptr 2 0,.v (.agg #[(I lo),(I hi)]),.v (I 1)] ⟨[[.v (I p),.v (I q),.v (I x),.v (I y),.v (I z),.v (I vx),.v (I vy),.v (I vz)],[.v (I 0),.v (I 0),.v (I 0),.v (I 0)],[.v (I (mn (mn a (x+(vx+wI ((0:Int) - e))*lo - e)) (x+(vx+e)*lo - e))),.v (I (mn (mn b (y+(vy+wI ((0:Int) - e))*lo - e)) (y+(vy+e)*lo - e))),.v (I (mx (mx c (x+(vx+wI ((0:Int) - e))*lo+e)) (x+(vx+e)*lo+e))),.v (I (mx (mx d (y+(vy+wI ((0:Int) - e))*lo+e)) (y+(vy+e)*lo+e)))]],[true,true,true],[]⟩) lc else none) else none) else none) else none) else none) else none):=by kernel_rfl
theorem UI (p q x y z vx vy vz a b c d e lo hi:Int) (n:Nat):ao ΓBx prog L0 (ab 0 0 dW) iS (n+1) (mk dW [.v (I e),.ptr 0 0,.ptr 1 0,.ptr 2 0,.v (.agg #[I lo,I hi]),.v (I 1)] (oE p q x y z vx vy vz a b c d)) lc =
 (bif kg x y vx vy (wI ((0:Int) - e)) hi then (bif kp (x+(vx+wI ((0:Int) - e))*hi) (y+(vy+wI ((0:Int) - e))*hi) e then (bif aU a b c d&&aU (x+(vx+wI ((0:Int) - e))*hi - e) (y+(vy+wI ((0:Int) - e))*hi - e) (x+(vx+wI ((0:Int) - e))*hi+e) (y+(vy+wI ((0:Int) - e))*hi+e) then (bif kg x y vx vy e hi then (bif kp (x+(vx+e)*hi) (y+(vy+e)*hi) e then (bif aU (mn a (x+(vx+wI ((0:Int) - e))*hi - e)) (mn b (y+(vy+wI ((0:Int) - e))*hi - e)) (mx c (x+(vx+wI ((0:Int) - e))*hi+e)) (mx d (y+(vy+wI ((0:Int) - e))*hi+e))&&aU (x+(vx+e)*hi - e) (y+(vy+e)*hi - e) (x+(vx+e)*hi+e) (y+(vy+e)*hi+e) then ao ΓBx prog L0 (ab 0 0 dW) iS n (mk dW [.v (I e),.ptr 0 0,.ptr 1 0,.ptr 2 0,.v (.agg #[(I lo),(I hi)]),.v (I 2)] ⟨[[.v (I p),.v (I q),.v (I x),.v (I y),.v (I z),.v (I vx),.v (I vy),.v (I vz)],[.v (I 0),.v (I 0),.v (I 0),.v (I 0)],[.v (I (mn (mn a (x+(vx+wI ((0:Int) - e))*hi - e)) (x+(vx+e)*hi - e))),.v (I (mn (mn b (y+(vy+wI ((0:Int) - e))*hi - e)) (y+(vy+e)*hi - e))),.v (I (mx (mx c (x+(vx+wI ((0:Int) - e))*hi+e)) (x+(vx+e)*hi+e))),.v (I (mx (mx d (y+(vy+wI ((0:Int) - e))*hi+e)) (y+(vy+e)*hi+e)))]],[true,true,true],[]⟩) lc else none) else none) else none) else none) else none) else none):=by kernel_rfl
theorem UH (p q x y z vx vy vz a b c d e lo hi:Int) (n:Nat):ao ΓBx prog L0 (ab 0 0 dW) iS (n+1) (mk dW [.v (I e),.ptr 0 0,.ptr 1 0,.ptr 2 0,.v (.agg #[I lo,I hi]),.v (I 2)] (oE p q x y z vx vy vz a b c d)) lc =
 some ((.exit 0),mk (uI (.exit 0)) [.ptr 0 0,.ptr 1 0] ⟨[[.v (I 0),.v (I 0),.v (I 0),.v (I 0)],[.v (I a),.v (I b),.v (I c),.v (I d)]],[true,true],[]⟩):=by kernel_rfl
theorem ee {x v f t:Int} (h1:-2147483648<=x/\x<=2147483648) (h2:-131072<=v/\v<=131072) (h3:-2048<=f/\f<=2048) (h4:0<=t/\t<=2097154):-300000000000<=x+(v+f)*t/\x+(v+f)*t<=300000000000:=by
 have p:=sQ (a:=v+f) (b:=t) (A:=133120) (B:=2097154) (by omega) (by omega) (by omega) (by omega)
 omega
def Bd (a b c d:Int):Prop:=a<=c/\b<=d/\(-310000000000<=a/\c<=310000000000)/\-310000000000<=b/\d<=310000000000
def HU (a b c d:Int):Bool:=decide (a<=c/\b<=d/\(-310000000000<=a/\c<=310000000000)/\-310000000000<=b/\d<=310000000000)
theorem Qf {a b c d:Int}:HU a b c d=true↔Bd a b c d:=decide_eq_true_iff
theorem Bd.bo {a b c d:Int} (h:Bd a b c d):aU a b c d=true:=by
 obtain ⟨h1,h2,h3,h4⟩:=h
 exact zn.2 ⟨iy.2 (by omega),iy.2 (by omega),h1,h2⟩
theorem Bd.of {x y e:Int} (he:0<=e/\e<=2048) (hx:-300000000000<=x/\x<=300000000000) (hy:-300000000000<=y/\y<=300000000000):Bd (x - e) (y - e) (x+e) (y+e):=⟨by omega,by omega,by omega,by omega⟩
theorem Bd.join {a b c d a' b' c' d':Int} (h:Bd a b c d) (h':Bd a' b' c' d'):Bd (mn a a') (mn b b') (mx c c') (mx d d'):=by
 obtain ⟨h1,h2,h3,h4⟩:=h
 obtain ⟨k1,k2,k3,k4⟩:=h'
 have m1:=fw a a'
 have m2:=fw b b'
 have m3:=fE c c'
 have m4:=fE d d'
 exact ⟨by omega,by omega,by omega,by omega⟩
theorem sM {x y e:Int} (he:0<=e/\e<=2048) (hx:-300000000000<=x/\x<=300000000000) (hy:-300000000000<=y/\y<=300000000000):kp x y e=true:=M4.2 ⟨by omega,by omega,by omega⟩
theorem sE {x y vx vy f t:Int} (h:fu x y vx vy=true) (h3:-2048<=f/\f<=2048) (h4:0<=t/\t<=2097154):kg x y vx vy f t=true:=by
 have:=lP.1 h
 exact Mk.2 ⟨by omega,by omega,by omega,by omega,by omega,by omega⟩
def jL (a x v e t:Int):Int:=mn (mn a (x+(v+-e)*t - e)) (x+(v+e)*t - e)
def jH (a x v e t:Int):Int:=mx (mx a (x+(v+-e)*t+e)) (x+(v+e)*t+e)
theorem jBd {a b c d x y vx vy e t:Int} (h:Bd a b c d) (hn:fu x y vx vy=true) (he:0<=e/\e<=2048) (ht:0<=t/\t<=2097154):Bd (jL a x vx e t) (jL b y vy e t) (jH c x vx e t) (jH d y vy e t):=by
 have n:=lP.1 hn
 refine (h.join (Bd.of he (ee n.1 n.2.2.1 (f:=-e) ?_ ht) (ee n.2.1 n.2.2.2 (f:=-e) ?_ ht))).join (Bd.of he (ee n.1 n.2.2.1 (f:=e) ?_ ht) (ee n.2.1 n.2.2.2 (f:=e) ?_ ht))<;>omega
theorem qao (p q x y z vx vy vz a b c d e lo hi:Int) (n:Nat) (h:Bd a b c d) (hn:fu x y vx vy=true) (he:0<=e/\e<=2048) (ht:0<=lo/\lo<=2097154) :
  ao ΓBx prog L0 (ab 0 0 dW) iS (n+1) (mk dW [.v (I e),.ptr 0 0,.ptr 1 0,.ptr 2 0,.v (.agg #[I lo,I hi]),.v (I 0)] (oE p q x y z vx vy vz a b c d)) lc =
  ao ΓBx prog L0 (ab 0 0 dW) iS n (mk dW [.v (I e),.ptr 0 0,.ptr 1 0,.ptr 2 0,.v (.agg #[I lo,I hi]),.v (I 1)] (oE p q x y z vx vy vz (jL a x vx e lo) (jL b y vy e lo) (jH c x vx e lo) (jH d y vy e lo))) lc:=by
 refine (UJ p q x y z vx vy vz a b c d e lo hi n).trans ?_
 have nn:=lP.1 hn
 have q1:=ee nn.1 nn.2.2.1 (f:=-e) (t:=lo) (by omega) ht
 have q2:=ee nn.2.1 nn.2.2.2 (f:=-e) (t:=lo) (by omega) ht
 have q3:=ee nn.1 nn.2.2.1 (f:=e) (t:=lo) (by omega) ht
 have q4:=ee nn.2.1 nn.2.2.2 (f:=e) (t:=lo) (by omega) ht
 have b1:=Bd.of he q1 q2
 have b2:=Bd.of he q3 q4
 rw [show wI (0 - e)=-e by rw [aM (by omega)];omega,sE hn (by omega) ht,sE hn (by omega) ht,sM he q1 q2,sM he q3 q4,h.bo,b1.bo,(h.join b1).bo,b2.bo]
 rfl
theorem qan (p q x y z vx vy vz a b c d e lo hi:Int) (n:Nat) (h:Bd a b c d) (hn:fu x y vx vy=true) (he:0<=e/\e<=2048) (ht:0<=hi/\hi<=2097154) :
  ao ΓBx prog L0 (ab 0 0 dW) iS (n+1) (mk dW [.v (I e),.ptr 0 0,.ptr 1 0,.ptr 2 0,.v (.agg #[I lo,I hi]),.v (I 1)] (oE p q x y z vx vy vz a b c d)) lc =
  ao ΓBx prog L0 (ab 0 0 dW) iS n (mk dW [.v (I e),.ptr 0 0,.ptr 1 0,.ptr 2 0,.v (.agg #[I lo,I hi]),.v (I 2)] (oE p q x y z vx vy vz (jL a x vx e hi) (jL b y vy e hi) (jH c x vx e hi) (jH d y vy e hi))) lc:=by
 refine (UI p q x y z vx vy vz a b c d e lo hi n).trans ?_
 have nn:=lP.1 hn
 have q1:=ee nn.1 nn.2.2.1 (f:=-e) (t:=hi) (by omega) ht
 have q2:=ee nn.2.1 nn.2.2.2 (f:=-e) (t:=hi) (by omega) ht
 have q3:=ee nn.1 nn.2.2.1 (f:=e) (t:=hi) (by omega) ht
 have q4:=ee nn.2.1 nn.2.2.2 (f:=e) (t:=hi) (by omega) ht
 have b1:=Bd.of he q1 q2
 have b2:=Bd.of he q3 q4
 rw [show wI (0 - e)=-e by rw [aM (by omega)];omega,sE hn (by omega) ht,sE hn (by omega) ht,sM he q1 q2,sM he q3 q4,h.bo,b1.bo,(h.join b1).bo,b2.bo]
 rfl
def XIm (a b c d:Int):St:=mk (uI (.exit 0)) [.ptr 0 0,.ptr 1 0] ⟨[[.v (I 0),.v (I 0),.v (I 0),.v (I 0)],[.v (I a),.v (I b),.v (I c),.v (I d)]],[true,true],[]⟩
def JX (vals:List SV) (m:Mem):Option (Bool×Ex×St) :=
 match vals,m with
 | [.v (.int .i64 e),.ptr 0 0,.ptr 1 0,.ptr 2 0,.v (.agg ⟨[.int .i64 lo,.int .i64 hi]⟩),.v (.int .i64 0)],⟨[[.v (.int .i64 p),.v (.int .i64 q),.v (.int .i64 x),.v (.int .i64 y),.v (.int .i64 z),.v (.int .i64 vx),.v (.int .i64 vy),.v (.int .i64 vz)],[.v (.int .i64 0),.v (.int .i64 0),.v (.int .i64 0),.v (.int .i64 0)],[.v (.int .i64 a),.v (.int .i64 b),.v (.int .i64 c),.v (.int .i64 d)]],[true,true,true],[]⟩ =>
  some (HU a b c d&&(fu x y vx vy&&(decide (0<=e/\e<=2048)&&(decide (0<=lo/\lo<=2097154)&&decide (0<=hi/\hi<=2097154)))),.exit 0,XIm (jL (jL a x vx e lo) x vx e hi) (jL (jL b y vy e lo) y vy e hi) (jH (jH c x vx e lo) x vx e hi) (jH (jH d y vy e lo) y vy e hi))
 | _,_=>none
def ΛIm:aV:=fun _ st=>cE 0 0 dW JX st
theorem qcQ (z:Base) (z1:z.L.length=0) (z2:z.U.length=0):aQ ΛIm prog z iS:=by
 refine di (Λ:=L0) (kx:=uI) qZ mixed z1 z2 (fun b hb st t h=>by cases h) (G:=JX) (fun _=>rfl) ?_
 intro vals m e st' h
 unfold JX at h
 split at h
 ·rename_i e lo hi p q x y z vx vy vz a b c d
  obtain ⟨h1,rfl,rfl⟩:=az h
  simp only [Bool.and_eq_true,decide_eq_true_eq] at h1
  obtain ⟨hb,hn,he,hlo,hhi⟩:=h1
  have hB:=Qf.1 hb
  exact ⟨3,((qao p q x y z vx vy vz a b c d e lo hi 2 hB hn he hlo).trans (qan p q x y z vx vy vz _ _ _ _ e lo hi 1 (jBd hB hn he hlo) hn he hhi)).trans (UH p q x y z vx vy vz _ _ _ _ e lo hi 0)⟩
 ·cases h
theorem YK (p q x y z vx vy vz g e:Int):runG ΓBx ΛIm prog f172 [.v (.agg #[I p,I q,I x,I y,I z,I vx,I vy,I vz]),.v (I g),.v (I e)] M0 =
 (bif !(bK z vz g&&decide ((0:Int)<=e/\e<=(2048:Int))) then some (.v (.tuple #[(.agg #[(I 0),(I 0),(I 0),(I 0)]),(Bo false)]),M0) else (bif !fu x y vx vy then some (.v (.tuple #[(.agg #[(I 0),(I 0),(I 0),(I 0)]),(Bo false)]),M0) else (bif kg x y vx vy (0:Int) (bif bK z vz g&&decide ((0:Int)<=e/\e<=(2048:Int)) then bn (z - e) (vz - e) g else (0:Int)) then (bif kp (x+(vx+(0:Int))*bif bK z vz g&&decide ((0:Int)<=e/\e<=(2048:Int)) then bn (z - e) (vz - e) g else (0:Int)) (y+(vy+(0:Int))*bif bK z vz g&&decide ((0:Int)<=e/\e<=(2048:Int)) then bn (z - e) (vz - e) g else (0:Int)) e then (bif HU ((x+(vx+(0:Int))*bif bK z vz g&&decide ((0:Int)<=e/\e<=(2048:Int)) then bn (z - e) (vz - e) g else (0:Int)) - e) ((y+(vy+(0:Int))*bif bK z vz g&&decide ((0:Int)<=e/\e<=(2048:Int)) then bn (z - e) (vz - e) g else (0:Int)) - e) ((x+(vx+(0:Int))*bif bK z vz g&&decide ((0:Int)<=e/\e<=(2048:Int)) then bn (z - e) (vz - e) g else (0:Int))+e) ((y+(vy+(0:Int))*bif bK z vz g&&decide ((0:Int)<=e/\e<=(2048:Int)) then bn (z - e) (vz - e) g else (0:Int))+e)&&(fu x y vx vy&&(decide ((0:Int)<=e/\e<=(2048:Int))&&(decide (((0:Int)<=bif bK z vz g&&decide ((0:Int)<=e/\e<=(2048:Int)) then bn (z - e) (vz - e) g else (0:Int))/\(bif bK z vz g&&decide ((0:Int)<=e/\e<=(2048:Int)) then bn (z - e) (vz - e) g else (0:Int))<=(2097154:Int))&&decide (((0:Int)<=bif bK z vz g&&decide ((0:Int)<=e/\e<=(2048:Int)) then bn (z+e) (vz+e) g+(2:Int) else (0:Int))/\(bif bK z vz g&&decide ((0:Int)<=e/\e<=(2048:Int)) then bn (z+e) (vz+e) g+(2:Int) else (0:Int))<=(2097154:Int))))) then some (.v (.tuple #[(.agg #[(I (jL (jL ((x+(vx+(0:Int))*bif bK z vz g&&decide ((0:Int)<=e/\e<=(2048:Int)) then bn (z - e) (vz - e) g else (0:Int)) - e) x vx e (bif bK z vz g&&decide ((0:Int)<=e/\e<=(2048:Int)) then bn (z - e) (vz - e) g else (0:Int))) x vx e (bif bK z vz g&&decide ((0:Int)<=e/\e<=(2048:Int)) then bn (z+e) (vz+e) g+(2:Int) else (0:Int)))),(I (jL (jL ((y+(vy+(0:Int))*bif bK z vz g&&decide ((0:Int)<=e/\e<=(2048:Int)) then bn (z - e) (vz - e) g else (0:Int)) - e) y vy e (bif bK z vz g&&decide ((0:Int)<=e/\e<=(2048:Int)) then bn (z - e) (vz - e) g else (0:Int))) y vy e (bif bK z vz g&&decide ((0:Int)<=e/\e<=(2048:Int)) then bn (z+e) (vz+e) g+(2:Int) else (0:Int)))),(I (jH (jH ((x+(vx+(0:Int))*bif bK z vz g&&decide ((0:Int)<=e/\e<=(2048:Int)) then bn (z - e) (vz - e) g else (0:Int))+e) x vx e (bif bK z vz g&&decide ((0:Int)<=e/\e<=(2048:Int)) then bn (z - e) (vz - e) g else (0:Int))) x vx e (bif bK z vz g&&decide ((0:Int)<=e/\e<=(2048:Int)) then bn (z+e) (vz+e) g+(2:Int) else (0:Int)))),(I (jH (jH ((y+(vy+(0:Int))*bif bK z vz g&&decide ((0:Int)<=e/\e<=(2048:Int)) then bn (z - e) (vz - e) g else (0:Int))+e) y vy e (bif bK z vz g&&decide ((0:Int)<=e/\e<=(2048:Int)) then bn (z - e) (vz - e) g else (0:Int))) y vy e (bif bK z vz g&&decide ((0:Int)<=e/\e<=(2048:Int)) then bn (z+e) (vz+e) g+(2:Int) else (0:Int))))]),(Bo true)]),M0) else none) else none) else none))):=by kernel_rfl
end Go.Proofs.YtainfdcfkgemhaaGreat.Im
namespace Go.Proofs.YtainfdcfkgemhaaGreat.Im
open Go Go.Proofs Go.Sx
set_option linter.unusedVariables false
def hX (x:Int):Int:=x.tmod 1073741824
def hZ (z:Int):Int:=wI ((BitVec.ofInt 64 z &&& BitVec.ofInt 64 1073741823).toNat:Int)
def hV (v:Int):Int:=v.tmod 65536
def oI (x d e:Int):Int:=wI (x+d.tmod (e+1))
theorem Yx (p:Int) (q:Int) (x:Int) (y:Int) (z:Int) (vx:Int) (vy:Int) (vz:Int):runG ΓBx L0 prog f101 [.v (.agg #[I p,I q,I x,I y,I z,I vx,I vy,I vz])] M0 =
 some (.v (.agg #[(I p),(I q),(I (x.tmod (1073741824:Int))),(I (y.tmod (1073741824:Int))),(I (wI ((BitVec.ofInt (64:Nat) z &&& BitVec.ofInt (64:Nat) (1073741823:Int)).toNat:Int))),(I (vx.tmod (65536:Int))),(I (vy.tmod (65536:Int))),(I (vz.tmod (65536:Int)))]),M0):=by kernel_rfl
def yf (vs:List Value):Option (Bool×Value) :=
 match vs with
 | [.agg ⟨[.int .i64 p,.int .i64 q,.int .i64 x,.int .i64 y,.int .i64 z,.int .i64 vx,.int .i64 vy,.int .i64 vz]⟩]=>some (true,.agg #[I p,I q,I (hX x),I (hX y),I (hZ z),I (hV vx),I (hV vy),I (hV vz)])
 | _=>none
theorem OA:an 101 yf:=by
 intro vs r h
 unfold yf at h
 split at h
 ·rename_i p q x y z vx vy vz
  obtain ⟨h1,rfl⟩:=aa h
  refine am (vs:=[.agg #[I p,I q,I x,I y,I z,I vx,I vy,I vz]]) (Λ:=L0) (m':=M0) qZ func101 rfl af ?_
  exact (Yx p q x y z vx vy vz).trans (rfl)
 ·cases h
def ΓO1:Orc:=ah 101 yf ΓBx
theorem OkO1:ΓO1.Ok prog:=ac qZ OA
theorem Yv (p:Int) (q:Int) (x:Int) (y:Int) (z:Int) (vx:Int) (vy:Int) (vz:Int) (d0:Int) (d1:Int) (d2:Int) (d3:Int) (d4:Int) (d5:Int) (e:Int):runG ΓO1 L0 prog f102 [.v (.agg #[I p,I q,I x,I y,I z,I vx,I vy,I vz]),.v (.agg #[I d0,I d1,I d2,I d3,I d4,I d5]),.v (I e)] M0 =
 (bif wI (e+(1:Int))==(0:Int) then none else (same ((bif wI (e+(1:Int))==(0:Int) then none else (same ((bif wI (e+(1:Int))==(0:Int) then none else (bif wI (e+(1:Int))==(0:Int) then none else (same ((bif wI (e+(1:Int))==(0:Int) then none else (same ((bif wI (e+(1:Int))==(0:Int) then none else some (.v (.agg #[(I p),(I q),(I (wI (x+d0.tmod (wI (e+(1:Int)))))),(I (wI (y+d1.tmod (wI (e+(1:Int)))))),(I (wI (z+d2.tmod (wI (e+(1:Int)))))),(I (wI (vx+d3.tmod (wI (e+(1:Int)))))),(I (wI (vy+d4.tmod (wI (e+(1:Int)))))),(I (wI (vz+d5.tmod (wI (e+(1:Int))))))]),M0))) ((same ((bif wI (e+(1:Int))==(0:Int) then none else some (.v (.agg #[(I p),(I q),(I (wI (x+d0.tmod (wI (e+(1:Int)))))),(I (wI (y+d1.tmod (wI (e+(1:Int)))))),(I (wI (z+d2.tmod (wI (e+(1:Int)))))),(I (wI (vx+d3.tmod (wI (e+(1:Int)))))),(I (wI (vy+d4.tmod (wI (e+(1:Int)))))),(I (wI (vz+d5.tmod (wI (e+(1:Int))))))]),M0))) ((bif wI (e+(1:Int))==(0:Int) then none else some (.v (.agg #[(I p),(I q),(I (wI (x+d0.tmod (wI (e+(1:Int)))))),(I (wI (y+d1.tmod (wI (e+(1:Int)))))),(I (wI (z+d2.tmod (wI (e+(1:Int)))))),(I (wI (vx+d3.tmod (wI (e+(1:Int)))))),(I (wI (vy+d4.tmod (wI (e+(1:Int)))))),(I (wI (vz+d5.tmod (wI (e+(1:Int))))))]),M0)))))))) ((same ((bif wI (e+(1:Int))==(0:Int) then none else (same ((bif wI (e+(1:Int))==(0:Int) then none else some (.v (.agg #[(I p),(I q),(I (wI (x+d0.tmod (wI (e+(1:Int)))))),(I (wI (y+d1.tmod (wI (e+(1:Int)))))),(I (wI (z+d2.tmod (wI (e+(1:Int)))))),(I (wI (vx+d3.tmod (wI (e+(1:Int)))))),(I (wI (vy+d4.tmod (wI (e+(1:Int)))))),(I (wI (vz+d5.tmod (wI (e+(1:Int))))))]),M0))) ((bif wI (e+(1:Int))==(0:Int) then none else some (.v (.agg #[(I p),(I q),(I (wI (x+d0.tmod (wI (e+(1:Int)))))),(I (wI (y+d1.tmod (wI (e+(1:Int)))))),(I (wI (z+d2.tmod (wI (e+(1:Int)))))),(I (wI (vx+d3.tmod (wI (e+(1:Int)))))),(I (wI (vy+d4.tmod (wI (e+(1:Int)))))),(I (wI (vz+d5.tmod (wI (e+(1:Int))))))]),M0)))))) ((bif wI (e+(1:Int))==(0:Int) then none else (same ((bif wI (e+(1:Int))==(0:Int) then none else some (.v (.agg #[(I p),(I q),(I (wI (x+d0.tmod (wI (e+(1:Int)))))),(I (wI (y+d1.tmod (wI (e+(1:Int)))))),(I (wI (z+d2.tmod (wI (e+(1:Int)))))),(I (wI (vx+d3.tmod (wI (e+(1:Int)))))),(I (wI (vy+d4.tmod (wI (e+(1:Int)))))),(I (wI (vz+d5.tmod (wI (e+(1:Int))))))]),M0))) ((bif wI (e+(1:Int))==(0:Int) then none else some (.v (.agg #[(I p),(I q),(I (wI (x+d0.tmod (wI (e+(1:Int)))))),(I (wI (y+d1.tmod (wI (e+(1:Int)))))),(I (wI (z+d2.tmod (wI (e+(1:Int)))))),(I (wI (vx+d3.tmod (wI (e+(1:Int)))))),(I (wI (vy+d4.tmod (wI (e+(1:Int)))))),(I (wI (vz+d5.tmod (wI (e+(1:Int))))))]),M0)))))))))))) ((same ((bif wI (e+(1:Int))==(0:Int) then none else (bif wI (e+(1:Int))==(0:Int) then none else (same ((bif wI (e+(1:Int))==(0:Int) then none else (same ((bif wI (e+(1:Int))==(0:Int) then none else some (.v (.agg #[(I p),(I q),(I (wI (x+d0.tmod (wI (e+(1:Int)))))),(I (wI (y+d1.tmod (wI (e+(1:Int)))))),(I (wI (z+d2.tmod (wI (e+(1:Int)))))),(I (wI (vx+d3.tmod (wI (e+(1:Int)))))),(I (wI (vy+d4.tmod (wI (e+(1:Int)))))),(I (wI (vz+d5.tmod (wI (e+(1:Int))))))]),M0))) ((same ((bif wI (e+(1:Int))==(0:Int) then none else some (.v (.agg #[(I p),(I q),(I (wI (x+d0.tmod (wI (e+(1:Int)))))),(I (wI (y+d1.tmod (wI (e+(1:Int)))))),(I (wI (z+d2.tmod (wI (e+(1:Int)))))),(I (wI (vx+d3.tmod (wI (e+(1:Int)))))),(I (wI (vy+d4.tmod (wI (e+(1:Int)))))),(I (wI (vz+d5.tmod (wI (e+(1:Int))))))]),M0))) ((bif wI (e+(1:Int))==(0:Int) then none else some (.v (.agg #[(I p),(I q),(I (wI (x+d0.tmod (wI (e+(1:Int)))))),(I (wI (y+d1.tmod (wI (e+(1:Int)))))),(I (wI (z+d2.tmod (wI (e+(1:Int)))))),(I (wI (vx+d3.tmod (wI (e+(1:Int)))))),(I (wI (vy+d4.tmod (wI (e+(1:Int)))))),(I (wI (vz+d5.tmod (wI (e+(1:Int))))))]),M0)))))))) ((same ((bif wI (e+(1:Int))==(0:Int) then none else (same ((bif wI (e+(1:Int))==(0:Int) then none else some (.v (.agg #[(I p),(I q),(I (wI (x+d0.tmod (wI (e+(1:Int)))))),(I (wI (y+d1.tmod (wI (e+(1:Int)))))),(I (wI (z+d2.tmod (wI (e+(1:Int)))))),(I (wI (vx+d3.tmod (wI (e+(1:Int)))))),(I (wI (vy+d4.tmod (wI (e+(1:Int)))))),(I (wI (vz+d5.tmod (wI (e+(1:Int))))))]),M0))) ((bif wI (e+(1:Int))==(0:Int) then none else some (.v (.agg #[(I p),(I q),(I (wI (x+d0.tmod (wI (e+(1:Int)))))),(I (wI (y+d1.tmod (wI (e+(1:Int)))))),(I (wI (z+d2.tmod (wI (e+(1:Int)))))),(I (wI (vx+d3.tmod (wI (e+(1:Int)))))),(I (wI (vy+d4.tmod (wI (e+(1:Int)))))),(I (wI (vz+d5.tmod (wI (e+(1:Int))))))]),M0)))))) ((bif wI (e+(1:Int))==(0:Int) then none else (same ((bif wI (e+(1:Int))==(0:Int) then none else some (.v (.agg #[(I p),(I q),(I (wI (x+d0.tmod (wI (e+(1:Int)))))),(I (wI (y+d1.tmod (wI (e+(1:Int)))))),(I (wI (z+d2.tmod (wI (e+(1:Int)))))),(I (wI (vx+d3.tmod (wI (e+(1:Int)))))),(I (wI (vy+d4.tmod (wI (e+(1:Int)))))),(I (wI (vz+d5.tmod (wI (e+(1:Int))))))]),M0))) ((bif wI (e+(1:Int))==(0:Int) then none else some (.v (.agg #[(I p),(I q),(I (wI (x+d0.tmod (wI (e+(1:Int)))))),(I (wI (y+d1.tmod (wI (e+(1:Int)))))),(I (wI (z+d2.tmod (wI (e+(1:Int)))))),(I (wI (vx+d3.tmod (wI (e+(1:Int)))))),(I (wI (vy+d4.tmod (wI (e+(1:Int)))))),(I (wI (vz+d5.tmod (wI (e+(1:Int))))))]),M0)))))))))))) ((bif wI (e+(1:Int))==(0:Int) then none else (bif wI (e+(1:Int))==(0:Int) then none else (same ((bif wI (e+(1:Int))==(0:Int) then none else (same ((bif wI (e+(1:Int))==(0:Int) then none else some (.v (.agg #[(I p),(I q),(I (wI (x+d0.tmod (wI (e+(1:Int)))))),(I (wI (y+d1.tmod (wI (e+(1:Int)))))),(I (wI (z+d2.tmod (wI (e+(1:Int)))))),(I (wI (vx+d3.tmod (wI (e+(1:Int)))))),(I (wI (vy+d4.tmod (wI (e+(1:Int)))))),(I (wI (vz+d5.tmod (wI (e+(1:Int))))))]),M0))) ((same ((bif wI (e+(1:Int))==(0:Int) then none else some (.v (.agg #[(I p),(I q),(I (wI (x+d0.tmod (wI (e+(1:Int)))))),(I (wI (y+d1.tmod (wI (e+(1:Int)))))),(I (wI (z+d2.tmod (wI (e+(1:Int)))))),(I (wI (vx+d3.tmod (wI (e+(1:Int)))))),(I (wI (vy+d4.tmod (wI (e+(1:Int)))))),(I (wI (vz+d5.tmod (wI (e+(1:Int))))))]),M0))) ((bif wI (e+(1:Int))==(0:Int) then none else some (.v (.agg #[(I p),(I q),(I (wI (x+d0.tmod (wI (e+(1:Int)))))),(I (wI (y+d1.tmod (wI (e+(1:Int)))))),(I (wI (z+d2.tmod (wI (e+(1:Int)))))),(I (wI (vx+d3.tmod (wI (e+(1:Int)))))),(I (wI (vy+d4.tmod (wI (e+(1:Int)))))),(I (wI (vz+d5.tmod (wI (e+(1:Int))))))]),M0)))))))) ((same ((bif wI (e+(1:Int))==(0:Int) then none else (same ((bif wI (e+(1:Int))==(0:Int) then none else some (.v (.agg #[(I p),(I q),(I (wI (x+d0.tmod (wI (e+(1:Int)))))),(I (wI (y+d1.tmod (wI (e+(1:Int)))))),(I (wI (z+d2.tmod (wI (e+(1:Int)))))),(I (wI (vx+d3.tmod (wI (e+(1:Int)))))),(I (wI (vy+d4.tmod (wI (e+(1:Int)))))),(I (wI (vz+d5.tmod (wI (e+(1:Int))))))]),M0))) ((bif wI (e+(1:Int))==(0:Int) then none else some (.v (.agg #[(I p),(I q),(I (wI (x+d0.tmod (wI (e+(1:Int)))))),(I (wI (y+d1.tmod (wI (e+(1:Int)))))),(I (wI (z+d2.tmod (wI (e+(1:Int)))))),(I (wI (vx+d3.tmod (wI (e+(1:Int)))))),(I (wI (vy+d4.tmod (wI (e+(1:Int)))))),(I (wI (vz+d5.tmod (wI (e+(1:Int))))))]),M0)))))) ((bif wI (e+(1:Int))==(0:Int) then none else (same ((bif wI (e+(1:Int))==(0:Int) then none else some (.v (.agg #[(I p),(I q),(I (wI (x+d0.tmod (wI (e+(1:Int)))))),(I (wI (y+d1.tmod (wI (e+(1:Int)))))),(I (wI (z+d2.tmod (wI (e+(1:Int)))))),(I (wI (vx+d3.tmod (wI (e+(1:Int)))))),(I (wI (vy+d4.tmod (wI (e+(1:Int)))))),(I (wI (vz+d5.tmod (wI (e+(1:Int))))))]),M0))) ((bif wI (e+(1:Int))==(0:Int) then none else some (.v (.agg #[(I p),(I q),(I (wI (x+d0.tmod (wI (e+(1:Int)))))),(I (wI (y+d1.tmod (wI (e+(1:Int)))))),(I (wI (z+d2.tmod (wI (e+(1:Int)))))),(I (wI (vx+d3.tmod (wI (e+(1:Int)))))),(I (wI (vy+d4.tmod (wI (e+(1:Int)))))),(I (wI (vz+d5.tmod (wI (e+(1:Int))))))]),M0))))))))))))))))) ((same ((bif wI (e+(1:Int))==(0:Int) then none else (same ((bif wI (e+(1:Int))==(0:Int) then none else (bif wI (e+(1:Int))==(0:Int) then none else (same ((bif wI (e+(1:Int))==(0:Int) then none else (same ((bif wI (e+(1:Int))==(0:Int) then none else some (.v (.agg #[(I p),(I q),(I (wI (x+d0.tmod (wI (e+(1:Int)))))),(I (wI (y+d1.tmod (wI (e+(1:Int)))))),(I (wI (z+d2.tmod (wI (e+(1:Int)))))),(I (wI (vx+d3.tmod (wI (e+(1:Int)))))),(I (wI (vy+d4.tmod (wI (e+(1:Int)))))),(I (wI (vz+d5.tmod (wI (e+(1:Int))))))]),M0))) ((same ((bif wI (e+(1:Int))==(0:Int) then none else some (.v (.agg #[(I p),(I q),(I (wI (x+d0.tmod (wI (e+(1:Int)))))),(I (wI (y+d1.tmod (wI (e+(1:Int)))))),(I (wI (z+d2.tmod (wI (e+(1:Int)))))),(I (wI (vx+d3.tmod (wI (e+(1:Int)))))),(I (wI (vy+d4.tmod (wI (e+(1:Int)))))),(I (wI (vz+d5.tmod (wI (e+(1:Int))))))]),M0))) ((bif wI (e+(1:Int))==(0:Int) then none else some (.v (.agg #[(I p),(I q),(I (wI (x+d0.tmod (wI (e+(1:Int)))))),(I (wI (y+d1.tmod (wI (e+(1:Int)))))),(I (wI (z+d2.tmod (wI (e+(1:Int)))))),(I (wI (vx+d3.tmod (wI (e+(1:Int)))))),(I (wI (vy+d4.tmod (wI (e+(1:Int)))))),(I (wI (vz+d5.tmod (wI (e+(1:Int))))))]),M0)))))))) ((same ((bif wI (e+(1:Int))==(0:Int) then none else (same ((bif wI (e+(1:Int))==(0:Int) then none else some (.v (.agg #[(I p),(I q),(I (wI (x+d0.tmod (wI (e+(1:Int)))))),(I (wI (y+d1.tmod (wI (e+(1:Int)))))),(I (wI (z+d2.tmod (wI (e+(1:Int)))))),(I (wI (vx+d3.tmod (wI (e+(1:Int)))))),(I (wI (vy+d4.tmod (wI (e+(1:Int)))))),(I (wI (vz+d5.tmod (wI (e+(1:Int))))))]),M0))) ((bif wI (e+(1:Int))==(0:Int) then none else some (.v (.agg #[(I p),(I q),(I (wI (x+d0.tmod (wI (e+(1:Int)))))),(I (wI (y+d1.tmod (wI (e+(1:Int)))))),(I (wI (z+d2.tmod (wI (e+(1:Int)))))),(I (wI (vx+d3.tmod (wI (e+(1:Int)))))),(I (wI (vy+d4.tmod (wI (e+(1:Int)))))),(I (wI (vz+d5.tmod (wI (e+(1:Int))))))]),M0)))))) ((bif wI (e+(1:Int))==(0:Int) then none else (same ((bif wI (e+(1:Int))==(0:Int) then none else some (.v (.agg #[(I p),(I q),(I (wI (x+d0.tmod (wI (e+(1:Int)))))),(I (wI (y+d1.tmod (wI (e+(1:Int)))))),(I (wI (z+d2.tmod (wI (e+(1:Int)))))),(I (wI (vx+d3.tmod (wI (e+(1:Int)))))),(I (wI (vy+d4.tmod (wI (e+(1:Int)))))),(I (wI (vz+d5.tmod (wI (e+(1:Int))))))]),M0))) ((bif wI (e+(1:Int))==(0:Int) then none else some (.v (.agg #[(I p),(I q),(I (wI (x+d0.tmod (wI (e+(1:Int)))))),(I (wI (y+d1.tmod (wI (e+(1:Int)))))),(I (wI (z+d2.tmod (wI (e+(1:Int)))))),(I (wI (vx+d3.tmod (wI (e+(1:Int)))))),(I (wI (vy+d4.tmod (wI (e+(1:Int)))))),(I (wI (vz+d5.tmod (wI (e+(1:Int))))))]),M0)))))))))))) ((bif wI (e+(1:Int))==(0:Int) then none else (bif wI (e+(1:Int))==(0:Int) then none else (same ((bif wI (e+(1:Int))==(0:Int) then none else (same ((bif wI (e+(1:Int))==(0:Int) then none else some (.v (.agg #[(I p),(I q),(I (wI (x+d0.tmod (wI (e+(1:Int)))))),(I (wI (y+d1.tmod (wI (e+(1:Int)))))),(I (wI (z+d2.tmod (wI (e+(1:Int)))))),(I (wI (vx+d3.tmod (wI (e+(1:Int)))))),(I (wI (vy+d4.tmod (wI (e+(1:Int)))))),(I (wI (vz+d5.tmod (wI (e+(1:Int))))))]),M0))) ((same ((bif wI (e+(1:Int))==(0:Int) then none else some (.v (.agg #[(I p),(I q),(I (wI (x+d0.tmod (wI (e+(1:Int)))))),(I (wI (y+d1.tmod (wI (e+(1:Int)))))),(I (wI (z+d2.tmod (wI (e+(1:Int)))))),(I (wI (vx+d3.tmod (wI (e+(1:Int)))))),(I (wI (vy+d4.tmod (wI (e+(1:Int)))))),(I (wI (vz+d5.tmod (wI (e+(1:Int))))))]),M0))) ((bif wI (e+(1:Int))==(0:Int) then none else some (.v (.agg #[(I p),(I q),(I (wI (x+d0.tmod (wI (e+(1:Int)))))),(I (wI (y+d1.tmod (wI (e+(1:Int)))))),(I (wI (z+d2.tmod (wI (e+(1:Int)))))),(I (wI (vx+d3.tmod (wI (e+(1:Int)))))),(I (wI (vy+d4.tmod (wI (e+(1:Int)))))),(I (wI (vz+d5.tmod (wI (e+(1:Int))))))]),M0)))))))) ((same ((bif wI (e+(1:Int))==(0:Int) then none else (same ((bif wI (e+(1:Int))==(0:Int) then none else some (.v (.agg #[(I p),(I q),(I (wI (x+d0.tmod (wI (e+(1:Int)))))),(I (wI (y+d1.tmod (wI (e+(1:Int)))))),(I (wI (z+d2.tmod (wI (e+(1:Int)))))),(I (wI (vx+d3.tmod (wI (e+(1:Int)))))),(I (wI (vy+d4.tmod (wI (e+(1:Int)))))),(I (wI (vz+d5.tmod (wI (e+(1:Int))))))]),M0))) ((bif wI (e+(1:Int))==(0:Int) then none else some (.v (.agg #[(I p),(I q),(I (wI (x+d0.tmod (wI (e+(1:Int)))))),(I (wI (y+d1.tmod (wI (e+(1:Int)))))),(I (wI (z+d2.tmod (wI (e+(1:Int)))))),(I (wI (vx+d3.tmod (wI (e+(1:Int)))))),(I (wI (vy+d4.tmod (wI (e+(1:Int)))))),(I (wI (vz+d5.tmod (wI (e+(1:Int))))))]),M0)))))) ((bif wI (e+(1:Int))==(0:Int) then none else (same ((bif wI (e+(1:Int))==(0:Int) then none else some (.v (.agg #[(I p),(I q),(I (wI (x+d0.tmod (wI (e+(1:Int)))))),(I (wI (y+d1.tmod (wI (e+(1:Int)))))),(I (wI (z+d2.tmod (wI (e+(1:Int)))))),(I (wI (vx+d3.tmod (wI (e+(1:Int)))))),(I (wI (vy+d4.tmod (wI (e+(1:Int)))))),(I (wI (vz+d5.tmod (wI (e+(1:Int))))))]),M0))) ((bif wI (e+(1:Int))==(0:Int) then none else some (.v (.agg #[(I p),(I q),(I (wI (x+d0.tmod (wI (e+(1:Int)))))),(I (wI (y+d1.tmod (wI (e+(1:Int)))))),(I (wI (z+d2.tmod (wI (e+(1:Int)))))),(I (wI (vx+d3.tmod (wI (e+(1:Int)))))),(I (wI (vy+d4.tmod (wI (e+(1:Int)))))),(I (wI (vz+d5.tmod (wI (e+(1:Int))))))]),M0))))))))))))))) ((bif wI (e+(1:Int))==(0:Int) then none else (same ((bif wI (e+(1:Int))==(0:Int) then none else (bif wI (e+(1:Int))==(0:Int) then none else (same ((bif wI (e+(1:Int))==(0:Int) then none else (same ((bif wI (e+(1:Int))==(0:Int) then none else some (.v (.agg #[(I p),(I q),(I (wI (x+d0.tmod (wI (e+(1:Int)))))),(I (wI (y+d1.tmod (wI (e+(1:Int)))))),(I (wI (z+d2.tmod (wI (e+(1:Int)))))),(I (wI (vx+d3.tmod (wI (e+(1:Int)))))),(I (wI (vy+d4.tmod (wI (e+(1:Int)))))),(I (wI (vz+d5.tmod (wI (e+(1:Int))))))]),M0))) ((same ((bif wI (e+(1:Int))==(0:Int) then none else some (.v (.agg #[(I p),(I q),(I (wI (x+d0.tmod (wI (e+(1:Int)))))),(I (wI (y+d1.tmod (wI (e+(1:Int)))))),(I (wI (z+d2.tmod (wI (e+(1:Int)))))),(I (wI (vx+d3.tmod (wI (e+(1:Int)))))),(I (wI (vy+d4.tmod (wI (e+(1:Int)))))),(I (wI (vz+d5.tmod (wI (e+(1:Int))))))]),M0))) ((bif wI (e+(1:Int))==(0:Int) then none else some (.v (.agg #[(I p),(I q),(I (wI (x+d0.tmod (wI (e+(1:Int)))))),(I (wI (y+d1.tmod (wI (e+(1:Int)))))),(I (wI (z+d2.tmod (wI (e+(1:Int)))))),(I (wI (vx+d3.tmod (wI (e+(1:Int)))))),(I (wI (vy+d4.tmod (wI (e+(1:Int)))))),(I (wI (vz+d5.tmod (wI (e+(1:Int))))))]),M0)))))))) ((same ((bif wI (e+(1:Int))==(0:Int) then none else (same ((bif wI (e+(1:Int))==(0:Int) then none else some (.v (.agg #[(I p),(I q),(I (wI (x+d0.tmod (wI (e+(1:Int)))))),(I (wI (y+d1.tmod (wI (e+(1:Int)))))),(I (wI (z+d2.tmod (wI (e+(1:Int)))))),(I (wI (vx+d3.tmod (wI (e+(1:Int)))))),(I (wI (vy+d4.tmod (wI (e+(1:Int)))))),(I (wI (vz+d5.tmod (wI (e+(1:Int))))))]),M0))) ((bif wI (e+(1:Int))==(0:Int) then none else some (.v (.agg #[(I p),(I q),(I (wI (x+d0.tmod (wI (e+(1:Int)))))),(I (wI (y+d1.tmod (wI (e+(1:Int)))))),(I (wI (z+d2.tmod (wI (e+(1:Int)))))),(I (wI (vx+d3.tmod (wI (e+(1:Int)))))),(I (wI (vy+d4.tmod (wI (e+(1:Int)))))),(I (wI (vz+d5.tmod (wI (e+(1:Int))))))]),M0)))))) ((bif wI (e+(1:Int))==(0:Int) then none else (same ((bif wI (e+(1:Int))==(0:Int) then none else some (.v (.agg #[(I p),(I q),(I (wI (x+d0.tmod (wI (e+(1:Int)))))),(I (wI (y+d1.tmod (wI (e+(1:Int)))))),(I (wI (z+d2.tmod (wI (e+(1:Int)))))),(I (wI (vx+d3.tmod (wI (e+(1:Int)))))),(I (wI (vy+d4.tmod (wI (e+(1:Int)))))),(I (wI (vz+d5.tmod (wI (e+(1:Int))))))]),M0))) ((bif wI (e+(1:Int))==(0:Int) then none else some (.v (.agg #[(I p),(I q),(I (wI (x+d0.tmod (wI (e+(1:Int)))))),(I (wI (y+d1.tmod (wI (e+(1:Int)))))),(I (wI (z+d2.tmod (wI (e+(1:Int)))))),(I (wI (vx+d3.tmod (wI (e+(1:Int)))))),(I (wI (vy+d4.tmod (wI (e+(1:Int)))))),(I (wI (vz+d5.tmod (wI (e+(1:Int))))))]),M0)))))))))))) ((bif wI (e+(1:Int))==(0:Int) then none else (bif wI (e+(1:Int))==(0:Int) then none else (same ((bif wI (e+(1:Int))==(0:Int) then none else (same ((bif wI (e+(1:Int))==(0:Int) then none else some (.v (.agg #[(I p),(I q),(I (wI (x+d0.tmod (wI (e+(1:Int)))))),(I (wI (y+d1.tmod (wI (e+(1:Int)))))),(I (wI (z+d2.tmod (wI (e+(1:Int)))))),(I (wI (vx+d3.tmod (wI (e+(1:Int)))))),(I (wI (vy+d4.tmod (wI (e+(1:Int)))))),(I (wI (vz+d5.tmod (wI (e+(1:Int))))))]),M0))) ((same ((bif wI (e+(1:Int))==(0:Int) then none else some (.v (.agg #[(I p),(I q),(I (wI (x+d0.tmod (wI (e+(1:Int)))))),(I (wI (y+d1.tmod (wI (e+(1:Int)))))),(I (wI (z+d2.tmod (wI (e+(1:Int)))))),(I (wI (vx+d3.tmod (wI (e+(1:Int)))))),(I (wI (vy+d4.tmod (wI (e+(1:Int)))))),(I (wI (vz+d5.tmod (wI (e+(1:Int))))))]),M0))) ((bif wI (e+(1:Int))==(0:Int) then none else some (.v (.agg #[(I p),(I q),(I (wI (x+d0.tmod (wI (e+(1:Int)))))),(I (wI (y+d1.tmod (wI (e+(1:Int)))))),(I (wI (z+d2.tmod (wI (e+(1:Int)))))),(I (wI (vx+d3.tmod (wI (e+(1:Int)))))),(I (wI (vy+d4.tmod (wI (e+(1:Int)))))),(I (wI (vz+d5.tmod (wI (e+(1:Int))))))]),M0)))))))) ((same ((bif wI (e+(1:Int))==(0:Int) then none else (same ((bif wI (e+(1:Int))==(0:Int) then none else some (.v (.agg #[(I p),(I q),(I (wI (x+d0.tmod (wI (e+(1:Int)))))),(I (wI (y+d1.tmod (wI (e+(1:Int)))))),(I (wI (z+d2.tmod (wI (e+(1:Int)))))),(I (wI (vx+d3.tmod (wI (e+(1:Int)))))),(I (wI (vy+d4.tmod (wI (e+(1:Int)))))),(I (wI (vz+d5.tmod (wI (e+(1:Int))))))]),M0))) ((bif wI (e+(1:Int))==(0:Int) then none else some (.v (.agg #[(I p),(I q),(I (wI (x+d0.tmod (wI (e+(1:Int)))))),(I (wI (y+d1.tmod (wI (e+(1:Int)))))),(I (wI (z+d2.tmod (wI (e+(1:Int)))))),(I (wI (vx+d3.tmod (wI (e+(1:Int)))))),(I (wI (vy+d4.tmod (wI (e+(1:Int)))))),(I (wI (vz+d5.tmod (wI (e+(1:Int))))))]),M0)))))) ((bif wI (e+(1:Int))==(0:Int) then none else (same ((bif wI (e+(1:Int))==(0:Int) then none else some (.v (.agg #[(I p),(I q),(I (wI (x+d0.tmod (wI (e+(1:Int)))))),(I (wI (y+d1.tmod (wI (e+(1:Int)))))),(I (wI (z+d2.tmod (wI (e+(1:Int)))))),(I (wI (vx+d3.tmod (wI (e+(1:Int)))))),(I (wI (vy+d4.tmod (wI (e+(1:Int)))))),(I (wI (vz+d5.tmod (wI (e+(1:Int))))))]),M0))) ((bif wI (e+(1:Int))==(0:Int) then none else some (.v (.agg #[(I p),(I q),(I (wI (x+d0.tmod (wI (e+(1:Int)))))),(I (wI (y+d1.tmod (wI (e+(1:Int)))))),(I (wI (z+d2.tmod (wI (e+(1:Int)))))),(I (wI (vx+d3.tmod (wI (e+(1:Int)))))),(I (wI (vy+d4.tmod (wI (e+(1:Int)))))),(I (wI (vz+d5.tmod (wI (e+(1:Int))))))]),M0))))))))))))))))))):=by kernel_rfl
def FI (vs:List Value):Option (Bool×Value) :=
 match vs with
 | [.agg ⟨[.int .i64 p,.int .i64 q,.int .i64 x,.int .i64 y,.int .i64 z,.int .i64 vx,.int .i64 vy,.int .i64 vz]⟩,.agg ⟨[.int .i64 d0,.int .i64 d1,.int .i64 d2,.int .i64 d3,.int .i64 d4,.int .i64 d5]⟩,.int .i64 e]=>some (decide (0<=e/\e<=4096),.agg #[I p,I q,I (oI x d0 e),I (oI y d1 e),I (oI z d2 e),I (oI vx d3 e),I (oI vy d4 e),I (oI vz d5 e)])
 | _=>none
theorem qfE:an 102 FI:=by
 intro vs r h
 unfold FI at h
 split at h
 ·rename_i p q x y z vx vy vz d0 d1 d2 d3 d4 d5 e
  obtain ⟨h1,rfl⟩:=aa h
  refine am (vs:=[.agg #[I p,I q,I x,I y,I z,I vx,I vy,I vz],.agg #[I d0,I d1,I d2,I d3,I d4,I d5],I e]) (Λ:=L0) (m':=M0) OkO1 func102 rfl af ?_
  exact (Yv p q x y z vx vy vz d0 d1 d2 d3 d4 d5 e).trans (by
   have he:0<=e/\e<=4096:=of_decide_eq_true h1
   rw [aM (n:=e+1) (by omega),beq_eq_false_iff_ne.2 (show e+1≠0 by omega)]
   simp only [fY,cond_false]
   rfl)
 ·cases h
end Go.Proofs.YtainfdcfkgemhaaGreat.Im
namespace Go.Proofs.YtainfdcfkgemhaaGreat.Im
open Go Go.Proofs Go.Sx
set_option linter.unusedVariables false
def bM (z vz g e:Int):Int:=bn (z - e) (vz - e) g
def bQ (z vz g e:Int):Int:=bn (z+e) (vz+e) g+2
def cY (x y z vx vy vz g e:Int):Bool:=(bK z vz g&&decide (0<=e/\e<=2048))&&fu x y vx vy
def cZ (x v e a b:Int):Int:=x - e+iD v e a b
def c7 (x v e a b:Int):Int:=x+e+iz v e a b
theorem tj {x y z vx vy vz g e:Int}:cY x y z vx vy vz g e=true↔(bK z vz g=true/\0<=e/\e<=2048)/\fu x y vx vy=true:=by
 unfold cY
 simp only [Bool.and_eq_true,decide_eq_true_eq]
theorem Br {z vz g e:Int} (h:bK z vz g=true) (he:0<=e/\e<=2048):(0<=bM z vz g e/\bM z vz g e<=2097154)/\(0<=bQ z vz g e/\bQ z vz g e<=2097154)/\bM z vz g e+2<=bQ z vz g e:=by
 have k1:dj (z - e) (vz - e) g=true:=by rw [Int.sub_eq_add_neg,Int.sub_eq_add_neg];exact lZ h (by omega) (by omega) (by omega) (by omega)
 have k2:dj (z+e) (vz+e) g=true:=lZ h (by omega) (by omega) (by omega) (by omega)
 have a1:=oT k1
 have a2:=vg k1
 have a3:=oT k2
 have a4:=vg k2
 have a5:=Bm k1 k2 (by omega) (by omega)
 unfold bM bQ
 omega
theorem jj (x v:Int) {e a b:Int} (he:0<=e) (hab:a<=b):jL (jL (x+(v+0)*a - e) x v e a) x v e b=cZ x v e a b/\jH (jH (x+(v+0)*a+e) x v e a) x v e b=c7 x v e a b:=by
 have:=qdd x v he hab
 unfold jL jH cZ c7
 rw [Int.add_zero]
 exact this
theorem P4 {x v e a b:Int} (h1:-2147483648<=x/\x<=2147483648) (h2:-131072<=v/\v<=131072) (he:0<=e/\e<=2048) (h3:0<=a/\a<=2097154) (h4:0<=b/\b<=2097154):-320000000000<=cZ x v e a b/\c7 x v e a b<=320000000000:=by
 have p1:=ee h1 h2 (f:=-e) (t:=a) (by omega) h3
 have p2:=ee h1 h2 (f:=-e) (t:=b) (by omega) h4
 have p3:=ee h1 h2 (f:=e) (t:=a) (by omega) h3
 have p4:=ee h1 h2 (f:=e) (t:=b) (by omega) h4
 rw [show v+-e=v - e by omega] at p1 p2
 have m1:=Nd v e a b
 have m2:=Nb v e a b
 unfold cZ c7
 omega
theorem P5 {x v e a b w t k:Int} (h1:v - e<=w) (h2:w<=v+e) (h3:a<=t) (h4:t<=b) (h5:x - e<=k) (h6:k<=x+e):cZ x v e a b<=k+w*t/\k+w*t<=c7 x v e a b:=by
 have:=qI h1 h2 h3 h4
 unfold cZ c7
 omega
def iK (x y z vx vy vz g e:Int):Int:=bif cY x y z vx vy vz g e then cZ x vx e (bM z vz g e) (bQ z vz g e) else 0
def iJ (x y z vx vy vz g e:Int):Int:=bif cY x y z vx vy vz g e then cZ y vy e (bM z vz g e) (bQ z vz g e) else 0
def jK (x y z vx vy vz g e:Int):Int:=bif cY x y z vx vy vz g e then c7 x vx e (bM z vz g e) (bQ z vz g e) else 0
def jJ (x y z vx vy vz g e:Int):Int:=bif cY x y z vx vy vz g e then c7 y vy e (bM z vz g e) (bQ z vz g e) else 0
def FV (vs:List Value):Option (Bool×Value) :=
 match vs with
 | [.agg ⟨[.int .i64 p,.int .i64 q,.int .i64 x,.int .i64 y,.int .i64 z,.int .i64 vx,.int .i64 vy,.int .i64 vz]⟩,.int .i64 g,.int .i64 e]=>some (true,.tuple #[.agg #[I (iK x y z vx vy vz g e),I (iJ x y z vx vy vz g e),I (jK x y z vx vy vz g e),I (jJ x y z vx vy vz g e)],Bo (cY x y z vx vy vz g e)])
 | _=>none
theorem qfQ:an 172 FV:=by
 intro vs r h
 unfold FV at h
 split at h
 ·rename_i p q x y z vx vy vz g e
  obtain ⟨_,rfl⟩:=aa h
  refine am (vs:=[.agg #[I p,I q,I x,I y,I z,I vx,I vy,I vz],I g,I e]) (Λ:=ΛIm) (m':=M0) qZ func172 rfl (fun z z1 z2=>bW (c:=f172.body.getD .skip) qb7 (qcQ z z1 z2)) ?_
  refine (YK p q x y z vx vy vz g e).trans ?_
  unfold iK iJ jK jJ cY
  cases h1:bK z vz g&&decide (0<=e/\e<=2048)
  ·rfl
  ·cases h2:fu x y vx vy
   ·rfl
   ·have h1':=h1
    simp only [Bool.and_eq_true,decide_eq_true_eq] at h1'
    obtain ⟨t1,t2,t3⟩:=Br h1'.1 h1'.2
    have nn:=lP.1 h2
    have q1:=ee nn.1 nn.2.2.1 (f:=0) (t:=bM z vz g e) (by omega) t1
    have q2:=ee nn.2.1 nn.2.2.2 (f:=0) (t:=bM z vz g e) (by omega) t1
    obtain ⟨j1,j2⟩:=jj x vx h1'.2.1 (a:=bM z vz g e) (b:=bQ z vz g e) (by omega)
    obtain ⟨j3,j4⟩:=jj y vy h1'.2.1 (a:=bM z vz g e) (b:=bQ z vz g e) (by omega)
    simp only [Bool.not_true,cond_true,cond_false,Bool.and_self]
    rw [show bn (z - e) (vz - e) g=bM z vz g e from rfl,show bn (z+e) (vz+e) g+2=bQ z vz g e from rfl,sE h2 (by omega) t1,sM h1'.2 q1 q2,Qf.2 (Bd.of h1'.2 q1 q2),decide_eq_true h1'.2,decide_eq_true t1,decide_eq_true t2,j1,j2,j3,j4]
    rfl
 ·cases h
end Go.Proofs.YtainfdcfkgemhaaGreat.Im
namespace Go.Proofs.YtainfdcfkgemhaaGreat.Im
open Go Go.Proofs Go.Sx
set_option linter.unusedVariables false
theorem N9 (x:Int):-1073741824<hX x/\hX x<1073741824:=Bn x 1073741824 (by decide)
theorem qdx (z:Int):0<=hZ z/\hZ z<=1073741823:=andB z 1073741823 (by decide) (by decide)
theorem Dm (v:Int):-65536<hV v/\hV v<65536:=Bn v 65536 (by decide)
theorem pG {x d e:Int} (hx:-2147483648<=x/\x<=2147483648) (he:0<=e/\e<=4096):x - e<=oI x d e/\oI x d e<=x+e:=by
 have:=Bn d (e+1) (by omega)
 unfold oI
 rw [aM (by omega)]
 omega
theorem qh9 {X Y VX VY E lo hi:Int} (hn:fu X Y VX VY=true) (he:0<=E/\E<=2048) (h3:0<=lo/\lo<=2097154) (h4:0<=hi/\hi<=2097154) (hl:lo<=hi) :
  aU (cZ X VX E lo hi) (cZ Y VY E lo hi) (c7 X VX E lo hi) (c7 Y VY E lo hi)=true:=by
 have n:=lP.1 hn
 have b1:=P4 n.1 n.2.2.1 he h3 h4
 have b2:=P4 n.2.1 n.2.2.2 he h3 h4
 have c1:=P5 (x:=X) (v:=VX) (e:=E) (a:=lo) (b:=hi) (w:=VX) (t:=lo) (k:=X) (by omega) (by omega) (by omega) (by omega) (by omega) (by omega)
 have c2:=P5 (x:=Y) (v:=VY) (e:=E) (a:=lo) (b:=hi) (w:=VY) (t:=lo) (k:=Y) (by omega) (by omega) (by omega) (by omega) (by omega) (by omega)
 exact zn.2 ⟨iy.2 (by omega),iy.2 (by omega),by omega,by omega⟩
theorem N7 {x y z vx vy vz g e:Int} (h:cY x y z vx vy vz g e=true):iK x y z vx vy vz g e=cZ x vx e (bM z vz g e) (bQ z vz g e)/\iJ x y z vx vy vz g e=cZ y vy e (bM z vz g e) (bQ z vz g e)/\jK x y z vx vy vz g e=c7 x vx e (bM z vz g e) (bQ z vz g e)/\jJ x y z vx vy vz g e=c7 y vy e (bM z vz g e) (bQ z vz g e):=by
 unfold iK iJ jK jJ
 rw [h]
 exact ⟨rfl,rfl,rfl,rfl⟩
theorem N5 {x y z vx vy vz g e:Int} (h1:-2147483648<=x/\x<=2147483648) (h2:-2147483648<=y/\y<=2147483648) (h3:-2147483648<=z/\z<=2147483648) (h4:-131072<=vx/\vx<=131072) (h5:-131072<=vy/\vy<=131072) (h6:-131072<=vz/\vz<=131072) (h7:1<=g/\g<=100) (h8:0<=e/\e<=2048):cY x y z vx vy vz g e=true :=
 tj.2 ⟨⟨yw.2 (by omega),h8⟩,lP.2 ⟨h1,h2,h4,h5⟩⟩
theorem P3 {x v e a b x' v' e' a' b':Int} (he:0<=e) (h1:x' - e'<=x - e) (h2:x+e<=x'+e') (h3:v' - e'<=v - e) (h4:v+e<=v'+e') (h5:a'<=a) (h6:a<=b) (h7:b<=b'):cZ x' v' e' a' b'<=cZ x v e a b/\c7 x v e a b<=c7 x' v' e' a' b':=by
 have:=qbu he h3 h4 h5 h6 h7
 unfold cZ c7
 omega
theorem T6 {z w g e z' w' e':Int} (h:bK z w g=true) (he:0<=e/\e<=2048) (h':bK z' w' g=true) (he':0<=e'/\e'<=2048) (h1:z' - e'<=z - e) (h2:z+e<=z'+e') (h3:w' - e'<=w - e) (h4:w+e<=w'+e'):bM z' w' g e'<=bM z w g e/\bQ z w g e<=bQ z' w' g e':=by
 have k1:dj (z - e) (w - e) g=true:=by rw [Int.sub_eq_add_neg,Int.sub_eq_add_neg];exact lZ h (by omega) (by omega) (by omega) (by omega)
 have k2:dj (z+e) (w+e) g=true:=lZ h (by omega) (by omega) (by omega) (by omega)
 have k3:dj (z' - e') (w' - e') g=true:=by rw [Int.sub_eq_add_neg,Int.sub_eq_add_neg];exact lZ h' (by omega) (by omega) (by omega) (by omega)
 have k4:dj (z'+e') (w'+e') g=true:=lZ h' (by omega) (by omega) (by omega) (by omega)
 have m1:=Bm k3 k1 h1 h3
 have m2:=Bm k2 k4 h2 h4
 unfold bM bQ
 omega
theorem qdr {x y z u v w g e x' y' z' u' v' w' e':Int} (h:cY x y z u v w g e=true) (h':cY x' y' z' u' v' w' g e'=true) (hx:x' - e'<=x - e/\x+e<=x'+e') (hy:y' - e'<=y - e/\y+e<=y'+e') (hz:z' - e'<=z - e/\z+e<=z'+e') (hu:u' - e'<=u - e/\u+e<=u'+e') (hv:v' - e'<=v - e/\v+e<=v'+e') (hw:w' - e'<=w - e/\w+e<=w'+e') :
  (cZ x' u' e' (bM z' w' g e') (bQ z' w' g e')<=cZ x u e (bM z w g e) (bQ z w g e)/\c7 x u e (bM z w g e) (bQ z w g e)<=c7 x' u' e' (bM z' w' g e') (bQ z' w' g e'))/\cZ y' v' e' (bM z' w' g e') (bQ z' w' g e')<=cZ y v e (bM z w g e) (bQ z w g e)/\c7 y v e (bM z w g e) (bQ z w g e)<=c7 y' v' e' (bM z' w' g e') (bQ z' w' g e'):=by
 obtain ⟨⟨hf,he⟩,hn⟩:=tj.1 h
 obtain ⟨⟨hf',he'⟩,hn'⟩:=tj.1 h'
 obtain ⟨t1,t2,t3⟩:=Br hf he
 obtain ⟨s1,s2⟩:=T6 hf he hf' he' hz.1 hz.2 hw.1 hw.2
 exact ⟨P3 he.1 hx.1 hx.2 hu.1 hu.2 s1 (by omega) s2,P3 he.1 hy.1 hy.2 hv.1 hv.2 s1 (by omega) s2⟩
theorem N4 {x y z u v w g e:Int} (h:cY x y z u v w g e=true):aU (cZ x u e (bM z w g e) (bQ z w g e)) (cZ y v e (bM z w g e) (bQ z w g e)) (c7 x u e (bM z w g e) (bQ z w g e)) (c7 y v e (bM z w g e) (bQ z w g e))=true:=by
 obtain ⟨⟨hf,he⟩,hn⟩:=tj.1 h
 obtain ⟨t1,t2,t3⟩:=Br hf he
 exact qh9 hn he t1 t2 (by omega)
theorem qap {L:List (List Dat)} {a b c d m1 m2 n1 n2:Int} (ha:cM L=true) (hb:aU a b c d=true) (hs:aU m1 m2 n1 n2=true) (hm:∀ k,0<=k->k<(L.length:Int)->er a b c d L k=false) (h1:a<=m1) (h2:b<=m2) (h3:n1<=c) (h4:n2<=d):∀ k,0<=k->k<(L.length:Int)->er m1 m2 n1 n2 L k=false:=by
 intro k k0 k1
 have h:=C9 ha
 have n:=gU h k0 k1
 obtain ⟨b1,b2,b3,b4⟩:=zm hs
 have p0:=h.pl k k0 k1
 have p1:=h.pl _ n.1 n.2
 have e:=hm k k0 k1
 have w:∀ {u1 u2 v1 v2:Int},a<=u1/\u1<=c/\b<=u2/\u2<=d->a<=v1/\v1<=c/\b<=v2/\v2<=d->ch (pX L k) (pY L k) (pX L (nx L k)) (pY L (nx L k)) u1 u2 v1 v2=false:=fun hu hv=>by
  rw [Nn]
  exact PX ha hb hm hu hv k k0 k1
 unfold er pP at e ⊢
 rw [hb,p0,p1] at e
 rw [hs,p0,p1]
 simp only [Bool.true_and,Bool.or_eq_false_iff] at e ⊢
 refine ⟨?_,?_⟩
 ·cases hh:gX m1 m2 n1 n2 (pX L k) (pY L k)
  ·rfl
  ·have i:=(Dk hs p0).1 hh
   have:=(Dk hb p0).2 ⟨by omega,by omega,by omega,by omega⟩
   rw [this] at e
   cases e.1
 ·unfold nr
  rw [w (u1:=m1) (u2:=m2) (v1:=n1) (v2:=m2) (by omega) (by omega),w (u1:=n1) (u2:=m2) (v1:=n1) (v2:=n2) (by omega) (by omega),w (u1:=n1) (u2:=n2) (v1:=m1) (v2:=n2) (by omega) (by omega),w (u1:=m1) (u2:=n2) (v1:=m1) (v2:=m2) (by omega) (by omega)]
  rfl
theorem Mf {L:List (List Dat)} {a b c d:Int} (ha:cM L=true) (hb:aU a b c d=true) (hm:∀ k,0<=k->k<(L.length:Int)->er a b c d L k=false):iv a b c d L=eJ L a b:=by
 unfold iv
 rw [hb,ha,uh.2 fun i h1 h2=>hm i h1 (by omega)]
 rfl
theorem U2 {L:List (List Dat)} {a b c d u1 u2:Int} (ha:cM L=true) (hb:aU a b c d=true) (hm:∀ k,0<=k->k<(L.length:Int)->er a b c d L k=false) (hu:a<=u1/\u1<=c/\b<=u2/\u2<=d):eJ L u1 u2=eJ L a b:=by
 obtain ⟨b1,b2,b3,b4⟩:=zm hb
 have pu:plR u1 u2=true:=by rw [iy] at b1 b2 ⊢;omega
 exact (uN ha b1 pu (PX ha hb hm ⟨Int.le_refl a,b3,Int.le_refl b,b4⟩ hu)).1.symm
end Go.Proofs.YtainfdcfkgemhaaGreat.Im
namespace Go.Proofs.YtainfdcfkgemhaaGreat.Im
open Go Go.Proofs Go.Sx
set_option linter.unusedVariables false
def Γe0:Orc:=ah 172 FV ΓA13
theorem Rc:Γe0.Ok prog:=ac mC qfQ
def aP (v:Int):Int:=bif decide (v<0) then -v else v
theorem kX (v:Int):(0<=v/\aP v=v)\/(v<0/\aP v=-v):=by
 unfold aP
 by_cases h:v<0
 ·rw [decide_eq_true h];exact .inr ⟨h,rfl⟩
 ·rw [decide_eq_false h];exact .inl ⟨by omega,rfl⟩
def gt (a:Int):Bool:=decide (-2199023255552<=a/\a<=2199023255552)
def m2 (a b:Int):Int:=if aP b>aP a then aP b else aP a
def m3 (a b c:Int):Int:=if aP c>m2 a b then aP c else m2 a b
theorem CI (a b c:Int):aP a<=m3 a b c/\aP b<=m3 a b c/\aP c<=m3 a b c/\(m3 a b c=aP a\/m3 a b c=aP b\/m3 a b c=aP c):=by
 unfold m3 m2
 split<;>split at *<;>(try split at *)<;>omega
def ek (f m e:Int):Int:=bif decide (f>m+e) then -1 else bif decide (f<=m - e) then 1 else 0
theorem Vy (v:Int):runG Γe0 L0 prog f227 [.v (I v)] M0 =
 (bif decide (v<(0:Int)) then some (.v (.int .u64 (IntKind.u64.wrap ((0:Int) - IntKind.u64.wrap v))),M0) else some (.v (.int .u64 (IntKind.u64.wrap v)),M0)):=by kernel_rfl
def Dz (vs:List Value):Option (Bool×Value) :=
 match vs with
 | [.int .i64 v]=>some (gt v,.int .u64 (aP v))
 | _=>none
theorem qdM:an 227 Dz:=by
 intro vs r h
 unfold Dz at h
 split at h
 ·rename_i v
  obtain ⟨h1,rfl⟩:=aa h
  refine am (vs:=[I v]) (Λ:=L0) (m':=M0) Rc func227 rfl af ?_
  exact (Vy v).trans (by
   have h:-2199023255552<=v/\v<=2199023255552:=of_decide_eq_true h1
   unfold aP
   by_cases hv:v<0
   ·rw [decide_eq_true hv,wrU,wrU,show ((0:Int) - v % 18446744073709551616) % 18446744073709551616=-v by omega]
    rfl
   ·rw [decide_eq_false hv,j7 (n:=v) (by omega)]
    rfl)
 ·cases h
def Γe1:Orc:=ah 227 Dz Γe0
theorem Rb:Γe1.Ok prog:=ac Rc qdM
theorem VB (n:Int) (a:Int) (b:Int):runG Γe1 L0 prog f228 [.v (.int .u64 n),.v (I a),.v (I b)] M0 =
 (bif bd a&&bd b then (bif decide (je (a+b)<(0:Int)) then some (.v (Bo true),M0) else (bif !bd (a+b) then (bif decide (a<(0:Int)) then some (.v (Bo true),M0) else some (.v (Bo (decide (n>IntKind.u64.wrap (IntKind.u64.wrap a+IntKind.u64.wrap b)))),M0)) else some (.v (Bo (decide (n>IntKind.u64.wrap (IntKind.u64.wrap a+IntKind.u64.wrap b)))),M0))) else none):=by kernel_rfl
def DB (vs:List Value):Option (Bool×Value) :=
 match vs with
 | [.int .u64 n,.int .i64 a,.int .i64 b]=>some (decide (0<=n/\n<=4398046511104)&&(decide (0<=a/\a<=2199023255552)&&decide (0<=b/\b<=2199023255552)),Bo (decide (n>a+b)))
 | _=>none
theorem qdO:an 228 DB:=by
 intro vs r h
 unfold DB at h
 split at h
 ·rename_i n a b
  obtain ⟨h1,rfl⟩:=aa h
  refine am (vs:=[.int .u64 n,I a,I b]) (Λ:=L0) (m':=M0) Rb func228 rfl af ?_
  exact (VB n a b).trans (by
   simp only [Bool.and_eq_true,decide_eq_true_eq] at h1
   obtain ⟨h1,h2,h3⟩:=h1
   have i:=dX.2 (show -9223372036854775808<=a+b/\a+b<9223372036854775808 by omega)
   rw [dX.2 (show -9223372036854775808<=a/\a<9223372036854775808 by omega),dX.2 (show -9223372036854775808<=b/\b<9223372036854775808 by omega),i,show je (a+b)=a+b by unfold je;rw [i];rfl,decide_eq_false (show ¬ a+b<0 by omega),j7 (n:=a) (by omega),j7 (n:=b) (by omega),j7 (n:=a+b) (by omega)]
   rfl)
 ·cases h
def Γe2:Orc:=ah 228 DB Γe1
theorem Ra:Γe2.Ok prog:=ac Rb qdO
theorem Vx (n:Int) (a:Int) (b:Int):runG Γe2 L0 prog f229 [.v (.int .u64 n),.v (I a),.v (I b)] M0 =
 (bif decide (a>=b) then some (.v (Bo (decide (n<=IntKind.u64.wrap (IntKind.u64.wrap a - IntKind.u64.wrap b)))),M0) else some (.v (Bo false),M0)):=by kernel_rfl
def Dy (vs:List Value):Option (Bool×Value) :=
 match vs with
 | [.int .u64 n,.int .i64 a,.int .i64 b]=>some (decide (0<=n/\n<=4398046511104)&&(decide (0<=a/\a<=2199023255552)&&decide (0<=b/\b<=2199023255552)),Bo (decide (n<=a - b)))
 | _=>none
theorem qdL:an 229 Dy:=by
 intro vs r h
 unfold Dy at h
 split at h
 ·rename_i n a b
  obtain ⟨h1,rfl⟩:=aa h
  refine am (vs:=[.int .u64 n,I a,I b]) (Λ:=L0) (m':=M0) Ra func229 rfl af ?_
  exact (Vx n a b).trans (by
   simp only [Bool.and_eq_true,decide_eq_true_eq] at h1
   obtain ⟨h1,h2,h3⟩:=h1
   by_cases h:a>=b
   ·rw [decide_eq_true h,j7 (n:=a) (by omega),j7 (n:=b) (by omega),j7 (n:=a - b) (by omega)]
    rfl
   ·rw [decide_eq_false h,decide_eq_false (show ¬ n<=a - b by omega)]
    rfl)
 ·cases h
def Γe3:Orc:=ah 229 Dy Γe2
theorem Q9:Γe3.Ok prog:=ac Ra qdL
theorem Vz (p:Int) (q:Int) (x:Int) (y:Int) (z:Int) (vx:Int) (vy:Int) (vz:Int) (mo:Int) (e:Int):runG Γe3 L0 prog f167 [.v (.agg #[I p,I q,I x,I y,I z,I vx,I vy,I vz]),.v (I mo),.v (I e)] M0 =
 (bif gt vx then (bif gt vy then (bif gt vz then (bif decide (((0:Int)<=if aP vz>if aP vy>aP vx then aP vy else aP vx then aP vz else if aP vy>aP vx then aP vy else aP vx)/\(if aP vz>if aP vy>aP vx then aP vy else aP vx then aP vz else if aP vy>aP vx then aP vy else aP vx)<=(4398046511104:Int))&&(decide ((0:Int)<=mo/\mo<=(2199023255552:Int))&&decide ((0:Int)<=e/\e<=(2199023255552:Int))) then (bif decide ((if aP vz>if aP vy>aP vx then aP vy else aP vx then aP vz else if aP vy>aP vx then aP vy else aP vx)>mo+e) then some (.v (I (-1)),M0) else (bif decide (((0:Int)<=if aP vz>if aP vy>aP vx then aP vy else aP vx then aP vz else if aP vy>aP vx then aP vy else aP vx)/\(if aP vz>if aP vy>aP vx then aP vy else aP vx then aP vz else if aP vy>aP vx then aP vy else aP vx)<=(4398046511104:Int))&&(decide ((0:Int)<=mo/\mo<=(2199023255552:Int))&&decide ((0:Int)<=e/\e<=(2199023255552:Int))) then (bif decide ((if aP vz>if aP vy>aP vx then aP vy else aP vx then aP vz else if aP vy>aP vx then aP vy else aP vx)<=mo - e) then some (.v (I 1),M0) else some (.v (I 0),M0)) else none)) else none) else none) else none) else none):=by kernel_rfl
def DA (vs:List Value):Option (Bool×Value) :=
 match vs with
 | [.agg ⟨[.int .i64 p,.int .i64 q,.int .i64 x,.int .i64 y,.int .i64 z,.int .i64 vx,.int .i64 vy,.int .i64 vz]⟩,.int .i64 mo,.int .i64 e]=>some (gt vx&&(gt vy&&(gt vz&&(decide (0<=mo/\mo<=2199023255552)&&decide (0<=e/\e<=2199023255552)))),I (ek (m3 vx vy vz) mo e))
 | _=>none
theorem qdN:an 167 DA:=by
 intro vs r h
 unfold DA at h
 split at h
 ·rename_i p q x y z vx vy vz mo e
  obtain ⟨h1,rfl⟩:=aa h
  refine am (vs:=[.agg #[I p,I q,I x,I y,I z,I vx,I vy,I vz],I mo,I e]) (Λ:=L0) (m':=M0) Q9 func167 rfl af ?_
  exact (Vz p q x y z vx vy vz mo e).trans (by
   simp only [Bool.and_eq_true] at h1
   obtain ⟨h1,h2,h3,h4,h5⟩:=h1
   rw [h1,h2,h3]
   have b1:-2199023255552<=vx/\vx<=2199023255552:=of_decide_eq_true h1
   have b2:-2199023255552<=vy/\vy<=2199023255552:=of_decide_eq_true h2
   have b3:-2199023255552<=vz/\vz<=2199023255552:=of_decide_eq_true h3
   have a1:=kX vx
   have a2:=kX vy
   have a3:=kX vz
   have a4:=CI vx vy vz
   show (bif decide (0<=m3 vx vy vz/\m3 vx vy vz<=4398046511104)&&_ then (bif decide (m3 vx vy vz>mo+e) then _ else (bif decide (0<=m3 vx vy vz/\m3 vx vy vz<=4398046511104)&&_ then (bif decide (m3 vx vy vz<=mo - e) then _ else _) else none)) else none)=_
   rw [decide_eq_true (show 0<=m3 vx vy vz/\m3 vx vy vz<=4398046511104 by omega),h4,h5]
   unfold ek
   cases decide (m3 vx vy vz>mo+e)<;>cases decide (m3 vx vy vz<=mo - e)<;>rfl)
 ·cases h
def Γe4:Orc:=ah 167 DA Γe3
theorem Q8:Γe4.Ok prog:=ac Q9 qdN
def dN (x y z vx vy vz g e:Int) (L:List (List Dat)):Int:=iv (iK x y z vx vy vz g e) (iJ x y z vx vy vz g e) (jK x y z vx vy vz g e) (jJ x y z vx vy vz g e) L
def iZ (r s:Int):Int:=if r<s then r else s
def ofI (x y z vx vy vz g mo e:Int) (L:List (List Dat)):Int:=bif !cY x y z vx vy vz g e then 4 else (bif iZ (dN x y z vx vy vz g e L) (ek (m3 vx vy vz) mo e)==-1 then 3 else bif iZ (dN x y z vx vy vz g e L) (ek (m3 vx vy vz) mo e)==1 then 1 else 2)
theorem VA (p:Int) (q:Int) (x:Int) (y:Int) (z:Int) (vx:Int) (vy:Int) (vz:Int) (g:Int) (v:Int) (m:Int) (u:Int) (e:Int) (L:List (List Dat)) (own:Bool) (mark:Bool):runG Γe4 L0 prog f103 [.v (.agg #[I p,I q,I x,I y,I z,I vx,I vy,I vz]),.ag [.row 0,.v (I g),.v (I v),.v (I m),.v (I u)],.v (I e)] ⟨[],[],[rP L own mark]⟩ =
 (bif !cY x y z vx vy vz g e then some (.v (I 4),⟨[],[],[.live ⟨162,[.num .i64,.num .i64],L,own,mark⟩]⟩) else (bif gt vx&&(gt vy&&(gt vz&&(decide ((0:Int)<=v/\v<=(2199023255552:Int))&&decide ((0:Int)<=e/\e<=(2199023255552:Int))))) then (bif L.length.ble (1000000) then (bif (if iv (iK x y z vx vy vz g e) (iJ x y z vx vy vz g e) (jK x y z vx vy vz g e) (jJ x y z vx vy vz g e) L<ek (m3 vx vy vz) v e then iv (iK x y z vx vy vz g e) (iJ x y z vx vy vz g e) (jK x y z vx vy vz g e) (jJ x y z vx vy vz g e) L else ek (m3 vx vy vz) v e)==(-1:Int) then some (.v (I 3),⟨[],[],[.live ⟨162,[.num .i64,.num .i64],L,own,mark⟩]⟩) else (bif (if iv (iK x y z vx vy vz g e) (iJ x y z vx vy vz g e) (jK x y z vx vy vz g e) (jJ x y z vx vy vz g e) L<ek (m3 vx vy vz) v e then iv (iK x y z vx vy vz g e) (iJ x y z vx vy vz g e) (jK x y z vx vy vz g e) (jJ x y z vx vy vz g e) L else ek (m3 vx vy vz) v e)==(1:Int) then some (.v (I 1),⟨[],[],[.live ⟨162,[.num .i64,.num .i64],L,own,mark⟩]⟩) else some (.v (I 2),⟨[],[],[.live ⟨162,[.num .i64,.num .i64],L,own,mark⟩]⟩))) else none) else none)):=by kernel_rfl
def gVof (xs:List SV) (m:Mem):Option (Bool×Value) :=
 match xs,m with
 | [.v (.agg ⟨[.int .i64 p,.int .i64 q,.int .i64 x,.int .i64 y,.int .i64 z,.int .i64 vx,.int .i64 vy,.int .i64 vz]⟩),.ag [.row 0,.v (.int .i64 g),.v (.int .i64 v),.v (.int .i64 m),.v (.int .i64 u)],.v (.int .i64 e)],⟨[],[],[.live ⟨162,[.num .i64,.num .i64],L,own,mark⟩]⟩=>some (Nat.ble L.length 1000000&&decide (0<=v/\v<=2199023255552),I (ofI x y z vx vy vz g v e L))
 | _,_=>none
theorem gVof_ok:bi 103 gVof:=by
 intro xs m r h
 unfold gVof at h
 split at h
 ·rename_i p q x y z vx vy vz g v m u e L own mark
  obtain ⟨h1,rfl⟩:=aa h
  refine aj (Λ:=L0) Q8 func103 rfl af ?_
  refine (VA p q x y z vx vy vz g v m u e L own mark).trans ?_
  rw [Bool.and_eq_true] at h1
  obtain ⟨h1,h2⟩:=h1
  rw [h1]
  unfold ofI
  cases hi:cY x y z vx vy vz g e
  ·rfl
  have h3:=tj.1 hi
  have h4:=lP.1 h3.2
  have h5:=yw.1 h3.1.1
  have b1:gt vx=true:=decide_eq_true (by omega)
  have b2:gt vy=true:=decide_eq_true (by omega)
  have b3:gt vz=true:=decide_eq_true (by omega)
  rw [b1,b2,b3,h2,decide_eq_true (show 0<=e/\e<=2199023255552 by omega)]
  show (bif iZ (dN x y z vx vy vz g e L) (ek (m3 vx vy vz) v e)==-1 then _ else (bif iZ (dN x y z vx vy vz g e L) (ek (m3 vx vy vz) v e)==1 then _ else _))=_
  simp only [Bool.not_true,cond_false]
  cases iZ (dN x y z vx vy vz g e L) (ek (m3 vx vy vz) v e)==-1<;>cases iZ (dN x y z vx vy vz g e L) (ek (m3 vx vy vz) v e)==1<;>rfl
 ·cases h
def Γe5:Orc:=aR 103 gVof Γe4
theorem qjn:Γe5.Ok prog:=aL Q8 gVof_ok
def Γe6:Orc:=Γe5
theorem qjm:Γe6.Ok prog:=qjn
def ΓVe:Orc:=Γe6
theorem OkVe:ΓVe.Ok prog:=qjm
end Go.Proofs.YtainfdcfkgemhaaGreat.Im
