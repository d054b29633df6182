/-
  A processor boots,waits for power,is made;a cycle in one of two ways;what holds of it all the time.
-/
import Derived.Test.YtagaiddomhpdmaaGreatYj
import Derived.Test.YtagaiddomhpdmaaGreatYi
set_option maxRecDepth 100000
namespace Go.Proofs.YtagaiddomhpdmaaGreat.Hr
open Go Go.Proofs Go.Sx Nw Pe So
set_option linter.unusedVariables false
noncomputable def gOpn (xs:List SV) (m:Mem):Option (Bool×SV×Mem) :=
  match xs,m with
  | [.ptr 0 0,.v (.int .i64 base)],⟨[[.row 0,.ptr 1 0,.v (.bool down),.v (.bool waits),.v (.int .i64 lets)],[.v (.int .i64 mx),.v (.int .i64 w)]],[true,true],[.live ⟨5,[.num .u8],L,true,mark⟩]⟩=>some (okLc L lets&&Fq.refE down ((txt L).size:Int) base 48==0,.tup [.one (.ptr 2 0),.one (.v (I 0))],La.opM base (La.sl0 (txt L) base) (La.sl1 (txt L) base) L mark mx w down waits lets)
  | _,_=>none
theorem gOpn_ok:CtC 83 gOpn:=by
  intro xs m r m' h
  unfold gOpn at h
  split at h
  case h_2=>cases h
  rename_i base down waits lets mx w L mark
  obtain ⟨h1,rfl,rfl⟩:=some_t2 h
  obtain ⟨e1,e2⟩:=Bool.and_eq_true_iff.1 h1
  refine La.gOpenS_ok _ _ _ _ ?_
  show some (Fq.okL L lets&&Fq.refE down ((txt L).size:Int) base 48==0,_,_)=_
  rw [okLc_okL e1,e2]
  rfl
noncomputable def Γu0:Orc:=addCl 87 gGo (addCl 86 gBe (addCl 85 Se.gSNew (addVal 59 gHy (addCl 84 gBt (addCl 83 gOpn (addCl 99 Fq.gFUp ΓO))))))
theorem Oku0:Γu0.Ok Tryz.prog:=addCl_ok (addCl_ok (addCl_ok (addVal_ok (addCl_ok (addCl_ok (addCl_ok OkO Fq.gFUp_ok) gOpn_ok) gBt_ok) gHy_ok) Se.gSNew_ok) gBe_ok) gGo_ok
def wrU (f:FuncId):Bool:=Nat.beq f 87||(Nat.beq f 86||(Nat.beq f 85||(Nat.beq f 84||(Nat.beq f 83||Nat.beq f 99))))
noncomputable def Γu1:Orc:={ Γu0 with av:=true,bs:=true,sb:=true,wr:=wrU }
theorem Oku1:Γu1.Ok Tryz.prog:=⟨Oku0.call,Oku0.rd,Oku0.eqv⟩
def buA (x:PS):ByteArray:=La.sl0 (txt x.f.F) x.base
def buB (x:PS):ByteArray:=La.sl1 (txt x.f.F) x.base
def buL (x:PS):Lat:=⟨x.base,⟨La.opI (buA x) (buB x) La.qS,La.opI (buA x) (buB x) La.cS,La.opI (buA x) (buB x) La.pS,La.opI (buA x) (buB x) La.uS,La.opI (buA x) (buB x) La.fS,La.opI (buA x) (buB x) La.at9,La.opI (buA x) (buB x) La.at10,La.opI (buA x) (buB x) La.at11,La.opI (buA x) (buB x) La.nS⟩,La.opN (buA x) (buB x)⟩
def buY (x:PS):PS:={ x with up:=true,L:=btL x.img,R:=btR x.img,ft:=btF x.img x.port,la:=buL x,q:=⟨(btR x.img).r8,!(btF x.img x.port==0),0,0⟩,fl:=false,cy:=0 }
def buP (x:PS):PS:=goP (beP (buY x))
def cP0r (r:Nat) (x:PS) (la a b g e s t m y q:Nat):List SA:=.v (S x.img)::.v (I x.port)::.ptr 1 0::.v (I x.base)::.v (Bo x.up)::.v (I x.lf)::.row r::cRl x.R (.v (I x.ft)::.ptr la 0::.ptr a 0::.ptr b 0::.ptr g 0::.ptr e 0::.ptr s 0::.ptr t 0::.ptr m 0::.ptr y 0::.ptr q 0::.v (Bo x.fl)::.v (I x.cy)::[])
def buM (x y:PS):Mem:=⟨[cP0r 3 y 23 24 25 26 27 28 29 30 31 32,cFl y.f,cLa x.la,cSt 13 x.a,cSt 14 x.b,cSt 15 x.g,cSt 16 x.e,cSr 17 x.s,cSr 18 x.t,cMc x.m,cTy,cSq x.q,cC y.f.a y.f.v,cC x.a.a x.a.v,cC x.b.a x.b.v,cC x.g.a x.g.v,cC x.e.a x.e.v,cC x.s.a x.s.t,cC x.t.a x.t.t,cC x.m.a x.m.v,cC x.y.a x.y.u,cC x.y.b x.y.v,cC x.y.c x.y.w,cLa y.la,cSt 33 y.a,cSt 34 y.b,cSt 35 y.g,cSt 36 y.e,cSr 37 y.s,cSr 38 y.t,cMcw 4 39 y.m,[.ptr 40 0,.ptr 41 0,.ptr 42 0],cSq y.q,cC y.a.a y.a.v,cC y.b.a y.b.v,cC y.g.a y.g.v,cC y.e.a y.e.v,cC y.s.a y.s.t,cC y.t.a y.t.t,cC y.m.a y.m.v,cC y.y.a y.y.u,cC y.y.b y.y.v,cC y.y.c y.y.w],tt 43,[rPh x.L,rFs y.f.F,rPh x.m.L,rPh y.L,rPh y.m.L]⟩
theorem runBu (x:PS):runG Γu1 L0 Tryz.prog Tryz.f49 [.ptr 0 0] (mP x)=(bif okLc x.f.F x.f.le&&Fq.refE x.f.dn ((txt x.f.F).size:Int) x.base 48==0 then (bif okBt x.img x.port then (bif okBe (buY x) then some (.v (I 0),buM x (buP x)) else none) else none) else none):=by kernel_rfl
end Go.Proofs.YtagaiddomhpdmaaGreat.Hr
namespace Go.Proofs.YtagaiddomhpdmaaGreat.Hr
open Go Go.Proofs Go.Sx Nw Pe So
set_option linter.unusedVariables false
def okBu (x:PS):Bool:=(okLc x.f.F x.f.le&&Fq.refE x.f.dn ((txt x.f.F).size:Int) x.base 48==0)&&(okBt x.img x.port&&okBe (buY x))
def gBu (xs:List SV) (m:Mem):Option (Bool×SV×Mem) :=
  match xs,uP m with
  | [.ptr 0 0],some x=>some (okBu x,.v (I 0),buM x (buP x))
  | _,_=>none
theorem gBu_ok:CtC 49 gBu:=by
  intro xs m r m' h
  unfold gBu at h
  split at h
  case h_2=>cases h
  rename_i x hx
  obtain ⟨h1,rfl,rfl⟩:=some_t2 h
  rw [uP_eq hx]
  refine runOk (Λ:=L0) Oku1 Tryz.func49 rfl l00 ((runBu x).trans ?_)
  obtain ⟨e1,e2⟩:=Bool.and_eq_true_iff.1 h1
  obtain ⟨e2,e3⟩:=Bool.and_eq_true_iff.1 e2
  rw [e1,e2,e3]
  rfl
noncomputable def Γw0:Orc:=addCl 49 gBu (addCl 99 Fq.gFUp ΓO)
theorem Okw0:Γw0.Ok Tryz.prog:=addCl_ok (addCl_ok OkO Fq.gFUp_ok) gBu_ok
noncomputable def Γw1:Orc:={ Γw0 with av:=true,bs:=true,sb:=true }
theorem Okw1:Γw1.Ok Tryz.prog:=⟨Okw0.call,Okw0.rd,Okw0.eqv⟩
def wpL (x:PS):PS:={ x with lf:=wI (x.lf - 1) }
def wpU (x:PS):PS:={ x with lf:=wI (x.lf - 1),f:={ x.f with dn:=false,wt:=false } }
theorem runWp (x:PS):runG Γw1 L0 Tryz.prog Tryz.f58 [.ptr 0 0] (mP x)=(bif x.lf==0 then some (.v (.tuple #[]),mP x) else (bif wI (x.lf - 1)==0 then (bif okBu (wpU x) then some (.v (.tuple #[]),buM (wpU x) (buP (wpU x))) else none) else some (.v (.tuple #[]),mP (wpL x)))):=by kernel_rfl
end Go.Proofs.YtagaiddomhpdmaaGreat.Hr
namespace Go.Proofs.YtagaiddomhpdmaaGreat.Hr
open Go Go.Proofs Go.Sx Nw Pe So
set_option linter.unusedVariables false
def gWp (xs:List SV) (m:Mem):Option (Bool×SV×Mem) :=
  match xs,uP m with
  | [.ptr 0 0],some x=>match x.lf==0,wI (x.lf - 1)==0 with
    | true,_=>some (true,.v (.tuple #[]),mP x)
    | false,true=>some (okBu (wpU x),.v (.tuple #[]),buM (wpU x) (buP (wpU x)))
    | false,false=>some (true,.v (.tuple #[]),mP (wpL x))
  | _,_=>none
theorem gWp_ok:CtC 58 gWp:=by
  intro xs m r m' h
  unfold gWp at h
  split at h
  case h_2=>cases h
  rename_i x hx
  rw [uP_eq hx]
  split at h
  · rename_i e1
    obtain ⟨_,rfl,rfl⟩:=some_t2 h
    exact runOk (Λ:=L0) Okw1 Tryz.func58 rfl l00 ((runWp x).trans (by rw [e1];rfl))
  · rename_i e1 e2
    obtain ⟨h1,rfl,rfl⟩:=some_t2 h
    exact runOk (Λ:=L0) Okw1 Tryz.func58 rfl l00 ((runWp x).trans (by rw [e1,e2,h1];rfl))
  · rename_i e1 e2
    obtain ⟨_,rfl,rfl⟩:=some_t2 h
    exact runOk (Λ:=L0) Okw1 Tryz.func58 rfl l00 ((runWp x).trans (by rw [e1,e2];rfl))
noncomputable def Γq0:Orc:=addCl 58 gWp Γy1
theorem Okq0:Γq0.Ok Tryz.prog:=addCl_ok Oky1 gWp_ok
noncomputable def Γq1:Orc:={ Γq0 with av:=true,bs:=true,sb:=true }
theorem Okq1:Γq1.Ok Tryz.prog:=⟨Okq0.call,Okq0.rd,Okq0.eqv⟩
theorem runC0 (x:PS) (i:Inp):runG Γq1 L0 Tryz.prog Tryz.f24 [.ptr 0 0,.v (inV i)] (mP { x with lf:=0 })=(bif !x.up then some (.v (oV o0),mP { x with lf:=0 }) else (bif !(x.ft==0) then none else cyT { x with lf:=0 } i)):=by kernel_rfl
theorem runC1 (x:PS) (i:Inp):runG Γq1 L0 Tryz.prog Tryz.f24 [.ptr 0 0,.v (inV i)] (mP { x with up:=false,lf:=1 })=(bif okBu (wpU { x with up:=false,lf:=1 }) then some (.v (oV o0),buM (wpU { x with up:=false,lf:=1 }) (buP (wpU { x with up:=false,lf:=1 }))) else none):=by kernel_rfl
theorem runC2 (x:PS) (i:Inp):runG Γq1 L0 Tryz.prog Tryz.f24 [.ptr 0 0,.v (inV i)] (mP { x with up:=false,lf:=2 })=some (.v (oV o0),mP { x with up:=false,lf:=1 }):=by kernel_rfl
theorem runC3 (x:PS) (i:Inp):runG Γq1 L0 Tryz.prog Tryz.f24 [.ptr 0 0,.v (inV i)] (mP { x with up:=false,lf:=3 })=some (.v (oV o0),mP { x with up:=false,lf:=2 }):=by kernel_rfl
end Go.Proofs.YtagaiddomhpdmaaGreat.Hr
namespace Go.Proofs.YtagaiddomhpdmaaGreat.Hr
open Go Go.Proofs Go.Sx Nw Pe So
set_option linter.unusedVariables false
def nP:SA:=.v (.pointer none)
def z8:Rl:=⟨0,0,0,0,0,0,0,0⟩
def bfM (x:PS):Mem:=⟨[.v (S x.img)::.v (I x.port)::.ptr 1 0::.v (I x.base)::.v (Bo x.up)::.v (I x.lf)::.row 0::cRl x.R [.v (I x.ft),nP,nP,nP,nP,nP,nP,nP,nP,nP,.ptr 2 0,.v (Bo x.fl),.v (I x.cy)],[.row 1,.ptr 3 0,.v (Bo x.f.dn),.v (Bo x.f.wt),.v (I x.f.le)],cSq x.q,cC x.f.a x.f.v],tt 4,[rPh x.L,rFs x.f.F]⟩
def bgM (x:PS):Mem:=⟨[.v (S x.img)::.v (I x.port)::.ptr 1 0::.v (I x.base)::.v (Bo x.up)::.v (I x.lf)::.row 0::cRl x.R [.v (I x.ft),nP,.ptr 4 0,.ptr 5 0,.ptr 6 0,.ptr 7 0,.ptr 8 0,.ptr 9 0,.ptr 10 0,.ptr 11 0,.ptr 2 0,.v (Bo x.fl),.v (I x.cy)],[.row 1,.ptr 3 0,.v (Bo x.f.dn),.v (Bo x.f.wt),.v (I x.f.le)],cSq x.q,cC x.f.a x.f.v,cSt 12 (beP x).a,cSt 13 (beP x).b,cSt 14 (beP x).g,cSt 15 (beP x).e,cSr 16 (beP x).s,cSr 17 (beP x).t,cMcw 2 18 (beP x).m,[.ptr 19 0,.ptr 20 0,.ptr 21 0],cC 1000000 0,cC 1000000 0,cC 1000000 0,cC 1000000 0,cC 1000000 0,cC 1000000 0,cC 1000000 0,cC (beP x).y.a 0,cC (beP x).y.b 0,cC (beP x).y.c 0],tt 22,[rPh x.L,rFs x.f.F,rPh x.L]⟩
theorem runBf (x:PS):runG Γb1 L0 Tryz.prog Tryz.f86 [.ptr 0 0] (bfM x)=(bif decide ((1:Int)≤x.R.r5)&&decide ((1:Int)≤x.R.r6) then (bif decide ((1:Int)≤x.R.r5)&&decide ((1:Int)≤x.R.r6) then (bif phOk x.L&&(phNe x.L&&(wrB x.L x.R.r1 x.R.r2 x.R.r3 x.R.r4 x.R.r5 x.R.r6 x.R.r7 x.R.r8==(0:Int)&&Nat.blt (0:Nat) x.L.length)) then (bif decide ((1:Int)≤x.R.r1)&&(decide ((1:Int)≤x.R.r2)&&decide ((1:Int)≤x.R.r3)) then some (.v (.tuple #[]),bgM x) else none) else none) else none) else none):=by kernel_rfl
def uBt (b:List SA):Option (Int×Bool×Int):=match b with
  | .v (.int .i64 ft)::.v (.pointer none)::.v (.pointer none)::.v (.pointer none)::.v (.pointer none)::.v (.pointer none)::.v (.pointer none)::r=>match r with
    | [.v (.pointer none),.v (.pointer none),.v (.pointer none),.ptr 2 0,.v (.bool fl),.v (.int .i64 cy)]=>some (ft,fl,cy)
    | _=>none
  | _=>none
theorem uBt_eq {b:List SA} {ft cy:Int} {fl:Bool} (h:uBt b=some (ft,fl,cy)):b=[.v (I ft),nP,nP,nP,nP,nP,nP,nP,nP,nP,.ptr 2 0,.v (Bo fl),.v (I cy)]:=by
  unfold uBt at h
  split at h
  · split at h
    · injection h with h
      injection h with h1 h
      injection h with h2 h3
      subst h1 h2 h3
      rfl
    · cases h
  · cases h
def uB0 (b:List SA):Option (ByteArray×Int×Int×Bool×Int×Rl×Int×Bool×Int):=match b with
  | .v (.string img)::.v (.int .i64 port)::.ptr 1 0::.v (.int .i64 base)::.v (.bool up)::.v (.int .i64 lf)::.row 0::r=>match uRl r with
    | some (R,r')=>match uBt r' with
      | some (ft,fl,cy)=>some (img,port,base,up,lf,R,ft,fl,cy)
      | none=>none
    | none=>none
  | _=>none
theorem uB0_eq {b:List SA} {img:ByteArray} {port base lf ft cy:Int} {up fl:Bool} {R:Rl} (h:uB0 b=some (img,port,base,up,lf,R,ft,fl,cy)):b=.v (S img)::.v (I port)::.ptr 1 0::.v (I base)::.v (Bo up)::.v (I lf)::.row 0::cRl R [.v (I ft),nP,nP,nP,nP,nP,nP,nP,nP,nP,.ptr 2 0,.v (Bo fl),.v (I cy)]:=by
  unfold uB0 at h
  split at h
  · split at h
    · rename_i R' r' hr
      split at h
      · rename_i ft' fl' cy' hl
        injection h with h
        injection h with h1 h
        injection h with h2 h
        injection h with h3 h
        injection h with h4 h
        injection h with h5 h
        injection h with h6 h
        injection h with h7 h
        injection h with h8 h9
        subst h1 h2 h3 h4 h5 h6 h7 h8 h9
        rw [uRl_eq hr,uBt_eq hl]
        try rfl
      · cases h
    · cases h
  · cases h
def u2R (r:List RowS):Option (List (List Dat)×List (List Dat)):=match r with
  | [r0,r1]=>match r0,r1 with
    | .live ⟨154,[.sl 151 [.num .i64,.num .i64],.num .i64,.num .i64,.num .i64,.num .i64],a,true,false⟩,.live ⟨5,[.num .u8],b,true,true⟩=>some (a,b)
    | _,_=>none
  | _=>none
theorem u2R_eq {r:List RowS} {a b:List (List Dat)} (h:u2R r=some (a,b)):r=[rPh a,rFs b]:=by
  unfold u2R at h
  split at h
  · split at h
    · injection h with h
      injection h with h1 h2
      subst h1 h2
      rfl
    · cases h
  · cases h
def uF3 (b:List SA):Option (Bool×Bool×Int):=match b with
  | [.row 1,.ptr 3 0,.v (.bool d),.v (.bool t),.v (.int .i64 l)]=>some (d,t,l)
  | _=>none
theorem uF3_eq {b:List SA} {d t:Bool} {l:Int} (h:uF3 b=some (d,t,l)):b=[.row 1,.ptr 3 0,.v (Bo d),.v (Bo t),.v (I l)]:=by
  unfold uF3 at h
  split at h
  · injection h with h
    injection h with h1 h
    injection h with h2 h3
    subst h1 h2 h3
    rfl
  · cases h
def z0S:Stm:=⟨zS,0,0⟩
def z0R:Src:=⟨0,0,⟨0,0,0,0,0,0,0,0⟩,false,0,0⟩
def uBf (m:Mem):Option PS:=match m with
  | ⟨[b0,b1,b2,b3],lv,rs⟩=>match isTT 4 lv,uB0 b0,uF3 b1,uSq b2,uC b3,u2R rs with
    | true,some (img,port,base,up,lf,R,ft,fl,cy),some (dn,wt,le),some q,some (a,v),some (L,F)=>some ⟨img,port,base,up,lf,L,R,ft,⟨F,dn,wt,le,a,v⟩,⟨0,⟨0,0,0,0,0,0,0,0,0⟩,0⟩,z0S,z0S,z0S,z0S,z0R,z0R,⟨[],z8,0,0,0⟩,⟨0,0,0,0,0,0⟩,q,fl,cy⟩
    | _,_,_,_,_,_=>none
  | _=>none
theorem uBf_eq {m:Mem} {x:PS} (h:uBf m=some x):m=bfM x:=by
  unfold uBf at h
  split at h
  case h_2=>cases h
  split at h
  case h_2=>cases h
  rename_i hl h0 h1 h2 h3 hr
  injection h with h
  subst h
  rw [isTT_eq hl,uB0_eq h0,uF3_eq h1,uSq_eq h2,uC_eq h3,u2R_eq hr]
  rfl
def gBf (xs:List SV) (m:Mem):Option (Bool×SV×Mem) :=
  match xs,uBf m with
  | [.ptr 0 0],some x=>some (okBe x,.v (.tuple #[]),bgM x)
  | _,_=>none
theorem gBf_ok:CtC 86 gBf:=by
  intro xs m r m' h
  unfold gBf at h
  split at h
  case h_2=>cases h
  rename_i x hx
  obtain ⟨h1,rfl,rfl⟩:=some_t2 h
  rw [uBf_eq hx]
  refine runOk (Λ:=L0) Okb1 Tryz.func86 rfl l00 ((runBf x).trans ?_)
  unfold okBe at h1
  obtain ⟨e1,e2⟩:=Bool.and_eq_true_iff.1 h1
  obtain ⟨e2,e3⟩:=Bool.and_eq_true_iff.1 e2
  rw [e1,e2,e3]
  rfl
end Go.Proofs.YtagaiddomhpdmaaGreat.Hr
namespace Go.Proofs.YtagaiddomhpdmaaGreat.Hr
open Go Go.Proofs Go.Sx Nw Pe So
set_option linter.unusedVariables false
noncomputable def Γf0:Orc:=addCl 86 gBf Γu0
theorem Okf0:Γf0.Ok Tryz.prog:=addCl_ok Oku0 gBf_ok
noncomputable def Γf1:Orc:={ Γf0 with av:=true,bs:=true,sb:=true,wr:=wrU }
theorem Okf1:Γf1.Ok Tryz.prog:=⟨Okf0.call,Okf0.rd,Okf0.eqv⟩
def x0 (img:ByteArray) (port base:Int) (f:Fla):PS:=⟨img,port,base,false,0,[],z8,0,f,⟨0,⟨0,0,0,0,0,0,0,0,0⟩,0⟩,z0S,z0S,z0S,z0S,z0R,z0R,⟨[],z8,0,0,0⟩,⟨0,0,0,0,0,0⟩,⟨0,false,0,0⟩,false,0⟩
def fbM (img:ByteArray) (port base:Int) (f:Fla):Mem:=⟨[[.v (S img),.v (I port),.ptr 1 0,.v (I base),.v (Bo false),.v (I 0),.v (.slice none 0 0),.v (I 0),.v (I 0),.v (I 0),.v (I 0),.v (I 0),.v (I 0),.v (I 0),.v (I 0),.v (I 0),nP,nP,nP,nP,nP,nP,nP,nP,nP,nP,.v (Bo false),.v (I 0)],[.row 0,.ptr 2 0,.v (Bo f.dn),.v (Bo f.wt),.v (I f.le)],cC f.a f.v],tt 3,[rFs f.F]⟩
def fuM (y:PS):Mem:=⟨[cP0r 1 y 3 4 5 6 7 8 9 10 11 12,[.row 0,.ptr 2 0,.v (Bo y.f.dn),.v (Bo y.f.wt),.v (I y.f.le)],cC y.f.a y.f.v,cLa y.la,cSt 13 y.a,cSt 14 y.b,cSt 15 y.g,cSt 16 y.e,cSr 17 y.s,cSr 18 y.t,cMcw 2 19 y.m,[.ptr 20 0,.ptr 21 0,.ptr 22 0],cSq y.q,cC y.a.a y.a.v,cC y.b.a y.b.v,cC y.g.a y.g.v,cC y.e.a y.e.v,cC y.s.a y.s.t,cC y.t.a y.t.t,cC y.m.a y.m.v,cC y.y.a y.y.u,cC y.y.b y.y.v,cC y.y.c y.y.w],tt 23,[rFs y.f.F,rPh y.L,rPh y.m.L]⟩
theorem runFu (img:ByteArray) (port base:Int) (f:Fla):runG Γf1 L0 Tryz.prog Tryz.f49 [.ptr 0 0] (fbM img port base f)=(bif okLc f.F f.le&&Fq.refE f.dn ((txt f.F).size:Int) base 48==0 then (bif okBt img port then (bif okBe (buY (x0 img port base f)) then some (.v (I 0),fuM (buP (x0 img port base f))) else none) else none) else none):=by kernel_rfl
def tlN:List SA:=[.v (Bo false),.v (I 0),.v (.slice none 0 0),.v (I 0),.v (I 0),.v (I 0),.v (I 0),.v (I 0),.v (I 0),.v (I 0),.v (I 0),.v (I 0),nP,nP,nP,nP,nP,nP,nP,nP,nP,nP,.v (Bo false),.v (I 0)]
def uFn (b:List SA):Option (ByteArray×Int×Int):=match b with
  | .v (.string img)::.v (.int .i64 port)::.ptr 1 0::.v (.int .i64 base)::r=>bif Go.Sx.eqL eqSA r tlN then some (img,port,base) else none
  | _=>none
theorem uFn_eq {b:List SA} {img:ByteArray} {port base:Int} (h:uFn b=some (img,port,base)):b=.v (S img)::.v (I port)::.ptr 1 0::.v (I base)::tlN:=by
  unfold uFn at h
  split at h
  · rename_i i' p' b' r
    cases hq:Go.Sx.eqL eqSA r tlN
    · rw [hq] at h;cases h
    · rw [hq] at h
      injection h with h
      injection h with h1 h
      injection h with h2 h3
      subst h1 h2 h3
      rw [Go.Sx.eqL_eq (fun _ _=>eqSA_eq) hq]
      try rfl
  · cases h
def uF2 (b:List SA):Option (Bool×Bool×Int):=match b with
  | [.row 0,.ptr 2 0,.v (.bool d),.v (.bool t),.v (.int .i64 l)]=>some (d,t,l)
  | _=>none
theorem uF2_eq {b:List SA} {d t:Bool} {l:Int} (h:uF2 b=some (d,t,l)):b=[.row 0,.ptr 2 0,.v (Bo d),.v (Bo t),.v (I l)]:=by
  unfold uF2 at h
  split at h
  · injection h with h
    injection h with h1 h
    injection h with h2 h3
    subst h1 h2 h3
    rfl
  · cases h
def u1R (r:List RowS):Option (List (List Dat)):=match r with
  | [.live ⟨5,[.num .u8],b,true,true⟩]=>some b
  | _=>none
theorem u1R_eq {r:List RowS} {b:List (List Dat)} (h:u1R r=some b):r=[rFs b]:=by
  unfold u1R at h
  split at h
  · injection h with h
    subst h
    rfl
  · cases h
def uFb (m:Mem):Option (ByteArray×Int×Int×Fla):=match m with
  | ⟨[b0,b1,b2],lv,rs⟩=>match isTT 3 lv,uFn b0,uF2 b1,uC b2,u1R rs with
    | true,some (img,port,base),some (dn,wt,le),some (a,v),some F=>some (img,port,base,⟨F,dn,wt,le,a,v⟩)
    | _,_,_,_,_=>none
  | _=>none
theorem uFb_eq {m:Mem} {img:ByteArray} {port base:Int} {f:Fla} (h:uFb m=some (img,port,base,f)):m=fbM img port base f:=by
  unfold uFb at h
  split at h
  case h_2=>cases h
  split at h
  case h_2=>cases h
  rename_i hl h0 h1 h2 hr
  injection h with h
  injection h with e1 h
  injection h with e2 h
  injection h with e3 e4
  subst e1 e2 e3 e4
  rw [isTT_eq hl,uFn_eq h0,uF2_eq h1,uC_eq h2,u1R_eq hr]
  rfl
def okFb (img:ByteArray) (port base:Int) (f:Fla):Bool:=(okLc f.F f.le&&Fq.refE f.dn ((txt f.F).size:Int) base 48==0)&&(okBt img port&&okBe (buY (x0 img port base f)))
def gFb (xs:List SV) (m:Mem):Option (Bool×SV×Mem) :=
  match xs,uFb m with
  | [.ptr 0 0],some (img,port,base,f)=>some (okFb img port base f,.v (I 0),fuM (buP (x0 img port base f)))
  | _,_=>none
theorem gFb_ok:CtC 49 gFb:=by
  intro xs m r m' h
  unfold gFb at h
  split at h
  case h_2=>cases h
  rename_i img port base f hx
  obtain ⟨h1,rfl,rfl⟩:=some_t2 h
  rw [uFb_eq hx]
  refine runOk (Λ:=L0) Okf1 Tryz.func49 rfl l00 ((runFu img port base f).trans ?_)
  unfold okFb at h1
  obtain ⟨e1,e2⟩:=Bool.and_eq_true_iff.1 h1
  obtain ⟨e2,e3⟩:=Bool.and_eq_true_iff.1 e2
  rw [e1,e2,e3]
  rfl
noncomputable def Γn0:Orc:=addCl 49 gFb ΓO
theorem Okn0:Γn0.Ok Tryz.prog:=addCl_ok OkO gFb_ok
noncomputable def Γn1:Orc:={ Γn0 with av:=true,bs:=true,sb:=true,wr:=fun f=>Nat.beq f 49 }
theorem Okn1:Γn1.Ok Tryz.prog:=⟨Okn0.call,Okn0.rd,Okn0.eqv⟩
def flM (f:Fla):Mem:=⟨[[.row 0,.ptr 1 0,.v (Bo f.dn),.v (Bo f.wt),.v (I f.le)],cC f.a f.v],tt 2,[rFs f.F]⟩
def cPn (y:PS):List SA:=.v (S y.img)::.v (I y.port)::.ptr 0 0::.v (I y.base)::.v (Bo y.up)::.v (I y.lf)::.row 1::cRl y.R (.v (I y.ft)::.ptr 3 0::.ptr 4 0::.ptr 5 0::.ptr 6 0::.ptr 7 0::.ptr 8 0::.ptr 9 0::.ptr 10 0::.ptr 11 0::.ptr 12 0::.v (Bo y.fl)::.v (I y.cy)::[])
def nwM (y:PS):Mem:=⟨[[.row 0,.ptr 1 0,.v (Bo y.f.dn),.v (Bo y.f.wt),.v (I y.f.le)],cC y.f.a y.f.v,cPn y,.ptr 0 0::.v (I y.la.b)::cRc y.la.r [.v (I y.la.x)],cSt 13 y.a,cSt 14 y.b,cSt 15 y.g,cSt 16 y.e,cSr 17 y.s,cSr 18 y.t,cMcw 2 19 y.m,[.ptr 20 0,.ptr 21 0,.ptr 22 0],cSq y.q,cC y.a.a y.a.v,cC y.b.a y.b.v,cC y.g.a y.g.v,cC y.e.a y.e.v,cC y.s.a y.s.t,cC y.t.a y.t.t,cC y.m.a y.m.v,cC y.y.a y.y.u,cC y.y.b y.y.v,cC y.y.c y.y.w],tt 23,[rFs y.f.F,rPh y.L,rPh y.m.L]⟩
theorem runNw (img:ByteArray) (port base:Int) (f:Fla):runG Γn1 L0 Tryz.prog Tryz.f15 [.v (S img),.v (I port),.ptr 0 0,.v (I base)] (flM f)=(bif okFb img port base f then some (.tup [.one (.ptr 2 0),.one (.v (I 0))],nwM (buP (x0 img port base f))) else none):=by kernel_rfl
end Go.Proofs.YtagaiddomhpdmaaGreat.Hr
namespace Go.Proofs.YtagaiddomhpdmaaGreat.Hr
open Go Go.Proofs Go.Sx Nw Pe So
set_option linter.unusedVariables false
def uF1 (b:List SA):Option (Bool×Bool×Int):=match b with
  | [.row 0,.ptr 1 0,.v (.bool d),.v (.bool t),.v (.int .i64 l)]=>some (d,t,l)
  | _=>none
theorem uF1_eq {b:List SA} {d t:Bool} {l:Int} (h:uF1 b=some (d,t,l)):b=[.row 0,.ptr 1 0,.v (Bo d),.v (Bo t),.v (I l)]:=by
  unfold uF1 at h
  split at h
  · injection h with h
    injection h with h1 h
    injection h with h2 h3
    subst h1 h2 h3
    rfl
  · cases h
def uFm (m:Mem):Option Fla:=match m with
  | ⟨[b1,b2],lv,rs⟩=>match isTT 2 lv,uF1 b1,uC b2,u1R rs with
    | true,some (dn,wt,le),some (a,v),some F=>some ⟨F,dn,wt,le,a,v⟩
    | _,_,_,_=>none
  | _=>none
theorem uFm_eq {m:Mem} {f:Fla} (h:uFm m=some f):m=flM f:=by
  unfold uFm at h
  split at h
  case h_2=>cases h
  split at h
  case h_2=>cases h
  rename_i hl h1 h2 hr
  injection h with h
  subst h
  rw [isTT_eq hl,uF1_eq h1,uC_eq h2,u1R_eq hr]
  rfl
def gNw (xs:List SV) (m:Mem):Option (Bool×SV×Mem) :=
  match xs,uFm m with
  | [.v (.string img),.v (.int .i64 port),.ptr 0 0,.v (.int .i64 base)],some f=>some (okFb img port base f,.tup [.one (.ptr 2 0),.one (.v (I 0))],nwM (buP (x0 img port base f)))
  | _,_=>none
theorem gNw_ok:CtC 15 gNw:=by
  intro xs m r m' h
  unfold gNw at h
  split at h
  case h_2=>cases h
  rename_i img port base f hx
  obtain ⟨h1,rfl,rfl⟩:=some_t2 h
  rw [uFm_eq hx]
  exact runOk (Λ:=L0) Okn1 Tryz.func15 rfl l00 ((runNw img port base f).trans (by rw [h1];rfl))
noncomputable def Γk1:Orc:={ addRd 67 La.gLast ΓO with av:=true,bs:=true,sb:=true }
theorem Okk1:Γk1.Ok Tryz.prog:=⟨(addRd_ok OkO La.gLast_ok).call,(addRd_ok OkO La.gLast_ok).rd,(addRd_ok OkO La.gLast_ok).eqv⟩
def rsP (x:PS):PS:={ x with up:=false,lf:=3 }
theorem runRs (x:PS):runG Γk1 L0 Tryz.prog Tryz.f38 [.ptr 0 0] (mP x)=some (.v (.tuple #[]),mP (rsP x)):=by kernel_rfl
theorem runUp (x:PS):runG Γk1 L0 Tryz.prog Tryz.f16 [.ptr 0 0] (mP x)=some (.v (Bo x.up),mP x):=by kernel_rfl
def gRs (xs:List SV) (m:Mem):Option (Bool×SV×Mem) :=
  match xs,uP m with
  | [.ptr 0 0],some x=>some (true,.v (.tuple #[]),mP (rsP x))
  | _,_=>none
theorem gRs_ok:CtC 38 gRs:=by
  intro xs m r m' h
  unfold gRs at h
  split at h
  case h_2=>cases h
  rename_i x hx
  obtain ⟨_,rfl,rfl⟩:=some_t2 h
  rw [uP_eq hx]
  exact runOk (Λ:=L0) Okk1 Tryz.func38 rfl l00 (runRs x)
def gUq (xs:List SV) (m:Mem):Option (Bool×Value) :=
  match xs,uP m with
  | [.ptr 0 0],some x=>some (true,Bo x.up)
  | _,_=>none
theorem gUq_ok:CtR 16 gUq:=by
  intro xs m r h
  unfold gUq at h
  split at h
  case h_2=>cases h
  rename_i x hx
  obtain ⟨_,rfl⟩:=some_t h
  rw [uP_eq hx]
  exact runOk (Λ:=L0) Okk1 Tryz.func16 rfl l00 (runUp x)
def cyS (x:PS) (i:Inp):PS:=bif x.up then (bif cyX x i != 0 then { cyE x i with up:=false } else cyE x i) else x
def cyR (x:PS) (i:Inp):Ot:=bif x.up then (bif cyX x i != 0 then o0 else teO (cyE x i) (cyJ x i) (cyW x i)) else o0
def okCy (x:PS) (i:Inp):Bool:=!x.up||(x.ft==0&&(okP x&&okIn i))
theorem cyS_lf (y:PS) (i:Inp):(cyS y i).lf=y.lf:=by
  unfold cyS
  generalize (cyX y i != 0)=b
  have e:(cyE y i).lf=y.lf:=by kernel_rfl
  cases y.up
  · rfl
  · cases b
    · exact e
    · exact e
theorem lf0 {y:PS} (hl:y.lf=0):({ y with lf:=0 }:PS)=y:=by
  rcases y with ⟨img,port,base,up,lf,L,R,ft,f,la,a,b,g,e,s,t,m,y,q,fl,cy⟩
  cases hl
  rfl
theorem runC0y (y:PS) (i:Inp) (hl:y.lf=0) (h:okCy y i=true):runG Γq1 L0 Tryz.prog Tryz.f24 [.ptr 0 0,.v (inV i)] (mP y)=some (.v (oV (cyR y i)),mP { cyS y i with lf:=0 }):=by
  rw [lf0 ((cyS_lf y i).trans hl)]
  have r:=runC0 y i
  rw [lf0 hl] at r
  refine r.trans ?_
  unfold okCy at h
  unfold cyS cyR
  cases hu:y.up
  · rfl
  · rw [hu] at h
    simp only [Bool.not_true,Bool.false_or,Bool.and_eq_true] at h
    obtain ⟨h1,h2,h3⟩:=h
    have t:=(runCy y i).symm.trans (cyc_ok y i h2 h3)
    rw [hu,h1] at t
    rw [h1]
    have t':cyT y i=(bif cyX y i != 0 then some (.v (oV o0),mP { cyE y i with up:=false }) else some (.v (oV (teO (cyE y i) (cyJ y i) (cyW y i))),mP (cyE y i))):=t
    refine Eq.trans (b:=cyT y i) rfl (t'.trans ?_)
    generalize (cyX y i != 0)=b
    cases b<;>rfl
end Go.Proofs.YtagaiddomhpdmaaGreat.Hr
namespace Go.Proofs.YtagaiddomhpdmaaGreat.Hr
open Go Go.Proofs Go.Sx Nw Pe So
set_option linter.unusedVariables false
def dnP (x:PS) (l:Int):PS:={ x with up:=false,lf:=l }
theorem dn_eq {x:PS} {l:Int} (h1:x.up=false) (h2:x.lf=l):dnP x l=x:=by
  rcases x with ⟨img,port,base,up,lf,L,R,ft,f,la,a,b,g,e,s,t,m,y,q,fl,cy⟩
  cases h1
  cases h2
  rfl
def gCz (xs:List SV) (m:Mem):Option (Bool×SV×Mem) :=
  match xs,uP m with
  | [.ptr 0 0,.v (.agg ⟨[.string a,.string b,.string c,.string d]⟩)],some x=>match x.lf==0,x.lf==1,x.lf==2 with
    | true,_,_=>some (okCy x ⟨a,b,c,d⟩,.v (oV (cyR x ⟨a,b,c,d⟩)),mP { cyS x ⟨a,b,c,d⟩ with lf:=0 })
    | false,true,_=>some (!x.up&&okBu (wpU (dnP x 1)),.v (oV o0),buM (wpU (dnP x 1)) (buP (wpU (dnP x 1))))
    | false,false,true=>some (!x.up,.v (oV o0),mP (dnP x 1))
    | false,false,false=>some (!x.up&&x.lf==3,.v (oV o0),mP (dnP x 2))
  | _,_=>none
theorem gCz_ok:CtC 24 gCz:=by
  intro xs m r m' h
  unfold gCz at h
  split at h
  case h_2=>cases h
  rename_i a b c d x hx
  rw [uP_eq hx]
  split at h
  · rename_i e1
    obtain ⟨h1,rfl,rfl⟩:=some_t2 h
    exact runOk (Λ:=L0) Okq1 Tryz.func24 rfl l00 (runC0y x ⟨a,b,c,d⟩ (by simpa using e1) h1)
  · rename_i e1 e2
    obtain ⟨h1,rfl,rfl⟩:=some_t2 h
    rw [Bool.and_eq_true,Bool.not_eq_true'] at h1
    have e:=dn_eq (l:=1) h1.1 (by simpa using e2)
    have r:=runC1 x ⟨a,b,c,d⟩
    refine runOk (Λ:=L0) Okq1 Tryz.func24 rfl l00 ?_
    have r':runG Γq1 L0 Tryz.prog Tryz.f24 [.ptr 0 0,.v (inV ⟨a,b,c,d⟩)] (mP (dnP x 1))=(bif okBu (wpU (dnP x 1)) then some (.v (oV o0),buM (wpU (dnP x 1)) (buP (wpU (dnP x 1)))) else none):=r
    rw [h1.2] at r'
    rw [e] at r' ⊢
    exact r'
  · rename_i e1 e2 e3
    obtain ⟨h1,rfl,rfl⟩:=some_t2 h
    rw [Bool.not_eq_true'] at h1
    have e:=dn_eq (l:=2) h1 (by simpa using e3)
    have r':runG Γq1 L0 Tryz.prog Tryz.f24 [.ptr 0 0,.v (inV ⟨a,b,c,d⟩)] (mP (dnP x 2))=some (.v (oV o0),mP (dnP x 1)):=runC2 x ⟨a,b,c,d⟩
    rw [e] at r'
    exact runOk (Λ:=L0) Okq1 Tryz.func24 rfl l00 r'
  · rename_i e1 e2 e3
    obtain ⟨h1,rfl,rfl⟩:=some_t2 h
    rw [Bool.and_eq_true,Bool.not_eq_true'] at h1
    have e:=dn_eq (l:=3) h1.1 (by simpa using h1.2)
    have r':runG Γq1 L0 Tryz.prog Tryz.f24 [.ptr 0 0,.v (inV ⟨a,b,c,d⟩)] (mP (dnP x 3))=some (.v (oV o0),mP (dnP x 2)):=runC3 x ⟨a,b,c,d⟩
    rw [e] at r'
    exact runOk (Λ:=L0) Okq1 Tryz.func24 rfl l00 r'
end Go.Proofs.YtagaiddomhpdmaaGreat.Hr
namespace Go.Proofs.YtagaiddomhpdmaaGreat.Hr
open Go Go.Proofs Go.Sx Nw Pe So
set_option linter.unusedVariables false
def bts (x:PS):Bool:=!x.up&&x.lf==1
def lfP (x:PS) (l:Int):PS:={ x with lf:=l }
def cyN (x:PS) (i:Inp):PS:=bif x.up then cyS x i else lfP x (bif x.lf==0 then 0 else x.lf - 1)
def okN (x:PS) (i:Inp):Bool:=bif x.up then x.lf==0&&(x.ft==0&&(okP x&&okIn i)) else (x.lf==0||(x.lf==2||x.lf==3))
def btP (x:PS):PS:=buP (wpU (dnP x 1))
def okB (x:PS):Bool:=bts x&&okBu (wpU (dnP x 1))
def gCa (xs:List SV) (m:Mem):Option (Bool×SV×Mem) :=
  match xs,uP m with
  | [.ptr 0 0,.v (.agg ⟨[.string a,.string b,.string c,.string d]⟩)],some x=>some (okN x ⟨a,b,c,d⟩,.v (oV (cyR x ⟨a,b,c,d⟩)),mP (cyN x ⟨a,b,c,d⟩))
  | _,_=>none
def aCa (xs:List SV) (m:Mem):List (Bool×Option (Bool×SV×Mem)) :=
  match xs,uP m with
  | [.ptr 0 0,.v (.agg ⟨[.string a,.string b,.string c,.string d]⟩)],some x=>[(bts x,some (okB x,.v (oV o0),buM (wpU (dnP x 1)) (btP x)))]
  | _,_=>[]
theorem gCz_at {x:PS} {i:Inp} {r:SV} {m':Mem} (h:gCz [.ptr 0 0,.v (inV i)] (mP x)=some (true,r,m')):CallOk Tryz.prog 24 [.ptr 0 0,.v (inV i)] (mP x) r m':=gCz_ok _ _ _ _ h
theorem gCz_is (x:PS) (i:Inp):gCz [.ptr 0 0,.v (inV i)] (mP x)=(match x.lf==0,x.lf==1,x.lf==2 with
    | true,_,_=>some (okCy x i,.v (oV (cyR x i)),mP { cyS x i with lf:=0 })
    | false,true,_=>some (!x.up&&okBu (wpU (dnP x 1)),.v (oV o0),buM (wpU (dnP x 1)) (buP (wpU (dnP x 1))))
    | false,false,true=>some (!x.up,.v (oV o0),mP (dnP x 1))
    | false,false,false=>some (!x.up&&x.lf==3,.v (oV o0),mP (dnP x 2))):=by kernel_rfl
theorem cyN_ok {x:PS} {i:Inp} (h:okN x i=true):CallOk Tryz.prog 24 [.ptr 0 0,.v (inV i)] (mP x) (.v (oV (cyR x i))) (mP (cyN x i)):=by
  refine gCz_at ?_
  rw [gCz_is]
  unfold okN at h
  unfold cyN
  cases hu:x.up
  · rw [hu] at h
    simp only [cond_false,Bool.or_eq_true,beq_iff_eq] at h
    have hR:cyR x i=o0:=by unfold cyR;rw [hu];rfl
    rw [hR]
    rcases h with h|h|h
    · have h1:okCy x i=true:=by unfold okCy;rw [hu];rfl
      have h2:cyS x i=x:=by unfold cyS;rw [hu];rfl
      have e:lfP x (bif x.lf==0 then 0 else x.lf - 1)=lfP x 0:=by rw [h];rfl
      rw [h1,h2,cond_false,e,h]
      rfl
    · have e:lfP x (bif x.lf==0 then 0 else x.lf - 1)=dnP x 1:=by
        rcases x with ⟨img,port,base,up,lf,L,R,ft,f,la,a,b,g,e,s,t,m,y,q,fl,cy⟩
        cases hu
        cases h
        rfl
      rw [cond_false,e,h]
      rfl
    · have e:lfP x (bif x.lf==0 then 0 else x.lf - 1)=dnP x 2:=by
        rcases x with ⟨img,port,base,up,lf,L,R,ft,f,la,a,b,g,e,s,t,m,y,q,fl,cy⟩
        cases hu
        cases h
        rfl
      rw [cond_false,e,h]
      rfl
  · rw [hu] at h
    simp only [cond_true,Bool.and_eq_true,beq_iff_eq] at h
    obtain ⟨h1,h2,h3,h4⟩:=h
    have h5:okCy x i=true:=by unfold okCy;rw [hu,h2,h3,h4];rfl
    have h6:({ cyS x i with lf:=0 }:PS)=cyS x i:=lf0 ((cyS_lf x i).trans h1)
    rw [h1,h5,h6]
    rfl
theorem gCa_ok:CtC 24 gCa:=by
  intro xs m r m' h
  unfold gCa at h
  split at h
  case h_2=>cases h
  rename_i a b c d x hx
  obtain ⟨h1,rfl,rfl⟩:=some_t2 h
  rw [uP_eq hx]
  exact cyN_ok h1
theorem btP_ok {x:PS} {i:Inp} (h:okB x=true):CallOk Tryz.prog 24 [.ptr 0 0,.v (inV i)] (mP x) (.v (oV o0)) (buM (wpU (dnP x 1)) (btP x)):=by
  refine gCz_at ?_
  rw [gCz_is]
  unfold okB bts at h
  simp only [Bool.and_eq_true,beq_iff_eq,Bool.not_eq_true'] at h
  obtain ⟨⟨h1,h2⟩,h3⟩:=h
  rw [h1,h2,h3]
  rfl
theorem aCa_ok:∀ xs m b r m',(b,some (true,r,m'))∈aCa xs m→CallOk Tryz.prog 24 xs m r m':=by
  intro xs m b r m' h
  unfold aCa at h
  split at h
  case h_2=>cases h
  rename_i a b' c d x hx
  rw [List.mem_singleton] at h
  injection h with _ h
  obtain ⟨h1,rfl,rfl⟩:=some_t2 h.symm
  rw [uP_eq hx]
  exact btP_ok (i:=⟨a,b',c,d⟩) h1
end Go.Proofs.YtagaiddomhpdmaaGreat.Hr
namespace Go.Proofs.YtagaiddomhpdmaaGreat.Hr
open Go Go.Proofs Go.Sx Nw Pe So
set_option linter.unusedVariables false
theorem okSt_new {x:Stm} {s:ByteArray}:okSt (stA x s)=true:=by
  unfold okSt stA
  have h:=sR_size (x.w++s)
  rw [inN_of (show sat x.v.toNat (sD (x.w++s))<1000001 by have:=sat_le x.v.toNat (sD (x.w++s));omega),Nat.ble_eq_true_of_le (show (sR (x.w++s)).size≤69 by omega)]
  rfl
theorem addN_in {t a:Int} (h:0≤t∧t≤a) (ha:a≤1000000):0≤addN' a t 1∧addN' a t 1≤a:=by
  unfold addN' clampI
  rw [wI_id (n:=a - t) (by omega)]
  have k:∀ d:Int,0≤d→d≤a - t→0≤wI (t+d)∧wI (t+d)≤a:=fun d h1 h2=>by rw [wI_id (by omega)];omega
  split<;>split<;>(first|exact k _ (by omega) (by omega)|skip)
theorem clamp_in {x y:Int} (h:0≤y):0≤clampI x y∧clampI x y≤y:=by
  unfold clampI
  split<;>split<;>omega
theorem i64_pk {b o:Bool} {x y:Int} (hx:i64B x=true) (hy:i64B y=true):i64B (pk b x (gN o y))=true:=by
  unfold pk gN
  cases b
  · cases o
    · exact hy
    · rfl
  · exact hx
theorem okSr_new {x:Src} {q:Int} {L:List (List Dat)} (h:okSr x=true):okSr (srA x (nvL q L))=true:=by
  unfold okSr at h
  simp only [Bool.and_eq_true,beq_iff_eq] at h
  obtain ⟨h1,h2,h3,h4,h5,h6⟩:=h
  obtain ⟨n1,n2⟩:=nvL_is q L
  obtain ⟨g1,g2,g3⟩:=i64_nv n1
  have h5':=of_decide_eq_true h5
  have ht:0≤(srA x (nvL q L)).t∧(srA x (nvL q L)).t≤1000000:=by
    show 0≤pk (srF x (nvL q L)==0) (clampI 0 x.a) (addN' x.a x.t 1)∧pk (srF x (nvL q L)==0) (clampI 0 x.a) (addN' x.a x.t 1)≤1000000
    unfold pk
    rw [h6]
    cases (srF x (nvL q L)==0)
    · exact addN_in (by omega) (by decide)
    · exact clamp_in (by decide)
  show (i64B (pk _ _ _)&&(i64B (pk _ _ _)&&(i64B (pk _ _ _)&&(decide (0≤x.s∧x.s<9223372036854775808)&&(decide (0≤(srA x (nvL q L)).t∧(srA x (nvL q L)).t≤1000000)&&x.a==1000000)))))=true
  rw [i64_pk g1 h1,i64_pk g2 h2,i64_pk g3 h3,h4,decide_eq_true ht,h6]
  rfl
theorem txt_len {L:List (List Dat)} (h:isRow L=true):L.length=(txt L).size:=by
  have:=congrArg List.length (isRow_eq h)
  rw [rowT_len] at this
  exact this
theorem wr_size {B s:ByteArray} {down waits:Bool} {le k:Int} (hB:B.size≤1000000) (hle:0≤le):(Fq.wrB B down waits le k s).size=B.size:=by
  unfold Fq.wrB
  cases e:Fq.wrN B down k s
  · unfold Fq.wrN at e
    have e:=bne_eq_false_iff_eq.1 e
    obtain ⟨_,h1,h2,h3⟩:=(Fq.refE_ok (by omega)).1 e
    have:=Fq.tornS_size waits hle s
    exact putT_size (by omega)
  · rfl
theorem svT_size {b:Bool} {x y:ByteArray} (h:x.size=y.size):(La.svT b x y).size=y.size:=by
  unfold La.svT
  cases b
  · rfl
  · exact h
def lfOk (x:PS):Bool:=bif x.up then x.lf==0 else (decide (0≤x.lf)&&decide (x.lf≤3))
structure Rok (L:List (List Dat)):Prop where
  ph:phOk L=true
  ne:phNe L=true
  ln:0<L.length
  vd:∀ p:Int,0≤p→p<(L.length:Int)→(phA L p).length≤1000000∧0≤phV L p∧phV L p≤2199023255552
structure Inv (n:Nat) (x:PS):Prop where
  bt:okBt x.img x.port=true
  mL:x.m.L=btL x.img
  mp:0≤x.m.p∧x.m.p<((btL x.img).length:Int)
  ft:x.ft=0
  h:okH x=true
  fr:isRow x.f.F=true∧(txt x.f.F).size=n
  le:0≤x.f.le
  ba:0≤x.base∧x.base+48≤(n:Int)∧n≤1000000
  lf:lfOk x=true
theorem phE_ok {k:Nat} (h0:0<k) (h1:k≤4):Rok (List.replicate k phE):=by
  have key:∀ p:Int,0≤p→p<(k:Int)→(List.replicate k phE).getD p.toNat []=phE:=by
    intro p h2 h3
    rw [List.getD_eq_getElem?_getD,List.getElem?_eq_getElem (by rw [List.length_replicate];omega),Option.getD_some,List.getElem_replicate]
  refine ⟨?_,?_,by rw [List.length_replicate];exact h0,fun p h2 h3=>?_⟩
  · rcases (show k=1∨k=2∨k=3∨k=4 by omega) with rfl|rfl|rfl|rfl<;>kernel_rfl
  · rcases (show k=1∨k=2∨k=3∨k=4 by omega) with rfl|rfl|rfl|rfl<;>kernel_rfl
  · rw [List.length_replicate] at h3
    unfold phA phV
    rw [key p h2 h3]
    exact ⟨by decide,by decide,by decide⟩
theorem btK_in (s:ByteArray):0<btK s∧btK s≤4:=by
  unfold btK
  cases eqS s im1<;>cases eqS s im2<;>cases eqS s im3<;>exact ⟨by decide,by decide⟩
theorem bt_ok (s:ByteArray):Rok (btL s):=phE_ok (btK_in s).1 (btK_in s).2
theorem Inv.okJ {n:Nat} {x:PS} (h:Inv n x):Hr.okJ x=true:=by
  obtain ⟨r1,r2,r3,r4⟩:=bt_ok x.img
  obtain ⟨v1,v2,v3⟩:=r4 x.m.p h.mp.1 h.mp.2
  unfold Hr.okJ okNw okVd
  rw [h.mL,r1,r2,decide_eq_true h.mp.1,decide_eq_true h.mp.2,Nat.ble_eq_true_of_le v1,decide_eq_true ⟨v2,v3⟩]
  rfl
theorem Inv.okLc {n:Nat} {x:PS} (h:Inv n x):Hr.okLc x.f.F x.f.le=true:=by
  have:=txt_len h.fr.1
  have h2:=h.fr.2
  have h3:=h.ba.2.2
  unfold Hr.okLc
  rw [h.fr.1,decide_eq_true h.le,Nat.ble_eq_true_of_le (by omega)]
  rfl
theorem Inv.okP {n:Nat} {x:PS} (h:Inv n x):Hr.okP x=true:=by
  unfold Hr.okP
  rw [h.h,h.okJ,h.okLc]
  rfl
theorem okH_mk {x:PS} (a:okSt x.a=true) (b:okSt x.b=true) (g:okSt x.g=true) (e:okSt x.e=true) (s:okSr x.s=true) (t:okSr x.t=true):okH x=true:=by
  unfold okH
  rw [a,b,g,e,s,t]
  rfl
theorem okH_get {x:PS} (h:okH x=true):okSt x.a=true∧okSt x.b=true∧okSt x.g=true∧okSt x.e=true∧okSr x.s=true∧okSr x.t=true:=by
  unfold okH at h
  simpa only [Bool.and_eq_true] using h
theorem cyE_img (x:PS) (i:Inp):(Hr.cyE x i).img=x.img:=by kernel_rfl
theorem cyE_port (x:PS) (i:Inp):(Hr.cyE x i).port=x.port:=by kernel_rfl
theorem cyE_ft (x:PS) (i:Inp):(Hr.cyE x i).ft=x.ft:=by kernel_rfl
theorem cyE_le (x:PS) (i:Inp):(Hr.cyE x i).f.le=x.f.le:=by kernel_rfl
theorem cyE_base (x:PS) (i:Inp):(Hr.cyE x i).base=x.base:=by kernel_rfl
theorem cyE_up (x:PS) (i:Inp):(Hr.cyE x i).up=x.up:=by kernel_rfl
theorem cyE_lf (x:PS) (i:Inp):(Hr.cyE x i).lf=x.lf:=by kernel_rfl
theorem Inv.cyE {n:Nat} {x:PS} (h:Inv n x) (i:Inp):Inv n (Hr.cyE x i):=by
  obtain ⟨a1,a2,a3,a4,a5,a6⟩:=okH_get h.h
  refine ⟨by rw [cyE_img,cyE_port];exact h.bt,?_,?_,by rw [cyE_ft];exact h.ft,?_,?_,by rw [cyE_le];exact h.le,by rw [cyE_base];exact h.ba,by unfold lfOk;rw [cyE_up,cyE_lf];exact h.lf⟩
  · have e1:(cpM (cyC x i) (cyH x i) (cyJ x i)).L=x.m.L:=by kernel_rfl
    have e2:(cyC x i).m.L=x.m.L:=by kernel_rfl
    have e0:(Hr.cyE x i).m=bif (cyC x i).fl then cpM (cyC x i) (cyH x i) (cyJ x i) else (cyC x i).m:=by kernel_rfl
    rw [cyE_img,e0]
    cases (cyC x i).fl
    · exact e2.trans h.mL
    · exact e1.trans h.mL
  · have e1:(cpM (cyC x i) (cyH x i) (cyJ x i)).p=bif cpC (cyC x i) (cyH x i) (cyJ x i) then wI (x.m.p+1) else x.m.p:=by kernel_rfl
    have e2:(cyC x i).m=x.m:=by kernel_rfl
    have e0:(Hr.cyE x i).m=bif (cyC x i).fl then cpM (cyC x i) (cyH x i) (cyJ x i) else (cyC x i).m:=by kernel_rfl
    rw [cyE_img,e0]
    cases (cyC x i).fl
    · rw [cond_false,e2];exact h.mp
    · rw [cond_true,e1]
      cases e:cpC (cyC x i) (cyH x i) (cyJ x i)
      · exact h.mp
      · unfold cpC Ph.cyB at e
        have hl:(btL x.img).length≤4:=by unfold btL;rw [List.length_replicate];exact (btK_in _).2
        have hl0:=(bt_ok x.img).ln
        rw [e2,h.mL,wI_id (n:=((btL x.img).length:Int) - 1) (by omega)] at e
        have hp:=h.mp
        by_cases hq:x.m.p≥((btL x.img).length:Int) - 1
        · rw [decide_eq_true hq] at e;cases e
        · rw [cond_true,wI_id (by omega)]
          omega
  · have ea:(Hr.cyE x i).a=stA x.a i.a:=by kernel_rfl
    have eb:(Hr.cyE x i).b=stA x.b i.b:=by kernel_rfl
    have eg:(Hr.cyE x i).g=stA x.g i.c:=by kernel_rfl
    have ee:(Hr.cyE x i).e=stA x.e i.d:=by kernel_rfl
    have es:(Hr.cyE x i).s=srA x.s (nvL 0 (stF x.a i.a)):=by kernel_rfl
    have et:(Hr.cyE x i).t=srA x.t (nvL 1 (stF x.b i.b)):=by kernel_rfl
    exact okH_mk (by rw [ea];exact okSt_new) (by rw [eb];exact okSt_new) (by rw [eg];exact okSt_new) (by rw [ee];exact okSt_new) (by rw [es];exact okSr_new a5) (by rw [et];exact okSr_new a6)
  · have eF:(Hr.cyE x i).f.F=rowT (La.svT (svK (svRr (cyD x i))) (Fq.wrB (txt x.f.F) x.f.dn x.f.wt x.f.le (svA (cyD x i)) (svS (svRr (cyD x i)))) (txt x.f.F)):=by kernel_rfl
    rw [eF]
    refine ⟨isRow_T _,?_⟩
    rw [txt_rowT]
    have hs:(txt x.f.F).size≤1000000:=by rw [h.fr.2];exact h.ba.2.2
    exact (svT_size (wr_size hs h.le)).trans h.fr.2
theorem Inv.upd {n:Nat} {x:PS} (h:Inv n x) {u:Bool} {l:Int} (hl:(bif u then l==0 else (decide (0≤l)&&decide (l≤3)))=true):Inv n { x with up:=u,lf:=l }:=⟨h.bt,h.mL,h.mp,h.ft,h.h,h.fr,h.le,h.ba,hl⟩
theorem Inv.up0 {n:Nat} {x:PS} (h:Inv n x) (hu:x.up=true):x.lf=0:=by
  have:=h.lf
  unfold lfOk at this
  rw [hu] at this
  exact beq_iff_eq.1 this
theorem Inv.dn {n:Nat} {x:PS} (h:Inv n x) (hu:x.up=false):0≤x.lf∧x.lf≤3:=by
  have:=h.lf
  unfold lfOk at this
  rw [hu,cond_false,Bool.and_eq_true,decide_eq_true_eq,decide_eq_true_eq] at this
  exact this
theorem Inv.okN {n:Nat} {x:PS} (h:Inv n x) {i:Inp} (hi:okIn i=true) (hb:bts x=false):Hr.okN x i=true:=by
  unfold Hr.okN
  unfold bts at hb
  cases hu:x.up
  · have hd:=h.dn hu
    rw [hu] at hb
    have hb:(x.lf==1)=false:=hb
    have:=beq_eq_false_iff_ne.1 hb
    rw [cond_false]
    rcases (show x.lf=0∨x.lf=2∨x.lf=3 by omega) with e|e|e<;>rw [e]<;>rfl
  · rw [cond_true,h.up0 hu,h.ft,h.okP,hi]
    rfl
theorem Inv.cyN {n:Nat} {x:PS} (h:Inv n x) {i:Inp} (hb:bts x=false):Inv n (Hr.cyN x i):=by
  have hE:=h.cyE i
  unfold Hr.cyN cyS
  cases hu:x.up
  · have hd:=h.dn hu
    refine h.upd (u:=x.up) (l:=bif x.lf==0 then 0 else x.lf - 1) ?_
    rw [hu]
    cases e:x.lf==0
    · have:=beq_eq_false_iff_ne.1 e
      show (decide (0≤x.lf - 1)&&decide (x.lf - 1≤3))=true
      rw [Bool.and_eq_true,decide_eq_true_eq,decide_eq_true_eq]
      omega
    · rfl
  · show Inv n (bif cyX x i != 0 then _ else _)
    cases cyX x i != 0
    · exact hE
    · have e:(Hr.cyE x i).lf=0:=(cyE_lf x i).trans (h.up0 hu)
      refine hE.upd (u:=false) (l:=(Hr.cyE x i).lf) ?_
      rw [e]
      rfl
theorem Inv.rs {n:Nat} {x:PS} (h:Inv n x):Inv n (rsP x):=h.upd rfl
def teP (x:PS) (k:Int):PS:={ x with f:={ x.f with wt:=true,le:=if k>0 then k else 0 } }
theorem Inv.te {n:Nat} {x:PS} (h:Inv n x) (k:Int):Inv n (teP x k):=⟨h.bt,h.mL,h.mp,h.ft,h.h,h.fr,by show 0≤(if k>0 then k else 0);split<;>omega,h.ba,h.lf⟩
def zkP (k:Nat):PS:={ x0 zS 0 0 ⟨[],false,false,0,0,0⟩ with L:=List.replicate k phE,R:=⟨2,3,4,2,50,2,10,(k:Int)⟩ }
theorem okBe_is {s:ByteArray} {y:PS} (hL:y.L=btL s) (hR:y.R=btR s):okBe y=true:=by
  have e:okBe y=okBe (zkP (btK s)):=by
    unfold okBe
    rw [hL,hR]
    rfl
  rw [e]
  have:=btK_in s
  generalize btK s=k at this
  have h1:okBe (zkP 1)=true:=by kernel_rfl
  have h2:okBe (zkP 2)=true:=by kernel_rfl
  have h3:okBe (zkP 3)=true:=by kernel_rfl
  have h4:okBe (zkP 4)=true:=by kernel_rfl
  rcases (show k=1∨k=2∨k=3∨k=4 by omega) with e|e|e|e<;>rw [e]<;>assumption
theorem Inv.okB {n:Nat} {x:PS} (h:Inv n x) (hb:bts x=true):Hr.okB x=true:=by
  have hs:=h.fr.2
  have hn:=h.ba
  unfold Hr.okB okBu
  rw [hb,show (wpU (dnP x 1)).f.F=x.f.F from rfl,show (wpU (dnP x 1)).f.le=x.f.le from rfl,h.okLc,show (wpU (dnP x 1)).img=x.img from rfl,show (wpU (dnP x 1)).port=x.port from rfl,h.bt,okBe_is (s:=x.img) (y:=buY (wpU (dnP x 1))) rfl rfl,show (wpU (dnP x 1)).f.dn=false from rfl,show (wpU (dnP x 1)).base=x.base from rfl,(Fq.refE_ok (down:=false) (size:=((txt x.f.F).size:Int)) (k:=x.base) (n:=48) (by omega)).2 ⟨rfl,by omega,by omega,by omega⟩]
  rfl
theorem btP_img (x:PS):(btP x).img=x.img:=by kernel_rfl
theorem btP_port (x:PS):(btP x).port=x.port:=by kernel_rfl
theorem btP_base (x:PS):(btP x).base=x.base:=by kernel_rfl
theorem btP_ft (x:PS):(btP x).ft=0:=by kernel_rfl
theorem btP_up (x:PS):(btP x).up=true:=by kernel_rfl
theorem btP_lf (x:PS):(btP x).lf=0:=by kernel_rfl
theorem btP_mL (x:PS):(btP x).m.L=btL x.img:=by kernel_rfl
theorem btP_F (x:PS):(btP x).f.F=x.f.F:=by kernel_rfl
theorem btP_le (x:PS):(btP x).f.le=x.f.le:=by kernel_rfl
theorem btP_mp (x:PS):(btP x).m.p=bif Ph.seB (btL x.img) (buL (wpU (dnP x 1))).r.p (buL (wpU (dnP x 1))).r.n then (buL (wpU (dnP x 1))).r.p else 0:=by kernel_rfl
theorem btP_h (x:PS):okH (btP x)=true:=by
  have ea:(btP x).a=⟨zS,1000000,0⟩:=by kernel_rfl
  have eb:(btP x).b=⟨zS,1000000,0⟩:=by kernel_rfl
  have eg:(btP x).g=⟨zS,1000000,0⟩:=by kernel_rfl
  have ee:(btP x).e=⟨zS,1000000,0⟩:=by kernel_rfl
  have es:(btP x).s=⟨50,2,⟨0,0,0,0,0,0,0,0⟩,false,1000000,0⟩:=by kernel_rfl
  have et:(btP x).t=⟨50,2,⟨0,0,0,0,0,0,0,0⟩,false,1000000,0⟩:=by kernel_rfl
  have k1:okSt ⟨zS,1000000,0⟩=true:=by kernel_rfl
  have k2:okSr ⟨50,2,⟨0,0,0,0,0,0,0,0⟩,false,1000000,0⟩=true:=by kernel_rfl
  exact okH_mk (by rw [ea];exact k1) (by rw [eb];exact k1) (by rw [eg];exact k1) (by rw [ee];exact k1) (by rw [es];exact k2) (by rw [et];exact k2)
theorem Inv.bt' {n:Nat} {x:PS} (h:Inv n x):Inv n (btP x):=by
  have hl0:=(bt_ok x.img).ln
  refine ⟨by rw [btP_img,btP_port];exact h.bt,by rw [btP_img];exact btP_mL x,?_,btP_ft x,btP_h x,by rw [btP_F];exact h.fr,by rw [btP_le];exact h.le,by rw [btP_base];exact h.ba,by unfold lfOk;rw [btP_up,btP_lf];rfl⟩
  rw [btP_img,btP_mp]
  cases e:Ph.seB (btL x.img) (buL (wpU (dnP x 1))).r.p (buL (wpU (dnP x 1))).r.n
  · exact ⟨Int.le_refl _,by show (0:Int)<((btL x.img).length:Int);omega⟩
  · unfold Ph.seB at e
    generalize (buL (wpU (dnP x 1))).r.p=q at *
    by_cases h1:q<0
    · rw [decide_eq_true h1] at e;cases e
    by_cases h2:q≥((btL x.img).length:Int)
    · rw [decide_eq_false h1,decide_eq_true h2] at e;cases e
    exact ⟨by show 0≤q;omega,by show q<((btL x.img).length:Int);omega⟩
def cyF (x:PS) (i:Inp):PS:=bif bts x then btP x else cyN x i
end Go.Proofs.YtagaiddomhpdmaaGreat.Hr
