/-
  A processor boots,waits for power,is made;a cycle in one of two ways;what holds of it all the time.
-/
import Derived.Test.YtainfdcfkgemhaaGreatYj
import Derived.Test.YtainfdcfkgemhaaGreatYi
set_option maxRecDepth 100000
noncomputable section
open Go.Proofs.Tryz
namespace Go.Proofs.YtainfdcfkgemhaaGreat.Hr
open Go Go.Proofs Go.Sx Nw Pe So
set_option linter.unusedVariables false
def Fd (xs:List SV) (m:Mem):Option (Bool×SV×Mem) :=
 match xs,m with
 | [.ptr 0 0,.v (.int .i64 base)],⟨[[.row 0,.ptr 1 0,.v (.bool down),.v (.bool waits),.v (.int .i64 lets)],[.v (.int .i64 mx),.v (.int .i64 w)]],[true,true],[.live ⟨5,[.num .u8],L,true,mark⟩]⟩=>some (ga L lets&&Fq.refE down ((aJ L).size:Int) base 48==0,.tup [.one (.ptr 2 0),.one (.v (I 0))],La.opM base (La.sl0 (aJ L) base) (La.sl1 (aJ L) base) L mark mx w down waits lets)
 | _,_=>none
theorem qfd:aT 119 Fd:=by
 intro xs m r m' h
 unfold Fd at h
 split at h
 case h_2=>cases h
 rename_i base down waits lets mx w L mark
 obtain ⟨h1,rfl,rfl⟩:=az h
 obtain ⟨e1,e2⟩:=Bool.and_eq_true_iff.1 h1
 refine La.gOpenS_ok _ _ _ _ ?_
 show some (Fq.okL L lets&&Fq.refE down ((aJ L).size:Int) base 48==0,_,_)=_
 rw [M1 e1,e2]
 rfl
def Γu0:Orc:=aE 123 F3 (aE 122 GW (aE 121 Se.gSNew (ah 76 yg (aE 120 GQ (aE 119 Fd (aE 134 Fq.gFUp ΓO))))))
theorem Oku0:Γu0.Ok prog:=aA (aA (aA (ac (aA (aA (aA bR Fq.gFUp_ok) qfd) qgH) OB) Se.gSNew_ok) qgO) qfV
def wrU (f:FuncId):Bool:=Nat.beq f 123||(Nat.beq f 122||(Nat.beq f 121||(Nat.beq f 120||(Nat.beq f 119||Nat.beq f 134))))
def Γu1:Orc:={ Γu0 with av:=true,bs:=true,sb:=true,wr:=wrU }
theorem Oku1:Γu1.Ok prog:=⟨Oku0.call,Oku0.rd,Oku0.eqv⟩
def jT (x:PS):ByteArray:=La.sl0 (aJ x.f.F) x.base
def jS (x:PS):ByteArray:=La.sl1 (aJ x.f.F) x.base
def buL (x:PS):Lat:=⟨x.base,⟨La.opI (jT x) (jS x) La.qS,La.opI (jT x) (jS x) La.cS,La.opI (jT x) (jS x) La.pS,La.opI (jT x) (jS x) La.uS,La.opI (jT x) (jS x) La.fS,La.opI (jT x) (jS x) La.at9,La.opI (jT x) (jS x) La.at10,La.opI (jT x) (jS x) La.at11,La.opI (jT x) (jS x) La.nS⟩,La.opN (jT x) (jS x)⟩
def t8 (x:PS):PS:={ x with up:=true,L:=PV x.img,R:=jU x.img,ft:=HQ x.img x.port,la:=buL x,q:=⟨(jU x.img).r8,!(HQ x.img x.port==0),0,0⟩,fl:=false,cy:=0 }
def gi (x:PS):PS:=xJ (dG (t8 x))
def PJ (r:Nat) (x:PS) (la a b g e s t m y q:Nat):List SA:=.v (S x.img)::.v (I x.port)::.ptr 1 0::.v (I x.base)::.v (Bo x.up)::.v (I x.lf)::.row r::eC x.R (.v (I x.ft)::.ptr la 0::.ptr a 0::.ptr b 0::.ptr g 0::.ptr e 0::.ptr s 0::.ptr t 0::.ptr m 0::.ptr y 0::.ptr q 0::.v (Bo x.fl)::.v (I x.cy)::[])
def jR (x y:PS):Mem:=⟨[PJ 3 y 23 24 25 26 27 28 29 30 31 32,HK y.f,qB x.la,bp 13 x.a,bp 14 x.b,bp 15 x.g,bp 16 x.e,dc 17 x.s,dc 18 x.t,HJ x.m,zh,gF x.q,cC y.f.a y.f.v,cC x.a.a x.a.v,cC x.b.a x.b.v,cC x.g.a x.g.v,cC x.e.a x.e.v,cC x.s.a x.s.t,cC x.t.a x.t.t,cC x.m.a x.m.v,cC x.y.a x.y.u,cC x.y.b x.y.v,cC x.y.c x.y.w,qB y.la,bp 33 y.a,bp 34 y.b,bp 35 y.g,bp 36 y.e,dc 37 y.s,dc 38 y.t,kN 4 39 y.m,[.ptr 40 0,.ptr 41 0,.ptr 42 0],gF y.q,cC y.a.a y.a.v,cC y.b.a y.b.v,cC y.g.a y.g.v,cC y.e.a y.e.v,cC y.s.a y.s.t,cC y.t.a y.t.t,cC y.m.a y.m.v,cC y.y.a y.y.u,cC y.y.b y.y.v,cC y.y.c y.y.w],tt 43,[bP x.L,fo y.f.F,bP x.m.L,bP y.L,bP y.m.L]⟩
theorem ZP (x:PS):runG Γu1 L0 prog f61 [.ptr 0 0] (mP x)=(bif ga x.f.F x.f.le&&Fq.refE x.f.dn ((aJ x.f.F).size:Int) x.base 48==0 then (bif pF x.img x.port then (bif lM (t8 x) then some (.v (I 0),jR x (gi x)) else none) else none) else none):=by kernel_rfl
end Go.Proofs.YtainfdcfkgemhaaGreat.Hr
namespace Go.Proofs.YtainfdcfkgemhaaGreat.Hr
open Go Go.Proofs Go.Sx Nw Pe So
set_option linter.unusedVariables false
def lL (x:PS):Bool:=(ga x.f.F x.f.le&&Fq.refE x.f.dn ((aJ x.f.F).size:Int) x.base 48==0)&&(pF x.img x.port&&lM (t8 x))
def GO (xs:List SV) (m:Mem):Option (Bool×SV×Mem) :=
 match xs,uP m with
 | [.ptr 0 0],some x=>some (lL x,.v (I 0),jR x (gi x))
 | _,_=>none
theorem qgF:aT 61 GO:=by
 intro xs m r m' h
 unfold GO at h
 split at h
 case h_2=>cases h
 rename_i x hx
 obtain ⟨h1,rfl,rfl⟩:=az h
 rw [eG hx]
 refine aj (Λ:=L0) Oku1 func61 rfl af ((ZP x).trans ?_)
 obtain ⟨e1,e2⟩:=Bool.and_eq_true_iff.1 h1
 obtain ⟨e2,e3⟩:=Bool.and_eq_true_iff.1 e2
 rw [e1,e2,e3]
 rfl
def Γw0:Orc:=aE 61 GO (aE 134 Fq.gFUp ΓO)
theorem Ik:Γw0.Ok prog:=aA (aA bR Fq.gFUp_ok) qgF
def Γw1:Orc:={ Γw0 with av:=true,bs:=true,sb:=true }
theorem Ij:Γw1.Ok prog:=⟨Ik.call,Ik.rd,Ik.eqv⟩
def Kr (x:PS):PS:={ x with lf:=wI (x.lf - 1) }
def cu (x:PS):PS:={ x with lf:=wI (x.lf - 1),f:={ x.f with dn:=false,wt:=false } }
theorem BP (x:PS):runG Γw1 L0 prog f75 [.ptr 0 0] (mP x)=(bif x.lf==0 then some (.v (.tuple #[]),mP x) else (bif wI (x.lf - 1)==0 then (bif lL (cu x) then some (.v (.tuple #[]),jR (cu x) (gi (cu x))) else none) else some (.v (.tuple #[]),mP (Kr x)))):=by kernel_rfl
end Go.Proofs.YtainfdcfkgemhaaGreat.Hr
namespace Go.Proofs.YtainfdcfkgemhaaGreat.Hr
open Go Go.Proofs Go.Sx Nw Pe So
set_option linter.unusedVariables false
def Do (xs:List SV) (m:Mem):Option (Bool×SV×Mem) :=
 match xs,uP m with
 | [.ptr 0 0],some x=>match x.lf==0,wI (x.lf - 1)==0 with
  | true,_=>some (true,.v (.tuple #[]),mP x)
  | false,true=>some (lL (cu x),.v (.tuple #[]),jR (cu x) (gi (cu x)))
  | false,false=>some (true,.v (.tuple #[]),mP (Kr x))
 | _,_=>none
theorem qdB:aT 75 Do:=by
 intro xs m r m' h
 unfold Do at h
 split at h
 case h_2=>cases h
 rename_i x hx
 rw [eG hx]
 split at h
 ·rename_i e1
  obtain ⟨_,rfl,rfl⟩:=az h
  exact aj (Λ:=L0) Ij func75 rfl af ((BP x).trans (by rw [e1];rfl))
 ·rename_i e1 e2
  obtain ⟨h1,rfl,rfl⟩:=az h
  exact aj (Λ:=L0) Ij func75 rfl af ((BP x).trans (by rw [e1,e2,h1];rfl))
 ·rename_i e1 e2
  obtain ⟨_,rfl,rfl⟩:=az h
  exact aj (Λ:=L0) Ij func75 rfl af ((BP x).trans (by rw [e1,e2];rfl))
def Γq0:Orc:=aE 75 Do Γy1
theorem Iu:Γq0.Ok prog:=aA qiK qdB
def Γq1:Orc:={ Γq0 with av:=true,bs:=true,sb:=true }
theorem zW:Γq1.Ok prog:=⟨Iu.call,Iu.rd,Iu.eqv⟩
theorem ZL (x:PS) (i:Inp):runG Γq1 L0 prog f41 [.ptr 0 0,.v (eT i)] (mP { x with lf:=0 })=(bif !x.up then some (.v (oV o0),mP { x with lf:=0 }) else (bif !(x.ft==0) then none else cyT { x with lf:=0 } i)):=by kernel_rfl
theorem ZJ (x:PS) (i:Inp):runG Γq1 L0 prog f41 [.ptr 0 0,.v (eT i)] (mP { x with up:=false,lf:=1 })=(bif lL (cu { x with up:=false,lf:=1 }) then some (.v (oV o0),jR (cu { x with up:=false,lf:=1 }) (gi (cu { x with up:=false,lf:=1 }))) else none):=by kernel_rfl
theorem ZI (x:PS) (i:Inp):runG Γq1 L0 prog f41 [.ptr 0 0,.v (eT i)] (mP { x with up:=false,lf:=2 })=some (.v (oV o0),mP { x with up:=false,lf:=1 }):=by kernel_rfl
theorem ZH (x:PS) (i:Inp):runG Γq1 L0 prog f41 [.ptr 0 0,.v (eT i)] (mP { x with up:=false,lf:=3 })=some (.v (oV o0),mP { x with up:=false,lf:=2 }):=by kernel_rfl
end Go.Proofs.YtainfdcfkgemhaaGreat.Hr
namespace Go.Proofs.YtainfdcfkgemhaaGreat.Hr
open Go Go.Proofs Go.Sx Nw Pe So
set_option linter.unusedVariables false
def nP:SA:=.v (.pointer none)
def z8:Rl:=⟨0,0,0,0,0,0,0,0⟩
def Qa (x:PS):Mem:=⟨[.v (S x.img)::.v (I x.port)::.ptr 1 0::.v (I x.base)::.v (Bo x.up)::.v (I x.lf)::.row 0::eC x.R [.v (I x.ft),nP,nP,nP,nP,nP,nP,nP,nP,nP,.ptr 2 0,.v (Bo x.fl),.v (I x.cy)],[.row 1,.ptr 3 0,.v (Bo x.f.dn),.v (Bo x.f.wt),.v (I x.f.le)],gF x.q,cC x.f.a x.f.v],tt 4,[bP x.L,fo x.f.F]⟩
def P9 (x:PS):Mem:=⟨[.v (S x.img)::.v (I x.port)::.ptr 1 0::.v (I x.base)::.v (Bo x.up)::.v (I x.lf)::.row 0::eC x.R [.v (I x.ft),nP,.ptr 4 0,.ptr 5 0,.ptr 6 0,.ptr 7 0,.ptr 8 0,.ptr 9 0,.ptr 10 0,.ptr 11 0,.ptr 2 0,.v (Bo x.fl),.v (I x.cy)],[.row 1,.ptr 3 0,.v (Bo x.f.dn),.v (Bo x.f.wt),.v (I x.f.le)],gF x.q,cC x.f.a x.f.v,bp 12 (dG x).a,bp 13 (dG x).b,bp 14 (dG x).g,bp 15 (dG x).e,dc 16 (dG x).s,dc 17 (dG x).t,kN 2 18 (dG x).m,[.ptr 19 0,.ptr 20 0,.ptr 21 0],cC 1000000 0,cC 1000000 0,cC 1000000 0,cC 1000000 0,cC 1000000 0,cC 1000000 0,cC 1000000 0,cC (dG x).y.a 0,cC (dG x).y.b 0,cC (dG x).y.c 0],tt 22,[bP x.L,fo x.f.F,bP x.L]⟩
theorem ZW (x:PS):runG Γb1 L0 prog f122 [.ptr 0 0] (Qa x)=(bif decide ((1:Int)<=x.R.r5)&&decide ((1:Int)<=x.R.r6) then (bif decide ((1:Int)<=x.R.r5)&&decide ((1:Int)<=x.R.r6) then (bif co x.L&&(fq x.L&&(wrB x.L x.R.r1 x.R.r2 x.R.r3 x.R.r4 x.R.r5 x.R.r6 x.R.r7 x.R.r8==(0:Int)&&Nat.blt (0:Nat) x.L.length)) then (bif decide ((1:Int)<=x.R.r1)&&(decide ((1:Int)<=x.R.r2)&&decide ((1:Int)<=x.R.r3)) then some (.v (.tuple #[]),P9 x) else none) else none) else none) else none):=by kernel_rfl
def Bi (b:List SA):Option (Int×Bool×Int):=match b with
 | .v (.int .i64 ft)::.v (.pointer none)::.v (.pointer none)::.v (.pointer none)::.v (.pointer none)::.v (.pointer none)::.v (.pointer none)::r=>match r with
  | [.v (.pointer none),.v (.pointer none),.v (.pointer none),.ptr 2 0,.v (.bool fl),.v (.int .i64 cy)]=>some (ft,fl,cy)
  | _=>none
 | _=>none
theorem TU {b:List SA} {ft cy:Int} {fl:Bool} (h:Bi b=some (ft,fl,cy)):b=[.v (I ft),nP,nP,nP,nP,nP,nP,nP,nP,nP,.ptr 2 0,.v (Bo fl),.v (I cy)]:=by
 unfold Bi at h
 split at h
 ·split at h
  ·injection h with h
   injection h with h1 h
   injection h with h2 h3
   subst h1 h2 h3
   rfl
  ·cases h
 ·cases h
def Bk (b:List SA):Option (ByteArray×Int×Int×Bool×Int×Rl×Int×Bool×Int):=match b with
 | .v (.string img)::.v (.int .i64 port)::.ptr 1 0::.v (.int .i64 base)::.v (.bool up)::.v (.int .i64 lf)::.row 0::r=>match lx r with
  | some (R,r')=>match Bi r' with
   | some (ft,fl,cy)=>some (img,port,base,up,lf,R,ft,fl,cy)
   | none=>none
  | none=>none
 | _=>none
theorem TW {b:List SA} {img:ByteArray} {port base lf ft cy:Int} {up fl:Bool} {R:Rl} (h:Bk b=some (img,port,base,up,lf,R,ft,fl,cy)):b=.v (S img)::.v (I port)::.ptr 1 0::.v (I base)::.v (Bo up)::.v (I lf)::.row 0::eC R [.v (I ft),nP,nP,nP,nP,nP,nP,nP,nP,nP,.ptr 2 0,.v (Bo fl),.v (I cy)]:=by
 unfold Bk at h
 split at h
 ·split at h
  ·rename_i R' r' hr
   split at h
   ·rename_i ft' fl' cy' hl
    injection h with h
    injection h with h1 h
    injection h with h2 h
    injection h with h3 h
    injection h with h4 h
    injection h with h5 h
    injection h with h6 h
    injection h with h7 h
    injection h with h8 h9
    subst h1 h2 h3 h4 h5 h6 h7 h8 h9
    rw [oP hr,TU hl]
    try rfl
   ·cases h
  ·cases h
 ·cases h
def Bl (r:List RowS):Option (List (List Dat)×List (List Dat)):=match r with
 | [r0,r1]=>match r0,r1 with
  | .live ⟨117,[.sl 162 [.num .i64,.num .i64],.num .i64,.num .i64,.num .i64,.num .i64],a,true,false⟩,.live ⟨5,[.num .u8],b,true,true⟩=>some (a,b)
  | _,_=>none
 | _=>none
theorem TX {r:List RowS} {a b:List (List Dat)} (h:Bl r=some (a,b)):r=[bP a,fo b]:=by
 unfold Bl at h
 split at h
 ·split at h
  ·injection h with h
   injection h with h1 h2
   subst h1 h2
   rfl
  ·cases h
 ·cases h
def Bf (b:List SA):Option (Bool×Bool×Int):=match b with
 | [.row 1,.ptr 3 0,.v (.bool d),.v (.bool t),.v (.int .i64 l)]=>some (d,t,l)
 | _=>none
theorem TQ {b:List SA} {d t:Bool} {l:Int} (h:Bf b=some (d,t,l)):b=[.row 1,.ptr 3 0,.v (Bo d),.v (Bo t),.v (I l)]:=by
 unfold Bf at h
 split at h
 ·injection h with h
  injection h with h1 h
  injection h with h2 h3
  subst h1 h2 h3
  rfl
 ·cases h
def lh:Stm:=⟨zS,0,0⟩
def uG:Src:=⟨0,0,⟨0,0,0,0,0,0,0,0⟩,false,0,0⟩
def Bj (m:Mem):Option PS:=match m with
 | ⟨[b0,b1,b2,b3],lv,rs⟩=>match nI 4 lv,Bk b0,Bf b1,rS b2,uC b3,Bl rs with
  | true,some (img,port,base,up,lf,R,ft,fl,cy),some (dn,wt,le),some q,some (a,v),some (L,F)=>some ⟨img,port,base,up,lf,L,R,ft,⟨F,dn,wt,le,a,v⟩,⟨0,⟨0,0,0,0,0,0,0,0,0⟩,0⟩,lh,lh,lh,lh,uG,uG,⟨[],z8,0,0,0⟩,⟨0,0,0,0,0,0⟩,q,fl,cy⟩
  | _,_,_,_,_,_=>none
 | _=>none
theorem TV {m:Mem} {x:PS} (h:Bj m=some x):m=Qa x:=by
 unfold Bj at h
 split at h
 case h_2=>cases h
 split at h
 case h_2=>cases h
 rename_i hl h0 h1 h2 h3 hr
 injection h with h
 subst h
 rw [qd hl,TW h0,TQ h1,A4 h2,cT h3,TX hr]
 rfl
def GU (xs:List SV) (m:Mem):Option (Bool×SV×Mem) :=
 match xs,Bj m with
 | [.ptr 0 0],some x=>some (lM x,.v (.tuple #[]),P9 x)
 | _,_=>none
theorem qgM:aT 122 GU:=by
 intro xs m r m' h
 unfold GU at h
 split at h
 case h_2=>cases h
 rename_i x hx
 obtain ⟨h1,rfl,rfl⟩:=az h
 rw [TV hx]
 refine aj (Λ:=L0) Okb1 func122 rfl af ((ZW x).trans ?_)
 unfold lM at h1
 obtain ⟨e1,e2⟩:=Bool.and_eq_true_iff.1 h1
 obtain ⟨e2,e3⟩:=Bool.and_eq_true_iff.1 e2
 rw [e1,e2,e3]
 rfl
end Go.Proofs.YtainfdcfkgemhaaGreat.Hr
namespace Go.Proofs.YtainfdcfkgemhaaGreat.Hr
open Go Go.Proofs Go.Sx Nw Pe So
set_option linter.unusedVariables false
def Γf0:Orc:=aE 122 GU Γu0
theorem Okf0:Γf0.Ok prog:=aA Oku0 qgM
def Γf1:Orc:={ Γf0 with av:=true,bs:=true,sb:=true,wr:=wrU }
theorem qjl:Γf1.Ok prog:=⟨Okf0.call,Okf0.rd,Okf0.eqv⟩
def x0 (img:ByteArray) (port base:Int) (f:Fla):PS:=⟨img,port,base,false,0,[],z8,0,f,⟨0,⟨0,0,0,0,0,0,0,0,0⟩,0⟩,lh,lh,lh,lh,uG,uG,⟨[],z8,0,0,0⟩,⟨0,0,0,0,0,0⟩,⟨0,false,0,0⟩,false,0⟩
def O0 (img:ByteArray) (port base:Int) (f:Fla):Mem:=⟨[[.v (S img),.v (I port),.ptr 1 0,.v (I base),.v (Bo false),.v (I 0),.v (.slice none 0 0),.v (I 0),.v (I 0),.v (I 0),.v (I 0),.v (I 0),.v (I 0),.v (I 0),.v (I 0),.v (I 0),nP,nP,nP,nP,nP,nP,nP,nP,nP,nP,.v (Bo false),.v (I 0)],[.row 0,.ptr 2 0,.v (Bo f.dn),.v (Bo f.wt),.v (I f.le)],cC f.a f.v],tt 3,[fo f.F]⟩
def OG (y:PS):Mem:=⟨[PJ 1 y 3 4 5 6 7 8 9 10 11 12,[.row 0,.ptr 2 0,.v (Bo y.f.dn),.v (Bo y.f.wt),.v (I y.f.le)],cC y.f.a y.f.v,qB y.la,bp 13 y.a,bp 14 y.b,bp 15 y.g,bp 16 y.e,dc 17 y.s,dc 18 y.t,kN 2 19 y.m,[.ptr 20 0,.ptr 21 0,.ptr 22 0],gF y.q,cC y.a.a y.a.v,cC y.b.a y.b.v,cC y.g.a y.g.v,cC y.e.a y.e.v,cC y.s.a y.s.t,cC y.t.a y.t.t,cC y.m.a y.m.v,cC y.y.a y.y.u,cC y.y.b y.y.v,cC y.y.c y.y.w],tt 23,[fo y.f.F,bP y.L,bP y.m.L]⟩
theorem YT (img:ByteArray) (port base:Int) (f:Fla):runG Γf1 L0 prog f61 [.ptr 0 0] (O0 img port base f)=(bif ga f.F f.le&&Fq.refE f.dn ((aJ f.F).size:Int) base 48==0 then (bif pF img port then (bif lM (t8 (x0 img port base f)) then some (.v (I 0),OG (gi (x0 img port base f))) else none) else none) else none):=by kernel_rfl
def Bp:List SA:=[.v (Bo false),.v (I 0),.v (.slice none 0 0),.v (I 0),.v (I 0),.v (I 0),.v (I 0),.v (I 0),.v (I 0),.v (I 0),.v (I 0),.v (I 0),nP,nP,nP,nP,nP,nP,nP,nP,nP,nP,.v (Bo false),.v (I 0)]
def A9 (b:List SA):Option (ByteArray×Int×Int):=match b with
 | .v (.string img)::.v (.int .i64 port)::.ptr 1 0::.v (.int .i64 base)::r=>bif Go.Sx.eqL kI r Bp then some (img,port,base) else none
 | _=>none
theorem TJ {b:List SA} {img:ByteArray} {port base:Int} (h:A9 b=some (img,port,base)):b=.v (S img)::.v (I port)::.ptr 1 0::.v (I base)::Bp:=by
 unfold A9 at h
 split at h
 ·rename_i i' p' b' r
  cases hq:Go.Sx.eqL kI r Bp
  ·rw [hq] at h;cases h
  ·rw [hq] at h
   injection h with h
   injection h with h1 h
   injection h with h2 h3
   subst h1 h2 h3
   rw [Go.Sx.eqL_eq (fun _ _=>qv) hq]
   try rfl
 ·cases h
def Bg (b:List SA):Option (Bool×Bool×Int):=match b with
 | [.row 0,.ptr 2 0,.v (.bool d),.v (.bool t),.v (.int .i64 l)]=>some (d,t,l)
 | _=>none
theorem TR {b:List SA} {d t:Bool} {l:Int} (h:Bg b=some (d,t,l)):b=[.row 0,.ptr 2 0,.v (Bo d),.v (Bo t),.v (I l)]:=by
 unfold Bg at h
 split at h
 ·injection h with h
  injection h with h1 h
  injection h with h2 h3
  subst h1 h2 h3
  rfl
 ·cases h
def vc (r:List RowS):Option (List (List Dat)):=match r with
 | [.live ⟨5,[.num .u8],b,true,true⟩]=>some b
 | _=>none
theorem KH {r:List RowS} {b:List (List Dat)} (h:vc r=some b):r=[fo b]:=by
 unfold vc at h
 split at h
 ·injection h with h
  subst h
  rfl
 ·cases h
def Be (m:Mem):Option (ByteArray×Int×Int×Fla):=match m with
 | ⟨[b0,b1,b2],lv,rs⟩=>match nI 3 lv,A9 b0,Bg b1,uC b2,vc rs with
  | true,some (img,port,base),some (dn,wt,le),some (a,v),some F=>some (img,port,base,⟨F,dn,wt,le,a,v⟩)
  | _,_,_,_,_=>none
 | _=>none
theorem TP {m:Mem} {img:ByteArray} {port base:Int} {f:Fla} (h:Be m=some (img,port,base,f)):m=O0 img port base f:=by
 unfold Be at h
 split at h
 case h_2=>cases h
 split at h
 case h_2=>cases h
 rename_i hl h0 h1 h2 hr
 injection h with h
 injection h with e1 h
 injection h with e2 h
 injection h with e3 e4
 subst e1 e2 e3 e4
 rw [qd hl,TJ h0,TR h1,cT h2,KH hr]
 rfl
def lJ (img:ByteArray) (port base:Int) (f:Fla):Bool:=(ga f.F f.le&&Fq.refE f.dn ((aJ f.F).size:Int) base 48==0)&&(pF img port&&lM (t8 (x0 img port base f)))
def F9 (xs:List SV) (m:Mem):Option (Bool×SV×Mem) :=
 match xs,Be m with
 | [.ptr 0 0],some (img,port,base,f)=>some (lJ img port base f,.v (I 0),OG (gi (x0 img port base f)))
 | _,_=>none
theorem qf2:aT 61 F9:=by
 intro xs m r m' h
 unfold F9 at h
 split at h
 case h_2=>cases h
 rename_i img port base f hx
 obtain ⟨h1,rfl,rfl⟩:=az h
 rw [TP hx]
 refine aj (Λ:=L0) qjl func61 rfl af ((YT img port base f).trans ?_)
 unfold lJ at h1
 obtain ⟨e1,e2⟩:=Bool.and_eq_true_iff.1 h1
 obtain ⟨e2,e3⟩:=Bool.and_eq_true_iff.1 e2
 rw [e1,e2,e3]
 rfl
def Γn0:Orc:=aE 61 F9 ΓO
theorem Ix:Γn0.Ok prog:=aA bR qf2
def Γn1:Orc:={ Γn0 with av:=true,bs:=true,sb:=true,wr:=fun f=>Nat.beq f 61 }
theorem qjg:Γn1.Ok prog:=⟨Ix.call,Ix.rd,Ix.eqv⟩
def OT (f:Fla):Mem:=⟨[[.row 0,.ptr 1 0,.v (Bo f.dn),.v (Bo f.wt),.v (I f.le)],cC f.a f.v],tt 2,[fo f.F]⟩
def cPn (y:PS):List SA:=.v (S y.img)::.v (I y.port)::.ptr 0 0::.v (I y.base)::.v (Bo y.up)::.v (I y.lf)::.row 1::eC y.R (.v (I y.ft)::.ptr 3 0::.ptr 4 0::.ptr 5 0::.ptr 6 0::.ptr 7 0::.ptr 8 0::.ptr 9 0::.ptr 10 0::.ptr 11 0::.ptr 12 0::.v (Bo y.fl)::.v (I y.cy)::[])
def M5 (y:PS):Mem:=⟨[[.row 0,.ptr 1 0,.v (Bo y.f.dn),.v (Bo y.f.wt),.v (I y.f.le)],cC y.f.a y.f.v,cPn y,.ptr 0 0::.v (I y.la.b)::tX y.la.r [.v (I y.la.x)],bp 13 y.a,bp 14 y.b,bp 15 y.g,bp 16 y.e,dc 17 y.s,dc 18 y.t,kN 2 19 y.m,[.ptr 20 0,.ptr 21 0,.ptr 22 0],gF y.q,cC y.a.a y.a.v,cC y.b.a y.b.v,cC y.g.a y.g.v,cC y.e.a y.e.v,cC y.s.a y.s.t,cC y.t.a y.t.t,cC y.m.a y.m.v,cC y.y.a y.y.u,cC y.y.b y.y.v,cC y.y.c y.y.w],tt 23,[fo y.f.F,bP y.L,bP y.m.L]⟩
theorem X5 (img:ByteArray) (port base:Int) (f:Fla):runG Γn1 L0 prog f18 [.v (S img),.v (I port),.ptr 0 0,.v (I base)] (OT f)=(bif lJ img port base f then some (.tup [.one (.ptr 2 0),.one (.v (I 0))],M5 (gi (x0 img port base f))) else none):=by kernel_rfl
end Go.Proofs.YtainfdcfkgemhaaGreat.Hr
namespace Go.Proofs.YtainfdcfkgemhaaGreat.Hr
open Go Go.Proofs Go.Sx Nw Pe So
set_option linter.unusedVariables false
def Bh (b:List SA):Option (Bool×Bool×Int):=match b with
 | [.row 0,.ptr 1 0,.v (.bool d),.v (.bool t),.v (.int .i64 l)]=>some (d,t,l)
 | _=>none
theorem TS {b:List SA} {d t:Bool} {l:Int} (h:Bh b=some (d,t,l)):b=[.row 0,.ptr 1 0,.v (Bo d),.v (Bo t),.v (I l)]:=by
 unfold Bh at h
 split at h
 ·injection h with h
  injection h with h1 h
  injection h with h2 h3
  subst h1 h2 h3
  rfl
 ·cases h
def Ba (m:Mem):Option Fla:=match m with
 | ⟨[b1,b2],lv,rs⟩=>match nI 2 lv,Bh b1,uC b2,vc rs with
  | true,some (dn,wt,le),some (a,v),some F=>some ⟨F,dn,wt,le,a,v⟩
  | _,_,_,_=>none
 | _=>none
theorem TL {m:Mem} {f:Fla} (h:Ba m=some f):m=OT f:=by
 unfold Ba at h
 split at h
 case h_2=>cases h
 split at h
 case h_2=>cases h
 rename_i hl h1 h2 hr
 injection h with h
 subst h
 rw [qd hl,TS h1,cT h2,KH hr]
 rfl
def Fi (xs:List SV) (m:Mem):Option (Bool×SV×Mem) :=
 match xs,Ba m with
 | [.v (.string img),.v (.int .i64 port),.ptr 0 0,.v (.int .i64 base)],some f=>some (lJ img port base f,.tup [.one (.ptr 2 0),.one (.v (I 0))],M5 (gi (x0 img port base f)))
 | _,_=>none
theorem Fh:aT 18 Fi:=by
 intro xs m r m' h
 unfold Fi at h
 split at h
 case h_2=>cases h
 rename_i img port base f hx
 obtain ⟨h1,rfl,rfl⟩:=az h
 rw [TL hx]
 exact aj (Λ:=L0) qjg func18 rfl af ((X5 img port base f).trans (by rw [h1];rfl))
def Γk1:Orc:={ aR 66 La.gLast ΓO with av:=true,bs:=true,sb:=true }
theorem Q6:Γk1.Ok prog:=⟨(aL bR La.gLast_ok).call,(aL bR La.gLast_ok).rd,(aL bR La.gLast_ok).eqv⟩
def m7 (x:PS):PS:={ x with up:=false,lf:=3 }
theorem W7 (x:PS):runG Γk1 L0 prog f38 [.ptr 0 0] (mP x)=some (.v (.tuple #[]),mP (m7 x)):=by kernel_rfl
theorem VE (x:PS):runG Γk1 L0 prog f19 [.ptr 0 0] (mP x)=some (.v (Bo x.up),mP x):=by kernel_rfl
def EA (xs:List SV) (m:Mem):Option (Bool×SV×Mem) :=
 match xs,uP m with
 | [.ptr 0 0],some x=>some (true,.v (.tuple #[]),mP (m7 x))
 | _,_=>none
theorem qeF:aT 38 EA:=by
 intro xs m r m' h
 unfold EA at h
 split at h
 case h_2=>cases h
 rename_i x hx
 obtain ⟨_,rfl,rfl⟩:=az h
 rw [eG hx]
 exact aj (Λ:=L0) Q6 func38 rfl af (W7 x)
def DG (xs:List SV) (m:Mem):Option (Bool×Value) :=
 match xs,uP m with
 | [.ptr 0 0],some x=>some (true,Bo x.up)
 | _,_=>none
theorem qdR:bi 19 DG:=by
 intro xs m r h
 unfold DG at h
 split at h
 case h_2=>cases h
 rename_i x hx
 obtain ⟨_,rfl⟩:=aa h
 rw [eG hx]
 exact aj (Λ:=L0) Q6 func19 rfl af (VE x)
def iO (x:PS) (i:Inp):PS:=bif x.up then (bif nW x i != 0 then { gD x i with up:=false } else gD x i) else x
def eg (x:PS) (i:Inp):Ot:=bif x.up then (bif nW x i != 0 then o0 else se (gD x i) (nX x i) (cyW x i)) else o0
def lK (x:PS) (i:Inp):Bool:=!x.up||(x.ft==0&&(wR x&&pE i))
theorem Pm (y:PS) (i:Inp):(iO y i).lf=y.lf:=by
 unfold iO
 generalize (nW y i != 0)=b
 have e:(gD y i).lf=y.lf:=by kernel_rfl
 cases y.up
 ·rfl
 ·cases b
  ·exact e
  ·exact e
theorem CR {y:PS} (hl:y.lf=0):({ y with lf:=0 }:PS)=y:=by
 rcases y with ⟨img,port,base,up,lf,L,R,ft,f,la,a,b,g,e,s,t,m,y,q,fl,cy⟩
 cases hl
 rfl
theorem ZK (y:PS) (i:Inp) (hl:y.lf=0) (h:lK y i=true):runG Γq1 L0 prog f41 [.ptr 0 0,.v (eT i)] (mP y)=some (.v (oV (eg y i)),mP { iO y i with lf:=0 }):=by
 rw [CR ((Pm y i).trans hl)]
 have r:=ZL y i
 rw [CR hl] at r
 refine r.trans ?_
 unfold lK at h
 unfold iO eg
 cases hu:y.up
 ·rfl
 ·rw [hu] at h
  simp only [Bool.not_true,Bool.false_or,Bool.and_eq_true] at h
  obtain ⟨h1,h2,h3⟩:=h
  have t:=(LV y i).symm.trans (qhA y i h2 h3)
  rw [hu,h1] at t
  rw [h1]
  have t':cyT y i=(bif nW y i != 0 then some (.v (oV o0),mP { gD y i with up:=false }) else some (.v (oV (se (gD y i) (nX y i) (cyW y i))),mP (gD y i))):=t
  refine Eq.trans (b:=cyT y i) rfl (t'.trans ?_)
  generalize (nW y i != 0)=b
  cases b<;>rfl
end Go.Proofs.YtainfdcfkgemhaaGreat.Hr
namespace Go.Proofs.YtainfdcfkgemhaaGreat.Hr
open Go Go.Proofs Go.Sx Nw Pe So
set_option linter.unusedVariables false
def bZ (x:PS) (l:Int):PS:={ x with up:=false,lf:=l }
theorem Hw {x:PS} {l:Int} (h1:x.up=false) (h2:x.lf=l):bZ x l=x:=by
 rcases x with ⟨img,port,base,up,lf,L,R,ft,f,la,a,b,g,e,s,t,m,y,q,fl,cy⟩
 cases h1
 cases h2
 rfl
def yn (xs:List SV) (m:Mem):Option (Bool×SV×Mem) :=
 match xs,uP m with
 | [.ptr 0 0,.v (.agg ⟨[.string a,.string b,.string c,.string d]⟩)],some x=>match x.lf==0,x.lf==1,x.lf==2 with
  | true,_,_=>some (lK x ⟨a,b,c,d⟩,.v (oV (eg x ⟨a,b,c,d⟩)),mP { iO x ⟨a,b,c,d⟩ with lf:=0 })
  | false,true,_=>some (!x.up&&lL (cu (bZ x 1)),.v (oV o0),jR (cu (bZ x 1)) (gi (cu (bZ x 1))))
  | false,false,true=>some (!x.up,.v (oV o0),mP (bZ x 1))
  | false,false,false=>some (!x.up&&x.lf==3,.v (oV o0),mP (bZ x 2))
 | _,_=>none
theorem qgj:aT 41 yn:=by
 intro xs m r m' h
 unfold yn at h
 split at h
 case h_2=>cases h
 rename_i a b c d x hx
 rw [eG hx]
 split at h
 ·rename_i e1
  obtain ⟨h1,rfl,rfl⟩:=az h
  exact aj (Λ:=L0) zW func41 rfl af (ZK x ⟨a,b,c,d⟩ (by simpa using e1) h1)
 ·rename_i e1 e2
  obtain ⟨h1,rfl,rfl⟩:=az h
  rw [Bool.and_eq_true,Bool.not_eq_true'] at h1
  have e:=Hw (l:=1) h1.1 (by simpa using e2)
  have r:=ZJ x ⟨a,b,c,d⟩
  refine aj (Λ:=L0) zW func41 rfl af ?_
  have r':runG Γq1 L0 prog f41 [.ptr 0 0,.v (eT ⟨a,b,c,d⟩)] (mP (bZ x 1))=(bif lL (cu (bZ x 1)) then some (.v (oV o0),jR (cu (bZ x 1)) (gi (cu (bZ x 1)))) else none):=r
  rw [h1.2] at r'
  rw [e] at r' ⊢
  exact r'
 ·rename_i e1 e2 e3
  obtain ⟨h1,rfl,rfl⟩:=az h
  rw [Bool.not_eq_true'] at h1
  have e:=Hw (l:=2) h1 (by simpa using e3)
  have r':runG Γq1 L0 prog f41 [.ptr 0 0,.v (eT ⟨a,b,c,d⟩)] (mP (bZ x 2))=some (.v (oV o0),mP (bZ x 1)):=ZI x ⟨a,b,c,d⟩
  rw [e] at r'
  exact aj (Λ:=L0) zW func41 rfl af r'
 ·rename_i e1 e2 e3
  obtain ⟨h1,rfl,rfl⟩:=az h
  rw [Bool.and_eq_true,Bool.not_eq_true'] at h1
  have e:=Hw (l:=3) h1.1 (by simpa using h1.2)
  have r':runG Γq1 L0 prog f41 [.ptr 0 0,.v (eT ⟨a,b,c,d⟩)] (mP (bZ x 3))=some (.v (oV o0),mP (bZ x 2)):=ZH x ⟨a,b,c,d⟩
  rw [e] at r'
  exact aj (Λ:=L0) zW func41 rfl af r'
end Go.Proofs.YtainfdcfkgemhaaGreat.Hr
namespace Go.Proofs.YtainfdcfkgemhaaGreat.Hr
open Go Go.Proofs Go.Sx Nw Pe So
set_option linter.unusedVariables false
def fe (x:PS):Bool:=!x.up&&x.lf==1
def sU (x:PS) (l:Int):PS:={ x with lf:=l }
def iP (x:PS) (i:Inp):PS:=bif x.up then iO x i else sU x (bif x.lf==0 then 0 else x.lf - 1)
def lI (x:PS) (i:Inp):Bool:=bif x.up then x.lf==0&&(x.ft==0&&(wR x&&pE i)) else (x.lf==0||(x.lf==2||x.lf==3))
def mh (x:PS):PS:=gi (cu (bZ x 1))
def okB (x:PS):Bool:=fe x&&lL (cu (bZ x 1))
def GK (xs:List SV) (m:Mem):Option (Bool×SV×Mem) :=
 match xs,uP m with
 | [.ptr 0 0,.v (.agg ⟨[.string a,.string b,.string c,.string d]⟩)],some x=>some (lI x ⟨a,b,c,d⟩,.v (oV (eg x ⟨a,b,c,d⟩)),mP (iP x ⟨a,b,c,d⟩))
 | _,_=>none
def H6 (xs:List SV) (m:Mem):List (Bool×Option (Bool×SV×Mem)) :=
 match xs,uP m with
 | [.ptr 0 0,.v (.agg ⟨[.string a,.string b,.string c,.string d]⟩)],some x=>[(fe x,some (okB x,.v (oV o0),jR (cu (bZ x 1)) (mh x)))]
 | _,_=>[]
theorem OD {x:PS} {i:Inp} {r:SV} {m':Mem} (h:yn [.ptr 0 0,.v (eT i)] (mP x)=some (true,r,m')):bq prog 41 [.ptr 0 0,.v (eT i)] (mP x) r m':=qgj _ _ _ _ h
theorem OC (x:PS) (i:Inp):yn [.ptr 0 0,.v (eT i)] (mP x)=(match x.lf==0,x.lf==1,x.lf==2 with
 | true,_,_=>some (lK x i,.v (oV (eg x i)),mP { iO x i with lf:=0 })
 | false,true,_=>some (!x.up&&lL (cu (bZ x 1)),.v (oV o0),jR (cu (bZ x 1)) (gi (cu (bZ x 1))))
 | false,false,true=>some (!x.up,.v (oV o0),mP (bZ x 1))
 | false,false,false=>some (!x.up&&x.lf==3,.v (oV o0),mP (bZ x 2))):=by kernel_rfl
theorem qhC {x:PS} {i:Inp} (h:lI x i=true):bq prog 41 [.ptr 0 0,.v (eT i)] (mP x) (.v (oV (eg x i))) (mP (iP x i)):=by
 refine OD ?_
 rw [OC]
 unfold lI at h
 unfold iP
 cases hu:x.up
 ·rw [hu] at h
  simp only [cond_false,Bool.or_eq_true,beq_iff_eq] at h
  have hR:eg x i=o0:=by unfold eg;rw [hu];rfl
  rw [hR]
  rcases h with h|h|h
  ·have h1:lK x i=true:=by unfold lK;rw [hu];rfl
   have h2:iO x i=x:=by unfold iO;rw [hu];rfl
   have e:sU x (bif x.lf==0 then 0 else x.lf - 1)=sU x 0:=by rw [h];rfl
   rw [h1,h2,cond_false,e,h]
   rfl
  ·have e:sU x (bif x.lf==0 then 0 else x.lf - 1)=bZ x 1:=by
    rcases x with ⟨img,port,base,up,lf,L,R,ft,f,la,a,b,g,e,s,t,m,y,q,fl,cy⟩
    cases hu
    cases h
    rfl
   rw [cond_false,e,h]
   rfl
  ·have e:sU x (bif x.lf==0 then 0 else x.lf - 1)=bZ x 2:=by
    rcases x with ⟨img,port,base,up,lf,L,R,ft,f,la,a,b,g,e,s,t,m,y,q,fl,cy⟩
    cases hu
    cases h
    rfl
   rw [cond_false,e,h]
   rfl
 ·rw [hu] at h
  simp only [cond_true,Bool.and_eq_true,beq_iff_eq] at h
  obtain ⟨h1,h2,h3,h4⟩:=h
  have h5:lK x i=true:=by unfold lK;rw [hu,h2,h3,h4];rfl
  have h6:({ iO x i with lf:=0 }:PS)=iO x i:=CR ((Pm x i).trans h1)
  rw [h1,h5,h6]
  rfl
theorem qgD:aT 41 GK:=by
 intro xs m r m' h
 unfold GK at h
 split at h
 case h_2=>cases h
 rename_i a b c d x hx
 obtain ⟨h1,rfl,rfl⟩:=az h
 rw [eG hx]
 exact qhC h1
theorem qh7 {x:PS} {i:Inp} (h:okB x=true):bq prog 41 [.ptr 0 0,.v (eT i)] (mP x) (.v (oV o0)) (jR (cu (bZ x 1)) (mh x)):=by
 refine OD ?_
 rw [OC]
 unfold okB fe at h
 simp only [Bool.and_eq_true,beq_iff_eq,Bool.not_eq_true'] at h
 obtain ⟨⟨h1,h2⟩,h3⟩:=h
 rw [h1,h2,h3]
 rfl
theorem qiH:∀ xs m b r m',(b,some (true,r,m'))∈H6 xs m->bq prog 41 xs m r m':=by
 intro xs m b r m' h
 unfold H6 at h
 split at h
 case h_2=>cases h
 rename_i a b' c d x hx
 rw [List.mem_singleton] at h
 injection h with _ h
 obtain ⟨h1,rfl,rfl⟩:=az h.symm
 rw [eG hx]
 exact qh7 (i:=⟨a,b',c,d⟩) h1
end Go.Proofs.YtainfdcfkgemhaaGreat.Hr
namespace Go.Proofs.YtainfdcfkgemhaaGreat.Hr
open Go Go.Proofs Go.Sx Nw Pe So
set_option linter.unusedVariables false
def Bs (x:PS) (k:Int):PS:={ x with f:={ x.f with wt:=true,le:=if k>0 then k else 0 } }
end Go.Proofs.YtainfdcfkgemhaaGreat.Hr
