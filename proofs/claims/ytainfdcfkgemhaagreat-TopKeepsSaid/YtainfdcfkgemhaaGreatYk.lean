/-
  A processor boots,waits for power,is made;a cycle in one of two ways;what holds of it all the time.
-/
import Derived.Test.YtainfdcfkgemhaaGreatYj
import Derived.Test.YtainfdcfkgemhaaGreatYi
set_option maxRecDepth 100000
noncomputable section
open Go.Proofs.Tryz
namespace Go.Proofs.YtainfdcfkgemhaaGreat.Hr
open Go Go.Proofs Go.Sx Nw Pe So
set_option linter.unusedVariables false
def E0 (xs:List SV) (m:Mem):Option (Bool×SV×Mem) :=
 match xs,m with
 | [.ptr 0 0,.v (.int .i64 base)],⟨[[.row 0,.ptr 1 0,.v (.bool down),.v (.bool waits),.v (.int .i64 lets)],[.v (.int .i64 mx),.v (.int .i64 w)]],[true,true],[.live ⟨5,[.num .u8],L,true,mark⟩]⟩=>some (okLc L lets&&Fq.refE down ((ao L).size:Int) base 48==0,.tup [.one (.ptr 2 0),.one (.v (I 0))],La.opM base (La.sl0 (ao L) base) (La.sl1 (ao L) base) L mark mx w down waits lets)
 | _,_=>none
theorem qfK:aQ 119 E0:=by
 intro xs m r m' h
 unfold E0 at h
 split at h
 case h_2=>cases h
 rename_i base down waits lets mx w L mark
 obtain ⟨h1,rfl,rfl⟩:=aw h
 obtain ⟨e1,e2⟩:=Bool.and_eq_true_iff.1 h1
 refine La.gOpenS_ok _ _ _ _ ?_
 show some (Fq.okL L lets&&Fq.refE down ((ao L).size:Int) base 48==0,_,_)=_
 rw [MH e1,e2]
 rfl
def Γu0:Orc:=aC 123 FK (aC 122 GF (aC 121 Se.gSNew (ah 76 x9 (aC 120 yg (aC 119 E0 (aC 134 Fq.gFUp ΓO))))))
theorem Oku0:Γu0.Ok prog:=aA (aA (aA (af (aA (aA (aA cw Fq.gFUp_ok) qfK) Oy) Oo) Se.gSNew_ok) qhl) qgt
def wrU (f:FuncId):Bool:=Nat.beq f 123||(Nat.beq f 122||(Nat.beq f 121||(Nat.beq f 120||(Nat.beq f 119||Nat.beq f 134))))
def Γu1:Orc:={ Γu0 with av:=true,bs:=true,sb:=true,wr:=wrU }
theorem Oku1:Γu1.Ok prog:=⟨Oku0.call,Oku0.rd,Oku0.eqv⟩
def jB (x:PS):ByteArray:=La.sl0 (ao x.f.F) x.base
def jA (x:PS):ByteArray:=La.sl1 (ao x.f.F) x.base
def gg (x:PS):Lat:=⟨x.base,⟨La.opI (jB x) (jA x) La.qS,La.opI (jB x) (jA x) La.cS,La.opI (jB x) (jA x) La.pS,La.opI (jB x) (jA x) La.uS,La.opI (jB x) (jA x) La.fS,La.opI (jB x) (jA x) La.at9,La.opI (jB x) (jA x) La.at10,La.opI (jB x) (jA x) La.at11,La.opI (jB x) (jA x) La.nS⟩,La.opN (jB x) (jA x)⟩
def lp (x:PS):PS:={ x with up:=true,L:=cc x.img,R:=iO x.img,ft:=Hz x.img x.port,la:=gg x,q:=⟨(iO x.img).r8,!(Hz x.img x.port==0),0,0⟩,fl:=false,cy:=0 }
def gI (x:PS):PS:=xC (dw (lp x))
def PL (r:Nat) (x:PS) (la a b g e s t m y q:Nat):List SA:=.v (S x.img)::.v (I x.port)::.ptr 1 0::.v (I x.base)::.v (Bo x.up)::.v (I x.lf)::.row r::gf x.R (.v (I x.ft)::.ptr la 0::.ptr a 0::.ptr b 0::.ptr g 0::.ptr e 0::.ptr s 0::.ptr t 0::.ptr m 0::.ptr y 0::.ptr q 0::.v (Bo x.fl)::.v (I x.cy)::[])
def iN (x y:PS):Mem:=⟨[PL 3 y 23 24 25 26 27 28 29 30 31 32,Ht y.f,qG x.la,bT 13 x.a,bT 14 x.b,bT 15 x.g,bT 16 x.e,ec 17 x.s,ec 18 x.t,Hs x.m,y9,jz x.q,cC y.f.a y.f.v,cC x.a.a x.a.v,cC x.b.a x.b.v,cC x.g.a x.g.v,cC x.e.a x.e.v,cC x.s.a x.s.t,cC x.t.a x.t.t,cC x.m.a x.m.v,cC x.y.a x.y.u,cC x.y.b x.y.v,cC x.y.c x.y.w,qG y.la,bT 33 y.a,bT 34 y.b,bT 35 y.g,bT 36 y.e,ec 37 y.s,ec 38 y.t,ou 4 39 y.m,[.ptr 40 0,.ptr 41 0,.ptr 42 0],jz y.q,cC y.a.a y.a.v,cC y.b.a y.b.v,cC y.g.a y.g.v,cC y.e.a y.e.v,cC y.s.a y.s.t,cC y.t.a y.t.t,cC y.m.a y.m.v,cC y.y.a y.y.u,cC y.y.b y.y.v,cC y.y.c y.y.w],tt 43,[cq x.L,gt y.f.F,cq x.m.L,cq y.L,cq y.m.L]⟩
theorem Z0 (x:PS):runG Γu1 L0 prog f61 [.ptr 0 0] (mP x)=(bif okLc x.f.F x.f.le&&Fq.refE x.f.dn ((ao x.f.F).size:Int) x.base 48==0 then (bif mc x.img x.port then (bif fw (lp x) then some (.v (I 0),iN x (gI x)) else none) else none) else none):=by kernel_rfl
end Go.Proofs.YtainfdcfkgemhaaGreat.Hr
namespace Go.Proofs.YtainfdcfkgemhaaGreat.Hr
open Go Go.Proofs Go.Sx Nw Pe So
set_option linter.unusedVariables false
def kK (x:PS):Bool:=(okLc x.f.F x.f.le&&Fq.refE x.f.dn ((ao x.f.F).size:Int) x.base 48==0)&&(mc x.img x.port&&fw (lp x))
def Gy (xs:List SV) (m:Mem):Option (Bool×SV×Mem) :=
 match xs,uP m with
 | [.ptr 0 0],some x=>some (kK x,.v (I 0),iN x (gI x))
 | _,_=>none
theorem qhd:aQ 61 Gy:=by
 intro xs m r m' h
 unfold Gy at h
 split at h
 case h_2=>cases h
 rename_i x hx
 obtain ⟨h1,rfl,rfl⟩:=aw h
 rw [dZ hx]
 refine aj (Λ:=L0) Oku1 func61 rfl ai ((Z0 x).trans ?_)
 obtain ⟨e1,e2⟩:=Bool.and_eq_true_iff.1 h1
 obtain ⟨e2,e3⟩:=Bool.and_eq_true_iff.1 e2
 rw [e1,e2,e3]
 rfl
def Γw0:Orc:=aC 61 Gy (aC 134 Fq.gFUp ΓO)
theorem H8:Γw0.Ok prog:=aA (aA cw Fq.gFUp_ok) qhd
def Γw1:Orc:={ Γw0 with av:=true,bs:=true,sb:=true }
theorem H7:Γw1.Ok prog:=⟨H8.call,H8.rd,H8.eqv⟩
def Kh (x:PS):PS:={ x with lf:=wI (x.lf - 1) }
def bw (x:PS):PS:={ x with lf:=wI (x.lf - 1),f:={ x.f with dn:=false,wt:=false } }
theorem Bz (x:PS):runG Γw1 L0 prog f75 [.ptr 0 0] (mP x)=(bif x.lf==0 then some (.v (.tuple #[]),mP x) else (bif wI (x.lf - 1)==0 then (bif kK (bw x) then some (.v (.tuple #[]),iN (bw x) (gI (bw x))) else none) else some (.v (.tuple #[]),mP (Kh x)))):=by kernel_rfl
end Go.Proofs.YtainfdcfkgemhaaGreat.Hr
namespace Go.Proofs.YtainfdcfkgemhaaGreat.Hr
open Go Go.Proofs Go.Sx Nw Pe So
set_option linter.unusedVariables false
def C8 (xs:List SV) (m:Mem):Option (Bool×SV×Mem) :=
 match xs,uP m with
 | [.ptr 0 0],some x=>match x.lf==0,wI (x.lf - 1)==0 with
  | true,_=>some (true,.v (.tuple #[]),mP x)
  | false,true=>some (kK (bw x),.v (.tuple #[]),iN (bw x) (gI (bw x)))
  | false,false=>some (true,.v (.tuple #[]),mP (Kh x))
 | _,_=>none
theorem qd5:aQ 75 C8:=by
 intro xs m r m' h
 unfold C8 at h
 split at h
 case h_2=>cases h
 rename_i x hx
 rw [dZ hx]
 split at h
 ·rename_i e1
  obtain ⟨_,rfl,rfl⟩:=aw h
  exact aj (Λ:=L0) H7 func75 rfl ai ((Bz x).trans (by rw [e1];rfl))
 ·rename_i e1 e2
  obtain ⟨h1,rfl,rfl⟩:=aw h
  exact aj (Λ:=L0) H7 func75 rfl ai ((Bz x).trans (by rw [e1,e2,h1];rfl))
 ·rename_i e1 e2
  obtain ⟨_,rfl,rfl⟩:=aw h
  exact aj (Λ:=L0) H7 func75 rfl ai ((Bz x).trans (by rw [e1,e2];rfl))
def Γq0:Orc:=aC 75 C8 Γy1
theorem Ih:Γq0.Ok prog:=aA qjF qd5
def Γq1:Orc:={ Γq0 with av:=true,bs:=true,sb:=true }
theorem zG:Γq1.Ok prog:=⟨Ih.call,Ih.rd,Ih.eqv⟩
theorem ZW (x:PS) (i:Inp):runG Γq1 L0 prog f41 [.ptr 0 0,.v (fx i)] (mP { x with lf:=0 })=(bif !x.up then some (.v (oV o0),mP { x with lf:=0 }) else (bif !(x.ft==0) then none else cyT { x with lf:=0 } i)):=by kernel_rfl
theorem ZU (x:PS) (i:Inp):runG Γq1 L0 prog f41 [.ptr 0 0,.v (fx i)] (mP { x with up:=false,lf:=1 })=(bif kK (bw { x with up:=false,lf:=1 }) then some (.v (oV o0),iN (bw { x with up:=false,lf:=1 }) (gI (bw { x with up:=false,lf:=1 }))) else none):=by kernel_rfl
theorem ZT (x:PS) (i:Inp):runG Γq1 L0 prog f41 [.ptr 0 0,.v (fx i)] (mP { x with up:=false,lf:=2 })=some (.v (oV o0),mP { x with up:=false,lf:=1 }):=by kernel_rfl
theorem ZS (x:PS) (i:Inp):runG Γq1 L0 prog f41 [.ptr 0 0,.v (fx i)] (mP { x with up:=false,lf:=3 })=some (.v (oV o0),mP { x with up:=false,lf:=2 }):=by kernel_rfl
end Go.Proofs.YtainfdcfkgemhaaGreat.Hr
namespace Go.Proofs.YtainfdcfkgemhaaGreat.Hr
open Go Go.Proofs Go.Sx Nw Pe So
set_option linter.unusedVariables false
def nP:SA:=.v (.pointer none)
def z8:Rl:=⟨0,0,0,0,0,0,0,0⟩
def P5 (x:PS):Mem:=⟨[.v (S x.img)::.v (I x.port)::.ptr 1 0::.v (I x.base)::.v (Bo x.up)::.v (I x.lf)::.row 0::gf x.R [.v (I x.ft),nP,nP,nP,nP,nP,nP,nP,nP,nP,.ptr 2 0,.v (Bo x.fl),.v (I x.cy)],[.row 1,.ptr 3 0,.v (Bo x.f.dn),.v (Bo x.f.wt),.v (I x.f.le)],jz x.q,cC x.f.a x.f.v],tt 4,[cq x.L,gt x.f.F]⟩
def P4 (x:PS):Mem:=⟨[.v (S x.img)::.v (I x.port)::.ptr 1 0::.v (I x.base)::.v (Bo x.up)::.v (I x.lf)::.row 0::gf x.R [.v (I x.ft),nP,.ptr 4 0,.ptr 5 0,.ptr 6 0,.ptr 7 0,.ptr 8 0,.ptr 9 0,.ptr 10 0,.ptr 11 0,.ptr 2 0,.v (Bo x.fl),.v (I x.cy)],[.row 1,.ptr 3 0,.v (Bo x.f.dn),.v (Bo x.f.wt),.v (I x.f.le)],jz x.q,cC x.f.a x.f.v,bT 12 (dw x).a,bT 13 (dw x).b,bT 14 (dw x).g,bT 15 (dw x).e,ec 16 (dw x).s,ec 17 (dw x).t,ou 2 18 (dw x).m,[.ptr 19 0,.ptr 20 0,.ptr 21 0],cC 1000000 0,cC 1000000 0,cC 1000000 0,cC 1000000 0,cC 1000000 0,cC 1000000 0,cC 1000000 0,cC (dw x).y.a 0,cC (dw x).y.b 0,cC (dw x).y.c 0],tt 22,[cq x.L,gt x.f.F,cq x.L]⟩
theorem qaa (x:PS):runG Γb1 L0 prog f122 [.ptr 0 0] (P5 x)=(bif decide ((1:Int)<=x.R.r5)&&decide ((1:Int)<=x.R.r6) then (bif decide ((1:Int)<=x.R.r5)&&decide ((1:Int)<=x.R.r6) then (bif cz x.L&&(fu x.L&&(wrB x.L x.R.r1 x.R.r2 x.R.r3 x.R.r4 x.R.r5 x.R.r6 x.R.r7 x.R.r8==(0:Int)&&Nat.blt (0:Nat) x.L.length)) then (bif decide ((1:Int)<=x.R.r1)&&(decide ((1:Int)<=x.R.r2)&&decide ((1:Int)<=x.R.r3)) then some (.v (.tuple #[]),P4 x) else none) else none) else none) else none):=by kernel_rfl
def A2 (b:List SA):Option (Int×Bool×Int):=match b with
 | .v (.int .i64 ft)::.v (.pointer none)::.v (.pointer none)::.v (.pointer none)::.v (.pointer none)::.v (.pointer none)::.v (.pointer none)::r=>match r with
  | [.v (.pointer none),.v (.pointer none),.v (.pointer none),.ptr 2 0,.v (.bool fl),.v (.int .i64 cy)]=>some (ft,fl,cy)
  | _=>none
 | _=>none
theorem TS {b:List SA} {ft cy:Int} {fl:Bool} (h:A2 b=some (ft,fl,cy)):b=[.v (I ft),nP,nP,nP,nP,nP,nP,nP,nP,nP,.ptr 2 0,.v (Bo fl),.v (I cy)]:=by
 unfold A2 at h
 split at h
 ·split at h
  ·injection h with h
   injection h with h1 h
   injection h with h2 h3
   subst h1 h2 h3
   rfl
  ·cases h
 ·cases h
def A4 (b:List SA):Option (ByteArray×Int×Int×Bool×Int×Rl×Int×Bool×Int):=match b with
 | .v (.string img)::.v (.int .i64 port)::.ptr 1 0::.v (.int .i64 base)::.v (.bool up)::.v (.int .i64 lf)::.row 0::r=>match na r with
  | some (R,r')=>match A2 r' with
   | some (ft,fl,cy)=>some (img,port,base,up,lf,R,ft,fl,cy)
   | none=>none
  | none=>none
 | _=>none
theorem TU {b:List SA} {img:ByteArray} {port base lf ft cy:Int} {up fl:Bool} {R:Rl} (h:A4 b=some (img,port,base,up,lf,R,ft,fl,cy)):b=.v (S img)::.v (I port)::.ptr 1 0::.v (I base)::.v (Bo up)::.v (I lf)::.row 0::gf R [.v (I ft),nP,nP,nP,nP,nP,nP,nP,nP,nP,.ptr 2 0,.v (Bo fl),.v (I cy)]:=by
 unfold A4 at h
 split at h
 ·split at h
  ·rename_i R' r' hr
   split at h
   ·rename_i ft' fl' cy' hl
    injection h with h
    injection h with h1 h
    injection h with h2 h
    injection h with h3 h
    injection h with h4 h
    injection h with h5 h
    injection h with h6 h
    injection h with h7 h
    injection h with h8 h9
    subst h1 h2 h3 h4 h5 h6 h7 h8 h9
    rw [rM hr,TS hl]
    try rfl
   ·cases h
  ·cases h
 ·cases h
def A5 (r:List RowS):Option (List (List Dat)×List (List Dat)):=match r with
 | [r0,r1]=>match r0,r1 with
  | .live ⟨117,[.sl 162 [.num .i64,.num .i64],.num .i64,.num .i64,.num .i64,.num .i64],a,true,false⟩,.live ⟨5,[.num .u8],b,true,true⟩=>some (a,b)
  | _,_=>none
 | _=>none
theorem TV {r:List RowS} {a b:List (List Dat)} (h:A5 r=some (a,b)):r=[cq a,gt b]:=by
 unfold A5 at h
 split at h
 ·split at h
  ·injection h with h
   injection h with h1 h2
   subst h1 h2
   rfl
  ·cases h
 ·cases h
def AY (b:List SA):Option (Bool×Bool×Int):=match b with
 | [.row 1,.ptr 3 0,.v (.bool d),.v (.bool t),.v (.int .i64 l)]=>some (d,t,l)
 | _=>none
theorem TP {b:List SA} {d t:Bool} {l:Int} (h:AY b=some (d,t,l)):b=[.row 1,.ptr 3 0,.v (Bo d),.v (Bo t),.v (I l)]:=by
 unfold AY at h
 split at h
 ·injection h with h
  injection h with h1 h
  injection h with h2 h3
  subst h1 h2 h3
  rfl
 ·cases h
def lE:Stm:=⟨zS,0,0⟩
def uO:Src:=⟨0,0,⟨0,0,0,0,0,0,0,0⟩,false,0,0⟩
def A3 (m:Mem):Option PS:=match m with
 | ⟨[b0,b1,b2,b3],lv,rs⟩=>match nW 4 lv,A4 b0,AY b1,rL b2,uC b3,A5 rs with
  | true,some (img,port,base,up,lf,R,ft,fl,cy),some (dn,wt,le),some q,some (a,v),some (L,F)=>some ⟨img,port,base,up,lf,L,R,ft,⟨F,dn,wt,le,a,v⟩,⟨0,⟨0,0,0,0,0,0,0,0,0⟩,0⟩,lE,lE,lE,lE,uO,uO,⟨[],z8,0,0,0⟩,⟨0,0,0,0,0,0⟩,q,fl,cy⟩
  | _,_,_,_,_,_=>none
 | _=>none
theorem TT {m:Mem} {x:PS} (h:A3 m=some x):m=P5 x:=by
 unfold A3 at h
 split at h
 case h_2=>cases h
 split at h
 case h_2=>cases h
 rename_i hl h0 h1 h2 h3 hr
 injection h with h
 subst h
 rw [qd hl,TU h0,TP h1,AN h2,c7 h3,TV hr]
 rfl
def GD (xs:List SV) (m:Mem):Option (Bool×SV×Mem) :=
 match xs,A3 m with
 | [.ptr 0 0],some x=>some (fw x,.v (.tuple #[]),P4 x)
 | _,_=>none
theorem qhj:aQ 122 GD:=by
 intro xs m r m' h
 unfold GD at h
 split at h
 case h_2=>cases h
 rename_i x hx
 obtain ⟨h1,rfl,rfl⟩:=aw h
 rw [TT hx]
 refine aj (Λ:=L0) Okb1 func122 rfl ai ((qaa x).trans ?_)
 unfold fw at h1
 obtain ⟨e1,e2⟩:=Bool.and_eq_true_iff.1 h1
 obtain ⟨e2,e3⟩:=Bool.and_eq_true_iff.1 e2
 rw [e1,e2,e3]
 rfl
end Go.Proofs.YtainfdcfkgemhaaGreat.Hr
namespace Go.Proofs.YtainfdcfkgemhaaGreat.Hr
open Go Go.Proofs Go.Sx Nw Pe So
set_option linter.unusedVariables false
def Γf0:Orc:=aC 122 GD Γu0
theorem Okf0:Γf0.Ok prog:=aA Oku0 qhj
def Γf1:Orc:={ Γf0 with av:=true,bs:=true,sb:=true,wr:=wrU }
theorem qkf:Γf1.Ok prog:=⟨Okf0.call,Okf0.rd,Okf0.eqv⟩
def x0 (img:ByteArray) (port base:Int) (f:Fla):PS:=⟨img,port,base,false,0,[],z8,0,f,⟨0,⟨0,0,0,0,0,0,0,0,0⟩,0⟩,lE,lE,lE,lE,uO,uO,⟨[],z8,0,0,0⟩,⟨0,0,0,0,0,0⟩,⟨0,false,0,0⟩,false,0⟩
def OS (img:ByteArray) (port base:Int) (f:Fla):Mem:=⟨[[.v (S img),.v (I port),.ptr 1 0,.v (I base),.v (Bo false),.v (I 0),.v (.slice none 0 0),.v (I 0),.v (I 0),.v (I 0),.v (I 0),.v (I 0),.v (I 0),.v (I 0),.v (I 0),.v (I 0),nP,nP,nP,nP,nP,nP,nP,nP,nP,nP,.v (Bo false),.v (I 0)],[.row 0,.ptr 2 0,.v (Bo f.dn),.v (Bo f.wt),.v (I f.le)],cC f.a f.v],tt 3,[gt f.F]⟩
def OA (y:PS):Mem:=⟨[PL 1 y 3 4 5 6 7 8 9 10 11 12,[.row 0,.ptr 2 0,.v (Bo y.f.dn),.v (Bo y.f.wt),.v (I y.f.le)],cC y.f.a y.f.v,qG y.la,bT 13 y.a,bT 14 y.b,bT 15 y.g,bT 16 y.e,ec 17 y.s,ec 18 y.t,ou 2 19 y.m,[.ptr 20 0,.ptr 21 0,.ptr 22 0],jz y.q,cC y.a.a y.a.v,cC y.b.a y.b.v,cC y.g.a y.g.v,cC y.e.a y.e.v,cC y.s.a y.s.t,cC y.t.a y.t.t,cC y.m.a y.m.v,cC y.y.a y.y.u,cC y.y.b y.y.v,cC y.y.c y.y.w],tt 23,[gt y.f.F,cq y.L,cq y.m.L]⟩
theorem Y2 (img:ByteArray) (port base:Int) (f:Fla):runG Γf1 L0 prog f61 [.ptr 0 0] (OS img port base f)=(bif okLc f.F f.le&&Fq.refE f.dn ((ao f.F).size:Int) base 48==0 then (bif mc img port then (bif fw (lp (x0 img port base f)) then some (.v (I 0),OA (gI (x0 img port base f))) else none) else none) else none):=by kernel_rfl
def A9:List SA:=[.v (Bo false),.v (I 0),.v (.slice none 0 0),.v (I 0),.v (I 0),.v (I 0),.v (I 0),.v (I 0),.v (I 0),.v (I 0),.v (I 0),.v (I 0),nP,nP,nP,nP,nP,nP,nP,nP,nP,nP,.v (Bo false),.v (I 0)]
def AU (b:List SA):Option (ByteArray×Int×Int):=match b with
 | .v (.string img)::.v (.int .i64 port)::.ptr 1 0::.v (.int .i64 base)::r=>bif Go.Sx.eqL kd r A9 then some (img,port,base) else none
 | _=>none
theorem TJ {b:List SA} {img:ByteArray} {port base:Int} (h:AU b=some (img,port,base)):b=.v (S img)::.v (I port)::.ptr 1 0::.v (I base)::A9:=by
 unfold AU at h
 split at h
 ·rename_i i' p' b' r
  cases hq:Go.Sx.eqL kd r A9
  ·rw [hq] at h;cases h
  ·rw [hq] at h
   injection h with h
   injection h with h1 h
   injection h with h2 h3
   subst h1 h2 h3
   rw [Go.Sx.eqL_eq (fun _ _=>ol) hq]
   try rfl
 ·cases h
def AZ (b:List SA):Option (Bool×Bool×Int):=match b with
 | [.row 0,.ptr 2 0,.v (.bool d),.v (.bool t),.v (.int .i64 l)]=>some (d,t,l)
 | _=>none
theorem TQ {b:List SA} {d t:Bool} {l:Int} (h:AZ b=some (d,t,l)):b=[.row 0,.ptr 2 0,.v (Bo d),.v (Bo t),.v (I l)]:=by
 unfold AZ at h
 split at h
 ·injection h with h
  injection h with h1 h
  injection h with h2 h3
  subst h1 h2 h3
  rfl
 ·cases h
def va (r:List RowS):Option (List (List Dat)):=match r with
 | [.live ⟨5,[.num .u8],b,true,true⟩]=>some b
 | _=>none
theorem Ks {r:List RowS} {b:List (List Dat)} (h:va r=some b):r=[gt b]:=by
 unfold va at h
 split at h
 ·injection h with h
  subst h
  rfl
 ·cases h
def AX (m:Mem):Option (ByteArray×Int×Int×Fla):=match m with
 | ⟨[b0,b1,b2],lv,rs⟩=>match nW 3 lv,AU b0,AZ b1,uC b2,va rs with
  | true,some (img,port,base),some (dn,wt,le),some (a,v),some F=>some (img,port,base,⟨F,dn,wt,le,a,v⟩)
  | _,_,_,_,_=>none
 | _=>none
theorem TN {m:Mem} {img:ByteArray} {port base:Int} {f:Fla} (h:AX m=some (img,port,base,f)):m=OS img port base f:=by
 unfold AX at h
 split at h
 case h_2=>cases h
 split at h
 case h_2=>cases h
 rename_i hl h0 h1 h2 hr
 injection h with h
 injection h with e1 h
 injection h with e2 h
 injection h with e3 e4
 subst e1 e2 e3 e4
 rw [qd hl,TJ h0,TQ h1,c7 h2,Ks hr]
 rfl
def j0 (img:ByteArray) (port base:Int) (f:Fla):Bool:=(okLc f.F f.le&&Fq.refE f.dn ((ao f.F).size:Int) base 48==0)&&(mc img port&&fw (lp (x0 img port base f)))
def FT (xs:List SV) (m:Mem):Option (Bool×SV×Mem) :=
 match xs,AX m with
 | [.ptr 0 0],some (img,port,base,f)=>some (j0 img port base f,.v (I 0),OA (gI (x0 img port base f)))
 | _,_=>none
theorem qgB:aQ 61 FT:=by
 intro xs m r m' h
 unfold FT at h
 split at h
 case h_2=>cases h
 rename_i img port base f hx
 obtain ⟨h1,rfl,rfl⟩:=aw h
 rw [TN hx]
 refine aj (Λ:=L0) qkf func61 rfl ai ((Y2 img port base f).trans ?_)
 unfold j0 at h1
 obtain ⟨e1,e2⟩:=Bool.and_eq_true_iff.1 h1
 obtain ⟨e2,e3⟩:=Bool.and_eq_true_iff.1 e2
 rw [e1,e2,e3]
 rfl
def Γn0:Orc:=aC 61 FT ΓO
theorem Ii:Γn0.Ok prog:=aA cw qgB
def Γn1:Orc:={ Γn0 with av:=true,bs:=true,sb:=true,wr:=fun f=>Nat.beq f 61 }
theorem qj8:Γn1.Ok prog:=⟨Ii.call,Ii.rd,Ii.eqv⟩
def OK (f:Fla):Mem:=⟨[[.row 0,.ptr 1 0,.v (Bo f.dn),.v (Bo f.wt),.v (I f.le)],cC f.a f.v],tt 2,[gt f.F]⟩
def cPn (y:PS):List SA:=.v (S y.img)::.v (I y.port)::.ptr 0 0::.v (I y.base)::.v (Bo y.up)::.v (I y.lf)::.row 1::gf y.R (.v (I y.ft)::.ptr 3 0::.ptr 4 0::.ptr 5 0::.ptr 6 0::.ptr 7 0::.ptr 8 0::.ptr 9 0::.ptr 10 0::.ptr 11 0::.ptr 12 0::.v (Bo y.fl)::.v (I y.cy)::[])
def MM (y:PS):Mem:=⟨[[.row 0,.ptr 1 0,.v (Bo y.f.dn),.v (Bo y.f.wt),.v (I y.f.le)],cC y.f.a y.f.v,cPn y,.ptr 0 0::.v (I y.la.b)::tU y.la.r [.v (I y.la.x)],bT 13 y.a,bT 14 y.b,bT 15 y.g,bT 16 y.e,ec 17 y.s,ec 18 y.t,ou 2 19 y.m,[.ptr 20 0,.ptr 21 0,.ptr 22 0],jz y.q,cC y.a.a y.a.v,cC y.b.a y.b.v,cC y.g.a y.g.v,cC y.e.a y.e.v,cC y.s.a y.s.t,cC y.t.a y.t.t,cC y.m.a y.m.v,cC y.y.a y.y.u,cC y.y.b y.y.v,cC y.y.c y.y.w],tt 23,[gt y.f.F,cq y.L,cq y.m.L]⟩
theorem Ye (img:ByteArray) (port base:Int) (f:Fla):runG Γn1 L0 prog f18 [.v (S img),.v (I port),.ptr 0 0,.v (I base)] (OK f)=(bif j0 img port base f then some (.tup [.one (.ptr 2 0),.one (.v (I 0))],MM (gI (x0 img port base f))) else none):=by kernel_rfl
end Go.Proofs.YtainfdcfkgemhaaGreat.Hr
namespace Go.Proofs.YtainfdcfkgemhaaGreat.Hr
open Go Go.Proofs Go.Sx Nw Pe So
set_option linter.unusedVariables false
def A1 (b:List SA):Option (Bool×Bool×Int):=match b with
 | [.row 0,.ptr 1 0,.v (.bool d),.v (.bool t),.v (.int .i64 l)]=>some (d,t,l)
 | _=>none
theorem TR {b:List SA} {d t:Bool} {l:Int} (h:A1 b=some (d,t,l)):b=[.row 0,.ptr 1 0,.v (Bo d),.v (Bo t),.v (I l)]:=by
 unfold A1 at h
 split at h
 ·injection h with h
  injection h with h1 h
  injection h with h2 h3
  subst h1 h2 h3
  rfl
 ·cases h
def AV (m:Mem):Option Fla:=match m with
 | ⟨[b1,b2],lv,rs⟩=>match nW 2 lv,A1 b1,uC b2,va rs with
  | true,some (dn,wt,le),some (a,v),some F=>some ⟨F,dn,wt,le,a,v⟩
  | _,_,_,_=>none
 | _=>none
theorem TK {m:Mem} {f:Fla} (h:AV m=some f):m=OK f:=by
 unfold AV at h
 split at h
 case h_2=>cases h
 split at h
 case h_2=>cases h
 rename_i hl h1 h2 hr
 injection h with h
 subst h
 rw [qd hl,TR h1,c7 h2,Ks hr]
 rfl
def xU (xs:List SV) (m:Mem):Option (Bool×SV×Mem) :=
 match xs,AV m with
 | [.v (.string img),.v (.int .i64 port),.ptr 0 0,.v (.int .i64 base)],some f=>some (j0 img port base f,.tup [.one (.ptr 2 0),.one (.v (I 0))],MM (gI (x0 img port base f)))
 | _,_=>none
theorem Oj:aQ 18 xU:=by
 intro xs m r m' h
 unfold xU at h
 split at h
 case h_2=>cases h
 rename_i img port base f hx
 obtain ⟨h1,rfl,rfl⟩:=aw h
 rw [TK hx]
 exact aj (Λ:=L0) qj8 func18 rfl ai ((Ye img port base f).trans (by rw [h1];rfl))
def Γk1:Orc:={ aU 66 La.gLast ΓO with av:=true,bs:=true,sb:=true }
theorem zH:Γk1.Ok prog:=⟨(aO cw La.gLast_ok).call,(aO cw La.gLast_ok).rd,(aO cw La.gLast_ok).eqv⟩
def sd (x:PS):PS:={ x with up:=false,lf:=3 }
theorem Xc (x:PS):runG Γk1 L0 prog f38 [.ptr 0 0] (mP x)=some (.v (.tuple #[]),mP (sd x)):=by kernel_rfl
theorem VM (x:PS):runG Γk1 L0 prog f19 [.ptr 0 0] (mP x)=some (.v (Bo x.up),mP x):=by kernel_rfl
theorem Zf (x:PS):runG Γk1 L0 prog f24 [.ptr 0 0] (mP x)=some (.v (I x.ft),mP x):=by kernel_rfl
def L4 (r:Rcd):Value:=.tuple #[.agg #[I r.q,I r.c,I r.p,I r.s,I r.f,I r.v,I r.d,I r.i,I r.n],Bo (decide (r.q>0))]
theorem YF (x:PS):runG Γk1 L0 prog f25 [.ptr 0 0] (mP x)=some (.v (L4 x.la.r),mP x):=by kernel_rfl
def xL (xs:List SV) (m:Mem):Option (Bool×SV×Mem) :=
 match xs,uP m with
 | [.ptr 0 0],some x=>some (true,.v (.tuple #[]),mP (sd x))
 | _,_=>none
theorem N8:aQ 38 xL:=by
 intro xs m r m' h
 unfold xL at h
 split at h
 case h_2=>cases h
 rename_i x hx
 obtain ⟨_,rfl,rfl⟩:=aw h
 rw [dZ hx]
 exact aj (Λ:=L0) zH func38 rfl ai (Xc x)
def xE (xs:List SV) (m:Mem):Option (Bool×Value) :=
 match xs,uP m with
 | [.ptr 0 0],some x=>some (true,Bo x.up)
 | _,_=>none
theorem N2:bk 19 xE:=by
 intro xs m r h
 unfold xE at h
 split at h
 case h_2=>cases h
 rename_i x hx
 obtain ⟨_,rfl⟩:=ab h
 rw [dZ hx]
 exact aj (Λ:=L0) zH func19 rfl ai (VM x)
def FL (xs:List SV) (m:Mem):Option (Bool×Value) :=
 match xs,uP m with
 | [.ptr 0 0],some x=>some (true,I x.ft)
 | _,_=>none
theorem qgu:bk 24 FL:=by
 intro xs m r h
 unfold FL at h
 split at h
 case h_2=>cases h
 rename_i x hx
 obtain ⟨_,rfl⟩:=ab h
 rw [dZ hx]
 exact aj (Λ:=L0) zH func24 rfl ai (Zf x)
def xZ (xs:List SV) (m:Mem):Option (Bool×Value) :=
 match xs,uP m with
 | [.ptr 0 0],some x=>some (true,L4 x.la.r)
 | _,_=>none
theorem On:bk 25 xZ:=by
 intro xs m r h
 unfold xZ at h
 split at h
 case h_2=>cases h
 rename_i x hx
 obtain ⟨_,rfl⟩:=ab h
 rw [dZ hx]
 exact aj (Λ:=L0) zH func25 rfl ai (YF x)
def gH (x:PS) (i:Inp):PS:=bif x.up then (bif fc x i != 0 then { cyE x i with up:=false } else cyE x i) else x
def fJ (x:PS) (i:Inp):Ot:=bif x.up then (bif fc x i != 0 then o0 else jN (cyE x i) (cA x i) (cyW x i)) else o0
def l9 (x:PS) (i:Inp):Bool:=!x.up||(x.ft==0&&(okP x&&jb i))
theorem Pn (y:PS) (i:Inp):(gH y i).lf=y.lf:=by
 unfold gH
 generalize (fc y i != 0)=b
 have e:(cyE y i).lf=y.lf:=by kernel_rfl
 cases y.up
 ·rfl
 ·cases b
  ·exact e
  ·exact e
theorem Cx {y:PS} (hl:y.lf=0):({ y with lf:=0 }:PS)=y:=by
 rcases y with ⟨img,port,base,up,lf,L,R,ft,f,la,a,b,g,e,s,t,m,y,q,fl,cy⟩
 cases hl
 rfl
theorem ZV (y:PS) (i:Inp) (hl:y.lf=0) (h:l9 y i=true):runG Γq1 L0 prog f41 [.ptr 0 0,.v (fx i)] (mP y)=some (.v (oV (fJ y i)),mP { gH y i with lf:=0 }):=by
 rw [Cx ((Pn y i).trans hl)]
 have r:=ZW y i
 rw [Cx hl] at r
 refine r.trans ?_
 unfold l9 at h
 unfold gH fJ
 cases hu:y.up
 ·rfl
 ·rw [hu] at h
  simp only [Bool.not_true,Bool.false_or,Bool.and_eq_true] at h
  obtain ⟨h1,h2,h3⟩:=h
  have t:=(LB y i).symm.trans (qh6 y i h2 h3)
  rw [hu,h1] at t
  rw [h1]
  have t':cyT y i=(bif fc y i != 0 then some (.v (oV o0),mP { cyE y i with up:=false }) else some (.v (oV (jN (cyE y i) (cA y i) (cyW y i))),mP (cyE y i))):=t
  refine Eq.trans (b:=cyT y i) rfl (t'.trans ?_)
  generalize (fc y i != 0)=b
  cases b<;>rfl
end Go.Proofs.YtainfdcfkgemhaaGreat.Hr
namespace Go.Proofs.YtainfdcfkgemhaaGreat.Hr
open Go Go.Proofs Go.Sx Nw Pe So
set_option linter.unusedVariables false
def bm (x:PS) (l:Int):PS:={ x with up:=false,lf:=l }
theorem Ha {x:PS} {l:Int} (h1:x.up=false) (h2:x.lf=l):bm x l=x:=by
 rcases x with ⟨img,port,base,up,lf,L,R,ft,f,la,a,b,g,e,s,t,m,y,q,fl,cy⟩
 cases h1
 cases h2
 rfl
def tu (xs:List SV) (m:Mem):Option (Bool×SV×Mem) :=
 match xs,uP m with
 | [.ptr 0 0,.v (.agg ⟨[.string a,.string b,.string c,.string d]⟩)],some x=>match x.lf==0,x.lf==1,x.lf==2 with
  | true,_,_=>some (l9 x ⟨a,b,c,d⟩,.v (oV (fJ x ⟨a,b,c,d⟩)),mP { gH x ⟨a,b,c,d⟩ with lf:=0 })
  | false,true,_=>some (!x.up&&kK (bw (bm x 1)),.v (oV o0),iN (bw (bm x 1)) (gI (bw (bm x 1))))
  | false,false,true=>some (!x.up,.v (oV o0),mP (bm x 1))
  | false,false,false=>some (!x.up&&x.lf==3,.v (oV o0),mP (bm x 2))
 | _,_=>none
theorem Oq:aQ 41 tu:=by
 intro xs m r m' h
 unfold tu at h
 split at h
 case h_2=>cases h
 rename_i a b c d x hx
 rw [dZ hx]
 split at h
 ·rename_i e1
  obtain ⟨h1,rfl,rfl⟩:=aw h
  exact aj (Λ:=L0) zG func41 rfl ai (ZV x ⟨a,b,c,d⟩ (by simpa using e1) h1)
 ·rename_i e1 e2
  obtain ⟨h1,rfl,rfl⟩:=aw h
  rw [Bool.and_eq_true,Bool.not_eq_true'] at h1
  have e:=Ha (l:=1) h1.1 (by simpa using e2)
  have r:=ZU x ⟨a,b,c,d⟩
  refine aj (Λ:=L0) zG func41 rfl ai ?_
  have r':runG Γq1 L0 prog f41 [.ptr 0 0,.v (fx ⟨a,b,c,d⟩)] (mP (bm x 1))=(bif kK (bw (bm x 1)) then some (.v (oV o0),iN (bw (bm x 1)) (gI (bw (bm x 1)))) else none):=r
  rw [h1.2] at r'
  rw [e] at r' ⊢
  exact r'
 ·rename_i e1 e2 e3
  obtain ⟨h1,rfl,rfl⟩:=aw h
  rw [Bool.not_eq_true'] at h1
  have e:=Ha (l:=2) h1 (by simpa using e3)
  have r':runG Γq1 L0 prog f41 [.ptr 0 0,.v (fx ⟨a,b,c,d⟩)] (mP (bm x 2))=some (.v (oV o0),mP (bm x 1)):=ZT x ⟨a,b,c,d⟩
  rw [e] at r'
  exact aj (Λ:=L0) zG func41 rfl ai r'
 ·rename_i e1 e2 e3
  obtain ⟨h1,rfl,rfl⟩:=aw h
  rw [Bool.and_eq_true,Bool.not_eq_true'] at h1
  have e:=Ha (l:=3) h1.1 (by simpa using h1.2)
  have r':runG Γq1 L0 prog f41 [.ptr 0 0,.v (fx ⟨a,b,c,d⟩)] (mP (bm x 3))=some (.v (oV o0),mP (bm x 2)):=ZS x ⟨a,b,c,d⟩
  rw [e] at r'
  exact aj (Λ:=L0) zG func41 rfl ai r'
end Go.Proofs.YtainfdcfkgemhaaGreat.Hr
namespace Go.Proofs.YtainfdcfkgemhaaGreat.Hr
open Go Go.Proofs Go.Sx Nw Pe So
set_option linter.unusedVariables false
def fg (x:PS):Bool:=!x.up&&x.lf==1
def pP (x:PS) (l:Int):PS:={ x with lf:=l }
def cyN (x:PS) (i:Inp):PS:=bif x.up then gH x i else pP x (bif x.lf==0 then 0 else x.lf - 1)
def okN (x:PS) (i:Inp):Bool:=bif x.up then x.lf==0&&(x.ft==0&&(okP x&&jb i)) else (x.lf==0||(x.lf==2||x.lf==3))
def bZ (x:PS):PS:=gI (bw (bm x 1))
def okB (x:PS):Bool:=fg x&&kK (bw (bm x 1))
def Gu (xs:List SV) (m:Mem):Option (Bool×SV×Mem) :=
 match xs,uP m with
 | [.ptr 0 0,.v (.agg ⟨[.string a,.string b,.string c,.string d]⟩)],some x=>some (okN x ⟨a,b,c,d⟩,.v (oV (fJ x ⟨a,b,c,d⟩)),mP (cyN x ⟨a,b,c,d⟩))
 | _,_=>none
def HT (xs:List SV) (m:Mem):List (Bool×Option (Bool×SV×Mem)) :=
 match xs,uP m with
 | [.ptr 0 0,.v (.agg ⟨[.string a,.string b,.string c,.string d]⟩)],some x=>[(fg x,some (okB x,.v (oV o0),iN (bw (bm x 1)) (bZ x)))]
 | _,_=>[]
theorem Ov {x:PS} {i:Inp} {r:SV} {m':Mem} (h:tu [.ptr 0 0,.v (fx i)] (mP x)=some (true,r,m')):bB prog 41 [.ptr 0 0,.v (fx i)] (mP x) r m':=Oq _ _ _ _ h
theorem Ou (x:PS) (i:Inp):tu [.ptr 0 0,.v (fx i)] (mP x)=(match x.lf==0,x.lf==1,x.lf==2 with
 | true,_,_=>some (l9 x i,.v (oV (fJ x i)),mP { gH x i with lf:=0 })
 | false,true,_=>some (!x.up&&kK (bw (bm x 1)),.v (oV o0),iN (bw (bm x 1)) (gI (bw (bm x 1))))
 | false,false,true=>some (!x.up,.v (oV o0),mP (bm x 1))
 | false,false,false=>some (!x.up&&x.lf==3,.v (oV o0),mP (bm x 2))):=by kernel_rfl
theorem qib {x:PS} {i:Inp} (h:okN x i=true):bB prog 41 [.ptr 0 0,.v (fx i)] (mP x) (.v (oV (fJ x i))) (mP (cyN x i)):=by
 refine Ov ?_
 rw [Ou]
 unfold okN at h
 unfold cyN
 cases hu:x.up
 ·rw [hu] at h
  simp only [cond_false,Bool.or_eq_true,beq_iff_eq] at h
  have hR:fJ x i=o0:=by unfold fJ;rw [hu];rfl
  rw [hR]
  rcases h with h|h|h
  ·have h1:l9 x i=true:=by unfold l9;rw [hu];rfl
   have h2:gH x i=x:=by unfold gH;rw [hu];rfl
   have e:pP x (bif x.lf==0 then 0 else x.lf - 1)=pP x 0:=by rw [h];rfl
   rw [h1,h2,cond_false,e,h]
   rfl
  ·have e:pP x (bif x.lf==0 then 0 else x.lf - 1)=bm x 1:=by
    rcases x with ⟨img,port,base,up,lf,L,R,ft,f,la,a,b,g,e,s,t,m,y,q,fl,cy⟩
    cases hu
    cases h
    rfl
   rw [cond_false,e,h]
   rfl
  ·have e:pP x (bif x.lf==0 then 0 else x.lf - 1)=bm x 2:=by
    rcases x with ⟨img,port,base,up,lf,L,R,ft,f,la,a,b,g,e,s,t,m,y,q,fl,cy⟩
    cases hu
    cases h
    rfl
   rw [cond_false,e,h]
   rfl
 ·rw [hu] at h
  simp only [cond_true,Bool.and_eq_true,beq_iff_eq] at h
  obtain ⟨h1,h2,h3,h4⟩:=h
  have h5:l9 x i=true:=by unfold l9;rw [hu,h2,h3,h4];rfl
  have h6:({ gH x i with lf:=0 }:PS)=gH x i:=Cx ((Pn x i).trans h1)
  rw [h1,h5,h6]
  rfl
theorem qhb:aQ 41 Gu:=by
 intro xs m r m' h
 unfold Gu at h
 split at h
 case h_2=>cases h
 rename_i a b c d x hx
 obtain ⟨h1,rfl,rfl⟩:=aw h
 rw [dZ hx]
 exact qib h1
theorem qiS {x:PS} {i:Inp} (h:okB x=true):bB prog 41 [.ptr 0 0,.v (fx i)] (mP x) (.v (oV o0)) (iN (bw (bm x 1)) (bZ x)):=by
 refine Ov ?_
 rw [Ou]
 unfold okB fg at h
 simp only [Bool.and_eq_true,beq_iff_eq,Bool.not_eq_true'] at h
 obtain ⟨⟨h1,h2⟩,h3⟩:=h
 rw [h1,h2,h3]
 rfl
theorem qjD:∀ xs m b r m',(b,some (true,r,m'))∈HT xs m->bB prog 41 xs m r m':=by
 intro xs m b r m' h
 unfold HT at h
 split at h
 case h_2=>cases h
 rename_i a b' c d x hx
 rw [List.mem_singleton] at h
 injection h with _ h
 obtain ⟨h1,rfl,rfl⟩:=aw h.symm
 rw [dZ hx]
 exact qiS (i:=⟨a,b',c,d⟩) h1
end Go.Proofs.YtainfdcfkgemhaaGreat.Hr
namespace Go.Proofs.YtainfdcfkgemhaaGreat.Hr
open Go Go.Proofs Go.Sx Nw Pe So
set_option linter.unusedVariables false
theorem wE {x:Stm} {s:ByteArray}:ek (jO x s)=true:=by
 unfold ek jO
 have h:=Lq (x.w++s)
 rw [CR (show sat x.v.toNat (sD (x.w++s))<1000001 by have:=vD x.v.toNat (sD (x.w++s));omega),Nat.ble_eq_true_of_le (show (sR (x.w++s)).size<=69 by omega)]
 rfl
theorem qjA {t a:Int} (h:0<=t/\t<=a) (ha:a<=1000000):0<=au a t 1/\au a t 1<=a:=by
 unfold au aR
 rw [az (n:=a - t) (by omega)]
 have k:∀ d:Int,0<=d->d<=a - t->0<=wI (t+d)/\wI (t+d)<=a:=fun d h1 h2=>by rw [az (by omega)];omega
 split<;>split<;>(first|exact k _ (by omega) (by omega)|skip)
theorem qix {x y:Int} (h:0<=y):0<=aR x y/\aR x y<=y:=by
 unfold aR
 split<;>split<;>omega
theorem CY {b o:Bool} {x y:Int} (hx:aE x=true) (hy:aE y=true):aE (pk b x (gN o y))=true:=by
 unfold pk gN
 cases b
 ·cases o
  ·exact hy
  ·rfl
 ·exact hx
theorem ME {x:Src} {q:Int} {L:List (List Dat)} (h:iz x=true):iz (kD x (cG q L))=true:=by
 unfold iz at h
 simp only [Bool.and_eq_true,beq_iff_eq] at h
 obtain ⟨h1,h2,h3,h4,h5,h6⟩:=h
 obtain ⟨n1,n2⟩:=MN q L
 obtain ⟨g1,g2,g3⟩:=NR n1
 have h5':=of_decide_eq_true h5
 have ht:0<=(kD x (cG q L)).t/\(kD x (cG q L)).t<=1000000:=by
  show 0<=pk (dg x (cG q L)==0) (aR 0 x.a) (au x.a x.t 1)/\pk (dg x (cG q L)==0) (aR 0 x.a) (au x.a x.t 1)<=1000000
  unfold pk
  rw [h6]
  cases (dg x (cG q L)==0)
  ·exact qjA (by omega) (by decide)
  ·exact qix (by decide)
 show (aE (pk _ _ _)&&(aE (pk _ _ _)&&(aE (pk _ _ _)&&(decide (0<=x.s/\x.s<9223372036854775808)&&(decide (0<=(kD x (cG q L)).t/\(kD x (cG q L)).t<=1000000)&&x.a==1000000)))))=true
 rw [CY g1 h1,CY g2 h2,CY g3 h3,h4,decide_eq_true ht,h6]
 rfl
theorem TX {L:List (List Dat)} (h:kU L=true):L.length=(ao L).size:=by
 have:=congrArg List.length (NJ h)
 rw [vZ] at this
 exact this
theorem Tg {B s:ByteArray} {down waits:Bool} {le k:Int} (hB:B.size<=1000000) (hle:0<=le):(Fq.wrB B down waits le k s).size=B.size:=by
 unfold Fq.wrB
 cases e:Fq.wrN B down k s
 ·unfold Fq.wrN at e
  have e:=bne_eq_false_iff_eq.1 e
  obtain ⟨_,h1,h2,h3⟩:=(Fq.refE_ok (by omega)).1 e
  have:=Fq.tornS_size waits hle s
  exact sn (by omega)
 ·rfl
theorem Uh {b:Bool} {x y:ByteArray} (h:x.size=y.size):(La.svT b x y).size=y.size:=by
 unfold La.svT
 cases b
 ·rfl
 ·exact h
def pQ (x:PS):Bool:=bif x.up then x.lf==0 else (decide (0<=x.lf)&&decide (x.lf<=3))
structure Rok (L:List (List Dat)):Prop where
 ph:cz L=true
 ne:fu L=true
 ln:0<L.length
 vd:∀ p:Int,0<=p->p<(L.length:Int)->(bp L p).length<=1000000/\0<=cK L p/\cK L p<=2199023255552
structure Inv (n:Nat) (x:PS):Prop where
 bt:mc x.img x.port=true
 mL:x.m.L=cc x.img
 mp:0<=x.m.p/\x.m.p<((cc x.img).length:Int)
 ft:x.ft=0
 h:iA x=true
 fr:kU x.f.F=true/\(ao x.f.F).size=n
 le:0<=x.f.le
 ba:0<=x.base/\x.base+48<=(n:Int)/\n<=1000000
 lf:pQ x=true
theorem qa5 {k:Nat} (h0:0<k) (h1:k<=4):Rok (List.replicate k gS):=by
 have key:∀ p:Int,0<=p->p<(k:Int)->(List.replicate k gS).getD p.toNat []=gS:=by
  intro p h2 h3
  rw [List.getD_eq_getElem?_getD,List.getElem?_eq_getElem (by rw [List.length_replicate];omega),Option.getD_some,List.getElem_replicate]
 refine ⟨?_,?_,by rw [List.length_replicate];exact h0,fun p h2 h3=>?_⟩
 ·rcases (show k=1\/k=2\/k=3\/k=4 by omega) with rfl|rfl|rfl|rfl<;>kernel_rfl
 ·rcases (show k=1\/k=2\/k=3\/k=4 by omega) with rfl|rfl|rfl|rfl<;>kernel_rfl
 ·rw [List.length_replicate] at h3
  unfold bp cK
  rw [key p h2 h3]
  exact ⟨by decide,by decide,by decide⟩
theorem uf (s:ByteArray):0<btK s/\btK s<=4:=by
 unfold btK
 cases fb s kW<;>cases fb s ms<;>cases fb s jp<;>exact ⟨by decide,by decide⟩
theorem ox (s:ByteArray):Rok (cc s):=qa5 (uf s).1 (uf s).2
theorem Inv.okJ {n:Nat} {x:PS} (h:Inv n x):Hr.okJ x=true:=by
 obtain ⟨r1,r2,r3,r4⟩:=ox x.img
 obtain ⟨v1,v2,v3⟩:=r4 x.m.p h.mp.1 h.mp.2
 unfold Hr.okJ nA sC
 rw [h.mL,r1,r2,decide_eq_true h.mp.1,decide_eq_true h.mp.2,Nat.ble_eq_true_of_le v1,decide_eq_true ⟨v2,v3⟩]
 rfl
theorem Inv.okLc {n:Nat} {x:PS} (h:Inv n x):Hr.okLc x.f.F x.f.le=true:=by
 have:=TX h.fr.1
 have h2:=h.fr.2
 have h3:=h.ba.2.2
 unfold Hr.okLc
 rw [h.fr.1,decide_eq_true h.le,Nat.ble_eq_true_of_le (by omega)]
 rfl
theorem Inv.okP {n:Nat} {x:PS} (h:Inv n x):Hr.okP x=true:=by
 unfold Hr.okP
 rw [h.h,h.okJ,h.okLc]
 rfl
theorem MI {x:PS} (a:ek x.a=true) (b:ek x.b=true) (g:ek x.g=true) (e:ek x.e=true) (s:iz x.s=true) (t:iz x.t=true):iA x=true:=by
 unfold iA
 rw [a,b,g,e,s,t]
 rfl
theorem qbv {x:PS} (h:iA x=true):ek x.a=true/\ek x.b=true/\ek x.g=true/\ek x.e=true/\iz x.s=true/\iz x.t=true:=by
 unfold iA at h
 simpa only [Bool.and_eq_true] using h
theorem om (x:PS) (i:Inp):(Hr.cyE x i).img=x.img:=by kernel_rfl
theorem qie (x:PS) (i:Inp):(Hr.cyE x i).port=x.port:=by kernel_rfl
theorem qig (x:PS) (i:Inp):(Hr.cyE x i).ft=x.ft:=by kernel_rfl
theorem qif (x:PS) (i:Inp):(Hr.cyE x i).f.le=x.f.le:=by kernel_rfl
theorem He (x:PS) (i:Inp):(Hr.cyE x i).base=x.base:=by kernel_rfl
theorem Po (x:PS) (i:Inp):(Hr.cyE x i).up=x.up:=by kernel_rfl
theorem Pq (x:PS) (i:Inp):(Hr.cyE x i).lf=x.lf:=by kernel_rfl
theorem Inv.cyE {n:Nat} {x:PS} (h:Inv n x) (i:Inp):Inv n (Hr.cyE x i):=by
 obtain ⟨a1,a2,a3,a4,a5,a6⟩:=qbv h.h
 refine ⟨by rw [om,qie];exact h.bt,?_,?_,by rw [qig];exact h.ft,?_,?_,by rw [qif];exact h.le,by rw [He];exact h.ba,by unfold pQ;rw [Po,Pq];exact h.lf⟩
 ·have e1:(mF (cI x i) (fe x i) (cA x i)).L=x.m.L:=by kernel_rfl
  have e2:(cI x i).m.L=x.m.L:=by kernel_rfl
  have e0:(Hr.cyE x i).m=bif (cI x i).fl then mF (cI x i) (fe x i) (cA x i) else (cI x i).m:=by kernel_rfl
  rw [om,e0]
  cases (cI x i).fl
  ·exact e2.trans h.mL
  ·exact e1.trans h.mL
 ·have e1:(mF (cI x i) (fe x i) (cA x i)).p=bif mG (cI x i) (fe x i) (cA x i) then wI (x.m.p+1) else x.m.p:=by kernel_rfl
  have e2:(cI x i).m=x.m:=by kernel_rfl
  have e0:(Hr.cyE x i).m=bif (cI x i).fl then mF (cI x i) (fe x i) (cA x i) else (cI x i).m:=by kernel_rfl
  rw [om,e0]
  cases (cI x i).fl
  ·rw [cond_false,e2];exact h.mp
  ·rw [cond_true,e1]
   cases e:mG (cI x i) (fe x i) (cA x i)
   ·exact h.mp
   ·unfold mG Ph.cyB at e
    have hl:(cc x.img).length<=4:=by unfold cc;rw [List.length_replicate];exact (uf _).2
    have hl0:=(ox x.img).ln
    rw [e2,h.mL,az (n:=((cc x.img).length:Int) - 1) (by omega)] at e
    have hp:=h.mp
    by_cases hq:x.m.p>=((cc x.img).length:Int) - 1
    ·rw [decide_eq_true hq] at e;cases e
    ·rw [cond_true,az (by omega)]
     omega
 ·have ea:(Hr.cyE x i).a=jO x.a i.a:=by kernel_rfl
  have eb:(Hr.cyE x i).b=jO x.b i.b:=by kernel_rfl
  have eg:(Hr.cyE x i).g=jO x.g i.c:=by kernel_rfl
  have ee:(Hr.cyE x i).e=jO x.e i.d:=by kernel_rfl
  have es:(Hr.cyE x i).s=kD x.s (cG 0 (cZ x.a i.a)):=by kernel_rfl
  have et:(Hr.cyE x i).t=kD x.t (cG 1 (cZ x.b i.b)):=by kernel_rfl
  exact MI (by rw [ea];exact wE) (by rw [eb];exact wE) (by rw [eg];exact wE) (by rw [ee];exact wE) (by rw [es];exact ME a5) (by rw [et];exact ME a6)
 ·have eF:(Hr.cyE x i).f.F=cp (La.svT (dQ (bQ (bS x i))) (Fq.wrB (ao x.f.F) x.f.dn x.f.wt x.f.le (kw (bS x i)) (bn (bQ (bS x i)))) (ao x.f.F)):=by kernel_rfl
  rw [eF]
  refine ⟨qdJ _,?_⟩
  rw [nb]
  have hs:(ao x.f.F).size<=1000000:=by rw [h.fr.2];exact h.ba.2.2
  exact (Uh (Tg hs h.le)).trans h.fr.2
theorem Inv.upd {n:Nat} {x:PS} (h:Inv n x) {u:Bool} {l:Int} (hl:(bif u then l==0 else (decide (0<=l)&&decide (l<=3)))=true):Inv n { x with up:=u,lf:=l }:=⟨h.bt,h.mL,h.mp,h.ft,h.h,h.fr,h.le,h.ba,hl⟩
theorem Inv.up0 {n:Nat} {x:PS} (h:Inv n x) (hu:x.up=true):x.lf=0:=by
 have:=h.lf
 unfold pQ at this
 rw [hu] at this
 exact beq_iff_eq.1 this
theorem Inv.dn {n:Nat} {x:PS} (h:Inv n x) (hu:x.up=false):0<=x.lf/\x.lf<=3:=by
 have:=h.lf
 unfold pQ at this
 rw [hu,cond_false,Bool.and_eq_true,decide_eq_true_eq,decide_eq_true_eq] at this
 exact this
theorem Inv.okN {n:Nat} {x:PS} (h:Inv n x) {i:Inp} (hi:jb i=true) (hb:fg x=false):Hr.okN x i=true:=by
 unfold Hr.okN
 unfold fg at hb
 cases hu:x.up
 ·have hd:=h.dn hu
  rw [hu] at hb
  have hb:(x.lf==1)=false:=hb
  have:=beq_eq_false_iff_ne.1 hb
  rw [cond_false]
  rcases (show x.lf=0\/x.lf=2\/x.lf=3 by omega) with e|e|e<;>rw [e]<;>rfl
 ·rw [cond_true,h.up0 hu,h.ft,h.okP,hi]
  rfl
theorem Inv.cyN {n:Nat} {x:PS} (h:Inv n x) {i:Inp} (hb:fg x=false):Inv n (Hr.cyN x i):=by
 have hE:=h.cyE i
 unfold Hr.cyN gH
 cases hu:x.up
 ·have hd:=h.dn hu
  refine h.upd (u:=x.up) (l:=bif x.lf==0 then 0 else x.lf - 1) ?_
  rw [hu]
  cases e:x.lf==0
  ·have:=beq_eq_false_iff_ne.1 e
   show (decide (0<=x.lf - 1)&&decide (x.lf - 1<=3))=true
   rw [Bool.and_eq_true,decide_eq_true_eq,decide_eq_true_eq]
   omega
  ·rfl
 ·show Inv n (bif fc x i != 0 then _ else _)
  cases fc x i != 0
  ·exact hE
  ·have e:(Hr.cyE x i).lf=0:=(Pq x i).trans (h.up0 hu)
   refine hE.upd (u:=false) (l:=(Hr.cyE x i).lf) ?_
   rw [e]
   rfl
theorem Inv.rs {n:Nat} {x:PS} (h:Inv n x):Inv n (sd x):=h.upd rfl
def ng (x:PS) (k:Int):PS:={ x with f:={ x.f with wt:=true,le:=if k>0 then k else 0 } }
theorem Inv.te {n:Nat} {x:PS} (h:Inv n x) (k:Int):Inv n (ng x k):=⟨h.bt,h.mL,h.mp,h.ft,h.h,h.fr,by show 0<=(if k>0 then k else 0);split<;>omega,h.ba,h.lf⟩
def rm (k:Nat):PS:={ x0 zS 0 0 ⟨[],false,false,0,0,0⟩ with L:=List.replicate k gS,R:=⟨2,3,4,2,50,2,10,(k:Int)⟩ }
theorem qbx {s:ByteArray} {y:PS} (hL:y.L=cc s) (hR:y.R=iO s):fw y=true:=by
 have e:fw y=fw (rm (btK s)):=by
  unfold fw
  rw [hL,hR]
  rfl
 rw [e]
 have:=uf s
 generalize btK s=k at this
 have h1:fw (rm 1)=true:=by kernel_rfl
 have h2:fw (rm 2)=true:=by kernel_rfl
 have h3:fw (rm 3)=true:=by kernel_rfl
 have h4:fw (rm 4)=true:=by kernel_rfl
 rcases (show k=1\/k=2\/k=3\/k=4 by omega) with e|e|e|e<;>rw [e]<;>assumption
theorem Inv.okB {n:Nat} {x:PS} (h:Inv n x) (hb:fg x=true):Hr.okB x=true:=by
 have hs:=h.fr.2
 have hn:=h.ba
 unfold Hr.okB kK
 rw [hb,show (bw (bm x 1)).f.F=x.f.F from rfl,show (bw (bm x 1)).f.le=x.f.le from rfl,h.okLc,show (bw (bm x 1)).img=x.img from rfl,show (bw (bm x 1)).port=x.port from rfl,h.bt,qbx (s:=x.img) (y:=lp (bw (bm x 1))) rfl rfl,show (bw (bm x 1)).f.dn=false from rfl,show (bw (bm x 1)).base=x.base from rfl,(Fq.refE_ok (down:=false) (size:=((ao x.f.F).size:Int)) (k:=x.base) (n:=48) (by omega)).2 ⟨rfl,by omega,by omega,by omega⟩]
 rfl
theorem zc (x:PS):(bZ x).img=x.img:=by kernel_rfl
theorem qiR (x:PS):(bZ x).port=x.port:=by kernel_rfl
theorem PW (x:PS):(bZ x).base=x.base:=by kernel_rfl
theorem qiY (x:PS):(bZ x).ft=0:=by kernel_rfl
theorem qiP (x:PS):(bZ x).up=true:=by kernel_rfl
theorem qiU (x:PS):(bZ x).lf=0:=by kernel_rfl
theorem qiT (x:PS):(bZ x).m.L=cc x.img:=by kernel_rfl
theorem PX (x:PS):(bZ x).f.F=x.f.F:=by kernel_rfl
theorem qiV (x:PS):(bZ x).f.le=x.f.le:=by kernel_rfl
theorem PV (x:PS):(bZ x).m.p=bif Ph.seB (cc x.img) (gg (bw (bm x 1))).r.p (gg (bw (bm x 1))).r.n then (gg (bw (bm x 1))).r.p else 0:=by kernel_rfl
theorem qiX (x:PS):iA (bZ x)=true:=by
 have ea:(bZ x).a=⟨zS,1000000,0⟩:=by kernel_rfl
 have eb:(bZ x).b=⟨zS,1000000,0⟩:=by kernel_rfl
 have eg:(bZ x).g=⟨zS,1000000,0⟩:=by kernel_rfl
 have ee:(bZ x).e=⟨zS,1000000,0⟩:=by kernel_rfl
 have es:(bZ x).s=⟨50,2,⟨0,0,0,0,0,0,0,0⟩,false,1000000,0⟩:=by kernel_rfl
 have et:(bZ x).t=⟨50,2,⟨0,0,0,0,0,0,0,0⟩,false,1000000,0⟩:=by kernel_rfl
 have k1:ek ⟨zS,1000000,0⟩=true:=by kernel_rfl
 have k2:iz ⟨50,2,⟨0,0,0,0,0,0,0,0⟩,false,1000000,0⟩=true:=by kernel_rfl
 exact MI (by rw [ea];exact k1) (by rw [eb];exact k1) (by rw [eg];exact k1) (by rw [ee];exact k1) (by rw [es];exact k2) (by rw [et];exact k2)
theorem Inv.bt' {n:Nat} {x:PS} (h:Inv n x):Inv n (bZ x):=by
 have hl0:=(ox x.img).ln
 refine ⟨by rw [zc,qiR];exact h.bt,by rw [zc];exact qiT x,?_,qiY x,qiX x,by rw [PX];exact h.fr,by rw [qiV];exact h.le,by rw [PW];exact h.ba,by unfold pQ;rw [qiP,qiU];rfl⟩
 rw [zc,PV]
 cases e:Ph.seB (cc x.img) (gg (bw (bm x 1))).r.p (gg (bw (bm x 1))).r.n
 ·exact ⟨Int.le_refl _,by show (0:Int)<((cc x.img).length:Int);omega⟩
 ·unfold Ph.seB at e
  generalize (gg (bw (bm x 1))).r.p=q at *
  by_cases h1:q<0
  ·rw [decide_eq_true h1] at e;cases e
  by_cases h2:q>=((cc x.img).length:Int)
  ·rw [decide_eq_false h1,decide_eq_true h2] at e;cases e
  exact ⟨by show 0<=q;omega,by show q<((cc x.img).length:Int);omega⟩
end Go.Proofs.YtainfdcfkgemhaaGreat.Hr
