/-
  A processor boots,waits for power,is made;a cycle in one of two ways;what holds of it all the time.
-/
import Derived.Test.YtainfdcfkgemhaaGreatYj
import Derived.Test.YtainfdcfkgemhaaGreatYi
set_option maxRecDepth 100000
noncomputable section
open Go.Proofs.Tryz
namespace Go.Proofs.YtainfdcfkgemhaaGreat.Hr
open Go Go.Proofs Go.Sx Nw Pe So
set_option linter.unusedVariables false
def EX (xs:List SV) (m:Mem):Option (Bool×SV×Mem) :=
 match xs,m with
 | [.ptr 0 0,.v (.int .i64 base)],⟨[[.row 0,.ptr 1 0,.v (.bool down),.v (.bool waits),.v (.int .i64 lets)],[.v (.int .i64 mx),.v (.int .i64 w)]],[true,true],[.live ⟨5,[.num .u8],L,true,mark⟩]⟩=>some (okLc L lets&&Fq.refE down ((aD L).size:Int) base 48==0,.tup [.one (.ptr 2 0),.one (.v (I 0))],La.opM base (La.sl0 (aD L) base) (La.sl1 (aD L) base) L mark mx w down waits lets)
 | _,_=>none
theorem qew:aM 119 EX:=by
 intro xs m r m' h
 unfold EX at h
 split at h
 case h_2=>cases h
 rename_i base down waits lets mx w L mark
 obtain ⟨h1,rfl,rfl⟩:=an h
 obtain ⟨e1,e2⟩:=Bool.and_eq_true_iff.1 h1
 refine La.gOpenS_ok _ _ _ _ ?_
 show some (Fq.okL L lets&&Fq.refE down ((aD L).size:Int) base 48==0,_,_)=_
 rw [Mn e1,e2]
 rfl
def Γu0:Orc:=aw 123 FP (aw 122 GK (aw 121 Se.gSNew (ah 76 yr (aw 120 GE (aw 119 EX (aw 134 Fq.gFUp ΓO))))))
theorem Oku0:Γu0.Ok prog:=aq (aq (aq (ac (aq (aq (aq bM Fq.gFUp_ok) qew) qf1) Of) Se.gSNew_ok) qf7) qfg
def wrU (f:FuncId):Bool:=Nat.beq f 123||(Nat.beq f 122||(Nat.beq f 121||(Nat.beq f 120||(Nat.beq f 119||Nat.beq f 134))))
def Γu1:Orc:={ Γu0 with av:=true,bs:=true,sb:=true,wr:=wrU }
theorem Oku1:Γu1.Ok prog:=⟨Oku0.call,Oku0.rd,Oku0.eqv⟩
def jZ (x:PS):ByteArray:=La.sl0 (aD x.f.F) x.base
def jY (x:PS):ByteArray:=La.sl1 (aD x.f.F) x.base
def od (x:PS):Lat:=⟨x.base,⟨La.opI (jZ x) (jY x) La.qS,La.opI (jZ x) (jY x) La.cS,La.opI (jZ x) (jY x) La.pS,La.opI (jZ x) (jY x) La.uS,La.opI (jZ x) (jY x) La.fS,La.opI (jZ x) (jY x) La.at9,La.opI (jZ x) (jY x) La.at10,La.opI (jZ x) (jY x) La.at11,La.opI (jZ x) (jY x) La.nS⟩,La.opN (jZ x) (jY x)⟩
def k8 (x:PS):PS:={ x with up:=true,L:=cN x.img,R:=gW x.img,ft:=HH x.img x.port,la:=od x,q:=⟨(gW x.img).r8,!(HH x.img x.port==0),0,0⟩,fl:=false,cy:=0 }
def gy (x:PS):PS:=xN (dz (k8 x))
def PD (r:Nat) (x:PS) (la a b g e s t m y q:Nat):List SA:=.v (S x.img)::.v (I x.port)::.ptr 1 0::.v (I x.base)::.v (Bo x.up)::.v (I x.lf)::.row r::eW x.R (.v (I x.ft)::.ptr la 0::.ptr a 0::.ptr b 0::.ptr g 0::.ptr e 0::.ptr s 0::.ptr t 0::.ptr m 0::.ptr y 0::.ptr q 0::.v (Bo x.fl)::.v (I x.cy)::[])
def jW (x y:PS):Mem:=⟨[PD 3 y 23 24 25 26 27 28 29 30 31 32,Hx y.f,qw x.la,bA 13 x.a,bA 14 x.b,bA 15 x.g,bA 16 x.e,dw 17 x.s,dw 18 x.t,Hw x.m,zm,gV x.q,cC y.f.a y.f.v,cC x.a.a x.a.v,cC x.b.a x.b.v,cC x.g.a x.g.v,cC x.e.a x.e.v,cC x.s.a x.s.t,cC x.t.a x.t.t,cC x.m.a x.m.v,cC x.y.a x.y.u,cC x.y.b x.y.v,cC x.y.c x.y.w,qw y.la,bA 33 y.a,bA 34 y.b,bA 35 y.g,bA 36 y.e,dw 37 y.s,dw 38 y.t,kZ 4 39 y.m,[.ptr 40 0,.ptr 41 0,.ptr 42 0],gV y.q,cC y.a.a y.a.v,cC y.b.a y.b.v,cC y.g.a y.g.v,cC y.e.a y.e.v,cC y.s.a y.s.t,cC y.t.a y.t.t,cC y.m.a y.m.v,cC y.y.a y.y.u,cC y.y.b y.y.v,cC y.y.c y.y.w],tt 43,[bh x.L,fH y.f.F,bh x.m.L,bh y.L,bh y.m.L]⟩
theorem Zt (x:PS):runG Γu1 L0 prog f61 [.ptr 0 0] (mP x)=(bif okLc x.f.F x.f.le&&Fq.refE x.f.dn ((aD x.f.F).size:Int) x.base 48==0 then (bif lW x.img x.port then (bif fg (k8 x) then some (.v (I 0),jW x (gy x)) else none) else none) else none):=by kernel_rfl
end Go.Proofs.YtainfdcfkgemhaaGreat.Hr
namespace Go.Proofs.YtainfdcfkgemhaaGreat.Hr
open Go Go.Proofs Go.Sx Nw Pe So
set_option linter.unusedVariables false
def kw (x:PS):Bool:=(okLc x.f.F x.f.le&&Fq.refE x.f.dn ((aD x.f.F).size:Int) x.base 48==0)&&(lW x.img x.port&&fg (k8 x))
def GC (xs:List SV) (m:Mem):Option (Bool×SV×Mem) :=
 match xs,uP m with
 | [.ptr 0 0],some x=>some (kw x,.v (I 0),jW x (gy x))
 | _,_=>none
theorem qfZ:aM 61 GC:=by
 intro xs m r m' h
 unfold GC at h
 split at h
 case h_2=>cases h
 rename_i x hx
 obtain ⟨h1,rfl,rfl⟩:=an h
 rw [eE hx]
 refine af (Λ:=L0) Oku1 func61 rfl ai ((Zt x).trans ?_)
 obtain ⟨e1,e2⟩:=Bool.and_eq_true_iff.1 h1
 obtain ⟨e2,e3⟩:=Bool.and_eq_true_iff.1 e2
 rw [e1,e2,e3]
 rfl
def Γw0:Orc:=aw 61 GC (aw 134 Fq.gFUp ΓO)
theorem Id:Γw0.Ok prog:=aq (aq bM Fq.gFUp_ok) qfZ
def Γw1:Orc:={ Γw0 with av:=true,bs:=true,sb:=true }
theorem Ic:Γw1.Ok prog:=⟨Id.call,Id.rd,Id.eqv⟩
def Ka (x:PS):PS:={ x with lf:=wI (x.lf - 1) }
def bz (x:PS):PS:={ x with lf:=wI (x.lf - 1),f:={ x.f with dn:=false,wt:=false } }
theorem BH (x:PS):runG Γw1 L0 prog f75 [.ptr 0 0] (mP x)=(bif x.lf==0 then some (.v (.tuple #[]),mP x) else (bif wI (x.lf - 1)==0 then (bif kw (bz x) then some (.v (.tuple #[]),jW (bz x) (gy (bz x))) else none) else some (.v (.tuple #[]),mP (Ka x)))):=by kernel_rfl
end Go.Proofs.YtainfdcfkgemhaaGreat.Hr
namespace Go.Proofs.YtainfdcfkgemhaaGreat.Hr
open Go Go.Proofs Go.Sx Nw Pe So
set_option linter.unusedVariables false
def Dg (xs:List SV) (m:Mem):Option (Bool×SV×Mem) :=
 match xs,uP m with
 | [.ptr 0 0],some x=>match x.lf==0,wI (x.lf - 1)==0 with
  | true,_=>some (true,.v (.tuple #[]),mP x)
  | false,true=>some (kw (bz x),.v (.tuple #[]),jW (bz x) (gy (bz x)))
  | false,false=>some (true,.v (.tuple #[]),mP (Ka x))
 | _,_=>none
theorem qc5:aM 75 Dg:=by
 intro xs m r m' h
 unfold Dg at h
 split at h
 case h_2=>cases h
 rename_i x hx
 rw [eE hx]
 split at h
 ·rename_i e1
  obtain ⟨_,rfl,rfl⟩:=an h
  exact af (Λ:=L0) Ic func75 rfl ai ((BH x).trans (by rw [e1];rfl))
 ·rename_i e1 e2
  obtain ⟨h1,rfl,rfl⟩:=an h
  exact af (Λ:=L0) Ic func75 rfl ai ((BH x).trans (by rw [e1,e2,h1];rfl))
 ·rename_i e1 e2
  obtain ⟨_,rfl,rfl⟩:=an h
  exact af (Λ:=L0) Ic func75 rfl ai ((BH x).trans (by rw [e1,e2];rfl))
def Γq0:Orc:=aw 75 Dg Γy1
theorem Ip:Γq0.Ok prog:=aq qie qc5
def Γq1:Orc:={ Γq0 with av:=true,bs:=true,sb:=true }
theorem zT:Γq1.Ok prog:=⟨Ip.call,Ip.rd,Ip.eqv⟩
theorem Zp (x:PS) (i:Inp):runG Γq1 L0 prog f41 [.ptr 0 0,.v (fh i)] (mP { x with lf:=0 })=(bif !x.up then some (.v (oV o0),mP { x with lf:=0 }) else (bif !(x.ft==0) then none else cyT { x with lf:=0 } i)):=by kernel_rfl
theorem Zn (x:PS) (i:Inp):runG Γq1 L0 prog f41 [.ptr 0 0,.v (fh i)] (mP { x with up:=false,lf:=1 })=(bif kw (bz { x with up:=false,lf:=1 }) then some (.v (oV o0),jW (bz { x with up:=false,lf:=1 }) (gy (bz { x with up:=false,lf:=1 }))) else none):=by kernel_rfl
theorem Zm (x:PS) (i:Inp):runG Γq1 L0 prog f41 [.ptr 0 0,.v (fh i)] (mP { x with up:=false,lf:=2 })=some (.v (oV o0),mP { x with up:=false,lf:=1 }):=by kernel_rfl
theorem Zl (x:PS) (i:Inp):runG Γq1 L0 prog f41 [.ptr 0 0,.v (fh i)] (mP { x with up:=false,lf:=3 })=some (.v (oV o0),mP { x with up:=false,lf:=2 }):=by kernel_rfl
end Go.Proofs.YtainfdcfkgemhaaGreat.Hr
namespace Go.Proofs.YtainfdcfkgemhaaGreat.Hr
open Go Go.Proofs Go.Sx Nw Pe So
set_option linter.unusedVariables false
def nP:SA:=.v (.pointer none)
def z8:Rl:=⟨0,0,0,0,0,0,0,0⟩
def PR (x:PS):Mem:=⟨[.v (S x.img)::.v (I x.port)::.ptr 1 0::.v (I x.base)::.v (Bo x.up)::.v (I x.lf)::.row 0::eW x.R [.v (I x.ft),nP,nP,nP,nP,nP,nP,nP,nP,nP,.ptr 2 0,.v (Bo x.fl),.v (I x.cy)],[.row 1,.ptr 3 0,.v (Bo x.f.dn),.v (Bo x.f.wt),.v (I x.f.le)],gV x.q,cC x.f.a x.f.v],tt 4,[bh x.L,fH x.f.F]⟩
def PQ (x:PS):Mem:=⟨[.v (S x.img)::.v (I x.port)::.ptr 1 0::.v (I x.base)::.v (Bo x.up)::.v (I x.lf)::.row 0::eW x.R [.v (I x.ft),nP,.ptr 4 0,.ptr 5 0,.ptr 6 0,.ptr 7 0,.ptr 8 0,.ptr 9 0,.ptr 10 0,.ptr 11 0,.ptr 2 0,.v (Bo x.fl),.v (I x.cy)],[.row 1,.ptr 3 0,.v (Bo x.f.dn),.v (Bo x.f.wt),.v (I x.f.le)],gV x.q,cC x.f.a x.f.v,bA 12 (dz x).a,bA 13 (dz x).b,bA 14 (dz x).g,bA 15 (dz x).e,dw 16 (dz x).s,dw 17 (dz x).t,kZ 2 18 (dz x).m,[.ptr 19 0,.ptr 20 0,.ptr 21 0],cC 1000000 0,cC 1000000 0,cC 1000000 0,cC 1000000 0,cC 1000000 0,cC 1000000 0,cC 1000000 0,cC (dz x).y.a 0,cC (dz x).y.b 0,cC (dz x).y.c 0],tt 22,[bh x.L,fH x.f.F,bh x.L]⟩
theorem ZC (x:PS):runG Γb1 L0 prog f122 [.ptr 0 0] (PR x)=(bif decide ((1:Int)<=x.R.r5)&&decide ((1:Int)<=x.R.r6) then (bif decide ((1:Int)<=x.R.r5)&&decide ((1:Int)<=x.R.r6) then (bif cw x.L&&(fe x.L&&(wrB x.L x.R.r1 x.R.r2 x.R.r3 x.R.r4 x.R.r5 x.R.r6 x.R.r7 x.R.r8==(0:Int)&&Nat.blt (0:Nat) x.L.length)) then (bif decide ((1:Int)<=x.R.r1)&&(decide ((1:Int)<=x.R.r2)&&decide ((1:Int)<=x.R.r3)) then some (.v (.tuple #[]),PQ x) else none) else none) else none) else none):=by kernel_rfl
def A9 (b:List SA):Option (Int×Bool×Int):=match b with
 | .v (.int .i64 ft)::.v (.pointer none)::.v (.pointer none)::.v (.pointer none)::.v (.pointer none)::.v (.pointer none)::.v (.pointer none)::r=>match r with
  | [.v (.pointer none),.v (.pointer none),.v (.pointer none),.ptr 2 0,.v (.bool fl),.v (.int .i64 cy)]=>some (ft,fl,cy)
  | _=>none
 | _=>none
theorem Ts {b:List SA} {ft cy:Int} {fl:Bool} (h:A9 b=some (ft,fl,cy)):b=[.v (I ft),nP,nP,nP,nP,nP,nP,nP,nP,nP,.ptr 2 0,.v (Bo fl),.v (I cy)]:=by
 unfold A9 at h
 split at h
 ·split at h
  ·injection h with h
   injection h with h1 h
   injection h with h2 h3
   subst h1 h2 h3
   rfl
  ·cases h
 ·cases h
def Bb (b:List SA):Option (ByteArray×Int×Int×Bool×Int×Rl×Int×Bool×Int):=match b with
 | .v (.string img)::.v (.int .i64 port)::.ptr 1 0::.v (.int .i64 base)::.v (.bool up)::.v (.int .i64 lf)::.row 0::r=>match lH r with
  | some (R,r')=>match A9 r' with
   | some (ft,fl,cy)=>some (img,port,base,up,lf,R,ft,fl,cy)
   | none=>none
  | none=>none
 | _=>none
theorem Tu {b:List SA} {img:ByteArray} {port base lf ft cy:Int} {up fl:Bool} {R:Rl} (h:Bb b=some (img,port,base,up,lf,R,ft,fl,cy)):b=.v (S img)::.v (I port)::.ptr 1 0::.v (I base)::.v (Bo up)::.v (I lf)::.row 0::eW R [.v (I ft),nP,nP,nP,nP,nP,nP,nP,nP,nP,.ptr 2 0,.v (Bo fl),.v (I cy)]:=by
 unfold Bb at h
 split at h
 ·split at h
  ·rename_i R' r' hr
   split at h
   ·rename_i ft' fl' cy' hl
    injection h with h
    injection h with h1 h
    injection h with h2 h
    injection h with h3 h
    injection h with h4 h
    injection h with h5 h
    injection h with h6 h
    injection h with h7 h
    injection h with h8 h9
    subst h1 h2 h3 h4 h5 h6 h7 h8 h9
    rw [oT hr,Ts hl]
    try rfl
   ·cases h
  ·cases h
 ·cases h
def Bc (r:List RowS):Option (List (List Dat)×List (List Dat)):=match r with
 | [r0,r1]=>match r0,r1 with
  | .live ⟨117,[.sl 162 [.num .i64,.num .i64],.num .i64,.num .i64,.num .i64,.num .i64],a,true,false⟩,.live ⟨5,[.num .u8],b,true,true⟩=>some (a,b)
  | _,_=>none
 | _=>none
theorem Tv {r:List RowS} {a b:List (List Dat)} (h:Bc r=some (a,b)):r=[bh a,fH b]:=by
 unfold Bc at h
 split at h
 ·split at h
  ·injection h with h
   injection h with h1 h2
   subst h1 h2
   rfl
  ·cases h
 ·cases h
def A6 (b:List SA):Option (Bool×Bool×Int):=match b with
 | [.row 1,.ptr 3 0,.v (.bool d),.v (.bool t),.v (.int .i64 l)]=>some (d,t,l)
 | _=>none
theorem To {b:List SA} {d t:Bool} {l:Int} (h:A6 b=some (d,t,l)):b=[.row 1,.ptr 3 0,.v (Bo d),.v (Bo t),.v (I l)]:=by
 unfold A6 at h
 split at h
 ·injection h with h
  injection h with h1 h
  injection h with h2 h3
  subst h1 h2 h3
  rfl
 ·cases h
def lw:Stm:=⟨zS,0,0⟩
def uH:Src:=⟨0,0,⟨0,0,0,0,0,0,0,0⟩,false,0,0⟩
def Ba (m:Mem):Option PS:=match m with
 | ⟨[b0,b1,b2,b3],lv,rs⟩=>match jM 4 lv,Bb b0,A6 b1,rx b2,uC b3,Bc rs with
  | true,some (img,port,base,up,lf,R,ft,fl,cy),some (dn,wt,le),some q,some (a,v),some (L,F)=>some ⟨img,port,base,up,lf,L,R,ft,⟨F,dn,wt,le,a,v⟩,⟨0,⟨0,0,0,0,0,0,0,0,0⟩,0⟩,lw,lw,lw,lw,uH,uH,⟨[],z8,0,0,0⟩,⟨0,0,0,0,0,0⟩,q,fl,cy⟩
  | _,_,_,_,_,_=>none
 | _=>none
theorem Tt {m:Mem} {x:PS} (h:Ba m=some x):m=PR x:=by
 unfold Ba at h
 split at h
 case h_2=>cases h
 split at h
 case h_2=>cases h
 rename_i hl h0 h1 h2 h3 hr
 injection h with h
 subst h
 rw [kJ hl,Tu h0,To h1,AS h2,c8 h3,Tv hr]
 rfl
def GI (xs:List SV) (m:Mem):Option (Bool×SV×Mem) :=
 match xs,Ba m with
 | [.ptr 0 0],some x=>some (fg x,.v (.tuple #[]),PQ x)
 | _,_=>none
theorem qf5:aM 122 GI:=by
 intro xs m r m' h
 unfold GI at h
 split at h
 case h_2=>cases h
 rename_i x hx
 obtain ⟨h1,rfl,rfl⟩:=an h
 rw [Tt hx]
 refine af (Λ:=L0) Okb1 func122 rfl ai ((ZC x).trans ?_)
 unfold fg at h1
 obtain ⟨e1,e2⟩:=Bool.and_eq_true_iff.1 h1
 obtain ⟨e2,e3⟩:=Bool.and_eq_true_iff.1 e2
 rw [e1,e2,e3]
 rfl
end Go.Proofs.YtainfdcfkgemhaaGreat.Hr
namespace Go.Proofs.YtainfdcfkgemhaaGreat.Hr
open Go Go.Proofs Go.Sx Nw Pe So
set_option linter.unusedVariables false
def Γf0:Orc:=aw 122 GI Γu0
theorem Okf0:Γf0.Ok prog:=aq Oku0 qf5
def Γf1:Orc:={ Γf0 with av:=true,bs:=true,sb:=true,wr:=wrU }
theorem qiS:Γf1.Ok prog:=⟨Okf0.call,Okf0.rd,Okf0.eqv⟩
def x0 (img:ByteArray) (port base:Int) (f:Fla):PS:=⟨img,port,base,false,0,[],z8,0,f,⟨0,⟨0,0,0,0,0,0,0,0,0⟩,0⟩,lw,lw,lw,lw,uH,uH,⟨[],z8,0,0,0⟩,⟨0,0,0,0,0,0⟩,⟨0,false,0,0⟩,false,0⟩
def OJ (img:ByteArray) (port base:Int) (f:Fla):Mem:=⟨[[.v (S img),.v (I port),.ptr 1 0,.v (I base),.v (Bo false),.v (I 0),.v (.slice none 0 0),.v (I 0),.v (I 0),.v (I 0),.v (I 0),.v (I 0),.v (I 0),.v (I 0),.v (I 0),.v (I 0),nP,nP,nP,nP,nP,nP,nP,nP,nP,nP,.v (Bo false),.v (I 0)],[.row 0,.ptr 2 0,.v (Bo f.dn),.v (Bo f.wt),.v (I f.le)],cC f.a f.v],tt 3,[fH f.F]⟩
def Om (y:PS):Mem:=⟨[PD 1 y 3 4 5 6 7 8 9 10 11 12,[.row 0,.ptr 2 0,.v (Bo y.f.dn),.v (Bo y.f.wt),.v (I y.f.le)],cC y.f.a y.f.v,qw y.la,bA 13 y.a,bA 14 y.b,bA 15 y.g,bA 16 y.e,dw 17 y.s,dw 18 y.t,kZ 2 19 y.m,[.ptr 20 0,.ptr 21 0,.ptr 22 0],gV y.q,cC y.a.a y.a.v,cC y.b.a y.b.v,cC y.g.a y.g.v,cC y.e.a y.e.v,cC y.s.a y.s.t,cC y.t.a y.t.t,cC y.m.a y.m.v,cC y.y.a y.y.u,cC y.y.b y.y.v,cC y.y.c y.y.w],tt 23,[fH y.f.F,bh y.L,bh y.m.L]⟩
theorem Yw (img:ByteArray) (port base:Int) (f:Fla):runG Γf1 L0 prog f61 [.ptr 0 0] (OJ img port base f)=(bif okLc f.F f.le&&Fq.refE f.dn ((aD f.F).size:Int) base 48==0 then (bif lW img port then (bif fg (k8 (x0 img port base f)) then some (.v (I 0),Om (gy (x0 img port base f))) else none) else none) else none):=by kernel_rfl
def Bi:List SA:=[.v (Bo false),.v (I 0),.v (.slice none 0 0),.v (I 0),.v (I 0),.v (I 0),.v (I 0),.v (I 0),.v (I 0),.v (I 0),.v (I 0),.v (I 0),nP,nP,nP,nP,nP,nP,nP,nP,nP,nP,.v (Bo false),.v (I 0)]
def A2 (b:List SA):Option (ByteArray×Int×Int):=match b with
 | .v (.string img)::.v (.int .i64 port)::.ptr 1 0::.v (.int .i64 base)::r=>bif Go.Sx.eqL jS r Bi then some (img,port,base) else none
 | _=>none
theorem Tk {b:List SA} {img:ByteArray} {port base:Int} (h:A2 b=some (img,port,base)):b=.v (S img)::.v (I port)::.ptr 1 0::.v (I base)::Bi:=by
 unfold A2 at h
 split at h
 ·rename_i i' p' b' r
  cases hq:Go.Sx.eqL jS r Bi
  ·rw [hq] at h;cases h
  ·rw [hq] at h
   injection h with h
   injection h with h1 h
   injection h with h2 h3
   subst h1 h2 h3
   rw [Go.Sx.eqL_eq (fun _ _=>n5) hq]
   try rfl
 ·cases h
def A7 (b:List SA):Option (Bool×Bool×Int):=match b with
 | [.row 0,.ptr 2 0,.v (.bool d),.v (.bool t),.v (.int .i64 l)]=>some (d,t,l)
 | _=>none
theorem Tp {b:List SA} {d t:Bool} {l:Int} (h:A7 b=some (d,t,l)):b=[.row 0,.ptr 2 0,.v (Bo d),.v (Bo t),.v (I l)]:=by
 unfold A7 at h
 split at h
 ·injection h with h
  injection h with h1 h
  injection h with h2 h3
  subst h1 h2 h3
  rfl
 ·cases h
def vl (r:List RowS):Option (List (List Dat)):=match r with
 | [.live ⟨5,[.num .u8],b,true,true⟩]=>some b
 | _=>none
theorem Kt {r:List RowS} {b:List (List Dat)} (h:vl r=some b):r=[fH b]:=by
 unfold vl at h
 split at h
 ·injection h with h
  subst h
  rfl
 ·cases h
def A5 (m:Mem):Option (ByteArray×Int×Int×Fla):=match m with
 | ⟨[b0,b1,b2],lv,rs⟩=>match jM 3 lv,A2 b0,A7 b1,uC b2,vl rs with
  | true,some (img,port,base),some (dn,wt,le),some (a,v),some F=>some (img,port,base,⟨F,dn,wt,le,a,v⟩)
  | _,_,_,_,_=>none
 | _=>none
theorem Tn {m:Mem} {img:ByteArray} {port base:Int} {f:Fla} (h:A5 m=some (img,port,base,f)):m=OJ img port base f:=by
 unfold A5 at h
 split at h
 case h_2=>cases h
 split at h
 case h_2=>cases h
 rename_i hl h0 h1 h2 hr
 injection h with h
 injection h with e1 h
 injection h with e2 h
 injection h with e3 e4
 subst e1 e2 e3 e4
 rw [kJ hl,Tk h0,Tp h1,c8 h2,Kt hr]
 rfl
def fP (img:ByteArray) (port base:Int) (f:Fla):Bool:=(okLc f.F f.le&&Fq.refE f.dn ((aD f.F).size:Int) base 48==0)&&(lW img port&&fg (k8 (x0 img port base f)))
def FX (xs:List SV) (m:Mem):Option (Bool×SV×Mem) :=
 match xs,A5 m with
 | [.ptr 0 0],some (img,port,base,f)=>some (fP img port base f,.v (I 0),Om (gy (x0 img port base f)))
 | _,_=>none
theorem qfm:aM 61 FX:=by
 intro xs m r m' h
 unfold FX at h
 split at h
 case h_2=>cases h
 rename_i img port base f hx
 obtain ⟨h1,rfl,rfl⟩:=an h
 rw [Tn hx]
 refine af (Λ:=L0) qiS func61 rfl ai ((Yw img port base f).trans ?_)
 unfold fP at h1
 obtain ⟨e1,e2⟩:=Bool.and_eq_true_iff.1 h1
 obtain ⟨e2,e3⟩:=Bool.and_eq_true_iff.1 e2
 rw [e1,e2,e3]
 rfl
def Γn0:Orc:=aw 61 FX ΓO
theorem Ir:Γn0.Ok prog:=aq bM qfm
def Γn1:Orc:={ Γn0 with av:=true,bs:=true,sb:=true,wr:=fun f=>Nat.beq f 61 }
theorem qiM:Γn1.Ok prog:=⟨Ir.call,Ir.rd,Ir.eqv⟩
def OA (f:Fla):Mem:=⟨[[.row 0,.ptr 1 0,.v (Bo f.dn),.v (Bo f.wt),.v (I f.le)],cC f.a f.v],tt 2,[fH f.F]⟩
def cPn (y:PS):List SA:=.v (S y.img)::.v (I y.port)::.ptr 0 0::.v (I y.base)::.v (Bo y.up)::.v (I y.lf)::.row 1::eW y.R (.v (I y.ft)::.ptr 3 0::.ptr 4 0::.ptr 5 0::.ptr 6 0::.ptr 7 0::.ptr 8 0::.ptr 9 0::.ptr 10 0::.ptr 11 0::.ptr 12 0::.v (Bo y.fl)::.v (I y.cy)::[])
def Ms (y:PS):Mem:=⟨[[.row 0,.ptr 1 0,.v (Bo y.f.dn),.v (Bo y.f.wt),.v (I y.f.le)],cC y.f.a y.f.v,cPn y,.ptr 0 0::.v (I y.la.b)::tK y.la.r [.v (I y.la.x)],bA 13 y.a,bA 14 y.b,bA 15 y.g,bA 16 y.e,dw 17 y.s,dw 18 y.t,kZ 2 19 y.m,[.ptr 20 0,.ptr 21 0,.ptr 22 0],gV y.q,cC y.a.a y.a.v,cC y.b.a y.b.v,cC y.g.a y.g.v,cC y.e.a y.e.v,cC y.s.a y.s.t,cC y.t.a y.t.t,cC y.m.a y.m.v,cC y.y.a y.y.u,cC y.y.b y.y.v,cC y.y.c y.y.w],tt 23,[fH y.f.F,bh y.L,bh y.m.L]⟩
theorem XE (img:ByteArray) (port base:Int) (f:Fla):runG Γn1 L0 prog f18 [.v (S img),.v (I port),.ptr 0 0,.v (I base)] (OA f)=(bif fP img port base f then some (.tup [.one (.ptr 2 0),.one (.v (I 0))],Ms (gy (x0 img port base f))) else none):=by kernel_rfl
end Go.Proofs.YtainfdcfkgemhaaGreat.Hr
namespace Go.Proofs.YtainfdcfkgemhaaGreat.Hr
open Go Go.Proofs Go.Sx Nw Pe So
set_option linter.unusedVariables false
def A8 (b:List SA):Option (Bool×Bool×Int):=match b with
 | [.row 0,.ptr 1 0,.v (.bool d),.v (.bool t),.v (.int .i64 l)]=>some (d,t,l)
 | _=>none
theorem Tq {b:List SA} {d t:Bool} {l:Int} (h:A8 b=some (d,t,l)):b=[.row 0,.ptr 1 0,.v (Bo d),.v (Bo t),.v (I l)]:=by
 unfold A8 at h
 split at h
 ·injection h with h
  injection h with h1 h
  injection h with h2 h3
  subst h1 h2 h3
  rfl
 ·cases h
def A3 (m:Mem):Option Fla:=match m with
 | ⟨[b1,b2],lv,rs⟩=>match jM 2 lv,A8 b1,uC b2,vl rs with
  | true,some (dn,wt,le),some (a,v),some F=>some ⟨F,dn,wt,le,a,v⟩
  | _,_,_,_=>none
 | _=>none
theorem Tl {m:Mem} {f:Fla} (h:A3 m=some f):m=OA f:=by
 unfold A3 at h
 split at h
 case h_2=>cases h
 split at h
 case h_2=>cases h
 rename_i hl h1 h2 hr
 injection h with h
 subst h
 rw [kJ hl,Tq h1,c8 h2,Kt hr]
 rfl
def E3 (xs:List SV) (m:Mem):Option (Bool×SV×Mem) :=
 match xs,A3 m with
 | [.v (.string img),.v (.int .i64 port),.ptr 0 0,.v (.int .i64 base)],some f=>some (fP img port base f,.tup [.one (.ptr 2 0),.one (.v (I 0))],Ms (gy (x0 img port base f)))
 | _,_=>none
theorem E2:aM 18 E3:=by
 intro xs m r m' h
 unfold E3 at h
 split at h
 case h_2=>cases h
 rename_i img port base f hx
 obtain ⟨h1,rfl,rfl⟩:=an h
 rw [Tl hx]
 exact af (Λ:=L0) qiM func18 rfl ai ((XE img port base f).trans (by rw [h1];rfl))
def Γk1:Orc:={ aQ 66 La.gLast ΓO with av:=true,bs:=true,sb:=true }
theorem Is:Γk1.Ok prog:=⟨(aJ bM La.gLast_ok).call,(aJ bM La.gLast_ok).rd,(aJ bM La.gLast_ok).eqv⟩
def lP (x:PS):PS:={ x with up:=false,lf:=3 }
theorem WM (x:PS):runG Γk1 L0 prog f38 [.ptr 0 0] (mP x)=some (.v (.tuple #[]),mP (lP x)):=by kernel_rfl
theorem Vh (x:PS):runG Γk1 L0 prog f19 [.ptr 0 0] (mP x)=some (.v (Bo x.up),mP x):=by kernel_rfl
def LR (r:Rcd):Value:=.tuple #[.agg #[I r.q,I r.c,I r.p,I r.s,I r.f,I r.v,I r.d,I r.i,I r.n],Bo (decide (r.q>0))]
theorem X7 (x:PS):runG Γk1 L0 prog f25 [.ptr 0 0] (mP x)=some (.v (LR x.la.r),mP x):=by kernel_rfl
def Er (xs:List SV) (m:Mem):Option (Bool×SV×Mem) :=
 match xs,uP m with
 | [.ptr 0 0],some x=>some (true,.v (.tuple #[]),mP (lP x))
 | _,_=>none
theorem qd6:aM 38 Er:=by
 intro xs m r m' h
 unfold Er at h
 split at h
 case h_2=>cases h
 rename_i x hx
 obtain ⟨_,rfl,rfl⟩:=an h
 rw [eE hx]
 exact af (Λ:=L0) Is func38 rfl ai (WM x)
def Dz (xs:List SV) (m:Mem):Option (Bool×Value) :=
 match xs,uP m with
 | [.ptr 0 0],some x=>some (true,Bo x.up)
 | _,_=>none
theorem qdl:bi 19 Dz:=by
 intro xs m r h
 unfold Dz at h
 split at h
 case h_2=>cases h
 rename_i x hx
 obtain ⟨_,rfl⟩:=ab h
 rw [eE hx]
 exact af (Λ:=L0) Is func19 rfl ai (Vh x)
def Fu (xs:List SV) (m:Mem):Option (Bool×Value) :=
 match xs,uP m with
 | [.ptr 0 0],some x=>some (true,LR x.la.r)
 | _,_=>none
theorem qeY:bi 25 Fu:=by
 intro xs m r h
 unfold Fu at h
 split at h
 case h_2=>cases h
 rename_i x hx
 obtain ⟨_,rfl⟩:=ab h
 rw [eE hx]
 exact af (Λ:=L0) Is func25 rfl ai (X7 x)
def gw (x:PS) (i:Inp):PS:=bif x.up then (bif fm x i != 0 then { cyE x i with up:=false } else cyE x i) else x
def bR (x:PS) (i:Inp):Ot:=bif x.up then (bif fm x i != 0 then o0 else kg (cyE x i) (d4 x i) (cyW x i)) else o0
def lV (x:PS) (i:Inp):Bool:=!x.up||(x.ft==0&&(okP x&&fO i))
theorem O9 (y:PS) (i:Inp):(gw y i).lf=y.lf:=by
 unfold gw
 generalize (fm y i != 0)=b
 have e:(cyE y i).lf=y.lf:=by kernel_rfl
 cases y.up
 ·rfl
 ·cases b
  ·exact e
  ·exact e
theorem CG {y:PS} (hl:y.lf=0):({ y with lf:=0 }:PS)=y:=by
 rcases y with ⟨img,port,base,up,lf,L,R,ft,f,la,a,b,g,e,s,t,m,y,q,fl,cy⟩
 cases hl
 rfl
theorem Zo (y:PS) (i:Inp) (hl:y.lf=0) (h:lV y i=true):runG Γq1 L0 prog f41 [.ptr 0 0,.v (fh i)] (mP y)=some (.v (oV (bR y i)),mP { gw y i with lf:=0 }):=by
 rw [CG ((O9 y i).trans hl)]
 have r:=Zp y i
 rw [CG hl] at r
 refine r.trans ?_
 unfold lV at h
 unfold gw bR
 cases hu:y.up
 ·rfl
 ·rw [hu] at h
  simp only [Bool.not_true,Bool.false_or,Bool.and_eq_true] at h
  obtain ⟨h1,h2,h3⟩:=h
  have t:=(Ly y i).symm.trans (qgQ y i h2 h3)
  rw [hu,h1] at t
  rw [h1]
  have t':cyT y i=(bif fm y i != 0 then some (.v (oV o0),mP { cyE y i with up:=false }) else some (.v (oV (kg (cyE y i) (d4 y i) (cyW y i))),mP (cyE y i))):=t
  refine Eq.trans (b:=cyT y i) rfl (t'.trans ?_)
  generalize (fm y i != 0)=b
  cases b<;>rfl
end Go.Proofs.YtainfdcfkgemhaaGreat.Hr
namespace Go.Proofs.YtainfdcfkgemhaaGreat.Hr
open Go Go.Proofs Go.Sx Nw Pe So
set_option linter.unusedVariables false
def bu (x:PS) (l:Int):PS:={ x with up:=false,lf:=l }
theorem Hg {x:PS} {l:Int} (h1:x.up=false) (h2:x.lf=l):bu x l=x:=by
 rcases x with ⟨img,port,base,up,lf,L,R,ft,f,la,a,b,g,e,s,t,m,y,q,fl,cy⟩
 cases h1
 cases h2
 rfl
def yw (xs:List SV) (m:Mem):Option (Bool×SV×Mem) :=
 match xs,uP m with
 | [.ptr 0 0,.v (.agg ⟨[.string a,.string b,.string c,.string d]⟩)],some x=>match x.lf==0,x.lf==1,x.lf==2 with
  | true,_,_=>some (lV x ⟨a,b,c,d⟩,.v (oV (bR x ⟨a,b,c,d⟩)),mP { gw x ⟨a,b,c,d⟩ with lf:=0 })
  | false,true,_=>some (!x.up&&kw (bz (bu x 1)),.v (oV o0),jW (bz (bu x 1)) (gy (bz (bu x 1))))
  | false,false,true=>some (!x.up,.v (oV o0),mP (bu x 1))
  | false,false,false=>some (!x.up&&x.lf==3,.v (oV o0),mP (bu x 2))
 | _,_=>none
theorem qfD:aM 41 yw:=by
 intro xs m r m' h
 unfold yw at h
 split at h
 case h_2=>cases h
 rename_i a b c d x hx
 rw [eE hx]
 split at h
 ·rename_i e1
  obtain ⟨h1,rfl,rfl⟩:=an h
  exact af (Λ:=L0) zT func41 rfl ai (Zo x ⟨a,b,c,d⟩ (by simpa using e1) h1)
 ·rename_i e1 e2
  obtain ⟨h1,rfl,rfl⟩:=an h
  rw [Bool.and_eq_true,Bool.not_eq_true'] at h1
  have e:=Hg (l:=1) h1.1 (by simpa using e2)
  have r:=Zn x ⟨a,b,c,d⟩
  refine af (Λ:=L0) zT func41 rfl ai ?_
  have r':runG Γq1 L0 prog f41 [.ptr 0 0,.v (fh ⟨a,b,c,d⟩)] (mP (bu x 1))=(bif kw (bz (bu x 1)) then some (.v (oV o0),jW (bz (bu x 1)) (gy (bz (bu x 1)))) else none):=r
  rw [h1.2] at r'
  rw [e] at r' ⊢
  exact r'
 ·rename_i e1 e2 e3
  obtain ⟨h1,rfl,rfl⟩:=an h
  rw [Bool.not_eq_true'] at h1
  have e:=Hg (l:=2) h1 (by simpa using e3)
  have r':runG Γq1 L0 prog f41 [.ptr 0 0,.v (fh ⟨a,b,c,d⟩)] (mP (bu x 2))=some (.v (oV o0),mP (bu x 1)):=Zm x ⟨a,b,c,d⟩
  rw [e] at r'
  exact af (Λ:=L0) zT func41 rfl ai r'
 ·rename_i e1 e2 e3
  obtain ⟨h1,rfl,rfl⟩:=an h
  rw [Bool.and_eq_true,Bool.not_eq_true'] at h1
  have e:=Hg (l:=3) h1.1 (by simpa using h1.2)
  have r':runG Γq1 L0 prog f41 [.ptr 0 0,.v (fh ⟨a,b,c,d⟩)] (mP (bu x 3))=some (.v (oV o0),mP (bu x 2)):=Zl x ⟨a,b,c,d⟩
  rw [e] at r'
  exact af (Λ:=L0) zT func41 rfl ai r'
end Go.Proofs.YtainfdcfkgemhaaGreat.Hr
namespace Go.Proofs.YtainfdcfkgemhaaGreat.Hr
open Go Go.Proofs Go.Sx Nw Pe So
set_option linter.unusedVariables false
def ch (x:PS):Bool:=!x.up&&x.lf==1
def sj (x:PS) (l:Int):PS:={ x with lf:=l }
def cyN (x:PS) (i:Inp):PS:=bif x.up then gw x i else sj x (bif x.lf==0 then 0 else x.lf - 1)
def okN (x:PS) (i:Inp):Bool:=bif x.up then x.lf==0&&(x.ft==0&&(okP x&&fO i)) else (x.lf==0||(x.lf==2||x.lf==3))
def bI (x:PS):PS:=gy (bz (bu x 1))
def okB (x:PS):Bool:=ch x&&kw (bz (bu x 1))
def Gy (xs:List SV) (m:Mem):Option (Bool×SV×Mem) :=
 match xs,uP m with
 | [.ptr 0 0,.v (.agg ⟨[.string a,.string b,.string c,.string d]⟩)],some x=>some (okN x ⟨a,b,c,d⟩,.v (oV (bR x ⟨a,b,c,d⟩)),mP (cyN x ⟨a,b,c,d⟩))
 | _,_=>none
def H1 (xs:List SV) (m:Mem):List (Bool×Option (Bool×SV×Mem)) :=
 match xs,uP m with
 | [.ptr 0 0,.v (.agg ⟨[.string a,.string b,.string c,.string d]⟩)],some x=>[(ch x,some (okB x,.v (oV o0),jW (bz (bu x 1)) (bI x)))]
 | _,_=>[]
theorem Oi {x:PS} {i:Inp} {r:SV} {m':Mem} (h:yw [.ptr 0 0,.v (fh i)] (mP x)=some (true,r,m')):bB prog 41 [.ptr 0 0,.v (fh i)] (mP x) r m':=qfD _ _ _ _ h
theorem Oh (x:PS) (i:Inp):yw [.ptr 0 0,.v (fh i)] (mP x)=(match x.lf==0,x.lf==1,x.lf==2 with
 | true,_,_=>some (lV x i,.v (oV (bR x i)),mP { gw x i with lf:=0 })
 | false,true,_=>some (!x.up&&kw (bz (bu x 1)),.v (oV o0),jW (bz (bu x 1)) (gy (bz (bu x 1))))
 | false,false,true=>some (!x.up,.v (oV o0),mP (bu x 1))
 | false,false,false=>some (!x.up&&x.lf==3,.v (oV o0),mP (bu x 2))):=by kernel_rfl
theorem qgT {x:PS} {i:Inp} (h:okN x i=true):bB prog 41 [.ptr 0 0,.v (fh i)] (mP x) (.v (oV (bR x i))) (mP (cyN x i)):=by
 refine Oi ?_
 rw [Oh]
 unfold okN at h
 unfold cyN
 cases hu:x.up
 ·rw [hu] at h
  simp only [cond_false,Bool.or_eq_true,beq_iff_eq] at h
  have hR:bR x i=o0:=by unfold bR;rw [hu];rfl
  rw [hR]
  rcases h with h|h|h
  ·have h1:lV x i=true:=by unfold lV;rw [hu];rfl
   have h2:gw x i=x:=by unfold gw;rw [hu];rfl
   have e:sj x (bif x.lf==0 then 0 else x.lf - 1)=sj x 0:=by rw [h];rfl
   rw [h1,h2,cond_false,e,h]
   rfl
  ·have e:sj x (bif x.lf==0 then 0 else x.lf - 1)=bu x 1:=by
    rcases x with ⟨img,port,base,up,lf,L,R,ft,f,la,a,b,g,e,s,t,m,y,q,fl,cy⟩
    cases hu
    cases h
    rfl
   rw [cond_false,e,h]
   rfl
  ·have e:sj x (bif x.lf==0 then 0 else x.lf - 1)=bu x 2:=by
    rcases x with ⟨img,port,base,up,lf,L,R,ft,f,la,a,b,g,e,s,t,m,y,q,fl,cy⟩
    cases hu
    cases h
    rfl
   rw [cond_false,e,h]
   rfl
 ·rw [hu] at h
  simp only [cond_true,Bool.and_eq_true,beq_iff_eq] at h
  obtain ⟨h1,h2,h3,h4⟩:=h
  have h5:lV x i=true:=by unfold lV;rw [hu,h2,h3,h4];rfl
  have h6:({ gw x i with lf:=0 }:PS)=gw x i:=CG ((O9 x i).trans h1)
  rw [h1,h5,h6]
  rfl
theorem qfX:aM 41 Gy:=by
 intro xs m r m' h
 unfold Gy at h
 split at h
 case h_2=>cases h
 rename_i a b c d x hx
 obtain ⟨h1,rfl,rfl⟩:=an h
 rw [eE hx]
 exact qgT h1
theorem qhu {x:PS} {i:Inp} (h:okB x=true):bB prog 41 [.ptr 0 0,.v (fh i)] (mP x) (.v (oV o0)) (jW (bz (bu x 1)) (bI x)):=by
 refine Oi ?_
 rw [Oh]
 unfold okB ch at h
 simp only [Bool.and_eq_true,beq_iff_eq,Bool.not_eq_true'] at h
 obtain ⟨⟨h1,h2⟩,h3⟩:=h
 rw [h1,h2,h3]
 rfl
theorem qic:∀ xs m b r m',(b,some (true,r,m'))∈H1 xs m->bB prog 41 xs m r m':=by
 intro xs m b r m' h
 unfold H1 at h
 split at h
 case h_2=>cases h
 rename_i a b' c d x hx
 rw [List.mem_singleton] at h
 injection h with _ h
 obtain ⟨h1,rfl,rfl⟩:=an h.symm
 rw [eE hx]
 exact qhu (i:=⟨a,b',c,d⟩) h1
end Go.Proofs.YtainfdcfkgemhaaGreat.Hr
namespace Go.Proofs.YtainfdcfkgemhaaGreat.Hr
open Go Go.Proofs Go.Sx Nw Pe So
set_option linter.unusedVariables false
theorem wM {x:Stm} {s:ByteArray}:d8 (ju x s)=true:=by
 unfold d8 ju
 have h:=Lm (x.w++s)
 rw [C0 (show sat x.v.toNat (sD (x.w++s))<1000001 by have:=vR x.v.toNat (sD (x.w++s));omega),Nat.ble_eq_true_of_le (show (sR (x.w++s)).size<=69 by omega)]
 rfl
theorem qh9 {t a:Int} (h:0<=t/\t<=a) (ha:a<=1000000):0<=ao a t 1/\ao a t 1<=a:=by
 unfold ao aR
 rw [aC (n:=a - t) (by omega)]
 have k:∀ d:Int,0<=d->d<=a - t->0<=wI (t+d)/\wI (t+d)<=a:=fun d h1 h2=>by rw [aC (by omega)];omega
 split<;>split<;>(first|exact k _ (by omega) (by omega)|skip)
theorem qhc {x y:Int} (h:0<=y):0<=aR x y/\aR x y<=y:=by
 unfold aR
 split<;>split<;>omega
theorem C6 {b o:Bool} {x y:Int} (hx:aB x=true) (hy:aB y=true):aB (pk b x (gN o y))=true:=by
 unfold pk gN
 cases b
 ·cases o
  ·exact hy
  ·rfl
 ·exact hx
theorem Ml {x:Src} {q:Int} {L:List (List Dat)} (h:il x=true):il (kp x (cF q L))=true:=by
 unfold il at h
 simp only [Bool.and_eq_true,beq_iff_eq] at h
 obtain ⟨h1,h2,h3,h4,h5,h6⟩:=h
 obtain ⟨n1,n2⟩:=Mv q L
 obtain ⟨g1,g2,g3⟩:=NJ n1
 have h5':=of_decide_eq_true h5
 have ht:0<=(kp x (cF q L)).t/\(kp x (cF q L)).t<=1000000:=by
  show 0<=pk (dh x (cF q L)==0) (aR 0 x.a) (ao x.a x.t 1)/\pk (dh x (cF q L)==0) (aR 0 x.a) (ao x.a x.t 1)<=1000000
  unfold pk
  rw [h6]
  cases (dh x (cF q L)==0)
  ·exact qh9 (by omega) (by decide)
  ·exact qhc (by decide)
 show (aB (pk _ _ _)&&(aB (pk _ _ _)&&(aB (pk _ _ _)&&(decide (0<=x.s/\x.s<9223372036854775808)&&(decide (0<=(kp x (cF q L)).t/\(kp x (cF q L)).t<=1000000)&&x.a==1000000)))))=true
 rw [C6 g1 h1,C6 g2 h2,C6 g3 h3,h4,decide_eq_true ht,h6]
 rfl
theorem Tx {L:List (List Dat)} (h:kL L=true):L.length=(aD L).size:=by
 have:=congrArg List.length (NA h)
 rw [wm] at this
 exact this
theorem SS {B s:ByteArray} {down waits:Bool} {le k:Int} (hB:B.size<=1000000) (hle:0<=le):(Fq.wrB B down waits le k s).size=B.size:=by
 unfold Fq.wrB
 cases e:Fq.wrN B down k s
 ·unfold Fq.wrN at e
  have e:=bne_eq_false_iff_eq.1 e
  obtain ⟨_,h1,h2,h3⟩:=(Fq.refE_ok (by omega)).1 e
  have:=Fq.tornS_size waits hle s
  exact qao (by omega)
 ·rfl
theorem TN {b:Bool} {x y:ByteArray} (h:x.size=y.size):(La.svT b x y).size=y.size:=by
 unfold La.svT
 cases b
 ·rfl
 ·exact h
def pM (x:PS):Bool:=bif x.up then x.lf==0 else (decide (0<=x.lf)&&decide (x.lf<=3))
structure Rok (L:List (List Dat)):Prop where
 ph:cw L=true
 ne:fe L=true
 ln:0<L.length
 vd:∀ p:Int,0<=p->p<(L.length:Int)->(bj L p).length<=1000000/\0<=cK L p/\cK L p<=2199023255552
structure Inv (n:Nat) (x:PS):Prop where
 bt:lW x.img x.port=true
 mL:x.m.L=cN x.img
 mp:0<=x.m.p/\x.m.p<((cN x.img).length:Int)
 ft:x.ft=0
 h:io x=true
 fr:kL x.f.F=true/\(aD x.f.F).size=n
 le:0<=x.f.le
 ba:0<=x.base/\x.base+48<=(n:Int)/\n<=1000000
 lf:pM x=true
theorem qax {k:Nat} (h0:0<k) (h1:k<=4):Rok (List.replicate k fK):=by
 have key:∀ p:Int,0<=p->p<(k:Int)->(List.replicate k fK).getD p.toNat []=fK:=by
  intro p h2 h3
  rw [List.getD_eq_getElem?_getD,List.getElem?_eq_getElem (by rw [List.length_replicate];omega),Option.getD_some,List.getElem_replicate]
 refine ⟨?_,?_,by rw [List.length_replicate];exact h0,fun p h2 h3=>?_⟩
 ·rcases (show k=1\/k=2\/k=3\/k=4 by omega) with rfl|rfl|rfl|rfl<;>kernel_rfl
 ·rcases (show k=1\/k=2\/k=3\/k=4 by omega) with rfl|rfl|rfl|rfl<;>kernel_rfl
 ·rw [List.length_replicate] at h3
  unfold bj cK
  rw [key p h2 h3]
  exact ⟨by decide,by decide,by decide⟩
theorem zp (s:ByteArray):0<btK s/\btK s<=4:=by
 unfold btK
 cases eQ s kO<;>cases eQ s mf<;>cases eQ s iV<;>exact ⟨by decide,by decide⟩
theorem HF (s:ByteArray):Rok (cN s):=qax (zp s).1 (zp s).2
theorem Inv.okJ {n:Nat} {x:PS} (h:Inv n x):Hr.okJ x=true:=by
 obtain ⟨r1,r2,r3,r4⟩:=HF x.img
 obtain ⟨v1,v2,v3⟩:=r4 x.m.p h.mp.1 h.mp.2
 unfold Hr.okJ nr r9
 rw [h.mL,r1,r2,decide_eq_true h.mp.1,decide_eq_true h.mp.2,Nat.ble_eq_true_of_le v1,decide_eq_true ⟨v2,v3⟩]
 rfl
theorem Inv.okLc {n:Nat} {x:PS} (h:Inv n x):Hr.okLc x.f.F x.f.le=true:=by
 have:=Tx h.fr.1
 have h2:=h.fr.2
 have h3:=h.ba.2.2
 unfold Hr.okLc
 rw [h.fr.1,decide_eq_true h.le,Nat.ble_eq_true_of_le (by omega)]
 rfl
theorem Inv.okP {n:Nat} {x:PS} (h:Inv n x):Hr.okP x=true:=by
 unfold Hr.okP
 rw [h.h,h.okJ,h.okLc]
 rfl
theorem Mp {x:PS} (a:d8 x.a=true) (b:d8 x.b=true) (g:d8 x.g=true) (e:d8 x.e=true) (s:il x.s=true) (t:il x.t=true):io x=true:=by
 unfold io
 rw [a,b,g,e,s,t]
 rfl
theorem qaT {x:PS} (h:io x=true):d8 x.a=true/\d8 x.b=true/\d8 x.g=true/\d8 x.e=true/\il x.s=true/\il x.t=true:=by
 unfold io at h
 simpa only [Bool.and_eq_true] using h
theorem Hi (x:PS) (i:Inp):(Hr.cyE x i).img=x.img:=by kernel_rfl
theorem qgX (x:PS) (i:Inp):(Hr.cyE x i).port=x.port:=by kernel_rfl
theorem qgZ (x:PS) (i:Inp):(Hr.cyE x i).ft=x.ft:=by kernel_rfl
theorem qgY (x:PS) (i:Inp):(Hr.cyE x i).f.le=x.f.le:=by kernel_rfl
theorem qg0 (x:PS) (i:Inp):(Hr.cyE x i).base=x.base:=by kernel_rfl
theorem qgV (x:PS) (i:Inp):(Hr.cyE x i).up=x.up:=by kernel_rfl
theorem Pb (x:PS) (i:Inp):(Hr.cyE x i).lf=x.lf:=by kernel_rfl
theorem Inv.cyE {n:Nat} {x:PS} (h:Inv n x) (i:Inp):Inv n (Hr.cyE x i):=by
 obtain ⟨a1,a2,a3,a4,a5,a6⟩:=qaT h.h
 refine ⟨by rw [Hi,qgX];exact h.bt,?_,?_,by rw [qgZ];exact h.ft,?_,?_,by rw [qgY];exact h.le,by rw [qg0];exact h.ba,by unfold pM;rw [qgV,Pb];exact h.lf⟩
 ·have e1:(qq (ef x i) (je x i) (d4 x i)).L=x.m.L:=by kernel_rfl
  have e2:(ef x i).m.L=x.m.L:=by kernel_rfl
  have e0:(Hr.cyE x i).m=bif (ef x i).fl then qq (ef x i) (je x i) (d4 x i) else (ef x i).m:=by kernel_rfl
  rw [Hi,e0]
  cases (ef x i).fl
  ·exact e2.trans h.mL
  ·exact e1.trans h.mL
 ·have e1:(qq (ef x i) (je x i) (d4 x i)).p=bif tE (ef x i) (je x i) (d4 x i) then wI (x.m.p+1) else x.m.p:=by kernel_rfl
  have e2:(ef x i).m=x.m:=by kernel_rfl
  have e0:(Hr.cyE x i).m=bif (ef x i).fl then qq (ef x i) (je x i) (d4 x i) else (ef x i).m:=by kernel_rfl
  rw [Hi,e0]
  cases (ef x i).fl
  ·rw [cond_false,e2];exact h.mp
  ·rw [cond_true,e1]
   cases e:tE (ef x i) (je x i) (d4 x i)
   ·exact h.mp
   ·unfold tE Ph.cyB at e
    have hl:(cN x.img).length<=4:=by unfold cN;rw [List.length_replicate];exact (zp _).2
    have hl0:=(HF x.img).ln
    rw [e2,h.mL,aC (n:=((cN x.img).length:Int) - 1) (by omega)] at e
    have hp:=h.mp
    by_cases hq:x.m.p>=((cN x.img).length:Int) - 1
    ·rw [decide_eq_true hq] at e;cases e
    ·rw [cond_true,aC (by omega)]
     omega
 ·have ea:(Hr.cyE x i).a=ju x.a i.a:=by kernel_rfl
  have eb:(Hr.cyE x i).b=ju x.b i.b:=by kernel_rfl
  have eg:(Hr.cyE x i).g=ju x.g i.c:=by kernel_rfl
  have ee:(Hr.cyE x i).e=ju x.e i.d:=by kernel_rfl
  have es:(Hr.cyE x i).s=kp x.s (cF 0 (c0 x.a i.a)):=by kernel_rfl
  have et:(Hr.cyE x i).t=kp x.t (cF 1 (c0 x.b i.b)):=by kernel_rfl
  exact Mp (by rw [ea];exact wM) (by rw [eb];exact wM) (by rw [eg];exact wM) (by rw [ee];exact wM) (by rw [es];exact Ml a5) (by rw [et];exact Ml a6)
 ·have eF:(Hr.cyE x i).f.F=cv (La.svT (kh (dD (jf x i))) (Fq.wrB (aD x.f.F) x.f.dn x.f.wt x.f.le (o7 (jf x i)) (o5 (dD (jf x i)))) (aD x.f.F)):=by kernel_rfl
  rw [eF]
  refine ⟨qcJ _,?_⟩
  rw [oY]
  have hs:(aD x.f.F).size<=1000000:=by rw [h.fr.2];exact h.ba.2.2
  exact (TN (SS hs h.le)).trans h.fr.2
theorem Inv.upd {n:Nat} {x:PS} (h:Inv n x) {u:Bool} {l:Int} (hl:(bif u then l==0 else (decide (0<=l)&&decide (l<=3)))=true):Inv n { x with up:=u,lf:=l }:=⟨h.bt,h.mL,h.mp,h.ft,h.h,h.fr,h.le,h.ba,hl⟩
theorem Inv.up0 {n:Nat} {x:PS} (h:Inv n x) (hu:x.up=true):x.lf=0:=by
 have:=h.lf
 unfold pM at this
 rw [hu] at this
 exact beq_iff_eq.1 this
theorem Inv.dn {n:Nat} {x:PS} (h:Inv n x) (hu:x.up=false):0<=x.lf/\x.lf<=3:=by
 have:=h.lf
 unfold pM at this
 rw [hu,cond_false,Bool.and_eq_true,decide_eq_true_eq,decide_eq_true_eq] at this
 exact this
theorem Inv.okN {n:Nat} {x:PS} (h:Inv n x) {i:Inp} (hi:fO i=true) (hb:ch x=false):Hr.okN x i=true:=by
 unfold Hr.okN
 unfold ch at hb
 cases hu:x.up
 ·have hd:=h.dn hu
  rw [hu] at hb
  have hb:(x.lf==1)=false:=hb
  have:=beq_eq_false_iff_ne.1 hb
  rw [cond_false]
  rcases (show x.lf=0\/x.lf=2\/x.lf=3 by omega) with e|e|e<;>rw [e]<;>rfl
 ·rw [cond_true,h.up0 hu,h.ft,h.okP,hi]
  rfl
theorem Inv.cyN {n:Nat} {x:PS} (h:Inv n x) {i:Inp} (hb:ch x=false):Inv n (Hr.cyN x i):=by
 have hE:=h.cyE i
 unfold Hr.cyN gw
 cases hu:x.up
 ·have hd:=h.dn hu
  refine h.upd (u:=x.up) (l:=bif x.lf==0 then 0 else x.lf - 1) ?_
  rw [hu]
  cases e:x.lf==0
  ·have:=beq_eq_false_iff_ne.1 e
   show (decide (0<=x.lf - 1)&&decide (x.lf - 1<=3))=true
   rw [Bool.and_eq_true,decide_eq_true_eq,decide_eq_true_eq]
   omega
  ·rfl
 ·show Inv n (bif fm x i != 0 then _ else _)
  cases fm x i != 0
  ·exact hE
  ·have e:(Hr.cyE x i).lf=0:=(Pb x i).trans (h.up0 hu)
   refine hE.upd (u:=false) (l:=(Hr.cyE x i).lf) ?_
   rw [e]
   rfl
theorem Inv.rs {n:Nat} {x:PS} (h:Inv n x):Inv n (lP x):=h.upd rfl
def vw (x:PS) (k:Int):PS:={ x with f:={ x.f with wt:=true,le:=if k>0 then k else 0 } }
theorem Inv.te {n:Nat} {x:PS} (h:Inv n x) (k:Int):Inv n (vw x k):=⟨h.bt,h.mL,h.mp,h.ft,h.h,h.fr,by show 0<=(if k>0 then k else 0);split<;>omega,h.ba,h.lf⟩
def qR (k:Nat):PS:={ x0 zS 0 0 ⟨[],false,false,0,0,0⟩ with L:=List.replicate k fK,R:=⟨2,3,4,2,50,2,10,(k:Int)⟩ }
theorem qaV {s:ByteArray} {y:PS} (hL:y.L=cN s) (hR:y.R=gW s):fg y=true:=by
 have e:fg y=fg (qR (btK s)):=by
  unfold fg
  rw [hL,hR]
  rfl
 rw [e]
 have:=zp s
 generalize btK s=k at this
 have h1:fg (qR 1)=true:=by kernel_rfl
 have h2:fg (qR 2)=true:=by kernel_rfl
 have h3:fg (qR 3)=true:=by kernel_rfl
 have h4:fg (qR 4)=true:=by kernel_rfl
 rcases (show k=1\/k=2\/k=3\/k=4 by omega) with e|e|e|e<;>rw [e]<;>assumption
theorem Inv.okB {n:Nat} {x:PS} (h:Inv n x) (hb:ch x=true):Hr.okB x=true:=by
 have hs:=h.fr.2
 have hn:=h.ba
 unfold Hr.okB kw
 rw [hb,show (bz (bu x 1)).f.F=x.f.F from rfl,show (bz (bu x 1)).f.le=x.f.le from rfl,h.okLc,show (bz (bu x 1)).img=x.img from rfl,show (bz (bu x 1)).port=x.port from rfl,h.bt,qaV (s:=x.img) (y:=k8 (bz (bu x 1))) rfl rfl,show (bz (bu x 1)).f.dn=false from rfl,show (bz (bu x 1)).base=x.base from rfl,(Fq.refE_ok (down:=false) (size:=((aD x.f.F).size:Int)) (k:=x.base) (n:=48) (by omega)).2 ⟨rfl,by omega,by omega,by omega⟩]
 rfl
theorem HG (x:PS):(bI x).img=x.img:=by kernel_rfl
theorem qht (x:PS):(bI x).port=x.port:=by kernel_rfl
theorem qhB (x:PS):(bI x).base=x.base:=by kernel_rfl
theorem qhA (x:PS):(bI x).ft=0:=by kernel_rfl
theorem qhs (x:PS):(bI x).up=true:=by kernel_rfl
theorem qhx (x:PS):(bI x).lf=0:=by kernel_rfl
theorem qhw (x:PS):(bI x).m.L=cN x.img:=by kernel_rfl
theorem qhD (x:PS):(bI x).f.F=x.f.F:=by kernel_rfl
theorem qhy (x:PS):(bI x).f.le=x.f.le:=by kernel_rfl
theorem qhv (x:PS):(bI x).m.p=bif Ph.seB (cN x.img) (od (bz (bu x 1))).r.p (od (bz (bu x 1))).r.n then (od (bz (bu x 1))).r.p else 0:=by kernel_rfl
theorem qhz (x:PS):io (bI x)=true:=by
 have ea:(bI x).a=⟨zS,1000000,0⟩:=by kernel_rfl
 have eb:(bI x).b=⟨zS,1000000,0⟩:=by kernel_rfl
 have eg:(bI x).g=⟨zS,1000000,0⟩:=by kernel_rfl
 have ee:(bI x).e=⟨zS,1000000,0⟩:=by kernel_rfl
 have es:(bI x).s=⟨50,2,⟨0,0,0,0,0,0,0,0⟩,false,1000000,0⟩:=by kernel_rfl
 have et:(bI x).t=⟨50,2,⟨0,0,0,0,0,0,0,0⟩,false,1000000,0⟩:=by kernel_rfl
 have k1:d8 ⟨zS,1000000,0⟩=true:=by kernel_rfl
 have k2:il ⟨50,2,⟨0,0,0,0,0,0,0,0⟩,false,1000000,0⟩=true:=by kernel_rfl
 exact Mp (by rw [ea];exact k1) (by rw [eb];exact k1) (by rw [eg];exact k1) (by rw [ee];exact k1) (by rw [es];exact k2) (by rw [et];exact k2)
theorem Inv.bt' {n:Nat} {x:PS} (h:Inv n x):Inv n (bI x):=by
 have hl0:=(HF x.img).ln
 refine ⟨by rw [HG,qht];exact h.bt,by rw [HG];exact qhw x,?_,qhA x,qhz x,by rw [qhD];exact h.fr,by rw [qhy];exact h.le,by rw [qhB];exact h.ba,by unfold pM;rw [qhs,qhx];rfl⟩
 rw [HG,qhv]
 cases e:Ph.seB (cN x.img) (od (bz (bu x 1))).r.p (od (bz (bu x 1))).r.n
 ·exact ⟨Int.le_refl _,by show (0:Int)<((cN x.img).length:Int);omega⟩
 ·unfold Ph.seB at e
  generalize (od (bz (bu x 1))).r.p=q at *
  by_cases h1:q<0
  ·rw [decide_eq_true h1] at e;cases e
  by_cases h2:q>=((cN x.img).length:Int)
  ·rw [decide_eq_false h1,decide_eq_true h2] at e;cases e
  exact ⟨by show 0<=q;omega,by show q<((cN x.img).length:Int);omega⟩
end Go.Proofs.YtainfdcfkgemhaaGreat.Hr
