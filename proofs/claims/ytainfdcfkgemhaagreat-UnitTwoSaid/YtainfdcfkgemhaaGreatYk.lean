/-
  A processor boots,waits for power,is made;a cycle in one of two ways;what holds of it all the time.
-/
import Derived.Test.YtainfdcfkgemhaaGreatYj
import Derived.Test.YtainfdcfkgemhaaGreatYi
set_option maxRecDepth 100000
noncomputable section
namespace Go.Proofs.YtainfdcfkgemhaaGreat.Hr
open Go Go.Proofs Go.Sx Nw Pe So
set_option linter.unusedVariables false
def qLR (xs:List SV) (m:Mem):Option (Bool×SV×Mem) :=
 match xs,m with
 | [.ptr 0 0,.v (.int .i64 base)],⟨[[.row 0,.ptr 1 0,.v (.bool down),.v (.bool waits),.v (.int .i64 lets)],[.v (.int .i64 mx),.v (.int .i64 w)]],[true,true],[.live ⟨5,[.num .u8],L,true,mark⟩]⟩=>some (okLc L lets&&Fq.refE down ((txt L).size:Int) base 48==0,.tup [.one (.ptr 2 0),.one (.v (I 0))],La.opM base (La.sl0 (txt L) base) (La.sl1 (txt L) base) L mark mx w down waits lets)
 | _,_=>none
theorem qBm:CtC 119 qLR:=by
 intro xs m r m' h
 unfold qLR at h
 split at h
 case h_2=>cases h
 rename_i base down waits lets mx w L mark
 obtain ⟨h1,rfl,rfl⟩:=qaf h
 obtain ⟨e1,e2⟩:=Bool.and_eq_true_iff.1 h1
 refine La.gOpenS_ok _ _ _ _ ?_
 show some (Fq.okL L lets&&Fq.refE down ((txt L).size:Int) base 48==0,_,_)=_
 rw [qm4 e1,e2]
 rfl
def Γu0:Orc:=qau 123 gGo (qau 122 gBe (qau 121 Se.gSNew (qah 76 gHy (qau 120 gBt (qau 119 qLR (qau 134 Fq.gFUp ΓO))))))
theorem Oku0:Γu0.Ok Tryz.prog:=qad (qad (qad (qaa (qad (qad (qad OkO Fq.gFUp_ok) qBm) qHd) qyh) Se.gSNew_ok) qHf) qG2
def wrU (f:FuncId):Bool:=Nat.beq f 123||(Nat.beq f 122||(Nat.beq f 121||(Nat.beq f 120||(Nat.beq f 119||Nat.beq f 134))))
def Γu1:Orc:={ Γu0 with av:=true,bs:=true,sb:=true,wr:=wrU }
theorem Oku1:Γu1.Ok Tryz.prog:=⟨Oku0.call,Oku0.rd,Oku0.eqv⟩
def buA (x:PS):ByteArray:=La.sl0 (txt x.f.F) x.base
def buB (x:PS):ByteArray:=La.sl1 (txt x.f.F) x.base
def buL (x:PS):Lat:=⟨x.base,⟨La.opI (buA x) (buB x) La.qS,La.opI (buA x) (buB x) La.cS,La.opI (buA x) (buB x) La.pS,La.opI (buA x) (buB x) La.uS,La.opI (buA x) (buB x) La.fS,La.opI (buA x) (buB x) La.at9,La.opI (buA x) (buB x) La.at10,La.opI (buA x) (buB x) La.at11,La.opI (buA x) (buB x) La.nS⟩,La.opN (buA x) (buB x)⟩
def buY (x:PS):PS:={ x with up:=true,L:=btL x.img,R:=btR x.img,ft:=btF x.img x.port,la:=buL x,q:=⟨(btR x.img).r8,!(btF x.img x.port==0),0,0⟩,fl:=false,cy:=0 }
def buP (x:PS):PS:=goP (beP (buY x))
def qOq (r:Nat) (x:PS) (la a b g e s t m y q:Nat):List SA:=.v (S x.img)::.v (I x.port)::.ptr 1 0::.v (I x.base)::.v (Bo x.up)::.v (I x.lf)::.row r::cRl x.R (.v (I x.ft)::.ptr la 0::.ptr a 0::.ptr b 0::.ptr g 0::.ptr e 0::.ptr s 0::.ptr t 0::.ptr m 0::.ptr y 0::.ptr q 0::.v (Bo x.fl)::.v (I x.cy)::[])
def buM (x y:PS):Mem:=⟨[qOq 3 y 23 24 25 26 27 28 29 30 31 32,cFl y.f,cLa x.la,cSt 13 x.a,cSt 14 x.b,cSt 15 x.g,cSt 16 x.e,cSr 17 x.s,cSr 18 x.t,cMc x.m,cTy,cSq x.q,cC y.f.a y.f.v,cC x.a.a x.a.v,cC x.b.a x.b.v,cC x.g.a x.g.v,cC x.e.a x.e.v,cC x.s.a x.s.t,cC x.t.a x.t.t,cC x.m.a x.m.v,cC x.y.a x.y.u,cC x.y.b x.y.v,cC x.y.c x.y.w,cLa y.la,cSt 33 y.a,cSt 34 y.b,cSt 35 y.g,cSt 36 y.e,cSr 37 y.s,cSr 38 y.t,qw5 4 39 y.m,[.ptr 40 0,.ptr 41 0,.ptr 42 0],cSq y.q,cC y.a.a y.a.v,cC y.b.a y.b.v,cC y.g.a y.g.v,cC y.e.a y.e.v,cC y.s.a y.s.t,cC y.t.a y.t.t,cC y.m.a y.m.v,cC y.y.a y.y.u,cC y.y.b y.y.v,cC y.y.c y.y.w],tt 43,[rPh x.L,rFs y.f.F,rPh x.m.L,rPh y.L,rPh y.m.L]⟩
theorem qKu (x:PS):runG Γu1 L0 Tryz.prog Tryz.f61 [.ptr 0 0] (mP x)=(bif okLc x.f.F x.f.le&&Fq.refE x.f.dn ((txt x.f.F).size:Int) x.base 48==0 then (bif qx3 x.img x.port then (bif qkP (buY x) then some (.v (I 0),buM x (buP x)) else none) else none) else none):=by kernel_rfl
end Go.Proofs.YtainfdcfkgemhaaGreat.Hr
namespace Go.Proofs.YtainfdcfkgemhaaGreat.Hr
open Go Go.Proofs Go.Sx Nw Pe So
set_option linter.unusedVariables false
def qvo (x:PS):Bool:=(okLc x.f.F x.f.le&&Fq.refE x.f.dn ((txt x.f.F).size:Int) x.base 48==0)&&(qx3 x.img x.port&&qkP (buY x))
def gBu (xs:List SV) (m:Mem):Option (Bool×SV×Mem) :=
 match xs,uP m with
 | [.ptr 0 0],some x=>some (qvo x,.v (I 0),buM x (buP x))
 | _,_=>none
theorem qHc:CtC 61 gBu:=by
 intro xs m r m' h
 unfold gBu at h
 split at h
 case h_2=>cases h
 rename_i x hx
 obtain ⟨h1,rfl,rfl⟩:=qaf h
 rw [qdz hx]
 refine qal (Λ:=L0) Oku1 Tryz.func61 rfl l00 ((qKu x).trans ?_)
 obtain ⟨e1,e2⟩:=Bool.and_eq_true_iff.1 h1
 obtain ⟨e2,e3⟩:=Bool.and_eq_true_iff.1 e2
 rw [e1,e2,e3]
 rfl
def Γw0:Orc:=qau 61 gBu (qau 134 Fq.gFUp ΓO)
theorem qML:Γw0.Ok Tryz.prog:=qad (qad OkO Fq.gFUp_ok) qHc
def Γw1:Orc:={ Γw0 with av:=true,bs:=true,sb:=true }
theorem qMK:Γw1.Ok Tryz.prog:=⟨qML.call,qML.rd,qML.eqv⟩
def wpL (x:PS):PS:={ x with lf:=wI (x.lf - 1) }
def wpU (x:PS):PS:={ x with lf:=wI (x.lf - 1),f:={ x.f with dn:=false,wt:=false } }
theorem qyW (x:PS):runG Γw1 L0 Tryz.prog Tryz.f75 [.ptr 0 0] (mP x)=(bif x.lf==0 then some (.v (.tuple #[]),mP x) else (bif wI (x.lf - 1)==0 then (bif qvo (wpU x) then some (.v (.tuple #[]),buM (wpU x) (buP (wpU x))) else none) else some (.v (.tuple #[]),mP (wpL x)))):=by kernel_rfl
end Go.Proofs.YtainfdcfkgemhaaGreat.Hr
namespace Go.Proofs.YtainfdcfkgemhaaGreat.Hr
open Go Go.Proofs Go.Sx Nw Pe So
set_option linter.unusedVariables false
def gWp (xs:List SV) (m:Mem):Option (Bool×SV×Mem) :=
 match xs,uP m with
 | [.ptr 0 0],some x=>match x.lf==0,wI (x.lf - 1)==0 with
  | true,_=>some (true,.v (.tuple #[]),mP x)
  | false,true=>some (qvo (wpU x),.v (.tuple #[]),buM (wpU x) (buP (wpU x)))
  | false,false=>some (true,.v (.tuple #[]),mP (wpL x))
 | _,_=>none
theorem qGG:CtC 75 gWp:=by
 intro xs m r m' h
 unfold gWp at h
 split at h
 case h_2=>cases h
 rename_i x hx
 rw [qdz hx]
 split at h
 ·rename_i e1
  obtain ⟨_,rfl,rfl⟩:=qaf h
  exact qal (Λ:=L0) qMK Tryz.func75 rfl l00 ((qyW x).trans (by rw [e1];rfl))
 ·rename_i e1 e2
  obtain ⟨h1,rfl,rfl⟩:=qaf h
  exact qal (Λ:=L0) qMK Tryz.func75 rfl l00 ((qyW x).trans (by rw [e1,e2,h1];rfl))
 ·rename_i e1 e2
  obtain ⟨_,rfl,rfl⟩:=qaf h
  exact qal (Λ:=L0) qMK Tryz.func75 rfl l00 ((qyW x).trans (by rw [e1,e2];rfl))
def Γq0:Orc:=qau 75 gWp Γy1
theorem qMZ:Γq0.Ok Tryz.prog:=qad Oky1 qGG
def Γq1:Orc:={ Γq0 with av:=true,bs:=true,sb:=true }
theorem qJa:Γq1.Ok Tryz.prog:=⟨qMZ.call,qMZ.rd,qMZ.eqv⟩
theorem qKt (x:PS) (i:Inp):runG Γq1 L0 Tryz.prog Tryz.f41 [.ptr 0 0,.v (inV i)] (mP { x with lf:=0 })=(bif !x.up then some (.v (oV o0),mP { x with lf:=0 }) else (bif !(x.ft==0) then none else cyT { x with lf:=0 } i)):=by kernel_rfl
theorem qKs (x:PS) (i:Inp):runG Γq1 L0 Tryz.prog Tryz.f41 [.ptr 0 0,.v (inV i)] (mP { x with up:=false,lf:=1 })=(bif qvo (wpU { x with up:=false,lf:=1 }) then some (.v (oV o0),buM (wpU { x with up:=false,lf:=1 }) (buP (wpU { x with up:=false,lf:=1 }))) else none):=by kernel_rfl
theorem qKr (x:PS) (i:Inp):runG Γq1 L0 Tryz.prog Tryz.f41 [.ptr 0 0,.v (inV i)] (mP { x with up:=false,lf:=2 })=some (.v (oV o0),mP { x with up:=false,lf:=1 }):=by kernel_rfl
theorem qKq (x:PS) (i:Inp):runG Γq1 L0 Tryz.prog Tryz.f41 [.ptr 0 0,.v (inV i)] (mP { x with up:=false,lf:=3 })=some (.v (oV o0),mP { x with up:=false,lf:=2 }):=by kernel_rfl
end Go.Proofs.YtainfdcfkgemhaaGreat.Hr
namespace Go.Proofs.YtainfdcfkgemhaaGreat.Hr
open Go Go.Proofs Go.Sx Nw Pe So
set_option linter.unusedVariables false
def nP:SA:=.v (.pointer none)
def z8:Rl:=⟨0,0,0,0,0,0,0,0⟩
def bfM (x:PS):Mem:=⟨[.v (S x.img)::.v (I x.port)::.ptr 1 0::.v (I x.base)::.v (Bo x.up)::.v (I x.lf)::.row 0::cRl x.R [.v (I x.ft),nP,nP,nP,nP,nP,nP,nP,nP,nP,.ptr 2 0,.v (Bo x.fl),.v (I x.cy)],[.row 1,.ptr 3 0,.v (Bo x.f.dn),.v (Bo x.f.wt),.v (I x.f.le)],cSq x.q,cC x.f.a x.f.v],tt 4,[rPh x.L,rFs x.f.F]⟩
def bgM (x:PS):Mem:=⟨[.v (S x.img)::.v (I x.port)::.ptr 1 0::.v (I x.base)::.v (Bo x.up)::.v (I x.lf)::.row 0::cRl x.R [.v (I x.ft),nP,.ptr 4 0,.ptr 5 0,.ptr 6 0,.ptr 7 0,.ptr 8 0,.ptr 9 0,.ptr 10 0,.ptr 11 0,.ptr 2 0,.v (Bo x.fl),.v (I x.cy)],[.row 1,.ptr 3 0,.v (Bo x.f.dn),.v (Bo x.f.wt),.v (I x.f.le)],cSq x.q,cC x.f.a x.f.v,cSt 12 (beP x).a,cSt 13 (beP x).b,cSt 14 (beP x).g,cSt 15 (beP x).e,cSr 16 (beP x).s,cSr 17 (beP x).t,qw5 2 18 (beP x).m,[.ptr 19 0,.ptr 20 0,.ptr 21 0],cC 1000000 0,cC 1000000 0,cC 1000000 0,cC 1000000 0,cC 1000000 0,cC 1000000 0,cC 1000000 0,cC (beP x).y.a 0,cC (beP x).y.b 0,cC (beP x).y.c 0],tt 22,[rPh x.L,rFs x.f.F,rPh x.L]⟩
theorem qKv (x:PS):runG Γb1 L0 Tryz.prog Tryz.f122 [.ptr 0 0] (bfM x)=(bif decide ((1:Int)≤x.R.r5)&&decide ((1:Int)≤x.R.r6) then (bif decide ((1:Int)≤x.R.r5)&&decide ((1:Int)≤x.R.r6) then (bif qdI x.L&&(qkO x.L&&(wrB x.L x.R.r1 x.R.r2 x.R.r3 x.R.r4 x.R.r5 x.R.r6 x.R.r7 x.R.r8==(0:Int)&&Nat.blt (0:Nat) x.L.length)) then (bif decide ((1:Int)≤x.R.r1)&&(decide ((1:Int)≤x.R.r2)&&decide ((1:Int)≤x.R.r3)) then some (.v (.tuple #[]),bgM x) else none) else none) else none) else none):=by kernel_rfl
def uBt (b:List SA):Option (Int×Bool×Int):=match b with
 | .v (.int .i64 ft)::.v (.pointer none)::.v (.pointer none)::.v (.pointer none)::.v (.pointer none)::.v (.pointer none)::.v (.pointer none)::r=>match r with
  | [.v (.pointer none),.v (.pointer none),.v (.pointer none),.ptr 2 0,.v (.bool fl),.v (.int .i64 cy)]=>some (ft,fl,cy)
  | _=>none
 | _=>none
theorem qD0 {b:List SA} {ft cy:Int} {fl:Bool} (h:uBt b=some (ft,fl,cy)):b=[.v (I ft),nP,nP,nP,nP,nP,nP,nP,nP,nP,.ptr 2 0,.v (Bo fl),.v (I cy)]:=by
 unfold uBt at h
 split at h
 ·split at h
  ·injection h with h
   injection h with h1 h
   injection h with h2 h3
   subst h1 h2 h3
   rfl
  ·cases h
 ·cases h
def uB0 (b:List SA):Option (ByteArray×Int×Int×Bool×Int×Rl×Int×Bool×Int):=match b with
 | .v (.string img)::.v (.int .i64 port)::.ptr 1 0::.v (.int .i64 base)::.v (.bool up)::.v (.int .i64 lf)::.row 0::r=>match uRl r with
  | some (R,r')=>match uBt r' with
   | some (ft,fl,cy)=>some (img,port,base,up,lf,R,ft,fl,cy)
   | none=>none
  | none=>none
 | _=>none
theorem qD2 {b:List SA} {img:ByteArray} {port base lf ft cy:Int} {up fl:Bool} {R:Rl} (h:uB0 b=some (img,port,base,up,lf,R,ft,fl,cy)):b=.v (S img)::.v (I port)::.ptr 1 0::.v (I base)::.v (Bo up)::.v (I lf)::.row 0::cRl R [.v (I ft),nP,nP,nP,nP,nP,nP,nP,nP,nP,.ptr 2 0,.v (Bo fl),.v (I cy)]:=by
 unfold uB0 at h
 split at h
 ·split at h
  ·rename_i R' r' hr
   split at h
   ·rename_i ft' fl' cy' hl
    injection h with h
    injection h with h1 h
    injection h with h2 h
    injection h with h3 h
    injection h with h4 h
    injection h with h5 h
    injection h with h6 h
    injection h with h7 h
    injection h with h8 h9
    subst h1 h2 h3 h4 h5 h6 h7 h8 h9
    rw [qgX hr,qD0 hl]
    try rfl
   ·cases h
  ·cases h
 ·cases h
def u2R (r:List RowS):Option (List (List Dat)×List (List Dat)):=match r with
 | [r0,r1]=>match r0,r1 with
  | .live ⟨117,[.sl 162 [.num .i64,.num .i64],.num .i64,.num .i64,.num .i64,.num .i64],a,true,false⟩,.live ⟨5,[.num .u8],b,true,true⟩=>some (a,b)
  | _,_=>none
 | _=>none
theorem qD4 {r:List RowS} {a b:List (List Dat)} (h:u2R r=some (a,b)):r=[rPh a,rFs b]:=by
 unfold u2R at h
 split at h
 ·split at h
  ·injection h with h
   injection h with h1 h2
   subst h1 h2
   rfl
  ·cases h
 ·cases h
def uF3 (b:List SA):Option (Bool×Bool×Int):=match b with
 | [.row 1,.ptr 3 0,.v (.bool d),.v (.bool t),.v (.int .i64 l)]=>some (d,t,l)
 | _=>none
theorem qDX {b:List SA} {d t:Bool} {l:Int} (h:uF3 b=some (d,t,l)):b=[.row 1,.ptr 3 0,.v (Bo d),.v (Bo t),.v (I l)]:=by
 unfold uF3 at h
 split at h
 ·injection h with h
  injection h with h1 h
  injection h with h2 h3
  subst h1 h2 h3
  rfl
 ·cases h
def z0S:Stm:=⟨zS,0,0⟩
def z0R:Src:=⟨0,0,⟨0,0,0,0,0,0,0,0⟩,false,0,0⟩
def uBf (m:Mem):Option PS:=match m with
 | ⟨[b0,b1,b2,b3],lv,rs⟩=>match qvW 4 lv,uB0 b0,uF3 b1,uSq b2,uC b3,u2R rs with
  | true,some (img,port,base,up,lf,R,ft,fl,cy),some (dn,wt,le),some q,some (a,v),some (L,F)=>some ⟨img,port,base,up,lf,L,R,ft,⟨F,dn,wt,le,a,v⟩,⟨0,⟨0,0,0,0,0,0,0,0,0⟩,0⟩,z0S,z0S,z0S,z0S,z0R,z0R,⟨[],z8,0,0,0⟩,⟨0,0,0,0,0,0⟩,q,fl,cy⟩
  | _,_,_,_,_,_=>none
 | _=>none
theorem qD1 {m:Mem} {x:PS} (h:uBf m=some x):m=bfM x:=by
 unfold uBf at h
 split at h
 case h_2=>cases h
 split at h
 case h_2=>cases h
 rename_i hl h0 h1 h2 h3 hr
 injection h with h
 subst h
 rw [qdc hl,qD2 h0,qDX h1,qpt h2,qbK h3,qD4 hr]
 rfl
def gBf (xs:List SV) (m:Mem):Option (Bool×SV×Mem) :=
 match xs,uBf m with
 | [.ptr 0 0],some x=>some (qkP x,.v (.tuple #[]),bgM x)
 | _,_=>none
theorem qHe:CtC 122 gBf:=by
 intro xs m r m' h
 unfold gBf at h
 split at h
 case h_2=>cases h
 rename_i x hx
 obtain ⟨h1,rfl,rfl⟩:=qaf h
 rw [qD1 hx]
 refine qal (Λ:=L0) Okb1 Tryz.func122 rfl l00 ((qKv x).trans ?_)
 unfold qkP at h1
 obtain ⟨e1,e2⟩:=Bool.and_eq_true_iff.1 h1
 obtain ⟨e2,e3⟩:=Bool.and_eq_true_iff.1 e2
 rw [e1,e2,e3]
 rfl
end Go.Proofs.YtainfdcfkgemhaaGreat.Hr
namespace Go.Proofs.YtainfdcfkgemhaaGreat.Hr
open Go Go.Proofs Go.Sx Nw Pe So
set_option linter.unusedVariables false
def Γf0:Orc:=qau 122 gBf Γu0
theorem Okf0:Γf0.Ok Tryz.prog:=qad Oku0 qHe
def Γf1:Orc:={ Γf0 with av:=true,bs:=true,sb:=true,wr:=wrU }
theorem Okf1:Γf1.Ok Tryz.prog:=⟨Okf0.call,Okf0.rd,Okf0.eqv⟩
def x0 (img:ByteArray) (port base:Int) (f:Fla):PS:=⟨img,port,base,false,0,[],z8,0,f,⟨0,⟨0,0,0,0,0,0,0,0,0⟩,0⟩,z0S,z0S,z0S,z0S,z0R,z0R,⟨[],z8,0,0,0⟩,⟨0,0,0,0,0,0⟩,⟨0,false,0,0⟩,false,0⟩
def fbM (img:ByteArray) (port base:Int) (f:Fla):Mem:=⟨[[.v (S img),.v (I port),.ptr 1 0,.v (I base),.v (Bo false),.v (I 0),.v (.slice none 0 0),.v (I 0),.v (I 0),.v (I 0),.v (I 0),.v (I 0),.v (I 0),.v (I 0),.v (I 0),.v (I 0),nP,nP,nP,nP,nP,nP,nP,nP,nP,nP,.v (Bo false),.v (I 0)],[.row 0,.ptr 2 0,.v (Bo f.dn),.v (Bo f.wt),.v (I f.le)],cC f.a f.v],tt 3,[rFs f.F]⟩
def fuM (y:PS):Mem:=⟨[qOq 1 y 3 4 5 6 7 8 9 10 11 12,[.row 0,.ptr 2 0,.v (Bo y.f.dn),.v (Bo y.f.wt),.v (I y.f.le)],cC y.f.a y.f.v,cLa y.la,cSt 13 y.a,cSt 14 y.b,cSt 15 y.g,cSt 16 y.e,cSr 17 y.s,cSr 18 y.t,qw5 2 19 y.m,[.ptr 20 0,.ptr 21 0,.ptr 22 0],cSq y.q,cC y.a.a y.a.v,cC y.b.a y.b.v,cC y.g.a y.g.v,cC y.e.a y.e.v,cC y.s.a y.s.t,cC y.t.a y.t.t,cC y.m.a y.m.v,cC y.y.a y.y.u,cC y.y.b y.y.v,cC y.y.c y.y.w],tt 23,[rFs y.f.F,rPh y.L,rPh y.m.L]⟩
theorem qKi (img:ByteArray) (port base:Int) (f:Fla):runG Γf1 L0 Tryz.prog Tryz.f61 [.ptr 0 0] (fbM img port base f)=(bif okLc f.F f.le&&Fq.refE f.dn ((txt f.F).size:Int) base 48==0 then (bif qx3 img port then (bif qkP (buY (x0 img port base f)) then some (.v (I 0),fuM (buP (x0 img port base f))) else none) else none) else none):=by kernel_rfl
def tlN:List SA:=[.v (Bo false),.v (I 0),.v (.slice none 0 0),.v (I 0),.v (I 0),.v (I 0),.v (I 0),.v (I 0),.v (I 0),.v (I 0),.v (I 0),.v (I 0),nP,nP,nP,nP,nP,nP,nP,nP,nP,nP,.v (Bo false),.v (I 0)]
def uFn (b:List SA):Option (ByteArray×Int×Int):=match b with
 | .v (.string img)::.v (.int .i64 port)::.ptr 1 0::.v (.int .i64 base)::r=>bif Go.Sx.eqL qtC r tlN then some (img,port,base) else none
 | _=>none
theorem qDT {b:List SA} {img:ByteArray} {port base:Int} (h:uFn b=some (img,port,base)):b=.v (S img)::.v (I port)::.ptr 1 0::.v (I base)::tlN:=by
 unfold uFn at h
 split at h
 ·rename_i i' p' b' r
  cases hq:Go.Sx.eqL qtC r tlN
  ·rw [hq] at h;cases h
  ·rw [hq] at h
   injection h with h
   injection h with h1 h
   injection h with h2 h3
   subst h1 h2 h3
   rw [Go.Sx.eqL_eq (fun _ _=>qd0) hq]
   try rfl
 ·cases h
def uF2 (b:List SA):Option (Bool×Bool×Int):=match b with
 | [.row 0,.ptr 2 0,.v (.bool d),.v (.bool t),.v (.int .i64 l)]=>some (d,t,l)
 | _=>none
theorem qDY {b:List SA} {d t:Bool} {l:Int} (h:uF2 b=some (d,t,l)):b=[.row 0,.ptr 2 0,.v (Bo d),.v (Bo t),.v (I l)]:=by
 unfold uF2 at h
 split at h
 ·injection h with h
  injection h with h1 h
  injection h with h2 h3
  subst h1 h2 h3
  rfl
 ·cases h
def u1R (r:List RowS):Option (List (List Dat)):=match r with
 | [.live ⟨5,[.num .u8],b,true,true⟩]=>some b
 | _=>none
theorem qxD {r:List RowS} {b:List (List Dat)} (h:u1R r=some b):r=[rFs b]:=by
 unfold u1R at h
 split at h
 ·injection h with h
  subst h
  rfl
 ·cases h
def uFb (m:Mem):Option (ByteArray×Int×Int×Fla):=match m with
 | ⟨[b0,b1,b2],lv,rs⟩=>match qvW 3 lv,uFn b0,uF2 b1,uC b2,u1R rs with
  | true,some (img,port,base),some (dn,wt,le),some (a,v),some F=>some (img,port,base,⟨F,dn,wt,le,a,v⟩)
  | _,_,_,_,_=>none
 | _=>none
theorem qDW {m:Mem} {img:ByteArray} {port base:Int} {f:Fla} (h:uFb m=some (img,port,base,f)):m=fbM img port base f:=by
 unfold uFb at h
 split at h
 case h_2=>cases h
 split at h
 case h_2=>cases h
 rename_i hl h0 h1 h2 hr
 injection h with h
 injection h with e1 h
 injection h with e2 h
 injection h with e3 e4
 subst e1 e2 e3 e4
 rw [qdc hl,qDT h0,qDY h1,qbK h2,qxD hr]
 rfl
def qlk (img:ByteArray) (port base:Int) (f:Fla):Bool:=(okLc f.F f.le&&Fq.refE f.dn ((txt f.F).size:Int) base 48==0)&&(qx3 img port&&qkP (buY (x0 img port base f)))
def gFb (xs:List SV) (m:Mem):Option (Bool×SV×Mem) :=
 match xs,uFb m with
 | [.ptr 0 0],some (img,port,base,f)=>some (qlk img port base f,.v (I 0),fuM (buP (x0 img port base f)))
 | _,_=>none
theorem qG5:CtC 61 gFb:=by
 intro xs m r m' h
 unfold gFb at h
 split at h
 case h_2=>cases h
 rename_i img port base f hx
 obtain ⟨h1,rfl,rfl⟩:=qaf h
 rw [qDW hx]
 refine qal (Λ:=L0) Okf1 Tryz.func61 rfl l00 ((qKi img port base f).trans ?_)
 unfold qlk at h1
 obtain ⟨e1,e2⟩:=Bool.and_eq_true_iff.1 h1
 obtain ⟨e2,e3⟩:=Bool.and_eq_true_iff.1 e2
 rw [e1,e2,e3]
 rfl
def Γn0:Orc:=qau 61 gFb ΓO
theorem qNa:Γn0.Ok Tryz.prog:=qad OkO qG5
def Γn1:Orc:={ Γn0 with av:=true,bs:=true,sb:=true,wr:=fun f=>Nat.beq f 61 }
theorem Okn1:Γn1.Ok Tryz.prog:=⟨qNa.call,qNa.rd,qNa.eqv⟩
def flM (f:Fla):Mem:=⟨[[.row 0,.ptr 1 0,.v (Bo f.dn),.v (Bo f.wt),.v (I f.le)],cC f.a f.v],tt 2,[rFs f.F]⟩
def cPn (y:PS):List SA:=.v (S y.img)::.v (I y.port)::.ptr 0 0::.v (I y.base)::.v (Bo y.up)::.v (I y.lf)::.row 1::cRl y.R (.v (I y.ft)::.ptr 3 0::.ptr 4 0::.ptr 5 0::.ptr 6 0::.ptr 7 0::.ptr 8 0::.ptr 9 0::.ptr 10 0::.ptr 11 0::.ptr 12 0::.v (Bo y.fl)::.v (I y.cy)::[])
def nwM (y:PS):Mem:=⟨[[.row 0,.ptr 1 0,.v (Bo y.f.dn),.v (Bo y.f.wt),.v (I y.f.le)],cC y.f.a y.f.v,cPn y,.ptr 0 0::.v (I y.la.b)::cRc y.la.r [.v (I y.la.x)],cSt 13 y.a,cSt 14 y.b,cSt 15 y.g,cSt 16 y.e,cSr 17 y.s,cSr 18 y.t,qw5 2 19 y.m,[.ptr 20 0,.ptr 21 0,.ptr 22 0],cSq y.q,cC y.a.a y.a.v,cC y.b.a y.b.v,cC y.g.a y.g.v,cC y.e.a y.e.v,cC y.s.a y.s.t,cC y.t.a y.t.t,cC y.m.a y.m.v,cC y.y.a y.y.u,cC y.y.b y.y.v,cC y.y.c y.y.w],tt 23,[rFs y.f.F,rPh y.L,rPh y.m.L]⟩
theorem qJ7 (img:ByteArray) (port base:Int) (f:Fla):runG Γn1 L0 Tryz.prog Tryz.f18 [.v (S img),.v (I port),.ptr 0 0,.v (I base)] (flM f)=(bif qlk img port base f then some (.tup [.one (.ptr 2 0),.one (.v (I 0))],nwM (buP (x0 img port base f))) else none):=by kernel_rfl
end Go.Proofs.YtainfdcfkgemhaaGreat.Hr
namespace Go.Proofs.YtainfdcfkgemhaaGreat.Hr
open Go Go.Proofs Go.Sx Nw Pe So
set_option linter.unusedVariables false
def uF1 (b:List SA):Option (Bool×Bool×Int):=match b with
 | [.row 0,.ptr 1 0,.v (.bool d),.v (.bool t),.v (.int .i64 l)]=>some (d,t,l)
 | _=>none
theorem qDZ {b:List SA} {d t:Bool} {l:Int} (h:uF1 b=some (d,t,l)):b=[.row 0,.ptr 1 0,.v (Bo d),.v (Bo t),.v (I l)]:=by
 unfold uF1 at h
 split at h
 ·injection h with h
  injection h with h1 h
  injection h with h2 h3
  subst h1 h2 h3
  rfl
 ·cases h
def uFm (m:Mem):Option Fla:=match m with
 | ⟨[b1,b2],lv,rs⟩=>match qvW 2 lv,uF1 b1,uC b2,u1R rs with
  | true,some (dn,wt,le),some (a,v),some F=>some ⟨F,dn,wt,le,a,v⟩
  | _,_,_,_=>none
 | _=>none
theorem qDU {m:Mem} {f:Fla} (h:uFm m=some f):m=flM f:=by
 unfold uFm at h
 split at h
 case h_2=>cases h
 split at h
 case h_2=>cases h
 rename_i hl h1 h2 hr
 injection h with h
 subst h
 rw [qdc hl,qDZ h1,qbK h2,qxD hr]
 rfl
def gNw (xs:List SV) (m:Mem):Option (Bool×SV×Mem) :=
 match xs,uFm m with
 | [.v (.string img),.v (.int .i64 port),.ptr 0 0,.v (.int .i64 base)],some f=>some (qlk img port base f,.tup [.one (.ptr 2 0),.one (.v (I 0))],nwM (buP (x0 img port base f)))
 | _,_=>none
theorem qrV:CtC 18 gNw:=by
 intro xs m r m' h
 unfold gNw at h
 split at h
 case h_2=>cases h
 rename_i img port base f hx
 obtain ⟨h1,rfl,rfl⟩:=qaf h
 rw [qDU hx]
 exact qal (Λ:=L0) Okn1 Tryz.func18 rfl l00 ((qJ7 img port base f).trans (by rw [h1];rfl))
def Γk1:Orc:={ qay 66 La.gLast ΓO with av:=true,bs:=true,sb:=true }
theorem qOO:Γk1.Ok Tryz.prog:=⟨(qai OkO La.gLast_ok).call,(qai OkO La.gLast_ok).rd,(qai OkO La.gLast_ok).eqv⟩
def rsP (x:PS):PS:={ x with up:=false,lf:=3 }
theorem qJ1 (x:PS):runG Γk1 L0 Tryz.prog Tryz.f38 [.ptr 0 0] (mP x)=some (.v (.tuple #[]),mP (rsP x)):=by kernel_rfl
theorem qJQ (x:PS):runG Γk1 L0 Tryz.prog Tryz.f19 [.ptr 0 0] (mP x)=some (.v (Bo x.up),mP x):=by kernel_rfl
def gRs (xs:List SV) (m:Mem):Option (Bool×SV×Mem) :=
 match xs,uP m with
 | [.ptr 0 0],some x=>some (true,.v (.tuple #[]),mP (rsP x))
 | _,_=>none
theorem qGQ:CtC 38 gRs:=by
 intro xs m r m' h
 unfold gRs at h
 split at h
 case h_2=>cases h
 rename_i x hx
 obtain ⟨_,rfl,rfl⟩:=qaf h
 rw [qdz hx]
 exact qal (Λ:=L0) qOO Tryz.func38 rfl l00 (qJ1 x)
def gUq (xs:List SV) (m:Mem):Option (Bool×Value) :=
 match xs,uP m with
 | [.ptr 0 0],some x=>some (true,Bo x.up)
 | _,_=>none
theorem qGJ:CtR 19 gUq:=by
 intro xs m r h
 unfold gUq at h
 split at h
 case h_2=>cases h
 rename_i x hx
 obtain ⟨_,rfl⟩:=qac h
 rw [qdz hx]
 exact qal (Λ:=L0) qOO Tryz.func19 rfl l00 (qJQ x)
def cyS (x:PS) (i:Inp):PS:=bif x.up then (bif cyX x i != 0 then { cyE x i with up:=false } else cyE x i) else x
def cyR (x:PS) (i:Inp):Ot:=bif x.up then (bif cyX x i != 0 then o0 else teO (cyE x i) (cyJ x i) (cyW x i)) else o0
def qx2 (x:PS) (i:Inp):Bool:=!x.up||(x.ft==0&&(okP x&&qm6 i))
theorem qyp (y:PS) (i:Inp):(cyS y i).lf=y.lf:=by
 unfold cyS
 generalize (cyX y i != 0)=b
 have e:(cyE y i).lf=y.lf:=by kernel_rfl
 cases y.up
 ·rfl
 ·cases b
  ·exact e
  ·exact e
theorem lf0 {y:PS} (hl:y.lf=0):({ y with lf:=0 }:PS)=y:=by
 rcases y with ⟨img,port,base,up,lf,L,R,ft,f,la,a,b,g,e,s,t,m,y,q,fl,cy⟩
 cases hl
 rfl
theorem qFF (y:PS) (i:Inp) (hl:y.lf=0) (h:qx2 y i=true):runG Γq1 L0 Tryz.prog Tryz.f41 [.ptr 0 0,.v (inV i)] (mP y)=some (.v (oV (cyR y i)),mP { cyS y i with lf:=0 }):=by
 rw [lf0 ((qyp y i).trans hl)]
 have r:=qKt y i
 rw [lf0 hl] at r
 refine r.trans ?_
 unfold qx2 at h
 unfold cyS cyR
 cases hu:y.up
 ·rfl
 ·rw [hu] at h
  simp only [Bool.not_true,Bool.false_or,Bool.and_eq_true] at h
  obtain ⟨h1,h2,h3⟩:=h
  have t:=(qFA y i).symm.trans (qHr y i h2 h3)
  rw [hu,h1] at t
  rw [h1]
  have t':cyT y i=(bif cyX y i != 0 then some (.v (oV o0),mP { cyE y i with up:=false }) else some (.v (oV (teO (cyE y i) (cyJ y i) (cyW y i))),mP (cyE y i))):=t
  refine Eq.trans (b:=cyT y i) rfl (t'.trans ?_)
  generalize (cyX y i != 0)=b
  cases b<;>rfl
end Go.Proofs.YtainfdcfkgemhaaGreat.Hr
namespace Go.Proofs.YtainfdcfkgemhaaGreat.Hr
open Go Go.Proofs Go.Sx Nw Pe So
set_option linter.unusedVariables false
def dnP (x:PS) (l:Int):PS:={ x with up:=false,lf:=l }
theorem qCp {x:PS} {l:Int} (h1:x.up=false) (h2:x.lf=l):dnP x l=x:=by
 rcases x with ⟨img,port,base,up,lf,L,R,ft,f,la,a,b,g,e,s,t,m,y,q,fl,cy⟩
 cases h1
 cases h2
 rfl
def gCz (xs:List SV) (m:Mem):Option (Bool×SV×Mem) :=
 match xs,uP m with
 | [.ptr 0 0,.v (.agg ⟨[.string a,.string b,.string c,.string d]⟩)],some x=>match x.lf==0,x.lf==1,x.lf==2 with
  | true,_,_=>some (qx2 x ⟨a,b,c,d⟩,.v (oV (cyR x ⟨a,b,c,d⟩)),mP { cyS x ⟨a,b,c,d⟩ with lf:=0 })
  | false,true,_=>some (!x.up&&qvo (wpU (dnP x 1)),.v (oV o0),buM (wpU (dnP x 1)) (buP (wpU (dnP x 1))))
  | false,false,true=>some (!x.up,.v (oV o0),mP (dnP x 1))
  | false,false,false=>some (!x.up&&x.lf==3,.v (oV o0),mP (dnP x 2))
 | _,_=>none
theorem qG7:CtC 41 gCz:=by
 intro xs m r m' h
 unfold gCz at h
 split at h
 case h_2=>cases h
 rename_i a b c d x hx
 rw [qdz hx]
 split at h
 ·rename_i e1
  obtain ⟨h1,rfl,rfl⟩:=qaf h
  exact qal (Λ:=L0) qJa Tryz.func41 rfl l00 (qFF x ⟨a,b,c,d⟩ (by simpa using e1) h1)
 ·rename_i e1 e2
  obtain ⟨h1,rfl,rfl⟩:=qaf h
  rw [Bool.and_eq_true,Bool.not_eq_true'] at h1
  have e:=qCp (l:=1) h1.1 (by simpa using e2)
  have r:=qKs x ⟨a,b,c,d⟩
  refine qal (Λ:=L0) qJa Tryz.func41 rfl l00 ?_
  have r':runG Γq1 L0 Tryz.prog Tryz.f41 [.ptr 0 0,.v (inV ⟨a,b,c,d⟩)] (mP (dnP x 1))=(bif qvo (wpU (dnP x 1)) then some (.v (oV o0),buM (wpU (dnP x 1)) (buP (wpU (dnP x 1)))) else none):=r
  rw [h1.2] at r'
  rw [e] at r' ⊢
  exact r'
 ·rename_i e1 e2 e3
  obtain ⟨h1,rfl,rfl⟩:=qaf h
  rw [Bool.not_eq_true'] at h1
  have e:=qCp (l:=2) h1 (by simpa using e3)
  have r':runG Γq1 L0 Tryz.prog Tryz.f41 [.ptr 0 0,.v (inV ⟨a,b,c,d⟩)] (mP (dnP x 2))=some (.v (oV o0),mP (dnP x 1)):=qKr x ⟨a,b,c,d⟩
  rw [e] at r'
  exact qal (Λ:=L0) qJa Tryz.func41 rfl l00 r'
 ·rename_i e1 e2 e3
  obtain ⟨h1,rfl,rfl⟩:=qaf h
  rw [Bool.and_eq_true,Bool.not_eq_true'] at h1
  have e:=qCp (l:=3) h1.1 (by simpa using h1.2)
  have r':runG Γq1 L0 Tryz.prog Tryz.f41 [.ptr 0 0,.v (inV ⟨a,b,c,d⟩)] (mP (dnP x 3))=some (.v (oV o0),mP (dnP x 2)):=qKq x ⟨a,b,c,d⟩
  rw [e] at r'
  exact qal (Λ:=L0) qJa Tryz.func41 rfl l00 r'
end Go.Proofs.YtainfdcfkgemhaaGreat.Hr
namespace Go.Proofs.YtainfdcfkgemhaaGreat.Hr
open Go Go.Proofs Go.Sx Nw Pe So
set_option linter.unusedVariables false
def bts (x:PS):Bool:=!x.up&&x.lf==1
def lfP (x:PS) (l:Int):PS:={ x with lf:=l }
def cyN (x:PS) (i:Inp):PS:=bif x.up then cyS x i else lfP x (bif x.lf==0 then 0 else x.lf - 1)
def okN (x:PS) (i:Inp):Bool:=bif x.up then x.lf==0&&(x.ft==0&&(okP x&&qm6 i)) else (x.lf==0||(x.lf==2||x.lf==3))
def btP (x:PS):PS:=buP (wpU (dnP x 1))
def okB (x:PS):Bool:=bts x&&qvo (wpU (dnP x 1))
def gCa (xs:List SV) (m:Mem):Option (Bool×SV×Mem) :=
 match xs,uP m with
 | [.ptr 0 0,.v (.agg ⟨[.string a,.string b,.string c,.string d]⟩)],some x=>some (okN x ⟨a,b,c,d⟩,.v (oV (cyR x ⟨a,b,c,d⟩)),mP (cyN x ⟨a,b,c,d⟩))
 | _,_=>none
def aCa (xs:List SV) (m:Mem):List (Bool×Option (Bool×SV×Mem)) :=
 match xs,uP m with
 | [.ptr 0 0,.v (.agg ⟨[.string a,.string b,.string c,.string d]⟩)],some x=>[(bts x,some (okB x,.v (oV o0),buM (wpU (dnP x 1)) (btP x)))]
 | _,_=>[]
theorem qyj {x:PS} {i:Inp} {r:SV} {m':Mem} (h:gCz [.ptr 0 0,.v (inV i)] (mP x)=some (true,r,m')):qaB Tryz.prog 41 [.ptr 0 0,.v (inV i)] (mP x) r m':=qG7 _ _ _ _ h
theorem qyi (x:PS) (i:Inp):gCz [.ptr 0 0,.v (inV i)] (mP x)=(match x.lf==0,x.lf==1,x.lf==2 with
 | true,_,_=>some (qx2 x i,.v (oV (cyR x i)),mP { cyS x i with lf:=0 })
 | false,true,_=>some (!x.up&&qvo (wpU (dnP x 1)),.v (oV o0),buM (wpU (dnP x 1)) (buP (wpU (dnP x 1))))
 | false,false,true=>some (!x.up,.v (oV o0),mP (dnP x 1))
 | false,false,false=>some (!x.up&&x.lf==3,.v (oV o0),mP (dnP x 2))):=by kernel_rfl
theorem qHs {x:PS} {i:Inp} (h:okN x i=true):qaB Tryz.prog 41 [.ptr 0 0,.v (inV i)] (mP x) (.v (oV (cyR x i))) (mP (cyN x i)):=by
 refine qyj ?_
 rw [qyi]
 unfold okN at h
 unfold cyN
 cases hu:x.up
 ·rw [hu] at h
  simp only [cond_false,Bool.or_eq_true,beq_iff_eq] at h
  have hR:cyR x i=o0:=by unfold cyR;rw [hu];rfl
  rw [hR]
  rcases h with h|h|h
  ·have h1:qx2 x i=true:=by unfold qx2;rw [hu];rfl
   have h2:cyS x i=x:=by unfold cyS;rw [hu];rfl
   have e:lfP x (bif x.lf==0 then 0 else x.lf - 1)=lfP x 0:=by rw [h];rfl
   rw [h1,h2,cond_false,e,h]
   rfl
  ·have e:lfP x (bif x.lf==0 then 0 else x.lf - 1)=dnP x 1:=by
    rcases x with ⟨img,port,base,up,lf,L,R,ft,f,la,a,b,g,e,s,t,m,y,q,fl,cy⟩
    cases hu
    cases h
    rfl
   rw [cond_false,e,h]
   rfl
  ·have e:lfP x (bif x.lf==0 then 0 else x.lf - 1)=dnP x 2:=by
    rcases x with ⟨img,port,base,up,lf,L,R,ft,f,la,a,b,g,e,s,t,m,y,q,fl,cy⟩
    cases hu
    cases h
    rfl
   rw [cond_false,e,h]
   rfl
 ·rw [hu] at h
  simp only [cond_true,Bool.and_eq_true,beq_iff_eq] at h
  obtain ⟨h1,h2,h3,h4⟩:=h
  have h5:qx2 x i=true:=by unfold qx2;rw [hu,h2,h3,h4];rfl
  have h6:({ cyS x i with lf:=0 }:PS)=cyS x i:=lf0 ((qyp x i).trans h1)
  rw [h1,h5,h6]
  rfl
theorem qHb:CtC 41 gCa:=by
 intro xs m r m' h
 unfold gCa at h
 split at h
 case h_2=>cases h
 rename_i a b c d x hx
 obtain ⟨h1,rfl,rfl⟩:=qaf h
 rw [qdz hx]
 exact qHs h1
theorem qHA {x:PS} {i:Inp} (h:okB x=true):qaB Tryz.prog 41 [.ptr 0 0,.v (inV i)] (mP x) (.v (oV o0)) (buM (wpU (dnP x 1)) (btP x)):=by
 refine qyj ?_
 rw [qyi]
 unfold okB bts at h
 simp only [Bool.and_eq_true,beq_iff_eq,Bool.not_eq_true'] at h
 obtain ⟨⟨h1,h2⟩,h3⟩:=h
 rw [h1,h2,h3]
 rfl
theorem qHX:∀ xs m b r m',(b,some (true,r,m'))∈aCa xs m→qaB Tryz.prog 41 xs m r m':=by
 intro xs m b r m' h
 unfold aCa at h
 split at h
 case h_2=>cases h
 rename_i a b' c d x hx
 rw [List.mem_singleton] at h
 injection h with _ h
 obtain ⟨h1,rfl,rfl⟩:=qaf h.symm
 rw [qdz hx]
 exact qHA (i:=⟨a,b',c,d⟩) h1
end Go.Proofs.YtainfdcfkgemhaaGreat.Hr
namespace Go.Proofs.YtainfdcfkgemhaaGreat.Hr
open Go Go.Proofs Go.Sx Nw Pe So
set_option linter.unusedVariables false
theorem qfC {x:Stm} {s:ByteArray}:qia (stA x s)=true:=by
 unfold qia stA
 have h:=qpP (x.w++s)
 rw [qrp (show sat x.v.toNat (sD (x.w++s))<1000001 by have:=qmO x.v.toNat (sD (x.w++s));omega),Nat.ble_eq_true_of_le (show (sR (x.w++s)).size≤69 by omega)]
 rfl
theorem qCH {t a:Int} (h:0≤t∧t≤a) (ha:a≤1000000):0≤qap a t 1∧qap a t 1≤a:=by
 unfold qap qat
 rw [qaw (n:=a - t) (by omega)]
 have k:∀ d:Int,0≤d→d≤a - t→0≤wI (t+d)∧wI (t+d)≤a:=fun d h1 h2=>by rw [qaw (by omega)];omega
 split<;>split<;>(first|exact k _ (by omega) (by omega)|skip)
theorem qw3 {x y:Int} (h:0≤y):0≤qat x y∧qat x y≤y:=by
 unfold qat
 split<;>split<;>omega
theorem qrr {b o:Bool} {x y:Int} (hx:qaM x=true) (hy:qaM y=true):qaM (pk b x (gN o y))=true:=by
 unfold pk gN
 cases b
 ·cases o
  ·exact hy
  ·rfl
 ·exact hx
theorem qm3 {x:Src} {q:Int} {L:List (List Dat)} (h:qpf x=true):qpf (srA x (nvL q L))=true:=by
 unfold qpf at h
 simp only [Bool.and_eq_true,beq_iff_eq] at h
 obtain ⟨h1,h2,h3,h4,h5,h6⟩:=h
 obtain ⟨n1,n2⟩:=qx4 q L
 obtain ⟨g1,g2,g3⟩:=qyc n1
 have h5':=of_decide_eq_true h5
 have ht:0≤(srA x (nvL q L)).t∧(srA x (nvL q L)).t≤1000000:=by
  show 0≤pk (srF x (nvL q L)==0) (qat 0 x.a) (qap x.a x.t 1)∧pk (srF x (nvL q L)==0) (qat 0 x.a) (qap x.a x.t 1)≤1000000
  unfold pk
  rw [h6]
  cases (srF x (nvL q L)==0)
  ·exact qCH (by omega) (by decide)
  ·exact qw3 (by decide)
 show (qaM (pk _ _ _)&&(qaM (pk _ _ _)&&(qaM (pk _ _ _)&&(decide (0≤x.s∧x.s<9223372036854775808)&&(decide (0≤(srA x (nvL q L)).t∧(srA x (nvL q L)).t≤1000000)&&x.a==1000000)))))=true
 rw [qrr g1 h1,qrr g2 h2,qrr g3 h3,h4,decide_eq_true ht,h6]
 rfl
theorem qyH {L:List (List Dat)} (h:qil L=true):L.length=(txt L).size:=by
 have:=congrArg List.length (qnh h)
 rw [qfv] at this
 exact this
theorem qyF {B s:ByteArray} {down waits:Bool} {le k:Int} (hB:B.size≤1000000) (hle:0≤le):(Fq.wrB B down waits le k s).size=B.size:=by
 unfold Fq.wrB
 cases e:Fq.wrN B down k s
 ·unfold Fq.wrN at e
  have e:=bne_eq_false_iff_eq.1 e
  obtain ⟨_,h1,h2,h3⟩:=(Fq.refE_ok (by omega)).1 e
  have:=Fq.tornS_size waits hle s
  exact qqD (by omega)
 ·rfl
theorem qtR {b:Bool} {x y:ByteArray} (h:x.size=y.size):(La.svT b x y).size=y.size:=by
 unfold La.svT
 cases b
 ·rfl
 ·exact h
def qDe (x:PS):Bool:=bif x.up then x.lf==0 else (decide (0≤x.lf)&&decide (x.lf≤3))
structure Rok (L:List (List Dat)):Prop where
 ph:qdI L=true
 ne:qkO L=true
 ln:0<L.length
 vd:∀ p:Int,0≤p→p<(L.length:Int)→(phA L p).length≤1000000∧0≤phV L p∧phV L p≤2199023255552
structure Inv (n:Nat) (x:PS):Prop where
 bt:qx3 x.img x.port=true
 mL:x.m.L=btL x.img
 mp:0≤x.m.p∧x.m.p<((btL x.img).length:Int)
 ft:x.ft=0
 h:okH x=true
 fr:qil x.f.F=true∧(txt x.f.F).size=n
 le:0≤x.f.le
 ba:0≤x.base∧x.base+48≤(n:Int)∧n≤1000000
 lf:qDe x=true
theorem qF3 {k:Nat} (h0:0<k) (h1:k≤4):Rok (List.replicate k phE):=by
 have key:∀ p:Int,0≤p→p<(k:Int)→(List.replicate k phE).getD p.toNat []=phE:=by
  intro p h2 h3
  rw [List.getD_eq_getElem?_getD,List.getElem?_eq_getElem (by rw [List.length_replicate];omega),Option.getD_some,List.getElem_replicate]
 refine ⟨?_,?_,by rw [List.length_replicate];exact h0,fun p h2 h3=>?_⟩
 ·rcases (show k=1∨k=2∨k=3∨k=4 by omega) with rfl|rfl|rfl|rfl<;>kernel_rfl
 ·rcases (show k=1∨k=2∨k=3∨k=4 by omega) with rfl|rfl|rfl|rfl<;>kernel_rfl
 ·rw [List.length_replicate] at h3
  unfold phA phV
  rw [key p h2 h3]
  exact ⟨by decide,by decide,by decide⟩
theorem qnL (s:ByteArray):0<btK s∧btK s≤4:=by
 unfold btK
 cases eqS s im1<;>cases eqS s im2<;>cases eqS s im3<;>exact ⟨by decide,by decide⟩
theorem qCw (s:ByteArray):Rok (btL s):=qF3 (qnL s).1 (qnL s).2
theorem Inv.okJ {n:Nat} {x:PS} (h:Inv n x):Hr.okJ x=true:=by
 obtain ⟨r1,r2,r3,r4⟩:=qCw x.img
 obtain ⟨v1,v2,v3⟩:=r4 x.m.p h.mp.1 h.mp.2
 unfold Hr.okJ qzM qF5
 rw [h.mL,r1,r2,decide_eq_true h.mp.1,decide_eq_true h.mp.2,Nat.ble_eq_true_of_le v1,decide_eq_true ⟨v2,v3⟩]
 rfl
theorem Inv.okLc {n:Nat} {x:PS} (h:Inv n x):Hr.okLc x.f.F x.f.le=true:=by
 have:=qyH h.fr.1
 have h2:=h.fr.2
 have h3:=h.ba.2.2
 unfold Hr.okLc
 rw [h.fr.1,decide_eq_true h.le,Nat.ble_eq_true_of_le (by omega)]
 rfl
theorem Inv.okP {n:Nat} {x:PS} (h:Inv n x):Hr.okP x=true:=by
 unfold Hr.okP
 rw [h.h,h.okJ,h.okLc]
 rfl
theorem qx1 {x:PS} (a:qia x.a=true) (b:qia x.b=true) (g:qia x.g=true) (e:qia x.e=true) (s:qpf x.s=true) (t:qpf x.t=true):okH x=true:=by
 unfold okH
 rw [a,b,g,e,s,t]
 rfl
theorem qzN {x:PS} (h:okH x=true):qia x.a=true∧qia x.b=true∧qia x.g=true∧qia x.e=true∧qpf x.s=true∧qpf x.t=true:=by
 unfold okH at h
 simpa only [Bool.and_eq_true] using h
theorem qme (x:PS) (i:Inp):(Hr.cyE x i).img=x.img:=by kernel_rfl
theorem qwZ (x:PS) (i:Inp):(Hr.cyE x i).port=x.port:=by kernel_rfl
theorem qHv (x:PS) (i:Inp):(Hr.cyE x i).ft=x.ft:=by kernel_rfl
theorem qHu (x:PS) (i:Inp):(Hr.cyE x i).f.le=x.f.le:=by kernel_rfl
theorem qw0 (x:PS) (i:Inp):(Hr.cyE x i).base=x.base:=by kernel_rfl
theorem qHt (x:PS) (i:Inp):(Hr.cyE x i).up=x.up:=by kernel_rfl
theorem qyq (x:PS) (i:Inp):(Hr.cyE x i).lf=x.lf:=by kernel_rfl
theorem Inv.cyE {n:Nat} {x:PS} (h:Inv n x) (i:Inp):Inv n (Hr.cyE x i):=by
 obtain ⟨a1,a2,a3,a4,a5,a6⟩:=qzN h.h
 refine ⟨by rw [qme,qwZ];exact h.bt,?_,?_,by rw [qHv];exact h.ft,?_,?_,by rw [qHu];exact h.le,by rw [qw0];exact h.ba,by unfold qDe;rw [qHt,qyq];exact h.lf⟩
 ·have e1:(cpM (cyC x i) (cyH x i) (cyJ x i)).L=x.m.L:=by kernel_rfl
  have e2:(cyC x i).m.L=x.m.L:=by kernel_rfl
  have e0:(Hr.cyE x i).m=bif (cyC x i).fl then cpM (cyC x i) (cyH x i) (cyJ x i) else (cyC x i).m:=by kernel_rfl
  rw [qme,e0]
  cases (cyC x i).fl
  ·exact e2.trans h.mL
  ·exact e1.trans h.mL
 ·have e1:(cpM (cyC x i) (cyH x i) (cyJ x i)).p=bif cpC (cyC x i) (cyH x i) (cyJ x i) then wI (x.m.p+1) else x.m.p:=by kernel_rfl
  have e2:(cyC x i).m=x.m:=by kernel_rfl
  have e0:(Hr.cyE x i).m=bif (cyC x i).fl then cpM (cyC x i) (cyH x i) (cyJ x i) else (cyC x i).m:=by kernel_rfl
  rw [qme,e0]
  cases (cyC x i).fl
  ·rw [cond_false,e2];exact h.mp
  ·rw [cond_true,e1]
   cases e:cpC (cyC x i) (cyH x i) (cyJ x i)
   ·exact h.mp
   ·unfold cpC Ph.cyB at e
    have hl:(btL x.img).length≤4:=by unfold btL;rw [List.length_replicate];exact (qnL _).2
    have hl0:=(qCw x.img).ln
    rw [e2,h.mL,qaw (n:=((btL x.img).length:Int) - 1) (by omega)] at e
    have hp:=h.mp
    by_cases hq:x.m.p≥((btL x.img).length:Int) - 1
    ·rw [decide_eq_true hq] at e;cases e
    ·rw [cond_true,qaw (by omega)]
     omega
 ·have ea:(Hr.cyE x i).a=stA x.a i.a:=by kernel_rfl
  have eb:(Hr.cyE x i).b=stA x.b i.b:=by kernel_rfl
  have eg:(Hr.cyE x i).g=stA x.g i.c:=by kernel_rfl
  have ee:(Hr.cyE x i).e=stA x.e i.d:=by kernel_rfl
  have es:(Hr.cyE x i).s=srA x.s (nvL 0 (stF x.a i.a)):=by kernel_rfl
  have et:(Hr.cyE x i).t=srA x.t (nvL 1 (stF x.b i.b)):=by kernel_rfl
  exact qx1 (by rw [ea];exact qfC) (by rw [eb];exact qfC) (by rw [eg];exact qfC) (by rw [ee];exact qfC) (by rw [es];exact qm3 a5) (by rw [et];exact qm3 a6)
 ·have eF:(Hr.cyE x i).f.F=qdG (La.svT (svK (qD9 (cyD x i))) (Fq.wrB (txt x.f.F) x.f.dn x.f.wt x.f.le (svA (cyD x i)) (svS (qD9 (cyD x i)))) (txt x.f.F)):=by kernel_rfl
  rw [eF]
  refine ⟨qAh _,?_⟩
  rw [qdh]
  have hs:(txt x.f.F).size≤1000000:=by rw [h.fr.2];exact h.ba.2.2
  exact (qtR (qyF hs h.le)).trans h.fr.2
theorem Inv.upd {n:Nat} {x:PS} (h:Inv n x) {u:Bool} {l:Int} (hl:(bif u then l==0 else (decide (0≤l)&&decide (l≤3)))=true):Inv n { x with up:=u,lf:=l }:=⟨h.bt,h.mL,h.mp,h.ft,h.h,h.fr,h.le,h.ba,hl⟩
theorem Inv.up0 {n:Nat} {x:PS} (h:Inv n x) (hu:x.up=true):x.lf=0:=by
 have:=h.lf
 unfold qDe at this
 rw [hu] at this
 exact beq_iff_eq.1 this
theorem Inv.dn {n:Nat} {x:PS} (h:Inv n x) (hu:x.up=false):0≤x.lf∧x.lf≤3:=by
 have:=h.lf
 unfold qDe at this
 rw [hu,cond_false,Bool.and_eq_true,decide_eq_true_eq,decide_eq_true_eq] at this
 exact this
theorem Inv.okN {n:Nat} {x:PS} (h:Inv n x) {i:Inp} (hi:qm6 i=true) (hb:bts x=false):Hr.okN x i=true:=by
 unfold Hr.okN
 unfold bts at hb
 cases hu:x.up
 ·have hd:=h.dn hu
  rw [hu] at hb
  have hb:(x.lf==1)=false:=hb
  have:=beq_eq_false_iff_ne.1 hb
  rw [cond_false]
  rcases (show x.lf=0∨x.lf=2∨x.lf=3 by omega) with e|e|e<;>rw [e]<;>rfl
 ·rw [cond_true,h.up0 hu,h.ft,h.okP,hi]
  rfl
theorem Inv.cyN {n:Nat} {x:PS} (h:Inv n x) {i:Inp} (hb:bts x=false):Inv n (Hr.cyN x i):=by
 have hE:=h.cyE i
 unfold Hr.cyN cyS
 cases hu:x.up
 ·have hd:=h.dn hu
  refine h.upd (u:=x.up) (l:=bif x.lf==0 then 0 else x.lf - 1) ?_
  rw [hu]
  cases e:x.lf==0
  ·have:=beq_eq_false_iff_ne.1 e
   show (decide (0≤x.lf - 1)&&decide (x.lf - 1≤3))=true
   rw [Bool.and_eq_true,decide_eq_true_eq,decide_eq_true_eq]
   omega
  ·rfl
 ·show Inv n (bif cyX x i != 0 then _ else _)
  cases cyX x i != 0
  ·exact hE
  ·have e:(Hr.cyE x i).lf=0:=(qyq x i).trans (h.up0 hu)
   refine hE.upd (u:=false) (l:=(Hr.cyE x i).lf) ?_
   rw [e]
   rfl
theorem Inv.rs {n:Nat} {x:PS} (h:Inv n x):Inv n (rsP x):=h.upd rfl
def teP (x:PS) (k:Int):PS:={ x with f:={ x.f with wt:=true,le:=if k>0 then k else 0 } }
theorem Inv.te {n:Nat} {x:PS} (h:Inv n x) (k:Int):Inv n (teP x k):=⟨h.bt,h.mL,h.mp,h.ft,h.h,h.fr,by show 0≤(if k>0 then k else 0);split<;>omega,h.ba,h.lf⟩
def zkP (k:Nat):PS:={ x0 zS 0 0 ⟨[],false,false,0,0,0⟩ with L:=List.replicate k phE,R:=⟨2,3,4,2,50,2,10,(k:Int)⟩ }
theorem qzO {s:ByteArray} {y:PS} (hL:y.L=btL s) (hR:y.R=btR s):qkP y=true:=by
 have e:qkP y=qkP (zkP (btK s)):=by
  unfold qkP
  rw [hL,hR]
  rfl
 rw [e]
 have:=qnL s
 generalize btK s=k at this
 have h1:qkP (zkP 1)=true:=by kernel_rfl
 have h2:qkP (zkP 2)=true:=by kernel_rfl
 have h3:qkP (zkP 3)=true:=by kernel_rfl
 have h4:qkP (zkP 4)=true:=by kernel_rfl
 rcases (show k=1∨k=2∨k=3∨k=4 by omega) with e|e|e|e<;>rw [e]<;>assumption
theorem Inv.okB {n:Nat} {x:PS} (h:Inv n x) (hb:bts x=true):Hr.okB x=true:=by
 have hs:=h.fr.2
 have hn:=h.ba
 unfold Hr.okB qvo
 rw [hb,show (wpU (dnP x 1)).f.F=x.f.F from rfl,show (wpU (dnP x 1)).f.le=x.f.le from rfl,h.okLc,show (wpU (dnP x 1)).img=x.img from rfl,show (wpU (dnP x 1)).port=x.port from rfl,h.bt,qzO (s:=x.img) (y:=buY (wpU (dnP x 1))) rfl rfl,show (wpU (dnP x 1)).f.dn=false from rfl,show (wpU (dnP x 1)).base=x.base from rfl,(Fq.refE_ok (down:=false) (size:=((txt x.f.F).size:Int)) (k:=x.base) (n:=48) (by omega)).2 ⟨rfl,by omega,by omega,by omega⟩]
 rfl
theorem qmj (x:PS):(btP x).img=x.img:=by kernel_rfl
theorem qw7 (x:PS):(btP x).port=x.port:=by kernel_rfl
theorem qw8 (x:PS):(btP x).base=x.base:=by kernel_rfl
theorem qHF (x:PS):(btP x).ft=0:=by kernel_rfl
theorem qHz (x:PS):(btP x).up=true:=by kernel_rfl
theorem qHD (x:PS):(btP x).lf=0:=by kernel_rfl
theorem qHC (x:PS):(btP x).m.L=btL x.img:=by kernel_rfl
theorem qMB (x:PS):(btP x).f.F=x.f.F:=by kernel_rfl
theorem qHE (x:PS):(btP x).f.le=x.f.le:=by kernel_rfl
theorem qHB (x:PS):(btP x).m.p=bif Ph.seB (btL x.img) (buL (wpU (dnP x 1))).r.p (buL (wpU (dnP x 1))).r.n then (buL (wpU (dnP x 1))).r.p else 0:=by kernel_rfl
theorem qMA (x:PS):okH (btP x)=true:=by
 have ea:(btP x).a=⟨zS,1000000,0⟩:=by kernel_rfl
 have eb:(btP x).b=⟨zS,1000000,0⟩:=by kernel_rfl
 have eg:(btP x).g=⟨zS,1000000,0⟩:=by kernel_rfl
 have ee:(btP x).e=⟨zS,1000000,0⟩:=by kernel_rfl
 have es:(btP x).s=⟨50,2,⟨0,0,0,0,0,0,0,0⟩,false,1000000,0⟩:=by kernel_rfl
 have et:(btP x).t=⟨50,2,⟨0,0,0,0,0,0,0,0⟩,false,1000000,0⟩:=by kernel_rfl
 have k1:qia ⟨zS,1000000,0⟩=true:=by kernel_rfl
 have k2:qpf ⟨50,2,⟨0,0,0,0,0,0,0,0⟩,false,1000000,0⟩=true:=by kernel_rfl
 exact qx1 (by rw [ea];exact k1) (by rw [eb];exact k1) (by rw [eg];exact k1) (by rw [ee];exact k1) (by rw [es];exact k2) (by rw [et];exact k2)
theorem Inv.bt' {n:Nat} {x:PS} (h:Inv n x):Inv n (btP x):=by
 have hl0:=(qCw x.img).ln
 refine ⟨by rw [qmj,qw7];exact h.bt,by rw [qmj];exact qHC x,?_,qHF x,qMA x,by rw [qMB];exact h.fr,by rw [qHE];exact h.le,by rw [qw8];exact h.ba,by unfold qDe;rw [qHz,qHD];rfl⟩
 rw [qmj,qHB]
 cases e:Ph.seB (btL x.img) (buL (wpU (dnP x 1))).r.p (buL (wpU (dnP x 1))).r.n
 ·exact ⟨Int.le_refl _,by show (0:Int)<((btL x.img).length:Int);omega⟩
 ·unfold Ph.seB at e
  generalize (buL (wpU (dnP x 1))).r.p=q at *
  by_cases h1:q<0
  ·rw [decide_eq_true h1] at e;cases e
  by_cases h2:q≥((btL x.img).length:Int)
  ·rw [decide_eq_false h1,decide_eq_true h2] at e;cases e
  exact ⟨by show 0≤q;omega,by show q<((btL x.img).length:Int);omega⟩
end Go.Proofs.YtainfdcfkgemhaaGreat.Hr
