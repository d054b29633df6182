/-
  Cycles' inputs,lists of them;missions of one to four phases and their images.
-/
import Derived.Test.YtainfdcfkgemhaaGreatYm
import Derived.Test.YtainfdcfkgemhaaGreatYl
import Derived.Test.YtainfdcfkgemhaaGreatYk
import Derived.Test.YtainfdcfkgemhaaGreatYe
import Derived.Test.YtainfdcfkgemhaaGreatSx
set_option maxRecDepth 100000
noncomputable section
namespace Go.Proofs.YtainfdcfkgemhaaGreat.Hr
open Go Go.Proofs Go.Sx Pe
set_option linter.unusedVariables false
structure O6 where
 a:Int
 b:Int
 c:Int
 d:Int
 e:Int
 f:Int
structure Op5 where
 d0:Int
 d1:Int
 d2:Int
 p:O6
 q:O6
 m0:Int
 m1:Int
 s0:ByteArray
 s1:ByteArray
 g0:Int
 g1:Int
 k0:Int
 k1:Int
 r0:Bool
 r1:Bool
 t0:Int
 t1:Int
def i8 (x:Int):Value:=.int .i8 x
def qKG (o:Op5):Value:=.agg #[i8 o.d0,i8 o.d1,i8 o.d2,i8 o.p.a,i8 o.p.b,i8 o.p.c,i8 o.p.d,i8 o.p.e,i8 o.p.f,i8 o.q.a,i8 o.q.b,i8 o.q.c,i8 o.q.d,i8 o.q.e,i8 o.q.f,I o.m0,I o.m1,S o.s0,S o.s1,I o.g0,I o.g1,I o.k0,I o.k1,Bo o.r0,Bo o.r1,I o.t0,I o.t1]
def Γfi:Orc:={ qay 73 qL4 (qay 69 gTd (qah 74 gCt ΓO)) with av:=true,bs:=true,sb:=true }
theorem Okfi:Γfi.Ok Tryz.prog:=⟨(qai (qai (qaa OkO qgt) qnn) ql0).call,(qai (qai (qaa OkO qgt) qnn) ql0).rd,(qai (qai (qaa OkO qgt) qnn) ql0).eqv⟩
def an4 (b:Int):Int:=wI ((BitVec.ofInt 64 b &&& BitVec.ofInt 64 4).toNat:Int)
def an1 (b:Int):Int:=wI ((BitVec.ofInt 64 b &&& BitVec.ofInt 64 1).toNat:Int)
def sh3 (b:Int):Int:=b.fdiv 8
def fiA (n:Nv) (o:Op5):ByteArray:=tdT 0 n o.p.a o.p.b o.p.c o.p.d o.p.e o.p.f
def fiB (n:Nv) (o:Op5):ByteArray:=tdT 1 n o.q.a o.q.b o.q.c o.q.d o.q.e o.q.f
def fbW (n:Nv) (m:Int) (s:ByteArray):ByteArray:=fbT (an1 m) n (sh3 m) s
def pt0 (n:Nv) (A:ByteArray) (m:Int) (s:ByteArray):ByteArray:=bif an4 m != 0 then (bif an1 m==0 then fbW n m s else A) else A
def pt1 (n:Nv) (A:ByteArray) (m:Int) (s:ByteArray):ByteArray:=bif an4 m != 0 then (bif an1 m==0 then A else fbW n m s) else A
def qya (n:Nv) (o:Op5):Uin:=⟨pt0 n (fiA n o) o.m0 o.s0,pt1 n (fiB n o) o.m0 o.s0,pt0 n (fiA n o) o.m1 o.s1,pt1 n (fiB n o) o.m1 o.s1,ctT o.g0,ctT o.g1,o.k0,o.k1,o.r0,o.r1,o.t0,o.t1⟩
def v8 (x:Int):SA:=.v (.int .i8 x)
def cO5 (o:Op5):List SA:=v8 o.d0::v8 o.d1::v8 o.d2::v8 o.p.a::v8 o.p.b::v8 o.p.c::v8 o.p.d::v8 o.p.e::v8 o.p.f::v8 o.q.a::v8 o.q.b::v8 o.q.c::v8 o.q.d::v8 o.q.e::v8 o.q.f::[.v (I o.m0),.v (I o.m1),.v (S o.s0),.v (S o.s1),.v (I o.g0),.v (I o.g1),.v (I o.k0),.v (I o.k1),.v (Bo o.r0),.v (Bo o.r1),.v (I o.t0),.v (I o.t1)]
def u6 (b:List SA):Option (O6×List SA):=match b with
 | .v (.int .i8 a)::.v (.int .i8 b)::.v (.int .i8 c)::.v (.int .i8 d)::.v (.int .i8 e)::.v (.int .i8 f)::r=>some (⟨a,b,c,d,e,f⟩,r)
 | _=>none
theorem qD3 {b r:List SA} {x:O6} (h:u6 b=some (x,r)):b=v8 x.a::v8 x.b::v8 x.c::v8 x.d::v8 x.e::v8 x.f::r:=by
 unfold u6 at h
 split at h
 ·injection h with h
  injection h with h1 h2
  subst h1 h2
  rfl
 ·cases h
def uO5 (b:List SA):Option Op5:=match b with
 | .v (.int .i8 d0)::.v (.int .i8 d1)::.v (.int .i8 d2)::r=>match u6 r with
  | some (p,r)=>match u6 r with
   | some (q,[.v (.int .i64 m0),.v (.int .i64 m1),.v (.string s0),.v (.string s1),.v (.int .i64 g0),.v (.int .i64 g1),.v (.int .i64 k0),.v (.int .i64 k1),.v (.bool r0),.v (.bool r1),.v (.int .i64 t0),.v (.int .i64 t1)])=>some ⟨d0,d1,d2,p,q,m0,m1,s0,s1,g0,g1,k0,k1,r0,r1,t0,t1⟩
   | _=>none
  | none=>none
 | _=>none
theorem qxA {b:List SA} {o:Op5} (h:uO5 b=some o):b=cO5 o:=by
 unfold uO5 at h
 split at h
 case h_2=>cases h
 split at h
 case h_2=>cases h
 rename_i p r1 h1
 split at h
 case h_2=>cases h
 rename_i q m0 m1 s0 s1 g0 g1 k0 k1 r0 r1 t0 t1 h2
 injection h with h
 subst h
 rw [qD3 h1,qD3 h2]
 rfl
def cUi (u:Uin):List SA:=[.v (S u.a0),.v (S u.a1),.v (S u.b0),.v (S u.b1),.v (S u.g0),.v (S u.g1),.v (I u.k0),.v (I u.k1),.v (Bo u.r0),.v (Bo u.r1),.v (I u.t0),.v (I u.t1)]
def zUi:Uin:=⟨⟨#[]⟩,⟨#[]⟩,⟨#[]⟩,⟨#[]⟩,⟨#[]⟩,⟨#[]⟩,0,0,false,false,0,0⟩
def qI5:Code:=qaH (Tryz.f34.body.getD .skip) 0
def kIn:List Bool:=qam 75 [0,3,4,5,15]
def xIn (e:Ex):List Bool:=match e with
 | .exit _=>qam 75 [4,5]
 | .ret=>qam 75 [4]
 | .normal=>qam 75 [0,3,4,5,15]
def KIn (e:Ex) (st:St):Option (Ex×St):=some (e,qav 1 1 (xIn e) st)
def mIn (x:Fl) (o:Op5):Mem:=⟨[cFi 0 x,cO5 o,cUi zUi,cUi { zUi with k0:=o.k0,k1:=o.k1,r0:=o.r0,r1:=o.r1,t0:=o.t0,t1:=o.t1 }],tt 4,[rPh x.L]⟩
def qKO (x:Fl) (u:Uin):Mem:=⟨[cFi 0 x,cUi zUi,cUi u],tt 3,[rPh x.L]⟩
def inL (x:Fl) (o:Op5) (a0 a1 b0 b1:ByteArray):Option (Ex×St):=some (.exit 0,mk (xIn (.exit 0)) [.ptr 1 0,.ptr 2 0] (qKO (wE x) ⟨a0,a1,b0,b1,ctT o.g0,ctT o.g1,o.k0,o.k1,o.r0,o.r1,o.t0,o.t1⟩))
def qGA (x:Fl) (o:Op5) (a0 a1:ByteArray):Option (Ex×St):=bif an4 o.m1 != 0 then (bif an1 o.m1==0 then inL x o a0 a1 (fbW x.n o.m1 o.s1) (fiB x.n o) else (bif an1 o.m1==1 then inL x o a0 a1 (fiA x.n o) (fbW x.n o.m1 o.s1) else none)) else inL x o a0 a1 (fiA x.n o) (fiB x.n o)
theorem qEd (x:Fl) (o:Op5):qaj Γfi Tryz.prog (qbv Γfi Tryz.prog 8 1) (qav 1 1 kIn) qI5 3 (mk kIn [.ptr 0 0,.ptr 1 0,.ptr 2 0,.ptr 3 0,.v (I 0)] (mIn (wE x) o)) KIn=(bif an4 o.m0 != 0 then (bif an1 o.m0==0 then qGA x o (fbW x.n o.m0 o.s0) (fiB x.n o) else (bif an1 o.m0==1 then qGA x o (fiA x.n o) (fbW x.n o.m0 o.s0) else none)) else qGA x o (fiA x.n o) (fiB x.n o)):=by kernel_rfl
theorem qzU (n m:Int) (h0:0≤m) (h1:m<9223372036854775808):0≤wI ((BitVec.ofInt 64 n &&& BitVec.ofInt 64 m).toNat:Int)∧wI ((BitVec.ofInt 64 n &&& BitVec.ofInt 64 m).toNat:Int)≤m:=by
 obtain ⟨k,rfl⟩:=Int.eq_ofNat_of_zero_le h0
 have e:(BitVec.ofInt 64 n &&& BitVec.ofInt 64 (k:Int)).toNat≤k:=by
  rw [BitVec.toNat_and,BitVec.ofInt_natCast,BitVec.toNat_ofNat,Nat.mod_eq_of_lt (a:=k) (by omega)]
  exact Nat.and_le_right
 rw [qaw (by omega)]
 omega
theorem qyv (b:Int):an1 b=0∨an1 b=1:=by
 have:=qzU b 1 (by decide) (by decide)
 unfold an1
 omega
theorem qrq (x:Fl) (o:Op5) (a0 a1:ByteArray):qGA x o a0 a1=inL x o a0 a1 (pt0 x.n (fiA x.n o) o.m1 o.s1) (pt1 x.n (fiB x.n o) o.m1 o.s1):=by
 unfold qGA pt0 pt1
 cases an4 o.m1 != 0
 ·rfl
 ·rcases qyv o.m1 with h|h<;>rw [h]<;>rfl
theorem qyN (x:Fl) (o:Op5):qaj Γfi Tryz.prog (qbv Γfi Tryz.prog 8 1) (qav 1 1 kIn) qI5 3 (mk kIn [.ptr 0 0,.ptr 1 0,.ptr 2 0,.ptr 3 0,.v (I 0)] (mIn (wE x) o)) KIn=some (.exit 0,mk (xIn (.exit 0)) [.ptr 1 0,.ptr 2 0] (qKO (wE x) (qya x.n o))):=by
 refine (qEd x o).trans ?_
 rw [qrq,qrq,qrq]
 unfold qya pt0 pt1
 cases an4 o.m0 != 0
 ·rfl
 ·rcases qyv o.m0 with h|h<;>rw [h]<;>rfl
def uUz (b:List SA):Option Uin:=match b with
 | .v (.string a0)::.v (.string a1)::.v (.string b0)::.v (.string b1)::.v (.string g0)::.v (.string g1)::r=>match r with
  | [.v (.int .i64 k0),.v (.int .i64 k1),.v (.bool r0),.v (.bool r1),.v (.int .i64 t0),.v (.int .i64 t1)]=>some ⟨a0,a1,b0,b1,g0,g1,k0,k1,r0,r1,t0,t1⟩
  | _=>none
 | _=>none
theorem qxx {b:List SA} {u:Uin} (h:uUz b=some u):b=cUi u:=by
 unfold uUz at h
 split at h
 ·split at h
  ·injection h with h
   subst h
   rfl
  ·cases h
 ·cases h
def qIN (u:Uin):Bool:=Nat.beq u.a0.size 0&&(Nat.beq u.a1.size 0&&(Nat.beq u.b0.size 0&&(Nat.beq u.b1.size 0&&(Nat.beq u.g0.size 0&&Nat.beq u.g1.size 0))))
def qOk (u:Uin):Bool:=qIN u&&(u.k0==0&&(u.k1==0&&(!u.r0&&(!u.r1&&(u.t0==0&&u.t1==0)))))
def qOl (u:Uin) (o:Op5):Bool:=qIN u&&(u.k0==o.k0&&(u.k1==o.k1&&(u.r0==o.r0&&(u.r1==o.r1&&(u.t0==o.t0&&u.t1==o.t1)))))
theorem zB0 {s:ByteArray} (h:Nat.beq s.size 0=true):s=⟨#[]⟩:=by
 rw [← qiW]
 exact List.eq_nil_of_length_eq_zero (by rw [qgJ];exact Nat.eq_of_beq_eq_true h)
theorem qrk {u:Uin} (h:qIN u=true):u={ zUi with k0:=u.k0,k1:=u.k1,r0:=u.r0,r1:=u.r1,t0:=u.t0,t1:=u.t1 }:=by
 unfold qIN at h
 simp only [Bool.and_eq_true] at h
 obtain ⟨h1,h2,h3,h4,h5,h6⟩:=h
 rcases u with ⟨a0,a1,b0,b1,g0,g1,k0,k1,r0,r1,t0,t1⟩
 obtain rfl:=zB0 h1
 obtain rfl:=zB0 h2
 obtain rfl:=zB0 h3
 obtain rfl:=zB0 h4
 obtain rfl:=zB0 h5
 obtain rfl:=zB0 h6
 rfl
def uIn (m:Mem):Option (Fl×Op5×Uin×Uin):=match m with
 | ⟨[b0,b1,b2,b3],lv,[r]⟩=>match qvW 4 lv,zPh r,uFi 0 b0,uO5 b1,uUz b2,uUz b3 with
  | true,some L,some (R,n),some o,some u,some w=>some (⟨L,R,n⟩,o,u,w)
  | _,_,_,_,_,_=>none
 | _=>none
theorem qDS {m:Mem} {x:Fl} {o:Op5} {u w:Uin} (h:uIn m=some (x,o,u,w)):m=⟨[cFi 0 x,cO5 o,cUi u,cUi w],tt 4,[rPh x.L]⟩:=by
 unfold uIn at h
 split at h
 case h_2=>cases h
 split at h
 case h_2=>cases h
 rename_i h1 h2 h3 h4 h5 h6
 injection h with h
 injection h with e1 h
 injection h with e2 h
 injection h with e3 e4
 subst e1 e2 e3 e4
 rw [qdc h1,qi5 h2,qpv h3,qxA h4,qxx h5,qxx h6]
 rfl
def GIn (vals:List SV) (m:Mem):Option (Bool×LT) :=
 match vals,uIn m with
 | [.ptr 0 0,.ptr 1 0,.ptr 2 0,.ptr 3 0,.v (.int .i64 i)],some (x,o,u,w)=>some (i==0&&(qtA x&&(qOk u&&qOl w o)),.leaf (.exit 0) (mk (xIn (.exit 0)) [.ptr 1 0,.ptr 2 0] (qKO x (qya x.n o))))
 | _,_=>none
def ΛIn:qao:=fun _ st=>qkN 1 1 kIn GIn st
theorem qvO (z:Base) (z1:z.L.length=1) (z2:z.U.length=1):qas ΛIn Tryz.prog z qI5:=by
 refine qa5 (Λ:=qbv Γfi Tryz.prog 8 1) (kx:=xIn) Okfi mixed z1 z2 (fun b _=>qaG Okfi mixed 8 1 b) (G:=GIn) (fun _=>rfl) ?_
 intro vals m t h
 unfold GIn at h
 split at h
 case h_2=>cases h
 rename_i i x o u w hm
 obtain ⟨h1,rfl⟩:=qac h
 simp only [Bool.and_eq_true,beq_iff_eq] at h1
 obtain ⟨rfl,hx,hu,hw⟩:=h1
 rw [qDS hm]
 have e:=qyN x o
 rw [qkS hx] at e
 unfold qOk at hu
 unfold qOl at hw
 simp only [Bool.and_eq_true,beq_iff_eq,Bool.not_eq_true'] at hu hw
 obtain ⟨u0,u1,u2,u3,u4,u5,u6⟩:=hu
 obtain ⟨w0,w1,w2,w3,w4,w5,w6⟩:=hw
 have eu:u=zUi:=by
  rw [qrk u0,u1,u2,u3,u4,u5,u6]
  rfl
 have ew:w={ zUi with k0:=o.k0,k1:=o.k1,r0:=o.r0,r1:=o.r1,t0:=o.t0,t1:=o.t1 }:=by
  rw [qrk w0,w1,w2,w3,w4,w5,w6]
 rw [eu,ew]
 exact ⟨3,e⟩
theorem qz7:qak (Tryz.f34.body.getD .skip)=[qI5]:=by kernel_rfl
theorem runFi (x:Fl) (o:Op5):runG Γfi ΛIn Tryz.prog Tryz.f34 [.ptr 0 0,.v (qKG o)] (fM x)=(bif qtA x&&(o.k0==o.k0&&(o.k1==o.k1&&(o.r0==o.r0&&(o.r1==o.r1&&(o.t0==o.t0&&o.t1==o.t1))))) then some (.v (uiV (qya x.n o)),fM x) else none):=by kernel_rfl
def uOv (v:Value):Option Op5:=match v with
 | .agg ⟨l⟩=>uO5 (l.map .v)
 | _=>none
theorem qGb:∀ {l l':List Value},l.map SA.v=l'.map SA.v→l=l'
 | [],[],_=>rfl
 | a::l,b::l',h=>by
  injection h with h1 h2
  injection h1 with h1
  rw [h1,qGb h2]
 | [],_::_,h=>by cases h
 | _::_,[],h=>by cases h
theorem qDP {v:Value} {o:Op5} (h:uOv v=some o):v=qKG o:=by
 unfold uOv at h
 split at h
 ·rename_i l
  have:=qxA h
  have e:l=(qKG o).cells.toList:=qGb (this.trans rfl)
  rw [e]
  rfl
 ·cases h
def gFi (xs:List SV) (m:Mem):Option (Bool×Value) :=
 match xs,uF0 m with
 | [.ptr 0 0,.v v],some x=>match uOv v with
  | some o=>some (qtA x,uiV (qya x.n o))
  | none=>none
 | _,_=>none
theorem gFi_ok:CtR 34 gFi:=by
 intro xs m r h
 unfold gFi at h
 split at h
 case h_2=>cases h
 rename_i v x hx
 split at h
 case h_2=>cases h
 rename_i o ho
 obtain ⟨h1,rfl⟩:=qac h
 rw [qmF hx,qDP ho]
 refine qal (Λ:=ΛIn) Okfi Tryz.func34 rfl (fun z z1 z2=>qax qz7 (qvO z z1 z2)) ((runFi x o).trans ?_)
 rw [h1]
 simp only [beq_self_eq_true,Bool.and_self,cond_true]
end Go.Proofs.YtainfdcfkgemhaaGreat.Hr
namespace Go.Proofs.YtainfdcfkgemhaaGreat.Hr
open Go Go.Proofs Go.Sx Nw Pe So
set_option linter.unusedVariables false
def tl:Nat→List Dat→List Dat
 | 0,l=>l
 | n+1,l=>tl n l.tail
def gI (n:Nat) (l:List Dat):Int:=((tl n l).headD (.n 0)).toI
def gS (n:Nat) (l:List Dat):ByteArray:=((tl n l).headD (.n 0)).toS
def gB (n:Nat) (l:List Dat):Bool:=((tl n l).headD (.n 0)).toB
def qxZ (l:List Dat):Op5:=⟨gI 0 l,gI 1 l,gI 2 l,⟨gI 3 l,gI 4 l,gI 5 l,gI 6 l,gI 7 l,gI 8 l⟩,⟨gI 9 l,gI 10 l,gI 11 l,gI 12 l,gI 13 l,gI 14 l⟩,gI 15 l,gI 16 l,gS 17 l,gS 18 l,gI 19 l,gI 20 l,gI 21 l,gI 22 l,gB 23 l,gB 24 l,gI 25 l,gI 26 l⟩
def qGt:List CK:=[.num .i8,.num .i8,.num .i8,.num .i8,.num .i8,.num .i8,.num .i8,.num .i8,.num .i8,.num .i8,.num .i8,.num .i8,.num .i8,.num .i8,.num .i8,.num .i64,.num .i64,.str,.str,.num .i64,.num .i64,.num .i64,.num .i64,.bool,.bool,.num .i64,.num .i64]
abbrev rU5 (L:List (List Dat)) (own mark:Bool):RowS:=.live ⟨75,qGt,L,own,mark⟩
def Γul0:Orc:=qkJ 33 aUC (qau 33 gUC (qay 34 gFi (qau 32 qIW (qay 35 gUw (qay 36 gUf ΓO)))))
theorem qMO:Γul0.Ok Tryz.prog:=qdf (qad (qai (qad (qai (qai OkO qj1) qrv) qr7) gFi_ok) qye) qHW
def mSl (s:US) (x:Fl) (r:RowS):Mem:=⟨cU 1 s::cFi 1 x::ubk 1 2 s.x s.y,tt 48,r::rPh x.L::urw s.x s.y⟩
def goF (x:Fl) (o:Op5):Fl:={ x with n:=goN x.n o.d0 o.d1 o.d2 }
theorem qwP (k:Int) (p:ByteArray):(fdT k p).size≤70:=by
 unfold fdT
 cases p.toList==(⟨#[]⟩:ByteArray).toList
 ·exact qdR k p
 ·exact Nat.zero_le _
theorem qwY (x:PS) (i:Inp):(cyR x i).l.size≤70:=by
 unfold cyR
 cases x.up
 ·exact Nat.zero_le _
 ·cases cyX x i != 0
  ·exact qwP _ _
  ·exact Nat.zero_le _
def okO (o:Op5):Prop:=o.s0.size≤300∧o.s1.size≤300
theorem qmZ (n:Nv) (A:ByteArray) (m:Int) (s:ByteArray) (hA:A.size≤70):(pt0 n A m s).size≤s.size+70:=by
 unfold pt0
 cases an4 m != 0
 ·show A.size≤_
  omega
 ·cases an1 m==0
  ·show A.size≤_
   omega
  ·exact qnz _ _ _ _
theorem qmY (n:Nv) (A:ByteArray) (m:Int) (s:ByteArray) (hA:A.size≤70):(pt1 n A m s).size≤s.size+70:=by
 unfold pt1
 cases an4 m != 0
 ·show A.size≤_
  omega
 ·cases an1 m==0
  ·exact qnz _ _ _ _
  ·show A.size≤_
   omega
theorem qx0 {i:Inp} (a:i.a.size≤900000) (b:i.b.size≤900000) (c:i.c.size≤900000) (d:i.d.size≤900000):qm6 i=true:=by
 unfold qm6
 rw [Nat.ble_eq_true_of_le a,Nat.ble_eq_true_of_le b,Nat.ble_eq_true_of_le c,Nat.ble_eq_true_of_le d]
 rfl
theorem qGE {s:US} {n:Nv} {o:Op5} (ho:okO o) (hl:s.l1.size≤100):qm6 (qdN s (qya n o))=true:=by
 have h1:=qmZ n (fiA n o) o.m0 o.s0 (qfu _ _ _ _ _ _ _ _)
 have h2:=qmY n (fiB n o) o.m0 o.s0 (qfu _ _ _ _ _ _ _ _)
 have h3:=qnF o.g0
 have h4:=qnJ s.l1 o.k0
 have:=ho.1
 exact qx0 (by show (pt0 n (fiA n o) o.m0 o.s0).size≤_;omega) (by show (pt1 n (fiB n o) o.m0 o.s0).size≤_;omega) (by show (ctT o.g0).size≤_;omega) (by show (cdT s.l1 o.k0).size≤_;omega)
theorem qGD {s:US} {n:Nv} {o:Op5} (ho:okO o) (hl:s.l0.size≤100):qm6 (qdM s (qya n o))=true:=by
 have h1:=qmZ n (fiA n o) o.m1 o.s1 (qfu _ _ _ _ _ _ _ _)
 have h2:=qmY n (fiB n o) o.m1 o.s1 (qfu _ _ _ _ _ _ _ _)
 have h3:=qnF o.g1
 have h4:=qnJ s.l0 o.k1
 have:=ho.2
 exact qx0 (by show (pt0 n (fiA n o) o.m1 o.s1).size≤_;omega) (by show (pt1 n (fiB n o) o.m1 o.s1).size≤_;omega) (by show (ctT o.g1).size≤_;omega) (by show (cdT s.l0 o.k1).size≤_;omega)
def qLc (xs:List SV) (m:Mem):Option (Bool×Value) :=
 match xs,uU m with
 | [.ptr 0 0],some s=>some (true,I s.nw)
 | _,_=>none
theorem qEq (s:US):runG Γuc1 L0 Tryz.prog Tryz.f37 [.ptr 0 0] (uM s)=some (.v (I s.nw),uM s):=by kernel_rfl
theorem qAz:CtR 37 qLc:=by
 intro xs m r h
 unfold qLc at h
 split at h
 case h_2=>cases h
 rename_i s hs
 obtain ⟨_,rfl⟩:=qac h
 rw [qkU hs]
 exact qal (Λ:=L0) qmp Tryz.func37 rfl l00 (qEq s)
def Pv (x:PS):Prop:=Inv 48 x
theorem Pv.uc {x:PS} (h:Pv x) (r:Bool) (t:Int):Pv (ucB (ucA x r) t):=by
 have ha:Pv (ucA x r):=by
  unfold ucA
  cases r
  ·exact h
  ·exact Inv.rs h
 unfold ucB
 cases decide (t>0)&&(ucA x r).up
 ·exact ha
 ·exact Inv.te ha _
theorem Pv.b {x:PS} (h:Pv x) {l:ByteArray} (hl:l.size≤100) (hb:bts x=true):grB l x=true∧Pv (btP x):=by
 refine ⟨?_,Inv.bt' h⟩
 unfold grB
 rw [Nat.ble_eq_true_of_le (show l.size≤1000000 by omega),hb,Inv.okB h hb]
 rfl
theorem Pv.n {x:PS} (h:Pv x) {l:ByteArray} (hl:l.size≤100) {i:Inp} (hi:qm6 i=true) (hb:bts x=false):grA l x i=true∧Pv (cyN x i):=by
 refine ⟨?_,Inv.cyN h hb⟩
 unfold grA
 rw [Nat.ble_eq_true_of_le (show l.size≤1000000 by omega),hb,Inv.okN h hi hb]
 rfl
end Go.Proofs.YtainfdcfkgemhaaGreat.Hr
namespace Go.Proofs.YtainfdcfkgemhaaGreat
open Go Go.Proofs Go.Sx
set_option linter.unusedVariables false
def qpb (L:List (List Dat)) (i:Int):Bool:=decide (wI ((((L.getD i.toNat []).tail.tail.tail.tail.tail.tail.tail.tail.tail.tail.tail.tail.tail.tail.tail.tail.tail.headD (Dat.n (0:Int))).toS.size:Int)+(((L.getD i.toNat []).tail.tail.tail.tail.tail.tail.tail.tail.tail.tail.tail.tail.tail.tail.tail.tail.tail.tail.headD (Dat.n (0:Int))).toS.size:Int))>(300:Int))
def kUp:List CK:=[.num .i8,.num .i8,.num .i8,.num .i8,.num .i8,.num .i8,.num .i8,.num .i8,.num .i8,.num .i8,.num .i8,.num .i8,.num .i8,.num .i8,.num .i8,.num .i64,.num .i64,.str,.str,.num .i64,.num .i64,.num .i64,.num .i64,.bool,.bool,.num .i64,.num .i64]
abbrev rUp (L:List (List Dat)) (own mark:Bool):RowS:=.live ⟨75,kUp,L,own,mark⟩
def qHP:Code:=qaH (Tryz.f27.body.getD .skip) 0
def kFu:List Bool:=qam 25 [0,5,6,7]
def xFu (e:Ex):List Bool:=match e with
 | .exit _=>qam 25 [0]
 | .ret=>qam 25 [2]
 | .normal=>qam 25 [0,5,6,7]
def KFu (e:Ex) (st:St):Option (Ex×St):=some (e,qav 0 1 (xFu e) st)
theorem qxQ (i nn:Int) (L:List (List Dat)) (own mark:Bool) (n:Nat):qaj ΓP24 Tryz.prog L0 (qav 0 1 kFu) qHP (n+1) (mk kFu [.row 0,.row 0,.v (I nn),.v (I i)] ⟨[],[],[rUp L own mark]⟩) KFu =
 (bif decide (i<nn) then (bif decide ((0:Int)≤i)&&decide (i<(L.length:Int)) then (bif (qpb L i) then some (.ret,mk (xFu .ret) [.v (Bo false)] ⟨[],[],[.live ⟨75,[.num .i8,.num .i8,.num .i8,.num .i8,.num .i8,.num .i8,.num .i8,.num .i8,.num .i8,.num .i8,.num .i8,.num .i8,.num .i8,.num .i8,.num .i8,.num .i64,.num .i64,.str,.str,.num .i64,.num .i64,.num .i64,.num .i64,.bool,.bool,.num .i64,.num .i64],L,own,mark⟩]⟩) else qaj ΓP24 Tryz.prog L0 (qav 0 1 kFu) qHP n (mk kFu [.row 0,.row 0,.v (I nn),.v (I (wI (i+(1:Int))))] ⟨[],[],[.live ⟨75,[.num .i8,.num .i8,.num .i8,.num .i8,.num .i8,.num .i8,.num .i8,.num .i8,.num .i8,.num .i8,.num .i8,.num .i8,.num .i8,.num .i8,.num .i8,.num .i64,.num .i64,.str,.str,.num .i64,.num .i64,.num .i64,.num .i64,.bool,.bool,.num .i64,.num .i64],L,own,mark⟩]⟩) KFu) else none) else some ((.exit 0),mk (xFu (.exit 0)) [.row 0] ⟨[],[],[.live ⟨75,[.num .i8,.num .i8,.num .i8,.num .i8,.num .i8,.num .i8,.num .i8,.num .i8,.num .i8,.num .i8,.num .i8,.num .i8,.num .i8,.num .i8,.num .i8,.num .i64,.num .i64,.str,.str,.num .i64,.num .i64,.num .i64,.num .i64,.bool,.bool,.num .i64,.num .i64],L,own,mark⟩]⟩)):=by kernel_rfl
def EFu (n:Nat) (i:Int) (nn:Int) (L:List (List Dat)) (own:Bool) (mark:Bool):Option (Ex×St) :=
 qaj ΓP24 Tryz.prog L0 (qav 0 1 kFu) qHP n (mk kFu [.row 0,.row 0,.v (I nn),.v (I i)] ⟨[],[],[rUp L own mark]⟩) KFu
def qKX (L:List (List Dat)) (own mark:Bool):LT:=.br (qbP (qpb L) L.length 0) (.leaf .ret (mk (xFu .ret) [.v (Bo false)] ⟨[],[],[rUp L own mark]⟩)) (.leaf (.exit 0) (mk (xFu (.exit 0)) [.row 0] ⟨[],[],[rUp L own mark]⟩))
theorem qGp (L:List (List Dat)) (own mark:Bool) (hl:L.length≤281474976710656):EFu (L.length+1) 0 (L.length:Int) L own mark=some (qKX L own mark).pick:=by
 have h:=qdu (qpb L) (L.length:Int) (fun n k=>EFu n k (L.length:Int) L own mark) (some (.exit 0,mk (xFu (.exit 0)) [.row 0] ⟨[],[],[rUp L own mark]⟩)) (some (.ret,mk (xFu .ret) [.v (Bo false)] ⟨[],[],[rUp L own mark]⟩)) (fun n k hk=>?_) (fun n k hk=>?_) L.length 0 (by decide) (by omega)
 ·refine h.trans ?_
  unfold qKX
  cases qbP (qpb L) L.length 0<;>rfl
 ·refine (qxQ k (L.length:Int) L own mark n).trans ?_
  rw [decide_eq_false hk]
  rfl
 ·refine (qxQ k (L.length:Int) L own mark n).trans ?_
  rw [decide_eq_true hk.1,decide_eq_true hk.2,qaw (n:=k+1) (by omega)]
  rfl
def GFu (vals:List SV) (m:Mem):Option (Bool×LT) :=
 match vals,m with
 | [.row 0,.row 0,.v (.int .i64 nn),.v (.int .i64 i)],⟨[],[],[.live ⟨75,[.num .i8,.num .i8,.num .i8,.num .i8,.num .i8,.num .i8,.num .i8,.num .i8,.num .i8,.num .i8,.num .i8,.num .i8,.num .i8,.num .i8,.num .i8,.num .i64,.num .i64,.str,.str,.num .i64,.num .i64,.num .i64,.num .i64,.bool,.bool,.num .i64,.num .i64],L,own,mark⟩]⟩=>some (nn==(L.length:Int)&&(i==0&&Nat.ble L.length 281474976710656),qKX L own mark)
 | _,_=>none
def ΛFu:qao:=fun _ st=>qkN 0 1 kFu GFu st
theorem qvR (z:Base) (z1:z.L.length=0) (z2:z.U.length=1):qas ΛFu Tryz.prog z qHP:=by
 refine qa5 (Λ:=L0) (kx:=xFu) qiV mixed z1 z2 (fun b hb st t h=>by cases h) (G:=GFu) (fun _=>rfl) ?_
 intro vals m t h
 unfold GFu at h
 split at h
 ·rename_i nn i L own mark
  obtain ⟨h1,rfl⟩:=qac h
  simp only [Bool.and_eq_true,beq_iff_eq] at h1
  obtain ⟨rfl,rfl,hl⟩:=h1
  exact ⟨L.length+1,qGp L own mark (Nat.le_of_ble_eq_true hl)⟩
 ·cases h
theorem qAa:qak (Tryz.f27.body.getD .skip)=[qHP]:=by kernel_rfl
def qDk (L:List (List Dat)):Bool:=bif qbP (qpb L) L.length 0 then false else decide ((L.length:Int)≤120)
theorem quS (L:List (List Dat)) (own mark:Bool):runG ΓP24 ΛFu Tryz.prog Tryz.f27 [.row 0] ⟨[],[],[rUp L own mark]⟩=bif Nat.ble L.length 281474976710656 then (bif qbP (qpb L) L.length 0 then some (.v (Bo false),⟨[],[],[rUp L own mark]⟩) else some (.v (Bo (decide ((L.length:Int)≤120))),⟨[],[],[rUp L own mark]⟩)) else none:=by
 have:runG ΓP24 ΛFu Tryz.prog Tryz.f27 [.row 0] ⟨[],[],[rUp L own mark]⟩=bif (L.length:Int)==(L.length:Int)&&Nat.ble L.length 281474976710656 then (bif qbP (qpb L) L.length 0 then some (.v (Bo false),⟨[],[],[rUp L own mark]⟩) else some (.v (Bo (decide ((L.length:Int)≤120))),⟨[],[],[rUp L own mark]⟩)) else none:=by kernel_rfl
 rw [this,beq_self_eq_true,Bool.true_and]
def qr9 (xs:List SV) (m:Mem):Option (Bool×Value) :=
 match xs,m with
 | [.row 0],⟨[],[],[.live ⟨75,[.num .i8,.num .i8,.num .i8,.num .i8,.num .i8,.num .i8,.num .i8,.num .i8,.num .i8,.num .i8,.num .i8,.num .i8,.num .i8,.num .i8,.num .i8,.num .i64,.num .i64,.str,.str,.num .i64,.num .i64,.num .i64,.num .i64,.bool,.bool,.num .i64,.num .i64],L,own,mark⟩]⟩=>some (Nat.ble L.length 281474976710656,Bo (qDk L))
 | _,_=>none
theorem qr8:CtR 27 qr9:=by
 intro xs m r h
 unfold qr9 at h
 split at h
 ·rename_i L own mark
  obtain ⟨h1,rfl⟩:=qac h
  refine qal (Λ:=ΛFu) qiV Tryz.func27 rfl (fun z z1 z2=>qax qAa (qvR z z1 z2)) ?_
  refine (quS L own mark).trans ?_
  rw [h1]
  unfold qDk
  cases qbP (qpb L) L.length 0<;>rfl
 ·cases h
end Go.Proofs.YtainfdcfkgemhaaGreat
namespace Go.Proofs.YtainfdcfkgemhaaGreat.Hr
open Go Go.Proofs Go.Sx Nw Pe So
set_option linter.unusedVariables false
def uSl (m:Mem):Option (US×Fl×RowS):=match m with
 | ⟨b0::b1::bs,lv,r::r1::rs⟩=>match Nat.beq bs.length 46&&(qvW 48 lv&&Nat.beq rs.length 6),uUb 1 b0,uFi 1 b1,zPh r1 with
  | true,some (l0,l1,nw,wh),some (R,n),some L=>match asm (n0 1 2) 2 (fun i=>(b0::b1::bs).getD i []) (fun i=>(r::r1::rs).getD i .dead),asm (n1 1 2) 3 (fun i=>(b0::b1::bs).getD i []) (fun i=>(r::r1::rs).getD i .dead) with
   | some x,some y=>some (⟨x,y,l0,l1,nw,wh⟩,⟨L,R,n⟩,r)
   | _,_=>none
  | _,_,_,_=>none
 | _=>none
set_option maxHeartbeats 4000000 in
theorem qDN {m:Mem} {s:US} {f:Fl} {r0:RowS} (h:uSl m=some (s,f,r0)):m=mSl s f r0:=by
 unfold uSl at h
 split at h
 case h_2=>cases h
 rename_i b0 b1 bs lv r r1 rs
 split at h
 case h_2=>cases h
 rename_i l0 l1 nw wh R n L hb hu hf hl
 split at h
 case h_2=>cases h
 rename_i x y hx hy
 injection h with h
 injection h with e1 h
 injection h with e2 e3
 subst e1 e2 e3
 rw [Bool.and_eq_true,Bool.and_eq_true] at hb
 obtain ⟨b1',b2,b3⟩:=hb
 have e2:=qdc b2
 generalize hbs:b0::b1::bs=BS at hx hy
 generalize hrs:r::r1::rs=RS at hx hy
 have k1:BS.length=48:=by rw [← hbs];show bs.length+1+1=48;rw [Nat.eq_of_beq_eq_true b1']
 have k2:RS.length=8:=by rw [← hrs];show rs.length+1+1=8;rw [Nat.eq_of_beq_eq_true b3]
 have g0:BS.getD 0 []=b0:=by rw [← hbs];rfl
 have g1:BS.getD 1 []=b1:=by rw [← hbs];rfl
 have q0:RS.getD 0 .dead=r:=by rw [← hrs];rfl
 have q1:RS.getD 1 .dead=r1:=by rw [← hrs];rfl
 have e1:=qtM [] BS 48 k1
 have e3:=qtM RowS.dead RS 8 k2
 obtain ⟨p1,p2,p3,p4,p5,p6,p7,p8,p9,p10,p11,p12,p13,p14,p15,p16,p17,p18,p19,p20,p21,p22,p23,p24,p25,p26⟩:=qnO hx
 obtain ⟨q1',q2,q3,q4,q5,q6,q7,q8,q9,q10,q11,q12,q13,q14,q15,q16,q17,q18,q19,q20,q21,q22,q23,q24,q25,q26⟩:=qnO hy
 have j1:(List.range 48).map (fun i=>BS.getD i [])=cU 1 ⟨x,y,l0,l1,nw,wh⟩::cFi 1 ⟨L,R,n⟩::ubk 1 2 x y:=by
  refine Eq.trans (b:=[BS.getD 0 [],BS.getD 1 [],BS.getD 2 [],BS.getD 3 [],BS.getD 4 [],BS.getD 5 [],BS.getD 6 [],BS.getD 7 [],BS.getD 8 [],BS.getD 9 [],BS.getD 10 [],BS.getD 11 [],BS.getD 12 [],BS.getD 13 [],BS.getD 14 [],BS.getD 15 [],BS.getD 16 [],BS.getD 17 [],BS.getD 18 [],BS.getD 19 [],BS.getD 20 [],BS.getD 21 [],BS.getD 22 [],BS.getD 23 [],BS.getD 24 [],BS.getD 25 [],BS.getD 26 [],BS.getD 27 [],BS.getD 28 [],BS.getD 29 [],BS.getD 30 [],BS.getD 31 [],BS.getD 32 [],BS.getD 33 [],BS.getD 34 [],BS.getD 35 [],BS.getD 36 [],BS.getD 37 [],BS.getD 38 [],BS.getD 39 [],BS.getD 40 [],BS.getD 41 [],BS.getD 42 [],BS.getD 43 [],BS.getD 44 [],BS.getD 45 [],BS.getD 46 [],BS.getD 47 []]) rfl ?_
  rw [g0,g1,qxy hu,qpv hf,show BS.getD 2 []=_ from p1,show BS.getD 3 []=_ from q1',show BS.getD 4 []=_ from p2,show BS.getD 5 []=_ from q2,show BS.getD 6 []=_ from p3,show BS.getD 7 []=_ from p4,show BS.getD 8 []=_ from p5,show BS.getD 9 []=_ from p6,show BS.getD 10 []=_ from p7,show BS.getD 11 []=_ from p8,show BS.getD 12 []=_ from p9,show BS.getD 13 []=_ from p10,show BS.getD 14 []=_ from p11,show BS.getD 15 []=_ from p12,show BS.getD 16 []=_ from q3,show BS.getD 17 []=_ from q4,show BS.getD 18 []=_ from q5,show BS.getD 19 []=_ from q6,show BS.getD 20 []=_ from q7,show BS.getD 21 []=_ from q8,show BS.getD 22 []=_ from q9,show BS.getD 23 []=_ from q10,show BS.getD 24 []=_ from q11,show BS.getD 25 []=_ from q12,show BS.getD 26 []=_ from p13,show BS.getD 27 []=_ from q13,show BS.getD 28 []=_ from p14,show BS.getD 29 []=_ from p15,show BS.getD 30 []=_ from p16,show BS.getD 31 []=_ from p17,show BS.getD 32 []=_ from p18,show BS.getD 33 []=_ from p19,show BS.getD 34 []=_ from p20,show BS.getD 35 []=_ from p21,show BS.getD 36 []=_ from p22,show BS.getD 37 []=_ from p23,show BS.getD 38 []=_ from q14,show BS.getD 39 []=_ from q15,show BS.getD 40 []=_ from q16,show BS.getD 41 []=_ from q17,show BS.getD 42 []=_ from q18,show BS.getD 43 []=_ from q19,show BS.getD 44 []=_ from q20,show BS.getD 45 []=_ from q21,show BS.getD 46 []=_ from q22,show BS.getD 47 []=_ from q23]
  rfl
 have j2:(List.range 8).map (fun i=>RS.getD i .dead)=r::rPh L::urw x y:=by
  refine Eq.trans (b:=[RS.getD 0 .dead,RS.getD 1 .dead,RS.getD 2 .dead,RS.getD 3 .dead,RS.getD 4 .dead,RS.getD 5 .dead,RS.getD 6 .dead,RS.getD 7 .dead]) rfl ?_
  rw [q0,q1,qi5 hl,show RS.getD 2 .dead=_ from p24,show RS.getD 3 .dead=_ from q24,show RS.getD 4 .dead=_ from p25,show RS.getD 5 .dead=_ from q25,show RS.getD 6 .dead=_ from p26,show RS.getD 7 .dead=_ from q26]
  rfl
 rw [e1,e2,e3,j1,j2]
 rfl
def zU5 (r:RowS):Option (List (List Dat)×Bool×Bool):=match r with
 | .live ⟨t,ks,L,own,mark⟩=>bif Nat.beq t 75&&qi4 ks qGt then some (L,own,mark) else none
 | _=>none
theorem qDz {r:RowS} {L:List (List Dat)} {own mark:Bool} (h:zU5 r=some (L,own,mark)):r=rU5 L own mark:=by
 unfold zU5 at h
 split at h
 ·rename_i t ks L' o m
  cases e:Nat.beq t 75&&qi4 ks qGt
  ·rw [e] at h;cases h
  ·rw [e] at h
   injection h with h
   injection h with h1 h
   injection h with h2 h3
   subst h1 h2 h3
   rw [Bool.and_eq_true] at e
   rw [Nat.eq_of_beq_eq_true e.1,qcd e.2]
 ·cases h
theorem qCd {L:List (List Dat)} (hw:∀ l∈L,WfL qGt l∧SmL l) (hf:qDk L=true):L.length≤1000000∧∀ k,k<L.length→okO (qxZ (L.getD k [])):=by
 unfold qDk at hf
 cases hb:qbP (qpb L) L.length 0
 ·rw [hb] at hf
  have hl:=of_decide_eq_true hf
  refine ⟨by omega,fun k hk=>?_⟩
  have hk':qpb L (k:Int)=false:=by
   cases e:qpb L (k:Int)
   ·rfl
   ·exfalso
    have:=(qnP (p:=qpb L) (m:=L.length) (k:=0)).2 ⟨(k:Int),by omega,by omega,e⟩
    rw [hb] at this
    cases this
  have hm:L.getD k []∈L:=by
   rw [List.getD_eq_getElem?_getD,List.getElem?_eq_getElem hk,Option.getD_some]
   exact List.getElem_mem hk
  have hw:=hw _ hm
  have hs:qpb L (k:Int)=decide (wI (((gS 17 (L.getD k [])).size:Int)+((gS 18 (L.getD k [])).size:Int))>300):=rfl
  rw [hs] at hk'
  have hk':=of_decide_eq_false hk'
  generalize L.getD k []=l at *
  match l,hw with
  | [_,_,_,_,_,_,_,_,_,_,_,_,_,_,_,_,_,.s a,.s b,_,_,_,_,_,_,_,_],hw =>
   have ha:a.size≤reachBytes:=hw.2 a (by simp)
   have hb:b.size≤reachBytes:=hw.2 b (by simp)
   have hm:=reachBytes_lt
   have hk':¬ wI ((a.size:Int)+(b.size:Int))>300:=hk'
   rw [qaw (by omega)] at hk'
   exact ⟨by show a.size≤300;omega,by show b.size≤300;omega⟩
 ·rw [hb] at hf
  cases hf
theorem navs8' {l:List Dat} (h:WfL [.num .i64,.num .i64,.num .i64,.num .i64,.num .i64,.num .i64,.num .i64,.num .i64] l):∃ n:Nv,l=[.n n.x1,.n n.x2,.n n.x3,.n n.x4,.n n.x5,.n n.x6,.n n.x7,.n n.x8]:=by
 match l,h with
 | [.n a,.n b,.n c,.n d,.n e,.n f,.n g,.n q],_=>exact ⟨⟨a,b,c,d,e,f,g,q⟩,rfl⟩
end Go.Proofs.YtainfdcfkgemhaaGreat.Hr
namespace Go.Proofs.YtainfdcfkgemhaaGreat.Hr
open Go Go.Proofs Go.Sx Nw Pe So
set_option linter.unusedVariables false
def miV (k:Int):SV:=.ag [.row 0,.v (I 2),.v (I 3),.v (I 4),.v (I 2),.v (I 50),.v (I 2),.v (I 10),.v (I k)]
def miM (k:Nat):Mem:=⟨[],[],[rPh (List.replicate k phE)]⟩
theorem qFm:runG Γx24 (qbv Γx24 Tryz.prog 60 3) Tryz.prog Tryz.f28 [.v (I 2)] M0=some (miV 2,miM 2):=by kernel_rfl
theorem qFl:runG Γx24 (qbv Γx24 Tryz.prog 60 3) Tryz.prog Tryz.f28 [.v (I 3)] M0=some (miV 3,miM 3):=by kernel_rfl
theorem qFk:runG Γx24 (qbv Γx24 Tryz.prog 60 3) Tryz.prog Tryz.f28 [.v (I 4)] M0=some (miV 4,miM 4):=by kernel_rfl
end Go.Proofs.YtainfdcfkgemhaaGreat.Hr
namespace Go.Proofs.YtainfdcfkgemhaaGreat.Hr
open Go Go.Proofs Go.Sx Nw Pe So
set_option linter.unusedVariables false
theorem qFq:runG Γx24 (qbv Γx24 Tryz.prog 60 3) Tryz.prog Tryz.f30 [.v (I 2)] M0=some (.v (S im2),M0):=by kernel_rfl
end Go.Proofs.YtainfdcfkgemhaaGreat.Hr
namespace Go.Proofs.YtainfdcfkgemhaaGreat.Hr
open Go Go.Proofs Go.Sx Nw Pe So
set_option linter.unusedVariables false
theorem qFp:runG Γx24 (qbv Γx24 Tryz.prog 60 3) Tryz.prog Tryz.f30 [.v (I 3)] M0=some (.v (S im3),M0):=by kernel_rfl
end Go.Proofs.YtainfdcfkgemhaaGreat.Hr
namespace Go.Proofs.YtainfdcfkgemhaaGreat.Hr
open Go Go.Proofs Go.Sx Nw Pe So
set_option linter.unusedVariables false
theorem qFo:runG Γx24 (qbv Γx24 Tryz.prog 60 3) Tryz.prog Tryz.f30 [.v (I 4)] M0=some (.v (S im4),M0):=by kernel_rfl
end Go.Proofs.YtainfdcfkgemhaaGreat.Hr
namespace Go.Proofs.YtainfdcfkgemhaaGreat.Hr
open Go Go.Proofs Go.Sx Nw Pe So
set_option linter.unusedVariables false
def okK (k:Int):Bool:=k==1||(k==2||(k==3||k==4))
def imN (k:Int):ByteArray:=bif k==1 then im1 else bif k==2 then im2 else bif k==3 then im3 else im4
def mM (k:Int):Mem:=⟨[],[],[rPh (List.replicate k.toNat phE)]⟩
theorem qm5 {k:Int} (h:okK k=true):k=1∨k=2∨k=3∨k=4:=by
 unfold okK at h
 simpa only [Bool.or_eq_true,beq_iff_eq] using h
def gMi (xs:List SV) (m:Mem):Option (Bool×SV×Mem) :=
 match xs,m with
 | [.v (.int .i64 n)],⟨[],[],[]⟩=>some (okK n,miV n,mM n)
 | _,_=>none
theorem qGV:CtC 28 gMi:=by
 intro xs m r m' h
 unfold gMi at h
 split at h
 ·rename_i n
  obtain ⟨h1,rfl,rfl⟩:=qaf h
  rcases qm5 h1 with rfl|rfl|rfl|rfl
  ·exact qal qbY Tryz.func28 rfl (fun z _ _ b _=>qaG qbY mixed 60 3 b) qxR
  ·exact qal qbY Tryz.func28 rfl (fun z _ _ b _=>qaG qbY mixed 60 3 b) qFm
  ·exact qal qbY Tryz.func28 rfl (fun z _ _ b _=>qaG qbY mixed 60 3 b) qFl
  ·exact qal qbY Tryz.func28 rfl (fun z _ _ b _=>qaG qbY mixed 60 3 b) qFk
 ·cases h
def gIm (vs:List Value):Option (Bool×Value) :=
 match vs with
 | [.int .i64 n]=>some (okK n,S (imN n))
 | _=>none
theorem qGY:CtV 30 gIm:=by
 intro vs r h
 unfold gIm at h
 split at h
 ·rename_i n
  obtain ⟨h1,rfl⟩:=qac h
  rcases qm5 h1 with rfl|rfl|rfl|rfl
  ·exact qaA (vs:=[I 1]) (m':=M0) qbY Tryz.func30 rfl (fun z _ _ b _=>qaG qbY mixed 60 3 b) qxS
  ·exact qaA (vs:=[I 2]) (m':=M0) qbY Tryz.func30 rfl (fun z _ _ b _=>qaG qbY mixed 60 3 b) qFq
  ·exact qaA (vs:=[I 3]) (m':=M0) qbY Tryz.func30 rfl (fun z _ _ b _=>qaG qbY mixed 60 3 b) qFp
  ·exact qaA (vs:=[I 4]) (m':=M0) qbY Tryz.func30 rfl (fun z _ _ b _=>qaG qbY mixed 60 3 b) qFo
 ·cases h
def phK (p:Int):Int:=wI (1+wI ((IntKind.u64.wrap p).tmod 4))
theorem qF2 (p:Int):okK (phK p)=true:=by
 have e2:0≤IntKind.u64.wrap p:=Int.emod_nonneg p (by show (18446744073709551616:Int)≠0;decide)
 have h:phK p=1∨phK p=2∨phK p=3∨phK p=4:=by
  unfold phK
  generalize IntKind.u64.wrap p=q at *
  rw [Int.tmod_eq_emod_of_nonneg e2,qaw (n:=q % 4) (by omega),qaw (by omega)]
  omega
 unfold okK
 rcases h with h|h|h|h<;>rw [h]<;>rfl
def s0K (k:Int):US:=⟨nwX (imN k) 0,nwX (imN k) 0,zS,zS,0,0⟩
def x0K (k:Int) (n:Nv):Fl:=⟨List.replicate k.toNat phE,⟨2,3,4,2,50,2,10,k⟩,stN n⟩
theorem qF6 {k:Int} (h:okK k=true):qlk (imN k) 0 0 qph=true:=by
 have h1:qlk (imN 1) 0 0 qph=true:=by kernel_rfl
 have h2:qlk (imN 2) 0 0 qph=true:=by kernel_rfl
 have h3:qlk (imN 3) 0 0 qph=true:=by kernel_rfl
 have h4:qlk (imN 4) 0 0 qph=true:=by kernel_rfl
 rcases qm5 h with rfl|rfl|rfl|rfl<;>assumption
def qDg (x:PS):Bool:=qx3 x.img x.port&&((decide (0≤x.m.p)&&decide (x.m.p<((btL x.img).length:Int)))&&(x.ft==0&&(okH x&&((qil x.f.F&&Nat.beq (txt x.f.F).size 48)&&(x.f.le==0&&(x.base==0&&qDe x))))))
theorem qim {x:PS} (h:qDg x=true) (hL:x.m.L=btL x.img):Inv 48 x:=by
 unfold qDg at h
 simp only [Bool.and_eq_true,beq_iff_eq,decide_eq_true_eq] at h
 obtain ⟨h1,⟨h2,h3⟩,h4,h5,⟨h6,h7⟩,h8,h9,h10⟩:=h
 exact ⟨h1,hL,⟨h2,h3⟩,h4,h5,⟨h6,Nat.eq_of_beq_eq_true h7⟩,by rw [h8];exact Int.le_refl _,by rw [h9];decide,h10⟩
theorem qqW {k:Int} (h:okK k=true):Inv 48 (nwX (imN k) 0):=by
 have h1:qDg (nwX (imN 1) 0)=true:=by kernel_rfl
 have h2:qDg (nwX (imN 2) 0)=true:=by kernel_rfl
 have h3:qDg (nwX (imN 3) 0)=true:=by kernel_rfl
 have h4:qDg (nwX (imN 4) 0)=true:=by kernel_rfl
 have l1:(nwX (imN 1) 0).m.L=btL (nwX (imN 1) 0).img:=by kernel_rfl
 have l2:(nwX (imN 2) 0).m.L=btL (nwX (imN 2) 0).img:=by kernel_rfl
 have l3:(nwX (imN 3) 0).m.L=btL (nwX (imN 3) 0).img:=by kernel_rfl
 have l4:(nwX (imN 4) 0).m.L=btL (nwX (imN 4) 0).img:=by kernel_rfl
 rcases qm5 h with rfl|rfl|rfl|rfl
 ·exact qim h1 l1
 ·exact qim h2 l2
 ·exact qim h3 l3
 ·exact qim h4 l4
end Go.Proofs.YtainfdcfkgemhaaGreat.Hr
