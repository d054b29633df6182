/-
  Cycles' inputs,lists of them;missions of one to four phases and their images.
-/
import Derived.Test.YtainfdcfkgemhaaGreatYm
import Derived.Test.YtainfdcfkgemhaaGreatYl
import Derived.Test.YtainfdcfkgemhaaGreatYk
import Derived.Test.YtainfdcfkgemhaaGreatYe
import Derived.Test.YtainfdcfkgemhaaGreatSx
set_option maxRecDepth 100000
noncomputable section
open Go.Proofs.Tryz
namespace Go.Proofs.YtainfdcfkgemhaaGreat.Hr
open Go Go.Proofs Go.Sx Pe
set_option linter.unusedVariables false
structure O6 where
 a:Int
 b:Int
 c:Int
 d:Int
 e:Int
 f:Int
structure Op5 where
 d0:Int
 d1:Int
 d2:Int
 p:O6
 q:O6
 m0:Int
 m1:Int
 s0:ByteArray
 s1:ByteArray
 g0:Int
 g1:Int
 k0:Int
 k1:Int
 r0:Bool
 r1:Bool
 t0:Int
 t1:Int
def i8 (x:Int):Value:=.int .i8 x
def Ci (o:Op5):Value:=.agg #[i8 o.d0,i8 o.d1,i8 o.d2,i8 o.p.a,i8 o.p.b,i8 o.p.c,i8 o.p.d,i8 o.p.e,i8 o.p.f,i8 o.q.a,i8 o.q.b,i8 o.q.c,i8 o.q.d,i8 o.q.e,i8 o.q.f,I o.m0,I o.m1,S o.s0,S o.s1,I o.g0,I o.g1,I o.k0,I o.k1,Bo o.r0,Bo o.r1,I o.t0,I o.t1]
def Γfi:Orc:={ aQ 73 FW (aQ 69 xS (ah 74 ta ΓO)) with av:=true,bs:=true,sb:=true }
theorem Okfi:Γfi.Ok prog:=⟨(aJ (aJ (ac bM nV) xR) FV).call,(aJ (aJ (ac bM nV) xR) FV).rd,(aJ (aJ (ac bM nV) xR) FV).eqv⟩
def mJ (b:Int):Int:=wI ((BitVec.ofInt 64 b &&& BitVec.ofInt 64 4).toNat:Int)
def iF (b:Int):Int:=wI ((BitVec.ofInt 64 b &&& BitVec.ofInt 64 1).toNat:Int)
def Uu (b:Int):Int:=b.fdiv 8
def jc (n:Nv) (o:Op5):ByteArray:=rB 0 n o.p.a o.p.b o.p.c o.p.d o.p.e o.p.f
def jb (n:Nv) (o:Op5):ByteArray:=rB 1 n o.q.a o.q.b o.q.c o.q.d o.q.e o.q.f
def qc (n:Nv) (m:Int) (s:ByteArray):ByteArray:=tk (iF m) n (Uu m) s
def ku (n:Nv) (A:ByteArray) (m:Int) (s:ByteArray):ByteArray:=bif mJ m != 0 then (bif iF m==0 then qc n m s else A) else A
def kt (n:Nv) (A:ByteArray) (m:Int) (s:ByteArray):ByteArray:=bif mJ m != 0 then (bif iF m==0 then A else qc n m s) else A
def cd (n:Nv) (o:Op5):Uin:=⟨ku n (jc n o) o.m0 o.s0,kt n (jb n o) o.m0 o.s0,ku n (jc n o) o.m1 o.s1,kt n (jb n o) o.m1 o.s1,jT o.g0,jT o.g1,o.k0,o.k1,o.r0,o.r1,o.t0,o.t1⟩
def v8 (x:Int):SA:=.v (.int .i8 x)
def Hv (o:Op5):List SA:=v8 o.d0::v8 o.d1::v8 o.d2::v8 o.p.a::v8 o.p.b::v8 o.p.c::v8 o.p.d::v8 o.p.e::v8 o.p.f::v8 o.q.a::v8 o.q.b::v8 o.q.c::v8 o.q.d::v8 o.q.e::v8 o.q.f::[.v (I o.m0),.v (I o.m1),.v (S o.s0),.v (S o.s1),.v (I o.g0),.v (I o.g1),.v (I o.k0),.v (I o.k1),.v (Bo o.r0),.v (Bo o.r1),.v (I o.t0),.v (I o.t1)]
def u6 (b:List SA):Option (O6×List SA):=match b with
 | .v (.int .i8 a)::.v (.int .i8 b)::.v (.int .i8 c)::.v (.int .i8 d)::.v (.int .i8 e)::.v (.int .i8 f)::r=>some (⟨a,b,c,d,e,f⟩,r)
 | _=>none
theorem Ks {b r:List SA} {x:O6} (h:u6 b=some (x,r)):b=v8 x.a::v8 x.b::v8 x.c::v8 x.d::v8 x.e::v8 x.f::r:=by
 unfold u6 at h
 split at h
 ·injection h with h
  injection h with h1 h2
  subst h1 h2
  rfl
 ·cases h
def va (b:List SA):Option Op5:=match b with
 | .v (.int .i8 d0)::.v (.int .i8 d1)::.v (.int .i8 d2)::r=>match u6 r with
  | some (p,r)=>match u6 r with
   | some (q,[.v (.int .i64 m0),.v (.int .i64 m1),.v (.string s0),.v (.string s1),.v (.int .i64 g0),.v (.int .i64 g1),.v (.int .i64 k0),.v (.int .i64 k1),.v (.bool r0),.v (.bool r1),.v (.int .i64 t0),.v (.int .i64 t1)])=>some ⟨d0,d1,d2,p,q,m0,m1,s0,s1,g0,g1,k0,k1,r0,r1,t0,t1⟩
   | _=>none
  | none=>none
 | _=>none
theorem Kn {b:List SA} {o:Op5} (h:va b=some o):b=Hv o:=by
 unfold va at h
 split at h
 case h_2=>cases h
 split at h
 case h_2=>cases h
 rename_i p r1 h1
 split at h
 case h_2=>cases h
 rename_i q m0 m1 s0 s1 g0 g1 k0 k1 r0 r1 t0 t1 h2
 injection h with h
 subst h
 rw [Ks h1,Ks h2]
 rfl
def n9 (u:Uin):List SA:=[.v (S u.a0),.v (S u.a1),.v (S u.b0),.v (S u.b1),.v (S u.g0),.v (S u.g1),.v (I u.k0),.v (I u.k1),.v (Bo u.r0),.v (Bo u.r1),.v (I u.t0),.v (I u.t1)]
def oH:Uin:=⟨⟨#[]⟩,⟨#[]⟩,⟨#[]⟩,⟨#[]⟩,⟨#[]⟩,⟨#[]⟩,0,0,false,false,0,0⟩
def zA:Code:=cH (f34.body.getD .skip) 0
def sF:List Bool:=aE 75 [0,3,4,5,15]
def re (e:Ex):List Bool:=match e with
 | .exit _=>aE 75 [4,5]
 | .ret=>aE 75 [4]
 | .normal=>aE 75 [0,3,4,5,15]
def Sr (e:Ex) (st:St):Option (Ex×St):=some (e,aj 1 1 (re e) st)
def MU (x:Fl) (o:Op5):Mem:=⟨[mC 0 x,Hv o,n9 oH,n9 { oH with k0:=o.k0,k1:=o.k1,r0:=o.r0,r1:=o.r1,t0:=o.t0,t1:=o.t1 }],tt 4,[bh x.L]⟩
def Cz (x:Fl) (u:Uin):Mem:=⟨[mC 0 x,n9 oH,n9 u],tt 3,[bh x.L]⟩
def xA (x:Fl) (o:Op5) (a0 a1 b0 b1:ByteArray):Option (Ex×St):=some (.exit 0,mk (re (.exit 0)) [.ptr 1 0,.ptr 2 0] (Cz (wE x) ⟨a0,a1,b0,b1,jT o.g0,jT o.g1,o.k0,o.k1,o.r0,o.r1,o.t0,o.t1⟩))
def sL (x:Fl) (o:Op5) (a0 a1:ByteArray):Option (Ex×St):=bif mJ o.m1 != 0 then (bif iF o.m1==0 then xA x o a0 a1 (qc x.n o.m1 o.s1) (jb x.n o) else (bif iF o.m1==1 then xA x o a0 a1 (jc x.n o) (qc x.n o.m1 o.s1) else none)) else xA x o a0 a1 (jc x.n o) (jb x.n o)
theorem Uf (x:Fl) (o:Op5):au Γfi prog (cM Γfi prog 8 1) (aj 1 1 sF) zA 3 (mk sF [.ptr 0 0,.ptr 1 0,.ptr 2 0,.ptr 3 0,.v (I 0)] (MU (wE x) o)) Sr=(bif mJ o.m0 != 0 then (bif iF o.m0==0 then sL x o (qc x.n o.m0 o.s0) (jb x.n o) else (bif iF o.m0==1 then sL x o (jc x.n o) (qc x.n o.m0 o.s0) else none)) else sL x o (jc x.n o) (jb x.n o)):=by kernel_rfl
theorem qbd (n m:Int) (h0:0<=m) (h1:m<9223372036854775808):0<=wI ((BitVec.ofInt 64 n &&& BitVec.ofInt 64 m).toNat:Int)/\wI ((BitVec.ofInt 64 n &&& BitVec.ofInt 64 m).toNat:Int)<=m:=by
 obtain ⟨k,rfl⟩:=Int.eq_ofNat_of_zero_le h0
 have e:(BitVec.ofInt 64 n &&& BitVec.ofInt 64 (k:Int)).toNat<=k:=by
  rw [BitVec.toNat_and,BitVec.ofInt_natCast,BitVec.toNat_ofNat,Nat.mod_eq_of_lt (a:=k) (by omega)]
  exact Nat.and_le_right
 rw [aC (by omega)]
 omega
theorem P6 (b:Int):iF b=0\/iF b=1:=by
 have:=qbd b 1 (by decide) (by decide)
 unfold iF
 omega
theorem C2 (x:Fl) (o:Op5) (a0 a1:ByteArray):sL x o a0 a1=xA x o a0 a1 (ku x.n (jc x.n o) o.m1 o.s1) (kt x.n (jb x.n o) o.m1 o.s1):=by
 unfold sL ku kt
 cases mJ o.m1 != 0
 ·rfl
 ·rcases P6 o.m1 with h|h<;>rw [h]<;>rfl
theorem Ue (x:Fl) (o:Op5):au Γfi prog (cM Γfi prog 8 1) (aj 1 1 sF) zA 3 (mk sF [.ptr 0 0,.ptr 1 0,.ptr 2 0,.ptr 3 0,.v (I 0)] (MU (wE x) o)) Sr=some (.exit 0,mk (re (.exit 0)) [.ptr 1 0,.ptr 2 0] (Cz (wE x) (cd x.n o))):=by
 refine (Uf x o).trans ?_
 rw [C2,C2,C2]
 unfold cd ku kt
 cases mJ o.m0 != 0
 ·rfl
 ·rcases P6 o.m0 with h|h<;>rw [h]<;>rfl
def uZ (b:List SA):Option Uin:=match b with
 | .v (.string a0)::.v (.string a1)::.v (.string b0)::.v (.string b1)::.v (.string g0)::.v (.string g1)::r=>match r with
  | [.v (.int .i64 k0),.v (.int .i64 k1),.v (.bool r0),.v (.bool r1),.v (.int .i64 t0),.v (.int .i64 t1)]=>some ⟨a0,a1,b0,b1,g0,g1,k0,k1,r0,r1,t0,t1⟩
  | _=>none
 | _=>none
theorem Kl {b:List SA} {u:Uin} (h:uZ b=some u):b=n9 u:=by
 unfold uZ at h
 split at h
 ·split at h
  ·injection h with h
   subst h
   rfl
  ·cases h
 ·cases h
def xq (u:Uin):Bool:=Nat.beq u.a0.size 0&&(Nat.beq u.a1.size 0&&(Nat.beq u.b0.size 0&&(Nat.beq u.b1.size 0&&(Nat.beq u.g0.size 0&&Nat.beq u.g1.size 0))))
def Ns (u:Uin):Bool:=xq u&&(u.k0==0&&(u.k1==0&&(!u.r0&&(!u.r1&&(u.t0==0&&u.t1==0)))))
def Nu (u:Uin) (o:Op5):Bool:=xq u&&(u.k0==o.k0&&(u.k1==o.k1&&(u.r0==o.r0&&(u.r1==o.r1&&(u.t0==o.t0&&u.t1==o.t1)))))
theorem oJ {s:ByteArray} (h:Nat.beq s.size 0=true):s=⟨#[]⟩:=by
 rw [<- f9]
 exact List.eq_nil_of_length_eq_zero (by rw [fw];exact Nat.eq_of_beq_eq_true h)
theorem Nt {u:Uin} (h:xq u=true):u={ oH with k0:=u.k0,k1:=u.k1,r0:=u.r0,r1:=u.r1,t0:=u.t0,t1:=u.t1 }:=by
 unfold xq at h
 simp only [Bool.and_eq_true] at h
 obtain ⟨h1,h2,h3,h4,h5,h6⟩:=h
 rcases u with ⟨a0,a1,b0,b1,g0,g1,k0,k1,r0,r1,t0,t1⟩
 obtain rfl:=oJ h1
 obtain rfl:=oJ h2
 obtain rfl:=oJ h3
 obtain rfl:=oJ h4
 obtain rfl:=oJ h5
 obtain rfl:=oJ h6
 rfl
def A1 (m:Mem):Option (Fl×Op5×Uin×Uin):=match m with
 | ⟨[b0,b1,b2,b3],lv,[r]⟩=>match jM 4 lv,lu r,oW 0 b0,va b1,uZ b2,uZ b3 with
  | true,some L,some (R,n),some o,some u,some w=>some (⟨L,R,n⟩,o,u,w)
  | _,_,_,_,_,_=>none
 | _=>none
theorem Tj {m:Mem} {x:Fl} {o:Op5} {u w:Uin} (h:A1 m=some (x,o,u,w)):m=⟨[mC 0 x,Hv o,n9 u,n9 w],tt 4,[bh x.L]⟩:=by
 unfold A1 at h
 split at h
 case h_2=>cases h
 split at h
 case h_2=>cases h
 rename_i h1 h2 h3 h4 h5 h6
 injection h with h
 injection h with e1 h
 injection h with e2 h
 injection h with e3 e4
 subst e1 e2 e3 e4
 rw [kJ h1,oI h2,vi h3,Kn h4,Kl h5,Kl h6]
 rfl
def JI (vals:List SV) (m:Mem):Option (Bool×LT) :=
 match vals,A1 m with
 | [.ptr 0 0,.ptr 1 0,.ptr 2 0,.ptr 3 0,.v (.int .i64 i)],some (x,o,u,w)=>some (i==0&&(jF x&&(Ns u&&Nu w o)),.leaf (.exit 0) (mk (re (.exit 0)) [.ptr 1 0,.ptr 2 0] (Cz x (cd x.n o))))
 | _,_=>none
def ΛIn:bg:=fun _ st=>gG 1 1 sF JI st
theorem qcj (z:Base) (z1:z.L.length=1) (z2:z.U.length=1):a9 ΛIn prog z zA:=by
 refine iN (Λ:=cM Γfi prog 8 1) (kx:=re) Okfi mixed z1 z2 (fun b _=>du Okfi mixed 8 1 b) (G:=JI) (fun _=>rfl) ?_
 intro vals m t h
 unfold JI at h
 split at h
 case h_2=>cases h
 rename_i i x o u w hm
 obtain ⟨h1,rfl⟩:=ab h
 simp only [Bool.and_eq_true,beq_iff_eq] at h1
 obtain ⟨rfl,hx,hu,hw⟩:=h1
 rw [Tj hm]
 have e:=Ue x o
 rw [mZ hx] at e
 unfold Ns at hu
 unfold Nu at hw
 simp only [Bool.and_eq_true,beq_iff_eq,Bool.not_eq_true'] at hu hw
 obtain ⟨u0,u1,u2,u3,u4,u5,u6⟩:=hu
 obtain ⟨w0,w1,w2,w3,w4,w5,w6⟩:=hw
 have eu:u=oH:=by
  rw [Nt u0,u1,u2,u3,u4,u5,u6]
  rfl
 have ew:w={ oH with k0:=o.k0,k1:=o.k1,r0:=o.r0,r1:=o.r1,t0:=o.t0,t1:=o.t1 }:=by
  rw [Nt w0,w1,w2,w3,w4,w5,w6]
 rw [eu,ew]
 exact ⟨3,e⟩
theorem qbH:aL (f34.body.getD .skip)=[zA]:=by kernel_rfl
theorem runFi (x:Fl) (o:Op5):runG Γfi ΛIn prog f34 [.ptr 0 0,.v (Ci o)] (fM x)=(bif jF x&&(o.k0==o.k0&&(o.k1==o.k1&&(o.r0==o.r0&&(o.r1==o.r1&&(o.t0==o.t0&&o.t1==o.t1))))) then some (.v (ke (cd x.n o)),fM x) else none):=by kernel_rfl
def AV (v:Value):Option Op5:=match v with
 | .agg ⟨l⟩=>va (l.map .v)
 | _=>none
theorem MK:∀ {l l':List Value},l.map SA.v=l'.map SA.v->l=l'
 | [],[],_=>rfl
 | a::l,b::l',h=>by
  injection h with h1 h2
  injection h1 with h1
  rw [h1,MK h2]
 | [],_::_,h=>by cases h
 | _::_,[],h=>by cases h
theorem Tf {v:Value} {o:Op5} (h:AV v=some o):v=Ci o:=by
 unfold AV at h
 split at h
 ·rename_i l
  have:=Kn h
  have e:l=(Ci o).cells.toList:=MK (this.trans rfl)
  rw [e]
  rfl
 ·cases h
def gFi (xs:List SV) (m:Mem):Option (Bool×Value) :=
 match xs,oX m with
 | [.ptr 0 0,.v v],some x=>match AV v with
  | some o=>some (jF x,ke (cd x.n o))
  | none=>none
 | _,_=>none
theorem gFi_ok:bi 34 gFi:=by
 intro xs m r h
 unfold gFi at h
 split at h
 case h_2=>cases h
 rename_i v x hx
 split at h
 case h_2=>cases h
 rename_i o ho
 obtain ⟨h1,rfl⟩:=ab h
 rw [vj hx,Tf ho]
 refine af (Λ:=ΛIn) Okfi func34 rfl (fun z z1 z2=>bX qbH (qcj z z1 z2)) ((runFi x o).trans ?_)
 rw [h1]
 simp only [beq_self_eq_true,Bool.and_self,cond_true]
end Go.Proofs.YtainfdcfkgemhaaGreat.Hr
namespace Go.Proofs.YtainfdcfkgemhaaGreat.Hr
open Go Go.Proofs Go.Sx Nw Pe So
set_option linter.unusedVariables false
def tl:Nat->List Dat->List Dat
 | 0,l=>l
 | n+1,l=>tl n l.tail
def gI (n:Nat) (l:List Dat):Int:=((tl n l).headD (.n 0)).toI
def gS (n:Nat) (l:List Dat):ByteArray:=((tl n l).headD (.n 0)).toS
def gB (n:Nat) (l:List Dat):Bool:=((tl n l).headD (.n 0)).toB
def jE (l:List Dat):Op5:=⟨gI 0 l,gI 1 l,gI 2 l,⟨gI 3 l,gI 4 l,gI 5 l,gI 6 l,gI 7 l,gI 8 l⟩,⟨gI 9 l,gI 10 l,gI 11 l,gI 12 l,gI 13 l,gI 14 l⟩,gI 15 l,gI 16 l,gS 17 l,gS 18 l,gI 19 l,gI 20 l,gI 21 l,gI 22 l,gB 23 l,gB 24 l,gI 25 l,gI 26 l⟩
def sw:List CK:=[.num .i8,.num .i8,.num .i8,.num .i8,.num .i8,.num .i8,.num .i8,.num .i8,.num .i8,.num .i8,.num .i8,.num .i8,.num .i8,.num .i8,.num .i8,.num .i64,.num .i64,.str,.str,.num .i64,.num .i64,.num .i64,.num .i64,.bool,.bool,.num .i64,.num .i64]
abbrev ig (L:List (List Dat)) (own mark:Bool):RowS:=.live ⟨75,sw,L,own,mark⟩
def Γul0:Orc:=ut 33 H0 (aw 33 xQ (aQ 34 gFi (aw 32 yt (aQ 35 sS (aQ 36 sV ΓO)))))
theorem qij:Γul0.Ok prog:=ur (aq (aJ (aq (aJ (aJ bM sU) Dy) Og) gFi_ok) NV) qib
def Cy (s:US) (x:Fl) (r:RowS):Mem:=⟨cU 1 s::mC 1 x::kf 1 2 s.x s.y,tt 48,r::bh x.L::kd s.x s.y⟩
def sP (x:Fl) (o:Op5):Fl:={ x with n:=pU x.n o.d0 o.d1 o.d2 }
theorem G1 (k:Int) (p:ByteArray):(gT k p).size<=70:=by
 unfold gT
 cases p.toList==(⟨#[]⟩:ByteArray).toList
 ·exact B9 k p
 ·exact Nat.zero_le _
theorem qgS (x:PS) (i:Inp):(bR x i).l.size<=70:=by
 unfold bR
 cases x.up
 ·exact Nat.zero_le _
 ·cases fm x i != 0
  ·exact G1 _ _
  ·exact Nat.zero_le _
def pF (o:Op5):Prop:=o.s0.size<=300/\o.s1.size<=300
theorem L4 (n:Nv) (A:ByteArray) (m:Int) (s:ByteArray) (hA:A.size<=70):(ku n A m s).size<=s.size+70:=by
 unfold ku
 cases mJ m != 0
 ·show A.size<=_
  omega
 ·cases iF m==0
  ·show A.size<=_
   omega
  ·exact OI _ _ _ _
theorem L3 (n:Nv) (A:ByteArray) (m:Int) (s:ByteArray) (hA:A.size<=70):(kt n A m s).size<=s.size+70:=by
 unfold kt
 cases mJ m != 0
 ·show A.size<=_
  omega
 ·cases iF m==0
  ·exact OI _ _ _ _
  ·show A.size<=_
   omega
theorem Mo {i:Inp} (a:i.a.size<=900000) (b:i.b.size<=900000) (c:i.c.size<=900000) (d:i.d.size<=900000):fO i=true:=by
 unfold fO
 rw [Nat.ble_eq_true_of_le a,Nat.ble_eq_true_of_le b,Nat.ble_eq_true_of_le c,Nat.ble_eq_true_of_le d]
 rfl
theorem qcV {s:US} {n:Nv} {o:Op5} (ho:pF o) (hl:s.l1.size<=100):fO (co s (cd n o))=true:=by
 have h1:=L4 n (jc n o) o.m0 o.s0 (vA _ _ _ _ _ _ _ _)
 have h2:=L3 n (jb n o) o.m0 o.s0 (vA _ _ _ _ _ _ _ _)
 have h3:=Pf o.g0
 have h4:=Px s.l1 o.k0
 have:=ho.1
 exact Mo (by show (ku n (jc n o) o.m0 o.s0).size<=_;omega) (by show (kt n (jb n o) o.m0 o.s0).size<=_;omega) (by show (jT o.g0).size<=_;omega) (by show (mB s.l1 o.k0).size<=_;omega)
theorem qcU {s:US} {n:Nv} {o:Op5} (ho:pF o) (hl:s.l0.size<=100):fO (cn s (cd n o))=true:=by
 have h1:=L4 n (jc n o) o.m1 o.s1 (vA _ _ _ _ _ _ _ _)
 have h2:=L3 n (jb n o) o.m1 o.s1 (vA _ _ _ _ _ _ _ _)
 have h3:=Pf o.g1
 have h4:=Px s.l0 o.k1
 have:=ho.2
 exact Mo (by show (ku n (jc n o) o.m1 o.s1).size<=_;omega) (by show (kt n (jb n o) o.m1 o.s1).size<=_;omega) (by show (jT o.g1).size<=_;omega) (by show (mB s.l0 o.k1).size<=_;omega)
def Pv (x:PS):Prop:=Inv 48 x
theorem Pv.uc {x:PS} (h:Pv x) (r:Bool) (t:Int):Pv (lF (hP x r) t):=by
 have ha:Pv (hP x r):=by
  unfold hP
  cases r
  ·exact h
  ·exact Inv.rs h
 unfold lF
 cases decide (t>0)&&(hP x r).up
 ·exact ha
 ·exact Inv.te ha _
theorem Pv.b {x:PS} (h:Pv x) {l:ByteArray} (hl:l.size<=100) (hb:ch x=true):fW l x=true/\Pv (bI x):=by
 refine ⟨?_,Inv.bt' h⟩
 unfold fW
 rw [Nat.ble_eq_true_of_le (show l.size<=1000000 by omega),hb,Inv.okB h hb]
 rfl
theorem Pv.n {x:PS} (h:Pv x) {l:ByteArray} (hl:l.size<=100) {i:Inp} (hi:fO i=true) (hb:ch x=false):fX l x i=true/\Pv (cyN x i):=by
 refine ⟨?_,Inv.cyN h hb⟩
 unfold fX
 rw [Nat.ble_eq_true_of_le (show l.size<=1000000 by omega),hb,Inv.okN h hi hb]
 rfl
end Go.Proofs.YtainfdcfkgemhaaGreat.Hr
namespace Go.Proofs.YtainfdcfkgemhaaGreat
open Go Go.Proofs Go.Sx
set_option linter.unusedVariables false
def gX (L:List (List Dat)) (i:Int):Bool:=decide (wI ((((L.getD i.toNat []).tail.tail.tail.tail.tail.tail.tail.tail.tail.tail.tail.tail.tail.tail.tail.tail.tail.headD (Dat.n (0:Int))).toS.size:Int)+(((L.getD i.toNat []).tail.tail.tail.tail.tail.tail.tail.tail.tail.tail.tail.tail.tail.tail.tail.tail.tail.tail.headD (Dat.n (0:Int))).toS.size:Int))>(300:Int))
def kUp:List CK:=[.num .i8,.num .i8,.num .i8,.num .i8,.num .i8,.num .i8,.num .i8,.num .i8,.num .i8,.num .i8,.num .i8,.num .i8,.num .i8,.num .i8,.num .i8,.num .i64,.num .i64,.str,.str,.num .i64,.num .i64,.num .i64,.num .i64,.bool,.bool,.num .i64,.num .i64]
abbrev ie (L:List (List Dat)) (own mark:Bool):RowS:=.live ⟨75,kUp,L,own,mark⟩
def ue:Code:=cH (f27.body.getD .skip) 0
def nJ:List Bool:=aE 25 [0,5,6,7]
def lA (e:Ex):List Bool:=match e with
 | .exit _=>aE 25 [0]
 | .ret=>aE 25 [2]
 | .normal=>aE 25 [0,5,6,7]
def Jg (e:Ex) (st:St):Option (Ex×St):=some (e,aj 0 1 (lA e) st)
theorem Lb (i nn:Int) (L:List (List Dat)) (own mark:Bool) (n:Nat):au ΓP24 prog L0 (aj 0 1 nJ) ue (n+1) (mk nJ [.row 0,.row 0,.v (I nn),.v (I i)] ⟨[],[],[ie L own mark]⟩) Jg =
 (bif decide (i<nn) then (bif decide ((0:Int)<=i)&&decide (i<(L.length:Int)) then (bif (gX L i) then some (.ret,mk (lA .ret) [.v (Bo false)] ⟨[],[],[.live ⟨75,[.num .i8,.num .i8,.num .i8,.num .i8,.num .i8,.num .i8,.num .i8,.num .i8,.num .i8,.num .i8,.num .i8,.num .i8,.num .i8,.num .i8,.num .i8,.num .i64,.num .i64,.str,.str,.num .i64,.num .i64,.num .i64,.num .i64,.bool,.bool,.num .i64,.num .i64],L,own,mark⟩]⟩) else au ΓP24 prog L0 (aj 0 1 nJ) ue n (mk nJ [.row 0,.row 0,.v (I nn),.v (I (wI (i+(1:Int))))] ⟨[],[],[.live ⟨75,[.num .i8,.num .i8,.num .i8,.num .i8,.num .i8,.num .i8,.num .i8,.num .i8,.num .i8,.num .i8,.num .i8,.num .i8,.num .i8,.num .i8,.num .i8,.num .i64,.num .i64,.str,.str,.num .i64,.num .i64,.num .i64,.num .i64,.bool,.bool,.num .i64,.num .i64],L,own,mark⟩]⟩) Jg) else none) else some ((.exit 0),mk (lA (.exit 0)) [.row 0] ⟨[],[],[.live ⟨75,[.num .i8,.num .i8,.num .i8,.num .i8,.num .i8,.num .i8,.num .i8,.num .i8,.num .i8,.num .i8,.num .i8,.num .i8,.num .i8,.num .i8,.num .i8,.num .i64,.num .i64,.str,.str,.num .i64,.num .i64,.num .i64,.num .i64,.bool,.bool,.num .i64,.num .i64],L,own,mark⟩]⟩)):=by kernel_rfl
def SC (n:Nat) (i:Int) (nn:Int) (L:List (List Dat)) (own:Bool) (mark:Bool):Option (Ex×St) :=
 au ΓP24 prog L0 (aj 0 1 nJ) ue n (mk nJ [.row 0,.row 0,.v (I nn),.v (I i)] ⟨[],[],[ie L own mark]⟩) Jg
def CF (L:List (List Dat)) (own mark:Bool):LT:=.br (cc (gX L) L.length 0) (.leaf .ret (mk (lA .ret) [.v (Bo false)] ⟨[],[],[ie L own mark]⟩)) (.leaf (.exit 0) (mk (lA (.exit 0)) [.row 0] ⟨[],[],[ie L own mark]⟩))
theorem qcv (L:List (List Dat)) (own mark:Bool) (hl:L.length<=281474976710656):SC (L.length+1) 0 (L.length:Int) L own mark=some (CF L own mark).pick:=by
 have h:=OC (gX L) (L.length:Int) (fun n k=>SC n k (L.length:Int) L own mark) (some (.exit 0,mk (lA (.exit 0)) [.row 0] ⟨[],[],[ie L own mark]⟩)) (some (.ret,mk (lA .ret) [.v (Bo false)] ⟨[],[],[ie L own mark]⟩)) (fun n k hk=>?_) (fun n k hk=>?_) L.length 0 (by decide) (by omega)
 ·refine h.trans ?_
  unfold CF
  cases cc (gX L) L.length 0<;>rfl
 ·refine (Lb k (L.length:Int) L own mark n).trans ?_
  rw [decide_eq_false hk]
  rfl
 ·refine (Lb k (L.length:Int) L own mark n).trans ?_
  rw [decide_eq_true hk.1,decide_eq_true hk.2,aC (n:=k+1) (by omega)]
  rfl
def JL (vals:List SV) (m:Mem):Option (Bool×LT) :=
 match vals,m with
 | [.row 0,.row 0,.v (.int .i64 nn),.v (.int .i64 i)],⟨[],[],[.live ⟨75,[.num .i8,.num .i8,.num .i8,.num .i8,.num .i8,.num .i8,.num .i8,.num .i8,.num .i8,.num .i8,.num .i8,.num .i8,.num .i8,.num .i8,.num .i8,.num .i64,.num .i64,.str,.str,.num .i64,.num .i64,.num .i64,.num .i64,.bool,.bool,.num .i64,.num .i64],L,own,mark⟩]⟩=>some (nn==(L.length:Int)&&(i==0&&Nat.ble L.length 281474976710656),CF L own mark)
 | _,_=>none
def ΛFu:bg:=fun _ st=>gG 0 1 nJ JL st
theorem qcm (z:Base) (z1:z.L.length=0) (z2:z.U.length=1):a9 ΛFu prog z ue:=by
 refine iN (Λ:=L0) (kx:=lA) lq mixed z1 z2 (fun b hb st t h=>by cases h) (G:=JL) (fun _=>rfl) ?_
 intro vals m t h
 unfold JL at h
 split at h
 ·rename_i nn i L own mark
  obtain ⟨h1,rfl⟩:=ab h
  simp only [Bool.and_eq_true,beq_iff_eq] at h1
  obtain ⟨rfl,rfl,hl⟩:=h1
  exact ⟨L.length+1,qcv L own mark (Nat.le_of_ble_eq_true hl)⟩
 ·cases h
theorem qbK:aL (f27.body.getD .skip)=[ue]:=by kernel_rfl
def qb (L:List (List Dat)):Bool:=bif cc (gX L) L.length 0 then false else decide ((L.length:Int)<=120)
theorem YB (L:List (List Dat)) (own mark:Bool):runG ΓP24 ΛFu prog f27 [.row 0] ⟨[],[],[ie L own mark]⟩=bif Nat.ble L.length 281474976710656 then (bif cc (gX L) L.length 0 then some (.v (Bo false),⟨[],[],[ie L own mark]⟩) else some (.v (Bo (decide ((L.length:Int)<=120))),⟨[],[],[ie L own mark]⟩)) else none:=by
 have:runG ΓP24 ΛFu prog f27 [.row 0] ⟨[],[],[ie L own mark]⟩=bif (L.length:Int)==(L.length:Int)&&Nat.ble L.length 281474976710656 then (bif cc (gX L) L.length 0 then some (.v (Bo false),⟨[],[],[ie L own mark]⟩) else some (.v (Bo (decide ((L.length:Int)<=120))),⟨[],[],[ie L own mark]⟩)) else none:=by kernel_rfl
 rw [this,beq_self_eq_true,Bool.true_and]
def FT (xs:List SV) (m:Mem):Option (Bool×Value) :=
 match xs,m with
 | [.row 0],⟨[],[],[.live ⟨75,[.num .i8,.num .i8,.num .i8,.num .i8,.num .i8,.num .i8,.num .i8,.num .i8,.num .i8,.num .i8,.num .i8,.num .i8,.num .i8,.num .i8,.num .i8,.num .i64,.num .i64,.str,.str,.num .i64,.num .i64,.num .i64,.num .i64,.bool,.bool,.num .i64,.num .i64],L,own,mark⟩]⟩=>some (Nat.ble L.length 281474976710656,Bo (qb L))
 | _,_=>none
theorem qfk:bi 27 FT:=by
 intro xs m r h
 unfold FT at h
 split at h
 ·rename_i L own mark
  obtain ⟨h1,rfl⟩:=ab h
  refine af (Λ:=ΛFu) lq func27 rfl (fun z z1 z2=>bX qbK (qcm z z1 z2)) ?_
  refine (YB L own mark).trans ?_
  rw [h1]
  unfold qb
  cases cc (gX L) L.length 0<;>rfl
 ·cases h
end Go.Proofs.YtainfdcfkgemhaaGreat
namespace Go.Proofs.YtainfdcfkgemhaaGreat.Hr
open Go Go.Proofs Go.Sx Nw Pe So
set_option linter.unusedVariables false
def AT (m:Mem):Option (US×Fl×RowS):=match m with
 | ⟨b0::b1::bs,lv,r::r1::rs⟩=>match Nat.beq bs.length 46&&(jM 48 lv&&Nat.beq rs.length 6),rt 1 b0,oW 1 b1,lu r1 with
  | true,some (l0,l1,nw,wh),some (R,n),some L=>match mH (n0 1 2) 2 (fun i=>(b0::b1::bs).getD i []) (fun i=>(r::r1::rs).getD i .dead),mH (n1 1 2) 3 (fun i=>(b0::b1::bs).getD i []) (fun i=>(r::r1::rs).getD i .dead) with
   | some x,some y=>some (⟨x,y,l0,l1,nw,wh⟩,⟨L,R,n⟩,r)
   | _,_=>none
  | _,_,_,_=>none
 | _=>none
set_option maxHeartbeats 4000000 in
theorem Tc {m:Mem} {s:US} {f:Fl} {r0:RowS} (h:AT m=some (s,f,r0)):m=Cy s f r0:=by
 unfold AT at h
 split at h
 case h_2=>cases h
 rename_i b0 b1 bs lv r r1 rs
 split at h
 case h_2=>cases h
 rename_i l0 l1 nw wh R n L hb hu hf hl
 split at h
 case h_2=>cases h
 rename_i x y hx hy
 injection h with h
 injection h with e1 h
 injection h with e2 e3
 subst e1 e2 e3
 rw [Bool.and_eq_true,Bool.and_eq_true] at hb
 obtain ⟨b1',b2,b3⟩:=hb
 have e2:=kJ b2
 generalize hbs:b0::b1::bs=BS at hx hy
 generalize hrs:r::r1::rs=RS at hx hy
 have k1:BS.length=48:=by rw [<- hbs];show bs.length+1+1=48;rw [Nat.eq_of_beq_eq_true b1']
 have k2:RS.length=8:=by rw [<- hrs];show rs.length+1+1=8;rw [Nat.eq_of_beq_eq_true b3]
 have g0:BS.getD 0 []=b0:=by rw [<- hbs];rfl
 have g1:BS.getD 1 []=b1:=by rw [<- hbs];rfl
 have q0:RS.getD 0 .dead=r:=by rw [<- hrs];rfl
 have q1:RS.getD 1 .dead=r1:=by rw [<- hrs];rfl
 have e1:=o3 [] BS 48 k1
 have e3:=o3 RowS.dead RS 8 k2
 obtain ⟨p1,p2,p3,p4,p5,p6,p7,p8,p9,p10,p11,p12,p13,p14,p15,p16,p17,p18,p19,p20,p21,p22,p23,p24,p25,p26⟩:=qG hx
 obtain ⟨q1',q2,q3,q4,q5,q6,q7,q8,q9,q10,q11,q12,q13,q14,q15,er,q17,q18,q19,q20,q21,q22,q23,q24,q25,q26⟩:=qG hy
 have j1:(List.range 48).map (fun i=>BS.getD i [])=cU 1 ⟨x,y,l0,l1,nw,wh⟩::mC 1 ⟨L,R,n⟩::kf 1 2 x y:=by
  refine Eq.trans (b:=[BS.getD 0 [],BS.getD 1 [],BS.getD 2 [],BS.getD 3 [],BS.getD 4 [],BS.getD 5 [],BS.getD 6 [],BS.getD 7 [],BS.getD 8 [],BS.getD 9 [],BS.getD 10 [],BS.getD 11 [],BS.getD 12 [],BS.getD 13 [],BS.getD 14 [],BS.getD 15 [],BS.getD 16 [],BS.getD 17 [],BS.getD 18 [],BS.getD 19 [],BS.getD 20 [],BS.getD 21 [],BS.getD 22 [],BS.getD 23 [],BS.getD 24 [],BS.getD 25 [],BS.getD 26 [],BS.getD 27 [],BS.getD 28 [],BS.getD 29 [],BS.getD 30 [],BS.getD 31 [],BS.getD 32 [],BS.getD 33 [],BS.getD 34 [],BS.getD 35 [],BS.getD 36 [],BS.getD 37 [],BS.getD 38 [],BS.getD 39 [],BS.getD 40 [],BS.getD 41 [],BS.getD 42 [],BS.getD 43 [],BS.getD 44 [],BS.getD 45 [],BS.getD 46 [],BS.getD 47 []]) rfl ?_
  rw [g0,g1,AO hu,vi hf,show BS.getD 2 []=_ from p1,show BS.getD 3 []=_ from q1',show BS.getD 4 []=_ from p2,show BS.getD 5 []=_ from q2,show BS.getD 6 []=_ from p3,show BS.getD 7 []=_ from p4,show BS.getD 8 []=_ from p5,show BS.getD 9 []=_ from p6,show BS.getD 10 []=_ from p7,show BS.getD 11 []=_ from p8,show BS.getD 12 []=_ from p9,show BS.getD 13 []=_ from p10,show BS.getD 14 []=_ from p11,show BS.getD 15 []=_ from p12,show BS.getD 16 []=_ from q3,show BS.getD 17 []=_ from q4,show BS.getD 18 []=_ from q5,show BS.getD 19 []=_ from q6,show BS.getD 20 []=_ from q7,show BS.getD 21 []=_ from q8,show BS.getD 22 []=_ from q9,show BS.getD 23 []=_ from q10,show BS.getD 24 []=_ from q11,show BS.getD 25 []=_ from q12,show BS.getD 26 []=_ from p13,show BS.getD 27 []=_ from q13,show BS.getD 28 []=_ from p14,show BS.getD 29 []=_ from p15,show BS.getD 30 []=_ from p16,show BS.getD 31 []=_ from p17,show BS.getD 32 []=_ from p18,show BS.getD 33 []=_ from p19,show BS.getD 34 []=_ from p20,show BS.getD 35 []=_ from p21,show BS.getD 36 []=_ from p22,show BS.getD 37 []=_ from p23,show BS.getD 38 []=_ from q14,show BS.getD 39 []=_ from q15,show BS.getD 40 []=_ from er,show BS.getD 41 []=_ from q17,show BS.getD 42 []=_ from q18,show BS.getD 43 []=_ from q19,show BS.getD 44 []=_ from q20,show BS.getD 45 []=_ from q21,show BS.getD 46 []=_ from q22,show BS.getD 47 []=_ from q23]
  rfl
 have j2:(List.range 8).map (fun i=>RS.getD i .dead)=r::bh L::kd x y:=by
  refine Eq.trans (b:=[RS.getD 0 .dead,RS.getD 1 .dead,RS.getD 2 .dead,RS.getD 3 .dead,RS.getD 4 .dead,RS.getD 5 .dead,RS.getD 6 .dead,RS.getD 7 .dead]) rfl ?_
  rw [q0,q1,oI hl,show RS.getD 2 .dead=_ from p24,show RS.getD 3 .dead=_ from q24,show RS.getD 4 .dead=_ from p25,show RS.getD 5 .dead=_ from q25,show RS.getD 6 .dead=_ from p26,show RS.getD 7 .dead=_ from q26]
  rfl
 rw [e1,e2,e3,j1,j2]
 rfl
def uG (r:RowS):Option (List (List Dat)×Bool×Bool):=match r with
 | .live ⟨t,ks,L,own,mark⟩=>bif Nat.beq t 75&&eB ks sw then some (L,own,mark) else none
 | _=>none
theorem J0 {r:RowS} {L:List (List Dat)} {own mark:Bool} (h:uG r=some (L,own,mark)):r=ig L own mark:=by
 unfold uG at h
 split at h
 ·rename_i t ks L' o m
  cases e:Nat.beq t 75&&eB ks sw
  ·rw [e] at h;cases h
  ·rw [e] at h
   injection h with h
   injection h with h1 h
   injection h with h2 h3
   subst h1 h2 h3
   rw [Bool.and_eq_true] at e
   rw [Nat.eq_of_beq_eq_true e.1,iO e.2]
 ·cases h
theorem qgu {L:List (List Dat)} (hw:∀ l∈L,dU sw l/\fu l) (hf:qb L=true):L.length<=1000000/\∀ k,k<L.length->pF (jE (L.getD k [])):=by
 unfold qb at hf
 cases hb:cc (gX L) L.length 0
 ·rw [hb] at hf
  have hl:=of_decide_eq_true hf
  refine ⟨by omega,fun k hk=>?_⟩
  have hk':gX L (k:Int)=false:=by
   cases e:gX L (k:Int)
   ·rfl
   ·exfalso
    have:=(P4 (p:=gX L) (m:=L.length) (k:=0)).2 ⟨(k:Int),by omega,by omega,e⟩
    rw [hb] at this
    cases this
  have hm:L.getD k []∈L:=by
   rw [List.getD_eq_getElem?_getD,List.getElem?_eq_getElem hk,Option.getD_some]
   exact List.getElem_mem hk
  have hw:=hw _ hm
  have hs:gX L (k:Int)=decide (wI (((gS 17 (L.getD k [])).size:Int)+((gS 18 (L.getD k [])).size:Int))>300):=rfl
  rw [hs] at hk'
  have hk':=of_decide_eq_false hk'
  generalize L.getD k []=l at *
  match l,hw with
  | [_,_,_,_,_,_,_,_,_,_,_,_,_,_,_,_,_,.s a,.s b,_,_,_,_,_,_,_,_],hw =>
   have ha:a.size<=reachBytes:=hw.2 a (by simp)
   have hb:b.size<=reachBytes:=hw.2 b (by simp)
   have hm:=reachBytes_lt
   have hk':¬ wI ((a.size:Int)+(b.size:Int))>300:=hk'
   rw [aC (by omega)] at hk'
   exact ⟨by show a.size<=300;omega,by show b.size<=300;omega⟩
 ·rw [hb] at hf
  cases hf
theorem navs8' {l:List Dat} (h:dU [.num .i64,.num .i64,.num .i64,.num .i64,.num .i64,.num .i64,.num .i64,.num .i64] l):∃ n:Nv,l=[.n n.x1,.n n.x2,.n n.x3,.n n.x4,.n n.x5,.n n.x6,.n n.x7,.n n.x8]:=by
 match l,h with
 | [.n a,.n b,.n c,.n d,.n e,.n f,.n g,.n q],_=>exact ⟨⟨a,b,c,d,e,f,g,q⟩,rfl⟩
end Go.Proofs.YtainfdcfkgemhaaGreat.Hr
namespace Go.Proofs.YtainfdcfkgemhaaGreat.Hr
open Go Go.Proofs Go.Sx Nw Pe So
set_option linter.unusedVariables false
def xd (k:Int):SV:=.ag [.row 0,.v (I 2),.v (I 3),.v (I 4),.v (I 2),.v (I 50),.v (I 2),.v (I 10),.v (I k)]
def Cv (k:Nat):Mem:=⟨[],[],[bh (List.replicate k fK)]⟩
theorem XY:runG Γx24 (cM Γx24 prog 60 3) prog f28 [.v (I 2)] M0=some (xd 2,Cv 2):=by kernel_rfl
theorem XX:runG Γx24 (cM Γx24 prog 60 3) prog f28 [.v (I 3)] M0=some (xd 3,Cv 3):=by kernel_rfl
theorem XW:runG Γx24 (cM Γx24 prog 60 3) prog f28 [.v (I 4)] M0=some (xd 4,Cv 4):=by kernel_rfl
end Go.Proofs.YtainfdcfkgemhaaGreat.Hr
namespace Go.Proofs.YtainfdcfkgemhaaGreat.Hr
open Go Go.Proofs Go.Sx Nw Pe So
set_option linter.unusedVariables false
theorem Yh:runG Γx24 (cM Γx24 prog 60 3) prog f30 [.v (I 2)] M0=some (.v (S mf),M0):=by kernel_rfl
end Go.Proofs.YtainfdcfkgemhaaGreat.Hr
namespace Go.Proofs.YtainfdcfkgemhaaGreat.Hr
open Go Go.Proofs Go.Sx Nw Pe So
set_option linter.unusedVariables false
theorem Yg:runG Γx24 (cM Γx24 prog 60 3) prog f30 [.v (I 3)] M0=some (.v (S iV),M0):=by kernel_rfl
end Go.Proofs.YtainfdcfkgemhaaGreat.Hr
namespace Go.Proofs.YtainfdcfkgemhaaGreat.Hr
open Go Go.Proofs Go.Sx Nw Pe So
set_option linter.unusedVariables false
theorem Yf:runG Γx24 (cM Γx24 prog 60 3) prog f30 [.v (I 4)] M0=some (.v (S kN),M0):=by kernel_rfl
end Go.Proofs.YtainfdcfkgemhaaGreat.Hr
namespace Go.Proofs.YtainfdcfkgemhaaGreat.Hr
open Go Go.Proofs Go.Sx Nw Pe So
set_option linter.unusedVariables false
def im (k:Int):Bool:=k==1||(k==2||(k==3||k==4))
def cJ (k:Int):ByteArray:=bif k==1 then kO else bif k==2 then mf else bif k==3 then iV else kN
def mM (k:Int):Mem:=⟨[],[],[bh (List.replicate k.toNat fK)]⟩
theorem sc {k:Int} (h:im k=true):k=1\/k=2\/k=3\/k=4:=by
 unfold im at h
 simpa only [Bool.or_eq_true,beq_iff_eq] using h
def Fo (xs:List SV) (m:Mem):Option (Bool×SV×Mem) :=
 match xs,m with
 | [.v (.int .i64 n)],⟨[],[],[]⟩=>some (im n,xd n,mM n)
 | _,_=>none
theorem qeQ:aM 28 Fo:=by
 intro xs m r m' h
 unfold Fo at h
 split at h
 ·rename_i n
  obtain ⟨h1,rfl,rfl⟩:=an h
  rcases sc h1 with rfl|rfl|rfl|rfl
  ·exact af dA func28 rfl (fun z _ _ b _=>du dA mixed 60 3 b) Lv
  ·exact af dA func28 rfl (fun z _ _ b _=>du dA mixed 60 3 b) XY
  ·exact af dA func28 rfl (fun z _ _ b _=>du dA mixed 60 3 b) XX
  ·exact af dA func28 rfl (fun z _ _ b _=>du dA mixed 60 3 b) XW
 ·cases h
def FB (vs:List Value):Option (Bool×Value) :=
 match vs with
 | [.int .i64 n]=>some (im n,S (cJ n))
 | _=>none
theorem qe4:am 30 FB:=by
 intro vs r h
 unfold FB at h
 split at h
 ·rename_i n
  obtain ⟨h1,rfl⟩:=ab h
  rcases sc h1 with rfl|rfl|rfl|rfl
  ·exact ak (vs:=[I 1]) (m':=M0) dA func30 rfl (fun z _ _ b _=>du dA mixed 60 3 b) Lw
  ·exact ak (vs:=[I 2]) (m':=M0) dA func30 rfl (fun z _ _ b _=>du dA mixed 60 3 b) Yh
  ·exact ak (vs:=[I 3]) (m':=M0) dA func30 rfl (fun z _ _ b _=>du dA mixed 60 3 b) Yg
  ·exact ak (vs:=[I 4]) (m':=M0) dA func30 rfl (fun z _ _ b _=>du dA mixed 60 3 b) Yf
 ·cases h
def gh (p:Int):Int:=wI (1+wI ((IntKind.u64.wrap p).tmod 4))
theorem qav (p:Int):im (gh p)=true:=by
 have e2:0<=IntKind.u64.wrap p:=Int.emod_nonneg p (by show (18446744073709551616:Int)≠0;decide)
 have h:gh p=1\/gh p=2\/gh p=3\/gh p=4:=by
  unfold gh
  generalize IntKind.u64.wrap p=q at *
  rw [Int.tmod_eq_emod_of_nonneg e2,aC (n:=q % 4) (by omega),aC (by omega)]
  omega
 unfold im
 rcases h with h|h|h|h<;>rw [h]<;>rfl
def BC (k:Int):US:=⟨dd (cJ k) 0,dd (cJ k) 0,zS,zS,0,0⟩
def J5 (k:Int) (n:Nv):Fl:=⟨List.replicate k.toNat fK,⟨2,3,4,2,50,2,10,k⟩,Bs n⟩
theorem qaX {k:Int} (h:im k=true):fP (cJ k) 0 0 iA=true:=by
 have h1:fP (cJ 1) 0 0 iA=true:=by kernel_rfl
 have h2:fP (cJ 2) 0 0 iA=true:=by kernel_rfl
 have h3:fP (cJ 3) 0 0 iA=true:=by kernel_rfl
 have h4:fP (cJ 4) 0 0 iA=true:=by kernel_rfl
 rcases sc h with rfl|rfl|rfl|rfl<;>assumption
def pR (x:PS):Bool:=lW x.img x.port&&((decide (0<=x.m.p)&&decide (x.m.p<((cN x.img).length:Int)))&&(x.ft==0&&(io x&&((kL x.f.F&&Nat.beq (aD x.f.F).size 48)&&(x.f.le==0&&(x.base==0&&pM x))))))
theorem xt {x:PS} (h:pR x=true) (hL:x.m.L=cN x.img):Inv 48 x:=by
 unfold pR at h
 simp only [Bool.and_eq_true,beq_iff_eq,decide_eq_true_eq] at h
 obtain ⟨h1,⟨h2,h3⟩,h4,h5,⟨h6,h7⟩,h8,h9,h10⟩:=h
 exact ⟨h1,hL,⟨h2,h3⟩,h4,h5,⟨h6,Nat.eq_of_beq_eq_true h7⟩,by rw [h8];exact Int.le_refl _,by rw [h9];decide,h10⟩
theorem Mu {k:Int} (h:im k=true):Inv 48 (dd (cJ k) 0):=by
 have h1:pR (dd (cJ 1) 0)=true:=by kernel_rfl
 have h2:pR (dd (cJ 2) 0)=true:=by kernel_rfl
 have h3:pR (dd (cJ 3) 0)=true:=by kernel_rfl
 have h4:pR (dd (cJ 4) 0)=true:=by kernel_rfl
 have l1:(dd (cJ 1) 0).m.L=cN (dd (cJ 1) 0).img:=by kernel_rfl
 have l2:(dd (cJ 2) 0).m.L=cN (dd (cJ 2) 0).img:=by kernel_rfl
 have l3:(dd (cJ 3) 0).m.L=cN (dd (cJ 3) 0).img:=by kernel_rfl
 have l4:(dd (cJ 4) 0).m.L=cN (dd (cJ 4) 0).img:=by kernel_rfl
 rcases sc h with rfl|rfl|rfl|rfl
 ·exact xt h1 l1
 ·exact xt h2 l2
 ·exact xt h3 l3
 ·exact xt h4 l4
end Go.Proofs.YtainfdcfkgemhaaGreat.Hr
