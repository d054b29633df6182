/-
  A truth that goes on,a mission of one phase;that the answers that the document fixes are so.
-/
import Derived.Test.YtainfdcfkgemhaaGreatYl
import Derived.Test.YtainfdcfkgemhaaGreatYe
set_option maxRecDepth 100000
noncomputable section
open Go.Proofs.Tryz
namespace Go.Proofs.YtainfdcfkgemhaaGreat.Hr
open Go Go.Proofs Go.Sx Pe
set_option linter.unusedVariables false
structure Fl where
 L:List (List Dat)
 R:Rl
 n:Nv
def cFi (r:Nat) (x:Fl):List SA:=.row r::eC x.R (tY x.n [])
def fM (x:Fl):Mem:=⟨[cFi 0 x],[true],[bP x.L]⟩
def Bc (r:Nat) (b:List SA):Option (Rl×Nv):=match b with
 | .row j::t=>match Nat.beq j r,lx t with
  | true,some (R,t')=>match u5 t' with
   | some (n,[])=>some (R,n)
   | _=>none
  | _,_=>none
 | _=>none
theorem TO {r:Nat} {b:List SA} {R:Rl} {n:Nv} (h:Bc r b=some (R,n)):b=.row r::eC R (tY n []):=by
 unfold Bc at h
 split at h
 ·split at h
  ·rename_i R' t' hj hr
   split at h
   ·rename_i n' hn
    injection h with h
    injection h with h1 h2
    subst h1 h2
    rw [oP hr,KE hn,Nat.eq_of_beq_eq_true hj]
   ·cases h
  ·cases h
 ·cases h
def va (m:Mem):Option Fl:=match m with
 | ⟨[b],[true],[.live ⟨117,[.sl 162 [.num .i64,.num .i64],.num .i64,.num .i64,.num .i64,.num .i64],L,true,false⟩]⟩=>match Bc 0 b with
  | some (R,n)=>some ⟨L,R,n⟩
  | none=>none
 | _=>none
theorem KG {m:Mem} {x:Fl} (h:va m=some x):m=fM x:=by
 unfold va at h
 split at h
 ·split at h
  ·rename_i R n hb
   injection h with h
   subst h
   rw [TO hb]
   rfl
  ·cases h
 ·cases h
def CG (a b:Int):Int:=if b>a then b else a
def Nh (a b:Int):Int:=if b<a then b else a
def Di (v d mo:Int):Int:=Nh (Nh (CG (CG (wI (v+d.tmod (wI (mo+1)))) (wI (v - mo))) (-400)) (wI (v+mo))) 400
theorem YM (v d mo:Int):runG Γnt L0 prog f71 [.v (I v),.v (I d),.ptr 0 0] ⟨[[.v (I mo)]],[true],[]⟩=(bif wI (mo+1)==0 then none else some (.v (I (Di v d mo)),⟨[[.v (I mo)]],[true],[]⟩)):=by kernel_rfl
def FX (xs:List SV) (m:Mem):Option (Bool×Value) :=
 match xs,m with
 | [.v (.int .i64 v),.v (.int .i64 d),.ptr 0 0],⟨[[.v (.int .i64 mo)]],[true],[]⟩=>some (!(wI (mo+1)==0),I (Di v d mo))
 | _,_=>none
theorem FW:bi 71 FX:=by
 intro xs m r h
 unfold FX at h
 split at h
 ·rename_i v d mo
  obtain ⟨h1,rfl⟩:=aa h
  rw [Bool.not_eq_true'] at h1
  exact aj (Λ:=L0) ut func71 rfl af ((YM v d mo).trans (by rw [h1];rfl))
 ·cases h
def Γfg:Orc:={ ah 74 yp (ah 129 Fo (aR 71 FX ΓO)) with av:=true,bs:=true,sb:=true }
theorem qY:Γfg.Ok prog:=⟨(ac (ac (aL bR FW) Fm) yo).call,(ac (ac (aL bR FW) Fm) yo).rd,(ac (ac (aL bR FW) Fm) yo).eqv⟩
def ho (v d:Int):Int:=Di v (wI d) 46
def tl (n:Nv) (a b c:Int):Nv:=⟨wI ((BitVec.ofInt 64 (wI (n.x1+1)) &&& BitVec.ofInt 64 65535).toNat:Int),n.x2,wI (n.x3+ho n.x6 a),wI (n.x4+ho n.x7 b),CG (wI (n.x5+ho n.x8 c)) 0,ho n.x6 a,ho n.x7 b,ho n.x8 c⟩
def Γfh:Orc:={ Γfg with av:=false,bs:=false,sb:=false }
theorem qjk:Γfh.Ok prog:=⟨qY.call,qY.rd,qY.eqv⟩
def wE (x:Fl):Fl:={ x with R:={ x.R with r4:=2,r5:=50 } }
theorem YR (x:Fl) (a b c:Int):runG Γfh L0 prog f32 [.ptr 0 0,.v (.agg #[.int .i8 a,.int .i8 b,.int .i8 c])] (fM (wE x))=some (.v (.tuple #[]),fM (wE { x with n:=tl x.n a b c })):=by kernel_rfl
def wT (x:Fl):Bool:=x.R.r4==2&&x.R.r5==50
theorem AU {x:Fl} (h:wT x=true):wE x=x:=by
 unfold wT at h
 simp only [Bool.and_eq_true,beq_iff_eq] at h
 rcases x with ⟨L,⟨r1,r2,r3,r4,r5,r6,r7,r8⟩,n⟩
 obtain ⟨h1,h2⟩:=h
 cases h1
 cases h2
 rfl
def F2 (xs:List SV) (m:Mem):Option (Bool×SV×Mem) :=
 match xs,va m with
 | [.ptr 0 0,.v (.agg ⟨[.int .i8 a,.int .i8 b,.int .i8 c]⟩)],some x=>some (wT x,.v (.tuple #[]),fM { x with n:=tl x.n a b c })
 | _,_=>none
theorem qfW:aT 32 F2:=by
 intro xs m r m' h
 unfold F2 at h
 split at h
 case h_2=>cases h
 rename_i a b c x hx
 obtain ⟨h1,rfl,rfl⟩:=az h
 rw [KG hx]
 have e:=YR x a b c
 have e2:wE { x with n:=tl x.n a b c }={ x with n:=tl x.n a b c }:=AU (x:={ x with n:=tl x.n a b c }) h1
 rw [AU h1,e2] at e
 exact aj (Λ:=L0) qjk func32 rfl af e
def KU (i:Int) (n:Nv) (a b c d e f:Int):ByteArray:=CB i n.x1 n.x2 (wI (n.x3+(wI a).tmod 3)) (wI (n.x4+(wI b).tmod 3)) (wI (n.x5+(wI c).tmod 3)) (wI (n.x6+(wI d).tmod 3)) (wI (n.x7+(wI e).tmod 3)) (wI (n.x8+(wI f).tmod 3))
def Γti:Orc:={ Γfg with sb:=false,bs:=false,ia:=true }
theorem qiW:Γti.Ok prog:=⟨qY.call,qY.rd,qY.eqv⟩
theorem VW (x:Fl) (i a b c d e f:Int):runG Γti L0 prog f69 [.ptr 0 0,.v (I i),.v (.agg #[.int .i8 a,.int .i8 b,.int .i8 c,.int .i8 d,.int .i8 e,.int .i8 f])] (fM (wE x))=some (.v (S (KU i x.n a b c d e f)),fM (wE x)):=by kernel_rfl
def DT (xs:List SV) (m:Mem):Option (Bool×Value) :=
 match xs,va m with
 | [.ptr 0 0,.v (.int .i64 i),.v (.agg ⟨[.int .i8 a,.int .i8 b,.int .i8 c,.int .i8 d,.int .i8 e,.int .i8 f]⟩)],some x=>some (wT x,S (KU i x.n a b c d e f))
 | _,_=>none
theorem qd4:bi 69 DT:=by
 intro xs m r h
 unfold DT at h
 split at h
 case h_2=>cases h
 rename_i i a b c d e f x hx
 obtain ⟨h1,rfl⟩:=aa h
 rw [KG hx]
 have k:=VW x i a b c d e f
 rw [AU h1] at k
 exact aj (Λ:=L0) qiW func69 rfl af k
end Go.Proofs.YtainfdcfkgemhaaGreat.Hr
namespace Go.Proofs.YtainfdcfkgemhaaGreat.Hr
open Go Go.Proofs Go.Sx Nw Pe So
set_option linter.unusedVariables false
def Ni:SV:=.ag [.row 0,.v (I 2),.v (I 3),.v (I 4),.v (I 2),.v (I 50),.v (I 2),.v (I 10),.v (I 1)]
def Nj:Mem:=⟨[],[],[bP [Mx]]⟩
theorem Yn:runG Γx24 (et Γx24 prog 60 3) prog f28 [.v (I 1)] M0=some (Ni,Nj):=by kernel_rfl
theorem YF:runG Γx24 (et Γx24 prog 60 3) prog f30 [.v (I 1)] M0=some (.v (S nL),M0):=by kernel_rfl
def FD (xs:List SV) (m:Mem):Option (Bool×SV×Mem) :=
 match xs,m with
 | [.v (.int .i64 n)],⟨[],[],[]⟩=>some (n==1,Ni,Nj)
 | _,_=>none
theorem qfx:aT 28 FD:=by
 intro xs m r m' h
 unfold FD at h
 split at h
 ·rename_i n
  obtain ⟨h1,rfl,rfl⟩:=az h
  obtain rfl:=eq_of_beq h1
  exact aj qV func28 rfl (fun z _ _ b _=>gb qV mixed 60 3 b) Yn
 ·cases h
def FQ (vs:List Value):Option (Bool×Value) :=
 match vs with
 | [.int .i64 n]=>some (n==1,S nL)
 | _=>none
theorem qfL:an 30 FQ:=by
 intro vs r h
 unfold FQ at h
 split at h
 ·rename_i n
  obtain ⟨h1,rfl⟩:=aa h
  obtain rfl:=eq_of_beq h1
  exact am (vs:=[I 1]) (m':=M0) qV func30 rfl (fun z _ _ b _=>gb qV mixed 60 3 b) YF
 ·cases h
def Lv (n:Nv):Nv:=⟨wI ((BitVec.ofInt 64 n.x1 &&& BitVec.ofInt 64 1023).toNat:Int),0,n.x3.tmod 3000,n.x4.tmod 3000,wI ((BitVec.ofInt 64 n.x5 &&& BitVec.ofInt 64 2047).toNat:Int),n.x6.tmod 100,n.x7.tmod 100,n.x8.tmod 100⟩
theorem Wo (L:List (List Dat)) (R:Rl) (n:Nv):runG Γnt L0 prog f31 [.ag [.row 0,.v (I R.r1),.v (I R.r2),.v (I R.r3),.v (I R.r4),.v (I R.r5),.v (I R.r6),.v (I R.r7),.v (I R.r8)],.v (.agg #[I n.x1,I n.x2,I n.x3,I n.x4,I n.x5,I n.x6,I n.x7,I n.x8])] ⟨[],[],[bP L]⟩=some (.ptr 0 0,fM ⟨L,R,Lv n⟩):=by kernel_rfl
def D9 (xs:List SV) (m:Mem):Option (Bool×SV×Mem) :=
 match xs,m with
 | [.ag [.row 0,.v (.int .i64 r1),.v (.int .i64 r2),.v (.int .i64 r3),.v (.int .i64 r4),.v (.int .i64 r5),.v (.int .i64 r6),.v (.int .i64 r7),.v (.int .i64 r8)],.v (.agg ⟨[.int .i64 a,.int .i64 b,.int .i64 c,.int .i64 d,.int .i64 e,.int .i64 f,.int .i64 g,.int .i64 q]⟩)],⟨[],[],[r]⟩=>match rh r with
  | some L=>some (true,.ptr 0 0,fM ⟨L,⟨r1,r2,r3,r4,r5,r6,r7,r8⟩,Lv ⟨a,b,c,d,e,f,g,q⟩⟩)
  | none=>none
 | _,_=>none
theorem qeg:aT 31 D9:=by
 intro xs m r m' h
 unfold D9 at h
 split at h
 case h_2=>cases h
 rename_i r1 r2 r3 r4 r5 r6 r7 r8 a b c d e f g q r
 split at h
 case h_2=>cases h
 rename_i L hL
 obtain ⟨_,rfl,rfl⟩:=az h
 rw [AB hL]
 exact aj (Λ:=L0) ut func31 rfl af (Wo L ⟨r1,r2,r3,r4,r5,r6,r7,r8⟩ ⟨a,b,c,d,e,f,g,q⟩)
def DI (xs:List SV) (m:Mem):Option (Bool×SV×Mem) :=
 match xs,m with
 | [.v (.string img),.v (.agg ⟨[.int .i64 p,.int .i64 q]⟩)],⟨[],[],[]⟩=>some (lJ img p 0 tC&&lJ img q 0 tC,.ptr 0 0,uM ⟨wV img p,wV img q,zS,zS,0,0⟩)
 | _,_=>none
theorem qdT:aT 29 DI:=by
 intro xs m r m' h
 unfold DI at h
 split at h
 case h_2=>cases h
 rename_i img p q
 obtain ⟨h1,rfl,rfl⟩:=az h
 rw [Bool.and_eq_true] at h1
 exact aj (Λ:=L0) qiP func29 rfl af ((VJ img p q).trans (by rw [h1.1,h1.2];rfl))
end Go.Proofs.YtainfdcfkgemhaaGreat.Hr
namespace Go.Proofs.YtainfdcfkgemhaaGreat.Hr
open Go Go.Proofs Go.Sx Nw Pe So
set_option linter.unusedVariables false
def Γax:Orc:=aE 33 DM (aR 69 DT (aE 32 F2 (aR 35 xL (aR 36 xN (aE 29 DI (ah 30 FQ (ah 74 yp (aE 28 FD (aE 31 D9 ΓO)))))))))
theorem zY:Γax.Ok prog:=aA (aL (aA (aL (aL (aA (ac (ac (aA (aA bR qeg) qfx) yo) qfL) qdT) xM) Oh) qfW) qd4) qdX
def Kl (f:FuncId):Bool:=Km f||(Nat.beq f 33||(Nat.beq f 32||(Nat.beq f 29||(Nat.beq f 28||(Nat.beq f 31||Nat.beq f 68)))))
def Γay:Orc:=nR prog Γax.call Γax.rd Γax.eqv Kl 60 16
theorem Re:Γay.Ok prog:=yN mixed names (ext:=Γax.call) (rd:=Γax.rd) (eqv:=Γax.eqv) ⟨zY.call,zY.rd,⟨zY.eqv.1,fun _ _ _ _ _ _ h=>by cases h⟩⟩ 60 16
def G3 (xs:List SV) (m:Mem):Option (Bool×SV×Mem):=match runG Γay (et Γay prog 60 3) prog f68 xs m with
 | some (r,m')=>some (true,r,m')
 | none=>none
theorem qgV:aT 68 G3:=by
 intro xs m r m' h
 unfold G3 at h
 split at h
 ·rename_i r1 m1 h1
  obtain ⟨_,rfl,rfl⟩:=az h
  exact aj Re func68 rfl (fun z _ _ b _=>gb Re mixed 60 3 b) h1
 ·cases h
def Γa2:Orc:=aE 68 G3 Γax
theorem IB:Γa2.Ok prog:=aA zY qgV
def Γaz:Orc:=nR prog Γa2.call Γa2.rd Γa2.eqv Kl 60 16
theorem Rd:Γaz.Ok prog:=yN mixed names (ext:=Γa2.call) (rd:=Γa2.rd) (eqv:=Γa2.eqv) ⟨IB.call,IB.rd,⟨IB.eqv.1,fun _ _ _ _ _ _ h=>by cases h⟩⟩ 60 16
theorem Z3:runG Γaz (et Γaz prog 60 3) prog f26 [] M0=some (.v (Bo true),M0):=by kernel_rfl
def gAx (vs:List Value):Option (Bool×Value) :=
 match vs with
 | []=>some (true,Bo true)
 | _=>none
theorem gAx_ok:an 26 gAx:=by
 intro vs r h
 unfold gAx at h
 split at h
 ·obtain ⟨_,rfl⟩:=aa h
  exact am (vs:=[]) (m':=M0) Rd func26 rfl (fun z _ _ b _=>gb Rd mixed 60 3 b) Z3
 ·cases h
end Go.Proofs.YtainfdcfkgemhaaGreat.Hr
