/-
  A truth that goes on,a mission of one phase;that the answers that the document fixes are so.
-/
import Derived.Test.YtainfdcfkgemhaaGreatYl
import Derived.Test.YtainfdcfkgemhaaGreatYe
set_option maxRecDepth 100000
noncomputable section
open Go.Proofs.Tryz
namespace Go.Proofs.YtainfdcfkgemhaaGreat.Hr
open Go Go.Proofs Go.Sx Pe
set_option linter.unusedVariables false
structure Fl where
 L:List (List Dat)
 R:Rl
 n:Nv
def mC (r:Nat) (x:Fl):List SA:=.row r::eW x.R (tL x.n [])
def fM (x:Fl):Mem:=⟨[mC 0 x],[true],[bh x.L]⟩
def oW (r:Nat) (b:List SA):Option (Rl×Nv):=match b with
 | .row j::t=>match Nat.beq j r,lH t with
  | true,some (R,t')=>match vc t' with
   | some (n,[])=>some (R,n)
   | _=>none
  | _,_=>none
 | _=>none
theorem vi {r:Nat} {b:List SA} {R:Rl} {n:Nv} (h:oW r b=some (R,n)):b=.row r::eW R (tL n []):=by
 unfold oW at h
 split at h
 ·split at h
  ·rename_i R' t' hj hr
   split at h
   ·rename_i n' hn
    injection h with h
    injection h with h1 h2
    subst h1 h2
    rw [oT hr,Ko hn,Nat.eq_of_beq_eq_true hj]
   ·cases h
  ·cases h
 ·cases h
def oX (m:Mem):Option Fl:=match m with
 | ⟨[b],[true],[.live ⟨117,[.sl 162 [.num .i64,.num .i64],.num .i64,.num .i64,.num .i64,.num .i64],L,true,false⟩]⟩=>match oW 0 b with
  | some (R,n)=>some ⟨L,R,n⟩
  | none=>none
 | _=>none
theorem vj {m:Mem} {x:Fl} (h:oX m=some x):m=fM x:=by
 unfold oX at h
 split at h
 ·split at h
  ·rename_i R n hb
   injection h with h
   subst h
   rw [vi hb]
   rfl
  ·cases h
 ·cases h
def Cw (a b:Int):Int:=if b>a then b else a
def ME (a b:Int):Int:=if b<a then b else a
def C9 (v d mo:Int):Int:=ME (ME (Cw (Cw (wI (v+d.tmod (wI (mo+1)))) (wI (v - mo))) (-400)) (wI (v+mo))) 400
theorem Yp (v d mo:Int):runG Γnt L0 prog f71 [.v (I v),.v (I d),.ptr 0 0] ⟨[[.v (I mo)]],[true],[]⟩=(bif wI (mo+1)==0 then none else some (.v (I (C9 v d mo)),⟨[[.v (I mo)]],[true],[]⟩)):=by kernel_rfl
def FJ (xs:List SV) (m:Mem):Option (Bool×Value) :=
 match xs,m with
 | [.v (.int .i64 v),.v (.int .i64 d),.ptr 0 0],⟨[[.v (.int .i64 mo)]],[true],[]⟩=>some (!(wI (mo+1)==0),I (C9 v d mo))
 | _,_=>none
theorem FI:bi 71 FJ:=by
 intro xs m r h
 unfold FJ at h
 split at h
 ·rename_i v d mo
  obtain ⟨h1,rfl⟩:=ab h
  rw [Bool.not_eq_true'] at h1
  exact af (Λ:=L0) uv func71 rfl ai ((Yp v d mo).trans (by rw [h1];rfl))
 ·cases h
def Γfg:Orc:={ ah 74 ta (ah 129 E8 (aQ 71 FJ ΓO)) with av:=true,bs:=true,sb:=true }
theorem oD:Γfg.Ok prog:=⟨(ac (ac (aJ bM FI) E7) nV).call,(ac (ac (aJ bM FI) E7) nV).rd,(ac (ac (aJ bM FI) E7) nV).eqv⟩
def ho (v d:Int):Int:=C9 v (wI d) 46
def pU (n:Nv) (a b c:Int):Nv:=⟨wI ((BitVec.ofInt 64 (wI (n.x1+1)) &&& BitVec.ofInt 64 65535).toNat:Int),n.x2,wI (n.x3+ho n.x6 a),wI (n.x4+ho n.x7 b),Cw (wI (n.x5+ho n.x8 c)) 0,ho n.x6 a,ho n.x7 b,ho n.x8 c⟩
def Γfh:Orc:={ Γfg with av:=false,bs:=false,sb:=false }
theorem qiR:Γfh.Ok prog:=⟨oD.call,oD.rd,oD.eqv⟩
def wE (x:Fl):Fl:={ x with R:={ x.R with r4:=2,r5:=50 } }
theorem Yu (x:Fl) (a b c:Int):runG Γfh L0 prog f32 [.ptr 0 0,.v (.agg #[.int .i8 a,.int .i8 b,.int .i8 c])] (fM (wE x))=some (.v (.tuple #[]),fM (wE { x with n:=pU x.n a b c })):=by kernel_rfl
def jF (x:Fl):Bool:=x.R.r4==2&&x.R.r5==50
theorem mZ {x:Fl} (h:jF x=true):wE x=x:=by
 unfold jF at h
 simp only [Bool.and_eq_true,beq_iff_eq] at h
 rcases x with ⟨L,⟨r1,r2,r3,r4,r5,r6,r7,r8⟩,n⟩
 obtain ⟨h1,h2⟩:=h
 cases h1
 cases h2
 rfl
def yt (xs:List SV) (m:Mem):Option (Bool×SV×Mem) :=
 match xs,oX m with
 | [.ptr 0 0,.v (.agg ⟨[.int .i8 a,.int .i8 b,.int .i8 c]⟩)],some x=>some (jF x,.v (.tuple #[]),fM { x with n:=pU x.n a b c })
 | _,_=>none
theorem Og:aM 32 yt:=by
 intro xs m r m' h
 unfold yt at h
 split at h
 case h_2=>cases h
 rename_i a b c x hx
 obtain ⟨h1,rfl,rfl⟩:=an h
 rw [vj hx]
 have e:=Yu x a b c
 have e2:wE { x with n:=pU x.n a b c }={ x with n:=pU x.n a b c }:=mZ (x:={ x with n:=pU x.n a b c }) h1
 rw [mZ h1,e2] at e
 exact af (Λ:=L0) qiR func32 rfl ai e
def rB (i:Int) (n:Nv) (a b c d e f:Int):ByteArray:=gK i n.x1 n.x2 (wI (n.x3+(wI a).tmod 3)) (wI (n.x4+(wI b).tmod 3)) (wI (n.x5+(wI c).tmod 3)) (wI (n.x6+(wI d).tmod 3)) (wI (n.x7+(wI e).tmod 3)) (wI (n.x8+(wI f).tmod 3))
def Γti:Orc:={ Γfg with sb:=false,bs:=false,ia:=true }
theorem qis:Γti.Ok prog:=⟨oD.call,oD.rd,oD.eqv⟩
theorem VE (x:Fl) (i a b c d e f:Int):runG Γti L0 prog f69 [.ptr 0 0,.v (I i),.v (.agg #[.int .i8 a,.int .i8 b,.int .i8 c,.int .i8 d,.int .i8 e,.int .i8 f])] (fM (wE x))=some (.v (S (rB i x.n a b c d e f)),fM (wE x)):=by kernel_rfl
def xS (xs:List SV) (m:Mem):Option (Bool×Value) :=
 match xs,oX m with
 | [.ptr 0 0,.v (.int .i64 i),.v (.agg ⟨[.int .i8 a,.int .i8 b,.int .i8 c,.int .i8 d,.int .i8 e,.int .i8 f]⟩)],some x=>some (jF x,S (rB i x.n a b c d e f))
 | _,_=>none
theorem xR:bi 69 xS:=by
 intro xs m r h
 unfold xS at h
 split at h
 case h_2=>cases h
 rename_i i a b c d e f x hx
 obtain ⟨h1,rfl⟩:=ab h
 rw [vj hx]
 have k:=VE x i a b c d e f
 rw [mZ h1] at k
 exact af (Λ:=L0) qis func69 rfl ai k
def fp (b:Int):Int:=wI ((BitVec.ofInt 64 b &&& BitVec.ofInt 64 3).toNat:Int)
def mK (b:Int):Int:=wI ((BitVec.ofInt 64 b &&& BitVec.ofInt 64 65535).toNat:Int)
def tk (i:Int) (n:Nv) (b:Int) (s:ByteArray):ByteArray:=bif fp b==0 then s else bif fp b==1 then gK i (mK n.x1) n.x2 (wI (n.x3+100000)) n.x4 n.x5 n.x6 n.x7 n.x8 else bif fp b==2 then gK i (mK n.x1) n.x2 0 0 n.x5 n.x6 n.x7 n.x8 else bif fp b==3 then gK i (mK (wI (n.x1+7))) n.x2 n.x3 n.x4 n.x5 (wI (n.x6+3)) n.x7 n.x8 else gK i (mK n.x1) n.x2 n.x3 n.x4 n.x5 n.x6 n.x7 n.x8
theorem YF (x:Fl) (i b:Int) (s:ByteArray):runG Γfg L0 prog f73 [.ptr 0 0,.v (I i),.v (I b),.v (S s)] (fM x)=(bif fp b==0 then some (.v (S s),fM x) else bif fp b==1 then some (.v (S (gK i (mK x.n.x1) x.n.x2 (wI (x.n.x3+100000)) x.n.x4 x.n.x5 x.n.x6 x.n.x7 x.n.x8)),fM x) else bif fp b==2 then some (.v (S (gK i (mK x.n.x1) x.n.x2 0 0 x.n.x5 x.n.x6 x.n.x7 x.n.x8)),fM x) else bif fp b==3 then some (.v (S (gK i (mK (wI (x.n.x1+7))) x.n.x2 x.n.x3 x.n.x4 x.n.x5 (wI (x.n.x6+3)) x.n.x7 x.n.x8)),fM x) else some (.v (S (gK i (mK x.n.x1) x.n.x2 x.n.x3 x.n.x4 x.n.x5 x.n.x6 x.n.x7 x.n.x8)),fM x)):=by kernel_rfl
def FW (xs:List SV) (m:Mem):Option (Bool×Value) :=
 match xs,oX m with
 | [.ptr 0 0,.v (.int .i64 i),.v (.int .i64 b),.v (.string s)],some x=>some (true,S (tk i x.n b s))
 | _,_=>none
theorem FV:bi 73 FW:=by
 intro xs m r h
 unfold FW at h
 split at h
 case h_2=>cases h
 rename_i i b s x hx
 obtain ⟨_,rfl⟩:=ab h
 rw [vj hx]
 refine af (Λ:=L0) oD func73 rfl ai ((YF x i b s).trans ?_)
 unfold tk
 cases fp b==0<;>cases fp b==1<;>cases fp b==2<;>cases fp b==3<;>rfl
theorem vA (i:Int) (n:Nv) (a b c d e f:Int):(rB i n a b c d e f).size<=70:=pG _ _ _ _ _ _ _ _ _
theorem OI (i:Int) (n:Nv) (b:Int) (s:ByteArray):(tk i n b s).size<=s.size+70:=by
 have:=pG
 unfold tk
 cases fp b==0
 ·cases fp b==1
  ·cases fp b==2
   ·cases fp b==3
    ·exact Nat.le_trans (pG _ _ _ _ _ _ _ _ _) (by omega)
    ·exact Nat.le_trans (pG _ _ _ _ _ _ _ _ _) (by omega)
   ·exact Nat.le_trans (pG _ _ _ _ _ _ _ _ _) (by omega)
  ·exact Nat.le_trans (pG _ _ _ _ _ _ _ _ _) (by omega)
 ·exact Nat.le_add_right _ _
end Go.Proofs.YtainfdcfkgemhaaGreat.Hr
namespace Go.Proofs.YtainfdcfkgemhaaGreat.Hr
open Go Go.Proofs Go.Sx Nw Pe So
set_option linter.unusedVariables false
def MG:SV:=.ag [.row 0,.v (I 2),.v (I 3),.v (I 4),.v (I 2),.v (I 50),.v (I 2),.v (I 10),.v (I 1)]
def MH:Mem:=⟨[],[],[bh [fK]]⟩
theorem Lv:runG Γx24 (cM Γx24 prog 60 3) prog f28 [.v (I 1)] M0=some (MG,MH):=by kernel_rfl
theorem Lw:runG Γx24 (cM Γx24 prog 60 3) prog f30 [.v (I 1)] M0=some (.v (S kO),M0):=by kernel_rfl
def Fm (xs:List SV) (m:Mem):Option (Bool×SV×Mem) :=
 match xs,m with
 | [.v (.int .i64 n)],⟨[],[],[]⟩=>some (n==1,MG,MH)
 | _,_=>none
theorem qeR:aM 28 Fm:=by
 intro xs m r m' h
 unfold Fm at h
 split at h
 ·rename_i n
  obtain ⟨h1,rfl,rfl⟩:=an h
  obtain rfl:=eq_of_beq h1
  exact af dA func28 rfl (fun z _ _ b _=>du dA mixed 60 3 b) Lv
 ·cases h
def FA (vs:List Value):Option (Bool×Value) :=
 match vs with
 | [.int .i64 n]=>some (n==1,S kO)
 | _=>none
theorem qe5:am 30 FA:=by
 intro vs r h
 unfold FA at h
 split at h
 ·rename_i n
  obtain ⟨h1,rfl⟩:=ab h
  obtain rfl:=eq_of_beq h1
  exact ak (vs:=[I 1]) (m':=M0) dA func30 rfl (fun z _ _ b _=>du dA mixed 60 3 b) Lw
 ·cases h
def Bs (n:Nv):Nv:=⟨wI ((BitVec.ofInt 64 n.x1 &&& BitVec.ofInt 64 1023).toNat:Int),0,n.x3.tmod 3000,n.x4.tmod 3000,wI ((BitVec.ofInt 64 n.x5 &&& BitVec.ofInt 64 2047).toNat:Int),n.x6.tmod 100,n.x7.tmod 100,n.x8.tmod 100⟩
theorem VZ (L:List (List Dat)) (R:Rl) (n:Nv):runG Γnt L0 prog f31 [.ag [.row 0,.v (I R.r1),.v (I R.r2),.v (I R.r3),.v (I R.r4),.v (I R.r5),.v (I R.r6),.v (I R.r7),.v (I R.r8)],.v (.agg #[I n.x1,I n.x2,I n.x3,I n.x4,I n.x5,I n.x6,I n.x7,I n.x8])] ⟨[],[],[bh L]⟩=some (.ptr 0 0,fM ⟨L,R,Bs n⟩):=by kernel_rfl
def xW (xs:List SV) (m:Mem):Option (Bool×SV×Mem) :=
 match xs,m with
 | [.ag [.row 0,.v (.int .i64 r1),.v (.int .i64 r2),.v (.int .i64 r3),.v (.int .i64 r4),.v (.int .i64 r5),.v (.int .i64 r6),.v (.int .i64 r7),.v (.int .i64 r8)],.v (.agg ⟨[.int .i64 a,.int .i64 b,.int .i64 c,.int .i64 d,.int .i64 e,.int .i64 f,.int .i64 g,.int .i64 q]⟩)],⟨[],[],[r]⟩=>match lu r with
  | some L=>some (true,.ptr 0 0,fM ⟨L,⟨r1,r2,r3,r4,r5,r6,r7,r8⟩,Bs ⟨a,b,c,d,e,f,g,q⟩⟩)
  | none=>none
 | _,_=>none
theorem NY:aM 31 xW:=by
 intro xs m r m' h
 unfold xW at h
 split at h
 case h_2=>cases h
 rename_i r1 r2 r3 r4 r5 r6 r7 r8 a b c d e f g q r
 split at h
 case h_2=>cases h
 rename_i L hL
 obtain ⟨_,rfl,rfl⟩:=an h
 rw [oI hL]
 exact af (Λ:=L0) uv func31 rfl ai (VZ L ⟨r1,r2,r3,r4,r5,r6,r7,r8⟩ ⟨a,b,c,d,e,f,g,q⟩)
def xP (xs:List SV) (m:Mem):Option (Bool×SV×Mem) :=
 match xs,m with
 | [.v (.string img),.v (.agg ⟨[.int .i64 p,.int .i64 q]⟩)],⟨[],[],[]⟩=>some (fP img p 0 iA&&fP img q 0 iA,.ptr 0 0,uM ⟨dd img p,dd img q,zS,zS,0,0⟩)
 | _,_=>none
theorem NU:aM 29 xP:=by
 intro xs m r m' h
 unfold xP at h
 split at h
 case h_2=>cases h
 rename_i img p q
 obtain ⟨h1,rfl,rfl⟩:=an h
 rw [Bool.and_eq_true] at h1
 exact af (Λ:=L0) qii func29 rfl ai ((Vn img p q).trans (by rw [h1.1,h1.2];rfl))
end Go.Proofs.YtainfdcfkgemhaaGreat.Hr
namespace Go.Proofs.YtainfdcfkgemhaaGreat.Hr
open Go Go.Proofs Go.Sx Nw Pe So
set_option linter.unusedVariables false
def Γax:Orc:=aw 33 xQ (aQ 69 xS (aw 32 yt (aQ 35 sS (aQ 36 sV (aw 29 xP (ah 30 FA (ah 74 ta (aw 28 Fm (aw 31 xW ΓO)))))))))
theorem zV:Γax.Ok prog:=aq (aJ (aq (aJ (aJ (aq (ac (ac (aq (aq bM NY) qeR) nV) qe5) NU) sU) Dy) Og) xR) NV
def J6 (f:FuncId):Bool:=AE f||(Nat.beq f 33||(Nat.beq f 32||(Nat.beq f 29||(Nat.beq f 28||(Nat.beq f 31||Nat.beq f 68)))))
def Γay:Orc:=ms prog Γax.call Γax.rd Γax.eqv J6 60 16
theorem QP:Γay.Ok prog:=tr mixed names (ext:=Γax.call) (rd:=Γax.rd) (eqv:=Γax.eqv) ⟨zV.call,zV.rd,⟨zV.eqv.1,fun _ _ _ _ _ _ h=>by cases h⟩⟩ 60 16
def GQ (xs:List SV) (m:Mem):Option (Bool×SV×Mem):=match runG Γay (cM Γay prog 60 3) prog f68 xs m with
 | some (r,m')=>some (true,r,m')
 | none=>none
theorem qgd:aM 68 GQ:=by
 intro xs m r m' h
 unfold GQ at h
 split at h
 ·rename_i r1 m1 h1
  obtain ⟨_,rfl,rfl⟩:=an h
  exact af QP func68 rfl (fun z _ _ b _=>du QP mixed 60 3 b) h1
 ·cases h
def Γa2:Orc:=aw 68 GQ Γax
theorem Ix:Γa2.Ok prog:=aq zV qgd
def Γaz:Orc:=ms prog Γa2.call Γa2.rd Γa2.eqv J6 60 16
theorem QO:Γaz.Ok prog:=tr mixed names (ext:=Γa2.call) (rd:=Γa2.rd) (eqv:=Γa2.eqv) ⟨Ix.call,Ix.rd,⟨Ix.eqv.1,fun _ _ _ _ _ _ h=>by cases h⟩⟩ 60 16
theorem ZJ:runG Γaz (cM Γaz prog 60 3) prog f26 [] M0=some (.v (Bo true),M0):=by kernel_rfl
def GP (vs:List Value):Option (Bool×Value) :=
 match vs with
 | []=>some (true,Bo true)
 | _=>none
theorem qgc:am 26 GP:=by
 intro vs r h
 unfold GP at h
 split at h
 ·obtain ⟨_,rfl⟩:=ab h
  exact ak (vs:=[]) (m':=M0) QO func26 rfl (fun z _ _ b _=>du QO mixed 60 3 b) ZJ
 ·cases h
end Go.Proofs.YtainfdcfkgemhaaGreat.Hr
