/-
  A truth that goes on,a mission of one phase;that the answers that the document fixes are so.
-/
import Derived.Test.YtainfdcfkgemhaaGreatYl
import Derived.Test.YtainfdcfkgemhaaGreatYe
set_option maxRecDepth 100000
noncomputable section
namespace Go.Proofs.YtainfdcfkgemhaaGreat.Hr
open Go Go.Proofs Go.Sx Pe
set_option linter.unusedVariables false
structure Fl where
 L:List (List Dat)
 R:Rl
 n:Nv
def cFi (r:Nat) (x:Fl):List SA:=.row r::cRl x.R (cNv x.n [])
def fM (x:Fl):Mem:=⟨[cFi 0 x],[true],[rPh x.L]⟩
def uFi (r:Nat) (b:List SA):Option (Rl×Nv):=match b with
 | .row j::t=>match Nat.beq j r,uRl t with
  | true,some (R,t')=>match uNv t' with
   | some (n,[])=>some (R,n)
   | _=>none
  | _,_=>none
 | _=>none
theorem qpv {r:Nat} {b:List SA} {R:Rl} {n:Nv} (h:uFi r b=some (R,n)):b=.row r::cRl R (cNv n []):=by
 unfold uFi at h
 split at h
 ·split at h
  ·rename_i R' t' hj hr
   split at h
   ·rename_i n' hn
    injection h with h
    injection h with h1 h2
    subst h1 h2
    rw [qgX hr,qxB hn,Nat.eq_of_beq_eq_true hj]
   ·cases h
  ·cases h
 ·cases h
def uF0 (m:Mem):Option Fl:=match m with
 | ⟨[b],[true],[.live ⟨117,[.sl 162 [.num .i64,.num .i64],.num .i64,.num .i64,.num .i64,.num .i64],L,true,false⟩]⟩=>match uFi 0 b with
  | some (R,n)=>some ⟨L,R,n⟩
  | none=>none
 | _=>none
theorem qmF {m:Mem} {x:Fl} (h:uF0 m=some x):m=fM x:=by
 unfold uF0 at h
 split at h
 ·split at h
  ·rename_i R n hb
   injection h with h
   subst h
   rw [qpv hb]
   rfl
  ·cases h
 ·cases h
def qKN (a b:Int):Int:=if b>a then b else a
def qOe (a b:Int):Int:=if b<a then b else a
def hoI (v d mo:Int):Int:=qOe (qOe (qKN (qKN (wI (v+d.tmod (wI (mo+1)))) (wI (v - mo))) (-400)) (wI (v+mo))) 400
theorem qKe (v d mo:Int):runG Γnt L0 Tryz.prog Tryz.f71 [.v (I v),.v (I d),.ptr 0 0] ⟨[[.v (I mo)]],[true],[]⟩=(bif wI (mo+1)==0 then none else some (.v (I (hoI v d mo)),⟨[[.v (I mo)]],[true],[]⟩)):=by kernel_rfl
def gHo (xs:List SV) (m:Mem):Option (Bool×Value) :=
 match xs,m with
 | [.v (.int .i64 v),.v (.int .i64 d),.ptr 0 0],⟨[[.v (.int .i64 mo)]],[true],[]⟩=>some (!(wI (mo+1)==0),I (hoI v d mo))
 | _,_=>none
theorem qr4:CtR 71 gHo:=by
 intro xs m r h
 unfold gHo at h
 split at h
 ·rename_i v d mo
  obtain ⟨h1,rfl⟩:=qac h
  rw [Bool.not_eq_true'] at h1
  exact qal (Λ:=L0) qH6 Tryz.func71 rfl l00 ((qKe v d mo).trans (by rw [h1];rfl))
 ·cases h
def Γfg:Orc:={ qah 74 gCt (qah 129 gNt (qay 71 gHo ΓO)) with av:=true,bs:=true,sb:=true }
theorem qCR:Γfg.Ok Tryz.prog:=⟨(qaa (qaa (qai OkO qr4) qrW) qgt).call,(qaa (qaa (qai OkO qr4) qrW) qgt).rd,(qaa (qaa (qai OkO qr4) qrW) qgt).eqv⟩
def ho (v d:Int):Int:=hoI v (wI d) 46
def goN (n:Nv) (a b c:Int):Nv:=⟨wI ((BitVec.ofInt 64 (wI (n.x1+1)) &&& BitVec.ofInt 64 65535).toNat:Int),n.x2,wI (n.x3+ho n.x6 a),wI (n.x4+ho n.x7 b),qKN (wI (n.x5+ho n.x8 c)) 0,ho n.x6 a,ho n.x7 b,ho n.x8 c⟩
def Γfh:Orc:={ Γfg with av:=false,bs:=false,sb:=false }
theorem Okfh:Γfh.Ok Tryz.prog:=⟨qCR.call,qCR.rd,qCR.eqv⟩
def wE (x:Fl):Fl:={ x with R:={ x.R with r4:=2,r5:=50 } }
theorem qFu (x:Fl) (a b c:Int):runG Γfh L0 Tryz.prog Tryz.f32 [.ptr 0 0,.v (.agg #[.int .i8 a,.int .i8 b,.int .i8 c])] (fM (wE x))=some (.v (.tuple #[]),fM (wE { x with n:=goN x.n a b c })):=by kernel_rfl
def qtA (x:Fl):Bool:=x.R.r4==2&&x.R.r5==50
theorem qkS {x:Fl} (h:qtA x=true):wE x=x:=by
 unfold qtA at h
 simp only [Bool.and_eq_true,beq_iff_eq] at h
 rcases x with ⟨L,⟨r1,r2,r3,r4,r5,r6,r7,r8⟩,n⟩
 obtain ⟨h1,h2⟩:=h
 cases h1
 cases h2
 rfl
def qIW (xs:List SV) (m:Mem):Option (Bool×SV×Mem) :=
 match xs,uF0 m with
 | [.ptr 0 0,.v (.agg ⟨[.int .i8 a,.int .i8 b,.int .i8 c]⟩)],some x=>some (qtA x,.v (.tuple #[]),fM { x with n:=goN x.n a b c })
 | _,_=>none
theorem qr7:CtC 32 qIW:=by
 intro xs m r m' h
 unfold qIW at h
 split at h
 case h_2=>cases h
 rename_i a b c x hx
 obtain ⟨h1,rfl,rfl⟩:=qaf h
 rw [qmF hx]
 have e:=qFu x a b c
 have e2:wE { x with n:=goN x.n a b c }={ x with n:=goN x.n a b c }:=qkS (x:={ x with n:=goN x.n a b c }) h1
 rw [qkS h1,e2] at e
 exact qal (Λ:=L0) Okfh Tryz.func32 rfl l00 e
def tdT (i:Int) (n:Nv) (a b c d e f:Int):ByteArray:=ntT i n.x1 n.x2 (wI (n.x3+(wI a).tmod 3)) (wI (n.x4+(wI b).tmod 3)) (wI (n.x5+(wI c).tmod 3)) (wI (n.x6+(wI d).tmod 3)) (wI (n.x7+(wI e).tmod 3)) (wI (n.x8+(wI f).tmod 3))
def Γti:Orc:={ Γfg with sb:=false,bs:=false,ia:=true }
theorem Okti:Γti.Ok Tryz.prog:=⟨qCR.call,qCR.rd,qCR.eqv⟩
theorem qJW (x:Fl) (i a b c d e f:Int):runG Γti L0 Tryz.prog Tryz.f69 [.ptr 0 0,.v (I i),.v (.agg #[.int .i8 a,.int .i8 b,.int .i8 c,.int .i8 d,.int .i8 e,.int .i8 f])] (fM (wE x))=some (.v (S (tdT i x.n a b c d e f)),fM (wE x)):=by kernel_rfl
def gTd (xs:List SV) (m:Mem):Option (Bool×Value) :=
 match xs,uF0 m with
 | [.ptr 0 0,.v (.int .i64 i),.v (.agg ⟨[.int .i8 a,.int .i8 b,.int .i8 c,.int .i8 d,.int .i8 e,.int .i8 f]⟩)],some x=>some (qtA x,S (tdT i x.n a b c d e f))
 | _,_=>none
theorem qnn:CtR 69 gTd:=by
 intro xs m r h
 unfold gTd at h
 split at h
 case h_2=>cases h
 rename_i i a b c d e f x hx
 obtain ⟨h1,rfl⟩:=qac h
 rw [qmF hx]
 have k:=qJW x i a b c d e f
 rw [qkS h1] at k
 exact qal (Λ:=L0) Okti Tryz.func69 rfl l00 k
def an3 (b:Int):Int:=wI ((BitVec.ofInt 64 b &&& BitVec.ofInt 64 3).toNat:Int)
def qyw (b:Int):Int:=wI ((BitVec.ofInt 64 b &&& BitVec.ofInt 64 65535).toNat:Int)
def fbT (i:Int) (n:Nv) (b:Int) (s:ByteArray):ByteArray:=bif an3 b==0 then s else bif an3 b==1 then ntT i (qyw n.x1) n.x2 (wI (n.x3+100000)) n.x4 n.x5 n.x6 n.x7 n.x8 else bif an3 b==2 then ntT i (qyw n.x1) n.x2 0 0 n.x5 n.x6 n.x7 n.x8 else bif an3 b==3 then ntT i (qyw (wI (n.x1+7))) n.x2 n.x3 n.x4 n.x5 (wI (n.x6+3)) n.x7 n.x8 else ntT i (qyw n.x1) n.x2 n.x3 n.x4 n.x5 n.x6 n.x7 n.x8
theorem qKl (x:Fl) (i b:Int) (s:ByteArray):runG Γfg L0 Tryz.prog Tryz.f73 [.ptr 0 0,.v (I i),.v (I b),.v (S s)] (fM x)=(bif an3 b==0 then some (.v (S s),fM x) else bif an3 b==1 then some (.v (S (ntT i (qyw x.n.x1) x.n.x2 (wI (x.n.x3+100000)) x.n.x4 x.n.x5 x.n.x6 x.n.x7 x.n.x8)),fM x) else bif an3 b==2 then some (.v (S (ntT i (qyw x.n.x1) x.n.x2 0 0 x.n.x5 x.n.x6 x.n.x7 x.n.x8)),fM x) else bif an3 b==3 then some (.v (S (ntT i (qyw (wI (x.n.x1+7))) x.n.x2 x.n.x3 x.n.x4 x.n.x5 (wI (x.n.x6+3)) x.n.x7 x.n.x8)),fM x) else some (.v (S (ntT i (qyw x.n.x1) x.n.x2 x.n.x3 x.n.x4 x.n.x5 x.n.x6 x.n.x7 x.n.x8)),fM x)):=by kernel_rfl
def qL4 (xs:List SV) (m:Mem):Option (Bool×Value) :=
 match xs,uF0 m with
 | [.ptr 0 0,.v (.int .i64 i),.v (.int .i64 b),.v (.string s)],some x=>some (true,S (fbT i x.n b s))
 | _,_=>none
theorem ql0:CtR 73 qL4:=by
 intro xs m r h
 unfold qL4 at h
 split at h
 case h_2=>cases h
 rename_i i b s x hx
 obtain ⟨_,rfl⟩:=qac h
 rw [qmF hx]
 refine qal (Λ:=L0) qCR Tryz.func73 rfl l00 ((qKl x i b s).trans ?_)
 unfold fbT
 cases an3 b==0<;>cases an3 b==1<;>cases an3 b==2<;>cases an3 b==3<;>rfl
theorem qfu (i:Int) (n:Nv) (a b c d e f:Int):(tdT i n a b c d e f).size≤70:=qdq _ _ _ _ _ _ _ _ _
theorem qnz (i:Int) (n:Nv) (b:Int) (s:ByteArray):(fbT i n b s).size≤s.size+70:=by
 have:=qdq
 unfold fbT
 cases an3 b==0
 ·cases an3 b==1
  ·cases an3 b==2
   ·cases an3 b==3
    ·exact Nat.le_trans (qdq _ _ _ _ _ _ _ _ _) (by omega)
    ·exact Nat.le_trans (qdq _ _ _ _ _ _ _ _ _) (by omega)
   ·exact Nat.le_trans (qdq _ _ _ _ _ _ _ _ _) (by omega)
  ·exact Nat.le_trans (qdq _ _ _ _ _ _ _ _ _) (by omega)
 ·exact Nat.le_add_right _ _
end Go.Proofs.YtainfdcfkgemhaaGreat.Hr
namespace Go.Proofs.YtainfdcfkgemhaaGreat.Hr
open Go Go.Proofs Go.Sx Nw Pe So
set_option linter.unusedVariables false
def qOf:SV:=.ag [.row 0,.v (I 2),.v (I 3),.v (I 4),.v (I 2),.v (I 50),.v (I 2),.v (I 10),.v (I 1)]
def qOg:Mem:=⟨[],[],[rPh [phE]]⟩
theorem qxR:runG Γx24 (qbv Γx24 Tryz.prog 60 3) Tryz.prog Tryz.f28 [.v (I 1)] M0=some (qOf,qOg):=by kernel_rfl
theorem qxS:runG Γx24 (qbv Γx24 Tryz.prog 60 3) Tryz.prog Tryz.f30 [.v (I 1)] M0=some (.v (S im1),M0):=by kernel_rfl
def qLX (xs:List SV) (m:Mem):Option (Bool×SV×Mem) :=
 match xs,m with
 | [.v (.int .i64 n)],⟨[],[],[]⟩=>some (n==1,qOf,qOg)
 | _,_=>none
theorem qBx:CtC 28 qLX:=by
 intro xs m r m' h
 unfold qLX at h
 split at h
 ·rename_i n
  obtain ⟨h1,rfl,rfl⟩:=qaf h
  obtain rfl:=eq_of_beq h1
  exact qal qbY Tryz.func28 rfl (fun z _ _ b _=>qaG qbY mixed 60 3 b) qxR
 ·cases h
def qLZ (vs:List Value):Option (Bool×Value) :=
 match vs with
 | [.int .i64 n]=>some (n==1,S im1)
 | _=>none
theorem qBC:CtV 30 qLZ:=by
 intro vs r h
 unfold qLZ at h
 split at h
 ·rename_i n
  obtain ⟨h1,rfl⟩:=qac h
  obtain rfl:=eq_of_beq h1
  exact qaA (vs:=[I 1]) (m':=M0) qbY Tryz.func30 rfl (fun z _ _ b _=>qaG qbY mixed 60 3 b) qxS
 ·cases h
def stN (n:Nv):Nv:=⟨wI ((BitVec.ofInt 64 n.x1 &&& BitVec.ofInt 64 1023).toNat:Int),0,n.x3.tmod 3000,n.x4.tmod 3000,wI ((BitVec.ofInt 64 n.x5 &&& BitVec.ofInt 64 2047).toNat:Int),n.x6.tmod 100,n.x7.tmod 100,n.x8.tmod 100⟩
theorem qJY (L:List (List Dat)) (R:Rl) (n:Nv):runG Γnt L0 Tryz.prog Tryz.f31 [.ag [.row 0,.v (I R.r1),.v (I R.r2),.v (I R.r3),.v (I R.r4),.v (I R.r5),.v (I R.r6),.v (I R.r7),.v (I R.r8)],.v (.agg #[I n.x1,I n.x2,I n.x3,I n.x4,I n.x5,I n.x6,I n.x7,I n.x8])] ⟨[],[],[rPh L]⟩=some (.ptr 0 0,fM ⟨L,R,stN n⟩):=by kernel_rfl
def gSt (xs:List SV) (m:Mem):Option (Bool×SV×Mem) :=
 match xs,m with
 | [.ag [.row 0,.v (.int .i64 r1),.v (.int .i64 r2),.v (.int .i64 r3),.v (.int .i64 r4),.v (.int .i64 r5),.v (.int .i64 r6),.v (.int .i64 r7),.v (.int .i64 r8)],.v (.agg ⟨[.int .i64 a,.int .i64 b,.int .i64 c,.int .i64 d,.int .i64 e,.int .i64 f,.int .i64 g,.int .i64 q]⟩)],⟨[],[],[r]⟩=>match zPh r with
  | some L=>some (true,.ptr 0 0,fM ⟨L,⟨r1,r2,r3,r4,r5,r6,r7,r8⟩,stN ⟨a,b,c,d,e,f,g,q⟩⟩)
  | none=>none
 | _,_=>none
theorem qyf:CtC 31 gSt:=by
 intro xs m r m' h
 unfold gSt at h
 split at h
 case h_2=>cases h
 rename_i r1 r2 r3 r4 r5 r6 r7 r8 a b c d e f g q r
 split at h
 case h_2=>cases h
 rename_i L hL
 obtain ⟨_,rfl,rfl⟩:=qaf h
 rw [qi5 hL]
 exact qal (Λ:=L0) qH6 Tryz.func31 rfl l00 (qJY L ⟨r1,r2,r3,r4,r5,r6,r7,r8⟩ ⟨a,b,c,d,e,f,g,q⟩)
def gUN (xs:List SV) (m:Mem):Option (Bool×SV×Mem) :=
 match xs,m with
 | [.v (.string img),.v (.agg ⟨[.int .i64 p,.int .i64 q]⟩)],⟨[],[],[]⟩=>some (qlk img p 0 qph&&qlk img q 0 qph,.ptr 0 0,uM ⟨nwX img p,nwX img q,zS,zS,0,0⟩)
 | _,_=>none
theorem qyd:CtC 29 gUN:=by
 intro xs m r m' h
 unfold gUN at h
 split at h
 case h_2=>cases h
 rename_i img p q
 obtain ⟨h1,rfl,rfl⟩:=qaf h
 rw [Bool.and_eq_true] at h1
 exact qal (Λ:=L0) qMN Tryz.func29 rfl l00 ((qJS img p q).trans (by rw [h1.1,h1.2];rfl))
end Go.Proofs.YtainfdcfkgemhaaGreat.Hr
namespace Go.Proofs.YtainfdcfkgemhaaGreat.Hr
open Go Go.Proofs Go.Sx Nw Pe So
set_option linter.unusedVariables false
def Γax:Orc:=qau 33 gUC (qay 69 gTd (qau 32 qIW (qay 35 gUw (qay 36 gUf (qau 29 gUN (qah 30 qLZ (qah 74 gCt (qau 28 qLX (qau 31 gSt ΓO)))))))))
theorem qJc:Γax.Ok Tryz.prog:=qad (qai (qad (qai (qai (qad (qaa (qaa (qad (qad OkO qyf) qBx) qgt) qBC) qyd) qj1) qrv) qr7) qnn) qye
def wxA (f:FuncId):Bool:=qJq f||(Nat.beq f 33||(Nat.beq f 32||(Nat.beq f 29||(Nat.beq f 28||(Nat.beq f 31||Nat.beq f 68)))))
def Γay:Orc:=qkg Tryz.prog Γax.call Γax.rd Γax.eqv wxA 60 16
theorem qOU:Γay.Ok Tryz.prog:=qeu mixed names (ext:=Γax.call) (rd:=Γax.rd) (eqv:=Γax.eqv) ⟨qJc.call,qJc.rd,⟨qJc.eqv.1,fun _ _ _ _ _ _ h=>by cases h⟩⟩ 60 16
def qMm (xs:List SV) (m:Mem):Option (Bool×SV×Mem):=match runG Γay (qbv Γay Tryz.prog 60 3) Tryz.prog Tryz.f68 xs m with
 | some (r,m')=>some (true,r,m')
 | none=>none
theorem qB6:CtC 68 qMm:=by
 intro xs m r m' h
 unfold qMm at h
 split at h
 ·rename_i r1 m1 h1
  obtain ⟨_,rfl,rfl⟩:=qaf h
  exact qal qOU Tryz.func68 rfl (fun z _ _ b _=>qaG qOU mixed 60 3 b) h1
 ·cases h
def Γa2:Orc:=qau 68 qMm Γax
theorem qNe:Γa2.Ok Tryz.prog:=qad qJc qB6
def Γaz:Orc:=qkg Tryz.prog Γa2.call Γa2.rd Γa2.eqv wxA 60 16
theorem qOT:Γaz.Ok Tryz.prog:=qeu mixed names (ext:=Γa2.call) (rd:=Γa2.rd) (eqv:=Γa2.eqv) ⟨qNe.call,qNe.rd,⟨qNe.eqv.1,fun _ _ _ _ _ _ h=>by cases h⟩⟩ 60 16
theorem qKx:runG Γaz (qbv Γaz Tryz.prog 60 3) Tryz.prog Tryz.f26 [] M0=some (.v (Bo true),M0):=by kernel_rfl
def gAx (vs:List Value):Option (Bool×Value) :=
 match vs with
 | []=>some (true,Bo true)
 | _=>none
theorem qHg:CtV 26 gAx:=by
 intro vs r h
 unfold gAx at h
 split at h
 ·obtain ⟨_,rfl⟩:=qac h
  exact qaA (vs:=[]) (m':=M0) qOT Tryz.func26 rfl (fun z _ _ b _=>qaG qOT mixed 60 3 b) qKx
 ·cases h
end Go.Proofs.YtainfdcfkgemhaaGreat.Hr
