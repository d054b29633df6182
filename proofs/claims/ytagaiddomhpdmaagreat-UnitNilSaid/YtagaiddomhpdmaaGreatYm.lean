/-
  A truth that goes on,a mission of one phase;that the answers that the document fixes are so.
-/
import Derived.Test.YtagaiddomhpdmaaGreatYl
import Derived.Test.YtagaiddomhpdmaaGreatYe
set_option maxRecDepth 100000
namespace Go.Proofs.YtagaiddomhpdmaaGreat.Hr
open Go Go.Proofs Go.Sx Pe
set_option linter.unusedVariables false
structure Fl where
  L:List (List Dat)
  R:Rl
  n:Nv
def cFi (r:Nat) (x:Fl):List SA:=.row r::cRl x.R (cNv x.n [])
def fM (x:Fl):Mem:=⟨[cFi 0 x],[true],[rPh x.L]⟩
def uFi (r:Nat) (b:List SA):Option (Rl×Nv):=match b with
  | .row j::t=>match Nat.beq j r,uRl t with
    | true,some (R,t')=>match uNv t' with
      | some (n,[])=>some (R,n)
      | _=>none
    | _,_=>none
  | _=>none
theorem uFi_eq {r:Nat} {b:List SA} {R:Rl} {n:Nv} (h:uFi r b=some (R,n)):b=.row r::cRl R (cNv n []):=by
  unfold uFi at h
  split at h
  · split at h
    · rename_i R' t' hj hr
      split at h
      · rename_i n' hn
        injection h with h
        injection h with h1 h2
        subst h1 h2
        rw [uRl_eq hr,uNv_eq hn,Nat.eq_of_beq_eq_true hj]
      · cases h
    · cases h
  · cases h
def uF0 (m:Mem):Option Fl:=match m with
  | ⟨[b],[true],[.live ⟨154,[.sl 151 [.num .i64,.num .i64],.num .i64,.num .i64,.num .i64,.num .i64],L,true,false⟩]⟩=>match uFi 0 b with
    | some (R,n)=>some ⟨L,R,n⟩
    | none=>none
  | _=>none
theorem uF0_eq {m:Mem} {x:Fl} (h:uF0 m=some x):m=fM x:=by
  unfold uF0 at h
  split at h
  · split at h
    · rename_i R n hb
      injection h with h
      subst h
      rw [uFi_eq hb]
      rfl
    · cases h
  · cases h
def maxI (a b:Int):Int:=if b>a then b else a
def minI (a b:Int):Int:=if b<a then b else a
def hoI (v d mo:Int):Int:=minI (minI (maxI (maxI (wI (v+d.tmod (wI (mo+1)))) (wI (v - mo))) (-400)) (wI (v+mo))) 400
theorem runHo (v d mo:Int):runG Γnt L0 Tryz.prog Tryz.f70 [.v (I v),.v (I d),.ptr 0 0] ⟨[[.v (I mo)]],[true],[]⟩=(bif wI (mo+1)==0 then none else some (.v (I (hoI v d mo)),⟨[[.v (I mo)]],[true],[]⟩)):=by kernel_rfl
def gHo (xs:List SV) (m:Mem):Option (Bool×Value) :=
  match xs,m with
  | [.v (.int .i64 v),.v (.int .i64 d),.ptr 0 0],⟨[[.v (.int .i64 mo)]],[true],[]⟩=>some (!(wI (mo+1)==0),I (hoI v d mo))
  | _,_=>none
theorem gHo_ok:CtR 70 gHo:=by
  intro xs m r h
  unfold gHo at h
  split at h
  · rename_i v d mo
    obtain ⟨h1,rfl⟩:=some_t h
    rw [Bool.not_eq_true'] at h1
    exact runOk (Λ:=L0) Oknt Tryz.func70 rfl l00 ((runHo v d mo).trans (by rw [h1];rfl))
  · cases h
noncomputable def Γfg:Orc:={ addVal 73 gCt (addVal 21 gNt (addRd 70 gHo ΓO)) with av:=true,bs:=true,sb:=true }
theorem Okfg:Γfg.Ok Tryz.prog:=⟨(addVal_ok (addVal_ok (addRd_ok OkO gHo_ok) gNt_ok) gCt_ok).call,(addVal_ok (addVal_ok (addRd_ok OkO gHo_ok) gNt_ok) gCt_ok).rd,(addVal_ok (addVal_ok (addRd_ok OkO gHo_ok) gNt_ok) gCt_ok).eqv⟩
def ho (v d:Int):Int:=hoI v (wI d) 46
def goN (n:Nv) (a b c:Int):Nv:=⟨wI ((BitVec.ofInt 64 (wI (n.x1+1)) &&& BitVec.ofInt 64 65535).toNat:Int),n.x2,wI (n.x3+ho n.x6 a),wI (n.x4+ho n.x7 b),maxI (wI (n.x5+ho n.x8 c)) 0,ho n.x6 a,ho n.x7 b,ho n.x8 c⟩
noncomputable def Γfh:Orc:={ Γfg with av:=false,bs:=false,sb:=false }
theorem Okfh:Γfh.Ok Tryz.prog:=⟨Okfg.call,Okfg.rd,Okfg.eqv⟩
def wE (x:Fl):Fl:={ x with R:={ x.R with r4:=2,r5:=50 } }
theorem runGo1 (x:Fl) (a b c:Int):runG Γfh L0 Tryz.prog Tryz.f32 [.ptr 0 0,.v (.agg #[.int .i8 a,.int .i8 b,.int .i8 c])] (fM (wE x))=some (.v (.tuple #[]),fM (wE { x with n:=goN x.n a b c })):=by kernel_rfl
def okFl (x:Fl):Bool:=x.R.r4==2&&x.R.r5==50
theorem wE_is {x:Fl} (h:okFl x=true):wE x=x:=by
  unfold okFl at h
  simp only [Bool.and_eq_true,beq_iff_eq] at h
  rcases x with ⟨L,⟨r1,r2,r3,r4,r5,r6,r7,r8⟩,n⟩
  obtain ⟨h1,h2⟩:=h
  cases h1
  cases h2
  rfl
def gGo1 (xs:List SV) (m:Mem):Option (Bool×SV×Mem) :=
  match xs,uF0 m with
  | [.ptr 0 0,.v (.agg ⟨[.int .i8 a,.int .i8 b,.int .i8 c]⟩)],some x=>some (okFl x,.v (.tuple #[]),fM { x with n:=goN x.n a b c })
  | _,_=>none
theorem gGo1_ok:CtC 32 gGo1:=by
  intro xs m r m' h
  unfold gGo1 at h
  split at h
  case h_2=>cases h
  rename_i a b c x hx
  obtain ⟨h1,rfl,rfl⟩:=some_t2 h
  rw [uF0_eq hx]
  have e:=runGo1 x a b c
  have e2:wE { x with n:=goN x.n a b c }={ x with n:=goN x.n a b c }:=wE_is (x:={ x with n:=goN x.n a b c }) h1
  rw [wE_is h1,e2] at e
  exact runOk (Λ:=L0) Okfh Tryz.func32 rfl l00 e
def tdT (i:Int) (n:Nv) (a b c d e f:Int):ByteArray:=ntT i n.x1 n.x2 (wI (n.x3+(wI a).tmod 3)) (wI (n.x4+(wI b).tmod 3)) (wI (n.x5+(wI c).tmod 3)) (wI (n.x6+(wI d).tmod 3)) (wI (n.x7+(wI e).tmod 3)) (wI (n.x8+(wI f).tmod 3))
noncomputable def Γti:Orc:={ Γfg with sb:=false,bs:=false,ia:=true }
theorem Okti:Γti.Ok Tryz.prog:=⟨Okfg.call,Okfg.rd,Okfg.eqv⟩
theorem runTd (x:Fl) (i a b c d e f:Int):runG Γti L0 Tryz.prog Tryz.f69 [.ptr 0 0,.v (I i),.v (.agg #[.int .i8 a,.int .i8 b,.int .i8 c,.int .i8 d,.int .i8 e,.int .i8 f])] (fM (wE x))=some (.v (S (tdT i x.n a b c d e f)),fM (wE x)):=by kernel_rfl
def gTd (xs:List SV) (m:Mem):Option (Bool×Value) :=
  match xs,uF0 m with
  | [.ptr 0 0,.v (.int .i64 i),.v (.agg ⟨[.int .i8 a,.int .i8 b,.int .i8 c,.int .i8 d,.int .i8 e,.int .i8 f]⟩)],some x=>some (okFl x,S (tdT i x.n a b c d e f))
  | _,_=>none
theorem gTd_ok:CtR 69 gTd:=by
  intro xs m r h
  unfold gTd at h
  split at h
  case h_2=>cases h
  rename_i i a b c d e f x hx
  obtain ⟨h1,rfl⟩:=some_t h
  rw [uF0_eq hx]
  have k:=runTd x i a b c d e f
  rw [wE_is h1] at k
  exact runOk (Λ:=L0) Okti Tryz.func69 rfl l00 k
def an3 (b:Int):Int:=wI ((BitVec.ofInt 64 b &&& BitVec.ofInt 64 3).toNat:Int)
def an16 (b:Int):Int:=wI ((BitVec.ofInt 64 b &&& BitVec.ofInt 64 65535).toNat:Int)
def fbT (i:Int) (n:Nv) (b:Int) (s:ByteArray):ByteArray:=bif an3 b==0 then s else bif an3 b==1 then ntT i (an16 n.x1) n.x2 (wI (n.x3+100000)) n.x4 n.x5 n.x6 n.x7 n.x8 else bif an3 b==2 then ntT i (an16 n.x1) n.x2 0 0 n.x5 n.x6 n.x7 n.x8 else bif an3 b==3 then ntT i (an16 (wI (n.x1+7))) n.x2 n.x3 n.x4 n.x5 (wI (n.x6+3)) n.x7 n.x8 else ntT i (an16 n.x1) n.x2 n.x3 n.x4 n.x5 n.x6 n.x7 n.x8
theorem runFb (x:Fl) (i b:Int) (s:ByteArray):runG Γfg L0 Tryz.prog Tryz.f72 [.ptr 0 0,.v (I i),.v (I b),.v (S s)] (fM x)=(bif an3 b==0 then some (.v (S s),fM x) else bif an3 b==1 then some (.v (S (ntT i (an16 x.n.x1) x.n.x2 (wI (x.n.x3+100000)) x.n.x4 x.n.x5 x.n.x6 x.n.x7 x.n.x8)),fM x) else bif an3 b==2 then some (.v (S (ntT i (an16 x.n.x1) x.n.x2 0 0 x.n.x5 x.n.x6 x.n.x7 x.n.x8)),fM x) else bif an3 b==3 then some (.v (S (ntT i (an16 (wI (x.n.x1+7))) x.n.x2 x.n.x3 x.n.x4 x.n.x5 (wI (x.n.x6+3)) x.n.x7 x.n.x8)),fM x) else some (.v (S (ntT i (an16 x.n.x1) x.n.x2 x.n.x3 x.n.x4 x.n.x5 x.n.x6 x.n.x7 x.n.x8)),fM x)):=by kernel_rfl
def gFb2 (xs:List SV) (m:Mem):Option (Bool×Value) :=
  match xs,uF0 m with
  | [.ptr 0 0,.v (.int .i64 i),.v (.int .i64 b),.v (.string s)],some x=>some (true,S (fbT i x.n b s))
  | _,_=>none
theorem gFb2_ok:CtR 72 gFb2:=by
  intro xs m r h
  unfold gFb2 at h
  split at h
  case h_2=>cases h
  rename_i i b s x hx
  obtain ⟨_,rfl⟩:=some_t h
  rw [uF0_eq hx]
  refine runOk (Λ:=L0) Okfg Tryz.func72 rfl l00 ((runFb x i b s).trans ?_)
  unfold fbT
  cases an3 b==0<;>cases an3 b==1<;>cases an3 b==2<;>cases an3 b==3<;>rfl
theorem tdT_size (i:Int) (n:Nv) (a b c d e f:Int):(tdT i n a b c d e f).size≤70:=ntT_size _ _ _ _ _ _ _ _ _
theorem fbT_size (i:Int) (n:Nv) (b:Int) (s:ByteArray):(fbT i n b s).size≤s.size+70:=by
  have:=ntT_size
  unfold fbT
  cases an3 b==0
  · cases an3 b==1
    · cases an3 b==2
      · cases an3 b==3
        · exact Nat.le_trans (ntT_size _ _ _ _ _ _ _ _ _) (by omega)
        · exact Nat.le_trans (ntT_size _ _ _ _ _ _ _ _ _) (by omega)
      · exact Nat.le_trans (ntT_size _ _ _ _ _ _ _ _ _) (by omega)
    · exact Nat.le_trans (ntT_size _ _ _ _ _ _ _ _ _) (by omega)
  · exact Nat.le_add_right _ _
end Go.Proofs.YtagaiddomhpdmaaGreat.Hr
namespace Go.Proofs.YtagaiddomhpdmaaGreat.Hr
open Go Go.Proofs Go.Sx Nw Pe So
set_option linter.unusedVariables false
def mi1V:SV:=.ag [.row 0,.v (I 2),.v (I 3),.v (I 4),.v (I 2),.v (I 50),.v (I 2),.v (I 10),.v (I 1)]
def mi1M:Mem:=⟨[],[],[rPh [phE]]⟩
theorem runMi1:runG Γx24 (loopX Γx24 Tryz.prog 60 3) Tryz.prog Tryz.f29 [.v (I 1)] M0=some (mi1V,mi1M):=by kernel_rfl
theorem runIm1:runG Γx24 (loopX Γx24 Tryz.prog 60 3) Tryz.prog Tryz.f23 [.v (I 1)] M0=some (.v (S im1),M0):=by kernel_rfl
def gMi1 (xs:List SV) (m:Mem):Option (Bool×SV×Mem) :=
  match xs,m with
  | [.v (.int .i64 n)],⟨[],[],[]⟩=>some (n==1,mi1V,mi1M)
  | _,_=>none
theorem gMi1_ok:CtC 29 gMi1:=by
  intro xs m r m' h
  unfold gMi1 at h
  split at h
  · rename_i n
    obtain ⟨h1,rfl,rfl⟩:=some_t2 h
    obtain rfl:=eq_of_beq h1
    exact runOk Okx24 Tryz.func29 rfl (fun z _ _ b _=>loopX_ok Okx24 mixed 60 3 b) runMi1
  · cases h
def gIm1 (vs:List Value):Option (Bool×Value) :=
  match vs with
  | [.int .i64 n]=>some (n==1,S im1)
  | _=>none
theorem gIm1_ok:CtV 23 gIm1:=by
  intro vs r h
  unfold gIm1 at h
  split at h
  · rename_i n
    obtain ⟨h1,rfl⟩:=some_t h
    obtain rfl:=eq_of_beq h1
    exact runV (vs:=[I 1]) (m':=M0) Okx24 Tryz.func23 rfl (fun z _ _ b _=>loopX_ok Okx24 mixed 60 3 b) runIm1
  · cases h
def stN (n:Nv):Nv:=⟨wI ((BitVec.ofInt 64 n.x1 &&& BitVec.ofInt 64 1023).toNat:Int),0,n.x3.tmod 3000,n.x4.tmod 3000,wI ((BitVec.ofInt 64 n.x5 &&& BitVec.ofInt 64 2047).toNat:Int),n.x6.tmod 100,n.x7.tmod 100,n.x8.tmod 100⟩
theorem runSt (L:List (List Dat)) (R:Rl) (n:Nv):runG Γnt L0 Tryz.prog Tryz.f31 [.ag [.row 0,.v (I R.r1),.v (I R.r2),.v (I R.r3),.v (I R.r4),.v (I R.r5),.v (I R.r6),.v (I R.r7),.v (I R.r8)],.v (.agg #[I n.x1,I n.x2,I n.x3,I n.x4,I n.x5,I n.x6,I n.x7,I n.x8])] ⟨[],[],[rPh L]⟩=some (.ptr 0 0,fM ⟨L,R,stN n⟩):=by kernel_rfl
def gSt (xs:List SV) (m:Mem):Option (Bool×SV×Mem) :=
  match xs,m with
  | [.ag [.row 0,.v (.int .i64 r1),.v (.int .i64 r2),.v (.int .i64 r3),.v (.int .i64 r4),.v (.int .i64 r5),.v (.int .i64 r6),.v (.int .i64 r7),.v (.int .i64 r8)],.v (.agg ⟨[.int .i64 a,.int .i64 b,.int .i64 c,.int .i64 d,.int .i64 e,.int .i64 f,.int .i64 g,.int .i64 q]⟩)],⟨[],[],[r]⟩=>match zPh r with
    | some L=>some (true,.ptr 0 0,fM ⟨L,⟨r1,r2,r3,r4,r5,r6,r7,r8⟩,stN ⟨a,b,c,d,e,f,g,q⟩⟩)
    | none=>none
  | _,_=>none
theorem gSt_ok:CtC 31 gSt:=by
  intro xs m r m' h
  unfold gSt at h
  split at h
  case h_2=>cases h
  rename_i r1 r2 r3 r4 r5 r6 r7 r8 a b c d e f g q r
  split at h
  case h_2=>cases h
  rename_i L hL
  obtain ⟨_,rfl,rfl⟩:=some_t2 h
  rw [zPh_eq hL]
  exact runOk (Λ:=L0) Oknt Tryz.func31 rfl l00 (runSt L ⟨r1,r2,r3,r4,r5,r6,r7,r8⟩ ⟨a,b,c,d,e,f,g,q⟩)
noncomputable def gUN (xs:List SV) (m:Mem):Option (Bool×SV×Mem) :=
  match xs,m with
  | [.v (.string img),.v (.agg ⟨[.int .i64 p,.int .i64 q]⟩)],⟨[],[],[]⟩=>some (okFb img p 0 fl48&&okFb img q 0 fl48,.ptr 0 0,uM ⟨nwX img p,nwX img q,zS,zS,0,0⟩)
  | _,_=>none
theorem gUN_ok:CtC 30 gUN:=by
  intro xs m r m' h
  unfold gUN at h
  split at h
  case h_2=>cases h
  rename_i img p q
  obtain ⟨h1,rfl,rfl⟩:=some_t2 h
  rw [Bool.and_eq_true] at h1
  exact runOk (Λ:=L0) Okun1 Tryz.func30 rfl l00 ((runUN img p q).trans (by rw [h1.1,h1.2];rfl))
end Go.Proofs.YtagaiddomhpdmaaGreat.Hr
namespace Go.Proofs.YtagaiddomhpdmaaGreat.Hr
open Go Go.Proofs Go.Sx Nw Pe So
set_option linter.unusedVariables false
noncomputable def Γax:Orc:=addCl 33 gUC (addRd 69 gTd (addCl 32 gGo1 (addRd 35 gUw (addRd 36 gUf (addCl 30 gUN (addVal 23 gIm1 (addVal 73 gCt (addCl 29 gMi1 (addCl 31 gSt ΓO)))))))))
theorem Okax:Γax.Ok Tryz.prog:=addCl_ok (addRd_ok (addCl_ok (addRd_ok (addRd_ok (addCl_ok (addVal_ok (addVal_ok (addCl_ok (addCl_ok OkO gSt_ok) gMi1_ok) gCt_ok) gIm1_ok) gUN_ok) gUf_ok) gUw_ok) gGo1_ok) gTd_ok) gUC_ok
def wxA (f:FuncId):Bool:=wx24 f||(Nat.beq f 33||(Nat.beq f 32||(Nat.beq f 30||(Nat.beq f 29||(Nat.beq f 31||Nat.beq f 68)))))
noncomputable def Γay:Orc:=execV Tryz.prog Γax.call Γax.rd Γax.eqv wxA 60 16
theorem Okay:Γay.Ok Tryz.prog:=execV_ok mixed names (ext:=Γax.call) (rd:=Γax.rd) (eqv:=Γax.eqv) ⟨Okax.call,Okax.rd,⟨Okax.eqv.1,fun _ _ _ _ _ _ h=>by cases h⟩⟩ 60 16
noncomputable def gArm (xs:List SV) (m:Mem):Option (Bool×SV×Mem):=match runG Γay (loopX Γay Tryz.prog 60 3) Tryz.prog Tryz.f68 xs m with
  | some (r,m')=>some (true,r,m')
  | none=>none
theorem gArm_ok:CtC 68 gArm:=by
  intro xs m r m' h
  unfold gArm at h
  split at h
  · rename_i r1 m1 h1
    obtain ⟨_,rfl,rfl⟩:=some_t2 h
    exact runOk Okay Tryz.func68 rfl (fun z _ _ b _=>loopX_ok Okay mixed 60 3 b) h1
  · cases h
noncomputable def Γa2:Orc:=addCl 68 gArm Γax
theorem Oka2:Γa2.Ok Tryz.prog:=addCl_ok Okax gArm_ok
noncomputable def Γaz:Orc:=execV Tryz.prog Γa2.call Γa2.rd Γa2.eqv wxA 60 16
theorem Okaz:Γaz.Ok Tryz.prog:=execV_ok mixed names (ext:=Γa2.call) (rd:=Γa2.rd) (eqv:=Γa2.eqv) ⟨Oka2.call,Oka2.rd,⟨Oka2.eqv.1,fun _ _ _ _ _ _ h=>by cases h⟩⟩ 60 16
theorem runAx:runG Γaz (loopX Γaz Tryz.prog 60 3) Tryz.prog Tryz.f27 [] M0=some (.v (Bo true),M0):=by kernel_rfl
def gAx (vs:List Value):Option (Bool×Value) :=
  match vs with
  | []=>some (true,Bo true)
  | _=>none
theorem gAx_ok:CtV 27 gAx:=by
  intro vs r h
  unfold gAx at h
  split at h
  · obtain ⟨_,rfl⟩:=some_t h
    exact runV (vs:=[]) (m':=M0) Okaz Tryz.func27 rfl (fun z _ _ b _=>loopX_ok Okaz mixed 60 3 b) runAx
  · cases h
end Go.Proofs.YtagaiddomhpdmaaGreat.Hr
