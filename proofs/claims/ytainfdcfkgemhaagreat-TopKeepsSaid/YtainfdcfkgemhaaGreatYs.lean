/-
  What it tells is kept ahead of it: round by round,and as a law over values.
-/
import Derived.Test.YtainfdcfkgemhaaGreatYr
import Derived.Test.YtainfdcfkgemhaaGreatYn
import Derived.Test.YtainfdcfkgemhaaGreatSx
import Derived.Test.YtainfdcfkgemhaaGreatYm
import Derived.Test.YtainfdcfkgemhaaGreatYq
set_option maxRecDepth 100000
noncomputable section
open Go.Proofs.Tryz
namespace Go.Proofs.YtainfdcfkgemhaaGreat.Hr
open Go Go.Proofs Go.Sx Nw Pe So
set_option linter.unusedVariables false
theorem qic {n:Nat} {x:PS} (hI:Inv n x) (hq:Qv x) (i:Inp):JdOk (cA x i):=by
 have e:cA x i=jX (cyB x i) (fe x i):=rfl
 rw [e]
 unfold jX
 have k1:(cyB x i).m.L=cc (cyB x i).img:=by rw [Pt,Pu];exact hI.mL
 have k2:0<=(cyB x i).m.p/\(cyB x i).m.p<((cc (cyB x i).img).length:Int):=by rw [Pt,Pu];exact hI.mp
 have k3:(cyB x i).R.r4=2:=by rw [qin];exact hq.e
 refine qdG (fun hv=>?_) (fun hv=>?_)
 ·exact Km k1 k2 k3 (mE x).s (cG 0 (cZ (mE x).a i.a)) hv
 ·exact Km k1 k2 k3 (mE x).t (cG 1 (cZ (mE x).b i.b)) hv
theorem yW (x:PS) (i:Inp):(bS x i).la=x.la:=by kernel_rfl
theorem Ps (x:PS) (i:Inp):(bS x i).f=x.f:=by kernel_rfl
theorem qim (x:PS) (i:Inp):(bS x i).cy=if (1000000:Int)<wI (x.cy+1) then 1000000 else wI (x.cy+1):=by kernel_rfl
theorem qil (x:PS) (i:Inp):(bS x i).fl=(x.fl||((cA x i).kn&&decide ((cA x i).ht>=x.R.r7))):=by kernel_rfl
theorem Hc (x:PS) (i:Inp):(Hr.cyE x i).m=(bS x i).m:=by kernel_rfl
theorem Pp (x:PS) (i:Inp):(Hr.cyE x i).q.t=(bS x i).q.t:=by kernel_rfl
theorem qii (x:PS) (i:Inp):(Hr.cyE x i).cy=(bS x i).cy:=by kernel_rfl
theorem qih (x:PS) (i:Inp):(Hr.cyE x i).fl=(bS x i).fl:=by kernel_rfl
theorem qik (x:PS) (i:Inp):(bS x i).m.p=bif (cI x i).fl then (bif mG (cI x i) (fe x i) (cA x i) then wI (x.m.p+1) else x.m.p) else x.m.p:=by
 have e0:(bS x i).m=bif (cI x i).fl then mF (cI x i) (fe x i) (cA x i) else (cI x i).m:=by kernel_rfl
 have e1:(mF (cI x i) (fe x i) (cA x i)).p=bif mG (cI x i) (fe x i) (cA x i) then wI (x.m.p+1) else x.m.p:=by kernel_rfl
 have e2:(cI x i).m.p=x.m.p:=by kernel_rfl
 rw [e0]
 cases (cI x i).fl
 ·exact e2
 ·exact e1
theorem Pr (x:PS) (i:Inp):(bS x i).q.t=(tQ (cyB x i) (fe x i) (yY (cyB x i) (cA x i)) ((cyB x i).q.t==1&&tB (qC (cyB x i) (cA x i) true))).t:=by kernel_rfl
theorem qh9 {s:Int} {l:Bool} {w c ph:Int} {fl fi a f:Bool}:Se.cyT s l 2 w c ph fl fi a f=2:=by
 unfold Se.cyT
 cases l<;>rfl
theorem qia {s:Int} {l:Bool} {w c ph:Int} {fl fi a f:Bool}:Se.cyT s l 0 w c ph fl fi a f≠2:=by
 unfold Se.cyT Se.wsT
 cases l
 ·show (bif Se.dropW (Se.w1N c w) 2==1&&a then (1:Int) else 0)≠2
  cases Se.dropW (Se.w1N c w) 2==1&&a<;>decide
 ·show (0:Int)≠2
  decide
theorem Kv.mo {x:PS} (h:Kv x) (hu:x.up=true) (hF:Fo (ao x.f.F) x.la.x x.la.r) (i:Inp):Mo x.la.r (bQ (bS x i)):=by
 obtain ⟨r1,r2,r3,r4⟩:=h.rel hu
 obtain ⟨o1,o2,o3,o4,o5,o6⟩:=hF.o.q
 have hmp:=h.i.mp
 have hl:(cc x.img).length<=4:=by unfold cc;rw [List.length_replicate];exact (uf _).2
 refine ⟨?_,?_,?_,?_,?_⟩
 ·show x.la.r.p<=(bS x i).m.p
  rw [qik,<- r2,az (n:=x.m.p+1) (by omega)]
  cases (cI x i).fl
  ·exact Int.le_refl _
  ·cases mG (cI x i) (fe x i) (cA x i)
   ·exact Int.le_refl _
   ·show x.m.p<=x.m.p+1
    omega
 ·show x.la.r.c<=(bS x i).cy
  rw [qim,<- r3,az (n:=x.cy+1) (by omega)]
  split<;>omega
 ·show x.la.r.f<=bif (bS x i).fl then 1 else 0
  rw [qil,r4]
  rcases (show x.la.r.f=0\/x.la.r.f=1 by omega) with e|e
  ·rw [e]
   cases ((0:Int)==1||((cA x i).kn&&decide ((cA x i).ht>=x.R.r7)))
   ·exact Int.le_refl _
   ·show (0:Int)<=1
    decide
  ·rw [e]
   exact Int.le_refl _
 ·intro hs
  show (bS x i).q.t=2
  rw [Pr]
  have e:(cyB x i).q.t=2:=by rw [Hf,r1,hs]
  unfold tQ
  rw [e]
  exact qh9
 ·intro hs hz
  have hs:(bS x i).q.t=2:=hs
  rw [Pr] at hs
  have e:(cyB x i).q.t=0:=by rw [Hf,r1,hz]
  unfold tQ at hs
  rw [e] at hs
  exact qia hs
theorem Kv.cyN {x:PS} (h:Kv x) (hb:fg x=false) (i:Inp):Kv (Hr.cyN x i)/\Sk x.la.r (Hr.cyN x i).la.r (fJ x i):=by
 have hi:=h.i.cyN (i:=i) hb
 have hqv:=h.q.cyN (i:=i)
 have hkq:0<=x.la.r.q/\x.la.r.q<=2147483648:=by
  rcases h.fo with e|⟨_,r,e,_⟩
  ·exact e.o.q.1
  ·exact e.o.q.1
 cases hu:x.up
 ·have e:Hr.cyN x i=pP x (bif x.lf==0 then 0 else x.lf - 1):=by unfold Hr.cyN;rw [hu];rfl
  have er:fJ x i=o0:=by unfold fJ;rw [hu];rfl
  rw [e] at hi hqv ⊢
  rw [er]
  refine ⟨⟨hi,hqv,h.ba,h.lb,h.kp,h.fo,h.rel⟩,⟨fun hh=>(by cases hh),fun _=>.inl rfl,hkq,fun _=>rfl⟩⟩
 ·have hF:Fo (ao x.f.F) x.la.x x.la.r:=by
   rcases h.fo with e|⟨e,_⟩
   ·exact e
   ·rw [hu] at e;cases e
  have hM:=h.mo hu hF i
  have hE:=h.i.cyE i
  have e:Hr.cyN x i=bif fc x i != 0 then { Hr.cyE x i with up:=false } else Hr.cyE x i:=by unfold Hr.cyN gH;rw [hu];rfl
  have er:fJ x i=bif fc x i != 0 then o0 else jN (Hr.cyE x i) (cA x i) (cyW x i):=by unfold fJ;rw [hu];rfl
  have hsv:=Ug (bS x i) (by rw [yW];exact h.lb) (by rw [yW,Ps];exact hF) (by rw [Ps];exact h.i.le)
  rw [yW] at hsv
  have eE:Hr.cyE x i=fj (bS x i):=rfl
  have hX:svE (bS x i) (bQ (bS x i))=fc x i:=rfl
  rw [hX] at hsv
  have hq1:(bQ (bS x i)).q=x.la.r.q+1:=by
   show wI ((bS x i).la.r.q+1)=_
   rw [yW]
   exact az (by omega)
  have hpl:(bQ (bS x i)).p<((cc x.img).length:Int):=by
   have:=hE.mp.2
   rw [Hc,om] at this
   exact this
  rw [e] at hi hqv ⊢
  rw [er]
  cases hc:fc x i != 0
  ·have h0:fc x i=0:=bne_eq_false_iff_eq.1 hc
   obtain ⟨s1,s2,s3,s4⟩:=hsv.1 h0
   rw [hc] at hi hqv
   have hi:Inv 60 (Hr.cyE x i):=hi
   have hqv:Qv (Hr.cyE x i):=hqv
   show Kv (Hr.cyE x i)/\Sk x.la.r (Hr.cyE x i).la.r (jN (Hr.cyE x i) (cA x i) (cyW x i))
   have hla:(Hr.cyE x i).la.r=bQ (bS x i):=s2
   have hup:(Hr.cyE x i).up=true:=by rw [Po];exact hu
   have hTO:TO (jN (Hr.cyE x i) (cA x i) (cyW x i)) (Hr.cyE x i).la.r:=T6 (bS x i) (cA x i) (cyW x i) h0 (h.q.cyE i).w (qic h.i h.q i)
   refine ⟨⟨hi,hqv,by rw [He];exact h.ba,s4,by rw [om,hla];exact hpl,.inl (by rw [hla];exact s3),fun _=>?_⟩,⟨fun _=>⟨hTO,?_,?_,by rw [hla];exact hq1,by rw [hla];exact hM⟩,fun hh=>(by cases hh),hkq,fun hz=>?_⟩⟩
   ·rw [hla,Pp,Hc,qii,qih]
    refine ⟨rfl,rfl,rfl,?_⟩
    show (bS x i).fl=((bif (bS x i).fl then (1:Int) else 0)==1)
    cases (bS x i).fl<;>rfl
   ·rw [hla]
    exact Pp x i
   ·rw [hla]
    show (Hr.cyE x i).m.p=(bS x i).m.p
    rw [Hc]
   ·rw [hla] at hz
    omega
  ·have h0:fc x i≠0:=bne_iff_ne.1 hc
   obtain ⟨s1,s2⟩:=hsv.2 h0
   rw [hc] at hi hqv
   have hi:Inv 60 { Hr.cyE x i with up:=false }:=hi
   have hqv:Qv { Hr.cyE x i with up:=false }:=hqv
   show Kv { Hr.cyE x i with up:=false }/\Sk x.la.r (Hr.cyE x i).la.r o0
   have hla:(Hr.cyE x i).la=x.la:=s1
   refine ⟨⟨hi,hqv,?_,?_,?_,?_,fun hh=>(by cases hh)⟩,⟨fun hh=>(by cases hh),fun _=>.inl (by rw [hla]),hkq,fun _=>by rw [hla]⟩⟩
   ·show (Hr.cyE x i).base=5
    rw [He];exact h.ba
   ·show (Hr.cyE x i).la.b=5
    rw [hla];exact h.lb
   ·show (Hr.cyE x i).la.r.p<((cc (Hr.cyE x i).img).length:Int)
    rw [hla,om];exact h.kp
   ·show Fo (ao (Hr.cyE x i).f.F) (Hr.cyE x i).la.x (Hr.cyE x i).la.r\/(false=false/\∃ r,Fp (ao (Hr.cyE x i).f.F) (Hr.cyE x i).la.x (Hr.cyE x i).la.r r/\Mo (Hr.cyE x i).la.r r/\r.p<((cc (Hr.cyE x i).img).length:Int))
    rw [hla,om]
    rcases s2 with s|⟨s,s'⟩
    ·exact .inl s
    ·exact .inr ⟨rfl,_,s',hM,hpl⟩
theorem qiW (x:PS):(bZ x).la=gg (bw (bm x 1)):=by kernel_rfl
theorem qiQ (x:PS):(bZ x).q.t=bif Se.setB false (gg (bw (bm x 1))).r.s then (gg (bw (bm x 1))).r.s else 0:=by kernel_rfl
theorem qi0 (x:PS):(bZ x).cy=(gg (bw (bm x 1))).r.c:=by kernel_rfl
theorem qiZ (x:PS):(bZ x).fl=((gg (bw (bm x 1))).r.f==1):=by kernel_rfl
theorem qiN {x:PS} (hb:x.base=5) (hs:(ao x.f.F).size=60):gg (bw (bm x 1))=⟨5,opR (ao x.f.F),La.opN (La.s0 (ao x.f.F)) (La.s1 (ao x.f.F))⟩:=by
 have a:jB (bw (bm x 1))=La.s0 (ao x.f.F):=by
  show La.sl0 (ao x.f.F) x.base=_
  rw [hb]
  exact La.sl0_is (by omega)
 have b:jA (bw (bm x 1))=La.s1 (ao x.f.F):=by
  show La.sl1 (ao x.f.F) x.base=_
  rw [hb]
  exact La.sl1_is (by omega)
 have c:(bw (bm x 1)).base=5:=hb
 unfold gg opR
 rw [a,b,c]
theorem Va {L:List (List Dat)} {p n:Int} (h0:0<=p) (h1:p<(L.length:Int)) (h2:0<=n/\n<=1000000):Ph.seB L p n=true:=by
 unfold Ph.seB
 rw [decide_eq_false (show ¬ p<0 by omega),decide_eq_false (show ¬ p>=(L.length:Int) by omega),decide_eq_false (show ¬ n<0 by omega),decide_eq_false (show ¬ n>1000000 by omega)]
 rfl
theorem Kv.bt {x:PS} (h:Kv x) (hb:fg x=true):Kv (bZ x)/\Sk x.la.r (bZ x).la.r o0:=by
 have hi:=h.i.bt'
 have hs:(ao x.f.F).size=60:=h.i.fr.2
 have hbl:=qiN h.ba hs
 have main:∀ k nx,opR (ao x.f.F)=k->La.opN (La.s0 (ao x.f.F)) (La.s1 (ao x.f.F))=nx->Fo (ao x.f.F) nx k->k.p<((cc x.img).length:Int)->Kv (bZ x)/\(bZ x).la.r=k:=by
  intro k nx e1 e2 hF hk
  have hl:(bZ x).la=⟨5,k,nx⟩:=by rw [qiW,hbl,e1,e2]
  obtain ⟨o1,o2,o3,o4,o5,o6⟩:=hF.o.q
  have hR:(gg (bw (bm x 1))).r=k:=by rw [hbl,e1]
  refine ⟨⟨hi,Qv.bt x,by rw [PW];exact h.ba,by rw [hl],by rw [hl,zc];exact hk,.inl ?_,fun _=>?_⟩,by rw [hl]⟩
  ·rw [hl,PX];exact hF
  ·rw [hl,qiQ,PV,qi0,qiZ,hR]
   refine ⟨?_,?_,rfl,rfl⟩
   ·have:Se.setB false k.s=true:=by
     unfold Se.setB
     rw [decide_eq_false (show ¬ k.s<0 by omega),decide_eq_false (show ¬ k.s>2 by omega)]
     rfl
    rw [this]
    rfl
   ·rw [Va o2.1 hk o6]
    rfl
 rcases h.fo with e|⟨_,r,e,hM,hr⟩
 ·obtain ⟨e1,e2⟩:=e.op
  obtain ⟨m1,m2⟩:=main _ _ e1 e2 e h.kp
  refine ⟨m1,⟨fun hh=>(by cases hh),fun _=>.inl m2,e.o.q.1,fun _=>m2⟩⟩
 ·obtain ⟨e1,e2,e3⟩:=e.op
  obtain ⟨m1,m2⟩:=main _ _ e1 e2 e3 hr
  have hq:=e.q
  have h0:=e.o.q.1
  refine ⟨m1,⟨fun hh=>(by cases hh),fun _=>.inr ⟨by rw [m2];exact hq,by rw [m2];omega,by rw [m2];exact hM⟩,h0,fun hz=>?_⟩⟩
  rw [m2] at hz
  omega
end Go.Proofs.YtainfdcfkgemhaaGreat.Hr
namespace Go.Proofs.YtainfdcfkgemhaaGreat.Hr
open Go Go.Proofs Go.Sx Nw Pe So
set_option linter.unusedVariables false
theorem GT {α:Type} (K:Rcd->Bool->Option α) (R:Option α) {n k:Rcd} {f:Bool} (h:k.p<=n.p/\k.c<=n.c/\k.f<=n.f):lg K R n k f=bif decide (n.q>0) then (bif f then K n true else K n (n.s==2)) else K k f:=by
 unfold lg
 rw [decide_eq_false (show ¬ n.p<k.p by omega),decide_eq_false (show ¬ n.c<k.c by omega),decide_eq_false (show ¬ n.f<k.f by omega)]
 rfl
theorem PF {α:Type} (K:Rcd->Bool->Option α) (R:Option α) {o:Ot} {n k:Rcd} (h:Sk k n o):y7 K R o n k (k.s==2)=K n (n.s==2):=by
 have hq:=h.q
 unfold y7
 cases hu:o.up
 ·show (bif n.q != k.q then (bif n.q != wI (k.q+1) then R else lg K R n k (k.s==2)) else lg K R n k (k.s==2))=_
  rw [az (n:=k.q+1) (by omega)]
  rcases h.d hu with e|⟨e,e2,e3⟩
  ·rw [e,bne_self_eq_false,cond_false,GT K R ⟨Int.le_refl _,Int.le_refl _,Int.le_refl _⟩]
   cases decide (k.q>0)
   ·rfl
   ·cases k.s==2<;>rfl
  ·rw [e,bne_self_eq_false,cond_false]
   have hb:(k.q+1 != k.q)=true:=bne_iff_ne.2 (by omega)
   rw [hb,cond_true,GT K R ⟨e3.p,e3.c,e3.f⟩,decide_eq_true e2]
   cases hs:k.s==2
   ·rfl
   ·rw [e3.s (beq_iff_eq.1 hs)]
    rfl
 ·obtain ⟨t,e1,e2,e3,e4⟩:=h.u hu
  have r0:∀ x,rV o x=x:=fun x=>by unfold rV;rw [t.td];rfl
  have hs:=t.sz
  show (bif Nat.ble o.r.size 1000000 then _ else none)=_
  simp only [r0]
  rw [Nat.ble_eq_true_of_le (show o.r.size<=1000000 by omega),decide_eq_true t.q,e1,e2,t.c1,t.v1,t.d1,t.i1,e3,az (n:=k.q+1) (by omega)]
  simp only [bne_self_eq_false,cond_false,cond_true,Bool.not_true]
  have hf:∀ f,lg K R n k f=bif f then K n true else K n (n.s==2):=fun f=>by
   rw [GT K R ⟨e4.p,e4.c,e4.f⟩,decide_eq_true t.q]
   rfl
  have hup:∀ f,u3 K R o n k f=K n (bif f then true else n.s==2):=fun f=>by
   unfold u3
   rw [hf,hf,e1]
   cases f
   ·cases n.s==2<;>rfl
   ·rfl
  unfold GV
  simp only [hup,e1]
  cases hk:k.s==2
  ·cases hn:n.s==2
   ·rfl
   ·have:(k.s==0)=false:=beq_eq_false_iff_ne.2 (e4.z (beq_iff_eq.1 hn))
    rw [this]
    rfl
  ·have hn:n.s=2:=e4.s (beq_iff_eq.1 hk)
   have hk2:k.s=2:=beq_iff_eq.1 hk
   rw [hn,hk2]
   rfl
def Cb (l:List Dat):Prop:=jb (CU l)=true
theorem qaP (n:Nat) (nn i:Int) {x:PS} (h:Kv x) (t:Int) (r:Bool) (j:Inp) (hj:jb j=true) (L:List (List Dat)) (own mark:Bool):∃ x',Kv x'/\wc n nn i (dA x t r) x.la.r (x.la.r.s==2) j L own mark=m5 n nn (wI (i+1)) x' x'.la.r (x'.la.r.s==2) L own mark:=by
 have hX:=h.sp t r
 have el:(dA x t r).la.r=x.la.r:=by rw [UX]
 unfold wc
 rw [<- el]
 cases hb:fg (dA x t r)
 ·obtain ⟨a1,a2⟩:=hX.cyN hb j
  refine ⟨_,a1,?_⟩
  rw [hX.i.okN hj hb]
  simp only [Bool.not_false,Bool.and_self,cond_true,cond_false]
  exact PF (fun k' f'=>m5 n nn (wI (i+1)) (cyN (dA x t r) j) k' f' L own mark) (v7 L own mark) a2
 ·obtain ⟨a1,a2⟩:=hX.bt hb
  refine ⟨_,a1,?_⟩
  rw [hX.i.okB hb]
  simp only [Bool.and_self,cond_true]
  exact PF (fun k' f'=>m5 n nn (wI (i+1)) (bZ (dA x t r)) k' f' L own mark) (v7 L own mark) a2
def G2 (L:List (List Dat)) (own mark:Bool):Ex×St:=(.exit 0,mk (rD (.exit 0)) [] ⟨[],[],[eJ L own mark]⟩)
section
attribute [local irreducible] m5 wc
theorem qdq (L:List (List Dat)) (own mark:Bool) (hl:L.length<=1000000) (hO:∀ k,k<L.length->Cb (L.getD k [])):∀ (m k:Nat) (x:PS),k+m=L.length->Kv x->m5 (m+1) (L.length:Int) (k:Int) x x.la.r (x.la.r.s==2) L own mark=some (G2 L own mark):=by
 intro m
 induction m with
 | zero =>
  intro k x hk hx
  refine (Lb 0 (L.length:Int) (k:Int) x x.la.r (x.la.r.s==2) L own mark).trans ?_
  rw [decide_eq_false (show ¬ (k:Int)<(L.length:Int) by omega),cond_false]
  rfl
 | succ m ih =>
  intro k x hk hx
  refine (Lb (m+1) (L.length:Int) (k:Int) x x.la.r (x.la.r.s==2) L own mark).trans ?_
  rw [decide_eq_true (show (k:Int)<(L.length:Int) by omega),decide_eq_true (show (0:Int)<=(k:Int) by omega),Bool.and_self,cond_true,cond_true]
  obtain ⟨x',hx',e'⟩:=qaP (m+1) (L.length:Int) (k:Int) hx (Kz (L.getD (k:Int).toNat [])) (LD (L.getD (k:Int).toNat [])) (CU (L.getD (k:Int).toNat [])) (hO k (by omega)) L own mark
  refine Eq.trans e' ?_
  rw [az (n:=(k:Int)+1) (by omega),show ((k:Int)+1)=((k+1:Nat):Int) from rfl]
  exact ih (k+1) x' (by omega) hx'
end
def AS (m:Mem):Option (PS×Rcd×RowS):=match m with
 | ⟨b0::b1::b2::bs,lv,r::rs⟩=>match Nat.beq bs.length 21&&(nW 24 lv&&Nat.beq rs.length 3),b2,HL nK 1 (fun i=>(b0::b1::b2::bs).getD i []) (fun i=>(r::rs).getD i .dead) with
  | true,[.v (.int .i64 q),.v (.int .i64 c),.v (.int .i64 p),.v (.int .i64 s),.v (.int .i64 f),.v (.int .i64 v),.v (.int .i64 d),.v (.int .i64 j),.v (.int .i64 n)],some x=>some (x,⟨q,c,p,s,f,v,d,j,n⟩,r)
  | _,_,_=>none
 | _=>none
set_option maxHeartbeats 4000000 in
theorem TI {m:Mem} {x:PS} {k:Rcd} {r0:RowS} (h:AS m=some (x,k,r0)):m=wY x k r0:=by
 unfold AS at h
 split at h
 case h_2=>cases h
 rename_i b0 b1 b2 bs lv r rs
 split at h
 case h_2=>cases h
 rename_i q c p s f v d j n x' hb hx
 injection h with h
 injection h with e1 h
 injection h with e2 e3
 subst e1 e2 e3
 rw [Bool.and_eq_true,Bool.and_eq_true] at hb
 obtain ⟨b1',b2',b3⟩:=hb
 have e2:=qd b2'
 generalize hbs:b0::b1::[SA.v (.int .i64 q),.v (.int .i64 c),.v (.int .i64 p),.v (.int .i64 s),.v (.int .i64 f),.v (.int .i64 v),.v (.int .i64 d),.v (.int .i64 j),.v (.int .i64 n)]::bs=BS at hx
 generalize hrs:r::rs=RS at hx
 have k1:BS.length=24:=by rw [<- hbs];show bs.length+1+1+1=24;rw [Nat.eq_of_beq_eq_true b1']
 have k2:RS.length=4:=by rw [<- hrs];show rs.length+1=4;rw [Nat.eq_of_beq_eq_true b3]
 have g2:BS.getD 2 []=[SA.v (.int .i64 q),.v (.int .i64 c),.v (.int .i64 p),.v (.int .i64 s),.v (.int .i64 f),.v (.int .i64 v),.v (.int .i64 d),.v (.int .i64 j),.v (.int .i64 n)]:=by rw [<- hbs];rfl
 have q0:RS.getD 0 .dead=r:=by rw [<- hrs];rfl
 have e1:=Kx [] BS 24 k1
 have e3:=Kx RowS.dead RS 4 k2
 obtain ⟨p1,p2,p3,p4,p5,p6,p7,p8,p9,p10,p11,p12,p13,p14,p15,p16,p17,p18,p19,p20,p21,p22,p23,p24,p25,p26⟩:=qjd hx
 have j1:(List.range 24).map (fun i=>BS.getD i [])=(wY x' ⟨q,c,p,s,f,v,d,j,n⟩ r).blk:=by
  refine Eq.trans (b:=[BS.getD 0 [],BS.getD 1 [],BS.getD 2 [],BS.getD 3 [],BS.getD 4 [],BS.getD 5 [],BS.getD 6 [],BS.getD 7 [],BS.getD 8 [],BS.getD 9 [],BS.getD 10 [],BS.getD 11 [],BS.getD 12 [],BS.getD 13 [],BS.getD 14 [],BS.getD 15 [],BS.getD 16 [],BS.getD 17 [],BS.getD 18 [],BS.getD 19 [],BS.getD 20 [],BS.getD 21 [],BS.getD 22 [],BS.getD 23 []]) rfl ?_
  rw [g2,show BS.getD 1 []=_ from p1,show BS.getD 0 []=_ from p2,show BS.getD 4 []=_ from p3,show BS.getD 5 []=_ from p4,show BS.getD 6 []=_ from p5,show BS.getD 7 []=_ from p6,show BS.getD 8 []=_ from p7,show BS.getD 9 []=_ from p8,show BS.getD 10 []=_ from p9,show BS.getD 11 []=_ from p10,show BS.getD 12 []=_ from p11,show BS.getD 13 []=_ from p12,show BS.getD 3 []=_ from p13,show BS.getD 14 []=_ from p14,show BS.getD 15 []=_ from p15,show BS.getD 16 []=_ from p16,show BS.getD 17 []=_ from p17,show BS.getD 18 []=_ from p18,show BS.getD 19 []=_ from p19,show BS.getD 20 []=_ from p20,show BS.getD 21 []=_ from p21,show BS.getD 22 []=_ from p22,show BS.getD 23 []=_ from p23]
  rfl
 have j2:(List.range 4).map (fun i=>RS.getD i .dead)=(wY x' ⟨q,c,p,s,f,v,d,j,n⟩ r).rows:=by
  refine Eq.trans (b:=[RS.getD 0 .dead,RS.getD 1 .dead,RS.getD 2 .dead,RS.getD 3 .dead]) rfl ?_
  rw [q0,show RS.getD 2 .dead=_ from p24,show RS.getD 1 .dead=_ from p25,show RS.getD 3 .dead=_ from p26]
  rfl
 rw [e1,e2,e3,j1,j2]
 rfl
def uN (r:RowS):Option (List (List Dat)×Bool×Bool):=match r with
 | .live ⟨t,ks,L,own,mark⟩=>bif Nat.beq t 36&&eL ks pV then some (L,own,mark) else none
 | _=>none
theorem Ka {r:RowS} {L:List (List Dat)} {own mark:Bool} (h:uN r=some (L,own,mark)):r=eJ L own mark:=by
 unfold uN at h
 split at h
 ·rename_i t ks L' o m
  cases e:Nat.beq t 36&&eL ks pV
  ·rw [e] at h;cases h
  ·rw [e] at h
   injection h with h
   injection h with h1 h
   injection h with h2 h3
   subst h1 h2 h3
   rw [Bool.and_eq_true] at e
   rw [Nat.eq_of_beq_eq_true e.1,jd e.2]
 ·cases h
def Cc (x:PS) (k:Rcd) (fd:Bool) (L:List (List Dat)):Prop:=Kv x/\k=x.la.r/\fd=(x.la.r.s==2)/\L.length<=1000000/\∀ k,k<L.length->Cb (L.getD k [])
def JN (vals:List SV) (m:Mem):Option (Bool×LT) :=
 match vals,AS m with
 | [.ptr 0 0,.ptr 1 0,.ptr 2 0,.v (.bool fd),.row 0,.v (.int .i64 nn),.v (.int .i64 i)],some (x,k,r)=>match uN r with
  | some (L,own,mark)=>some (i==0&&(nn==(L.length:Int)&&dW (Cc x k fd L)),.leaf (G2 L own mark).1 (G2 L own mark).2)
  | none=>none
 | _,_=>none
def ΛKp:aV:=fun _ st=>fW 0 1 CG JN st
theorem qdf (z:Base) (z1:z.L.length=0) (z2:z.U.length=1):aS ΛKp prog z HH:=by
 refine gV (Λ:=L0) (kx:=rD) qka mixed z1 z2 (fun b hb st t h=>by cases h) (G:=JN) (fun _=>rfl) ?_
 intro vals m t h
 unfold JN at h
 split at h
 case h_2=>cases h
 rename_i fd nn i x k r hm
 split at h
 case h_2=>cases h
 rename_i L own mark hr
 obtain ⟨h1,rfl⟩:=ab h
 simp only [Bool.and_eq_true,beq_iff_eq] at h1
 obtain ⟨rfl,rfl,h2⟩:=h1
 obtain ⟨g1,g2,g3,g4,g5⟩:=iG.1 h2
 rw [TI hm,Ka hr,g2,g3]
 exact ⟨L.length+1,qdq L own mark g4 g5 L.length 0 x (by omega) g1⟩
theorem qct:aF (f52.body.getD .skip)=[HH]:=by kernel_rfl
end Go.Proofs.YtainfdcfkgemhaaGreat.Hr
namespace Go.Proofs.YtainfdcfkgemhaaGreat.Hr
open Go Go.Proofs Go.Sx Nw Pe So
set_option linter.unusedVariables false
def dF:Fla:=⟨nt 60 255,false,false,0,1000000,0⟩
def dm (k:Int):PS:=gI (x0 (mq k) 0 5 dF)
theorem qbE {k:Int} (h:kI k=true):j0 (mq k) 0 5 dF=true:=by
 have h1:j0 (mq 1) 0 5 dF=true:=by kernel_rfl
 have h2:j0 (mq 2) 0 5 dF=true:=by kernel_rfl
 have h3:j0 (mq 3) 0 5 dF=true:=by kernel_rfl
 have h4:j0 (mq 4) 0 5 dF=true:=by kernel_rfl
 rcases Cd h with rfl|rfl|rfl|rfl<;>assumption
def qe (x:PS):Bool:=mc x.img x.port&&((decide (0<=x.m.p)&&decide (x.m.p<((cc x.img).length:Int)))&&(x.ft==0&&(iA x&&((kU x.f.F&&Nat.beq (ao x.f.F).size 60)&&(x.f.le==0&&(x.base==5&&(pQ x&&((x.q.w==0&&x.R.r4==2)&&(x.la.b==5&&(x.la.x==0&&(x.q.t==0&&(x.m.p==0&&(x.cy==0&&!x.fl)))))))))))))
theorem qhT:La.slP (La.s0 (ao dF.F)) 0:=by
 have h1:(La.s0 (ao dF.F)).size=24:=by kernel_rfl
 have h2:aa (La.s0 (ao dF.F)) 23=255:=by kernel_rfl
 have h3:La.eS (La.s0 (ao dF.F))=4294967295:=by kernel_rfl
 exact ⟨h1,by rw [h2];decide,.inr (.inr (by rw [h3];decide))⟩
theorem O4:La.slP (La.s1 (ao dF.F)) 1/\La.okS (La.s1 (ao dF.F))=false:=by
 have h1:(La.s1 (ao dF.F)).size=24:=by kernel_rfl
 have h2:aa (La.s1 (ao dF.F)) 23=255:=by kernel_rfl
 have h3:La.eS (La.s1 (ao dF.F))=4294967295:=by kernel_rfl
 have h4:La.okS (La.s1 (ao dF.F))=false:=by kernel_rfl
 exact ⟨⟨h1,by rw [h2];decide,.inr (.inr (by rw [h3];decide))⟩,h4⟩
theorem Uf:(ao dF.F).size=60:=by kernel_rfl
theorem xl {x:PS} (h:qe x=true) (hL:x.m.L=cc x.img) (hr:x.la.r=kz) (hF:x.f.F=dF.F) (hl:0<(cc x.img).length):Kv x:=by
 unfold qe at h
 simp only [Bool.and_eq_true,beq_iff_eq,decide_eq_true_eq,Bool.not_eq_true'] at h
 obtain ⟨h1,⟨h2,h3⟩,h4,h5,⟨h6,h7⟩,h8,h9,h10,⟨h11,h12⟩,h13,h14,h15,h16,h17,h18⟩:=h
 refine ⟨⟨h1,hL,⟨h2,h3⟩,h4,h5,⟨h6,Nat.eq_of_beq_eq_true h7⟩,by rw [h8];exact Int.le_refl _,by rw [h9];decide,h10⟩,⟨by rw [h11];decide,h12⟩,h9,h13,?_,.inl ?_,fun _=>?_⟩
 ·rw [hr]
  show (0:Int)<_
  omega
 ·rw [hr,h14,hF]
  exact ⟨Uf,.inl rfl,qhT,.inr ⟨rfl,rfl,O4.1,O4.2⟩⟩
 ·rw [hr,h15,h16,h17,h18]
  exact ⟨rfl,rfl,rfl,rfl⟩
theorem qbz {k:Int} (h:kI k=true):Kv (dm k)/\(dm k).la.r=kz:=by
 have h1:qe (dm 1)=true:=by kernel_rfl
 have h2:qe (dm 2)=true:=by kernel_rfl
 have h3:qe (dm 3)=true:=by kernel_rfl
 have h4:qe (dm 4)=true:=by kernel_rfl
 have l1:(dm 1).m.L=cc (dm 1).img:=by kernel_rfl
 have l2:(dm 2).m.L=cc (dm 2).img:=by kernel_rfl
 have l3:(dm 3).m.L=cc (dm 3).img:=by kernel_rfl
 have l4:(dm 4).m.L=cc (dm 4).img:=by kernel_rfl
 have r1:(dm 1).la.r=kz:=by kernel_rfl
 have r2:(dm 2).la.r=kz:=by kernel_rfl
 have r3:(dm 3).la.r=kz:=by kernel_rfl
 have r4:(dm 4).la.r=kz:=by kernel_rfl
 have f1:(dm 1).f.F=dF.F:=by kernel_rfl
 have f2:(dm 2).f.F=dF.F:=by kernel_rfl
 have f3:(dm 3).f.F=dF.F:=by kernel_rfl
 have f4:(dm 4).f.F=dF.F:=by kernel_rfl
 rcases Cd h with rfl|rfl|rfl|rfl
 ·exact ⟨xl h1 l1 r1 f1 (ox _).ln,r1⟩
 ·exact ⟨xl h2 l2 r2 f2 (ox _).ln,r2⟩
 ·exact ⟨xl h3 l3 r3 f3 (ox _).ln,r3⟩
 ·exact ⟨xl h4 l4 r4 f4 (ox _).ln,r4⟩
end Go.Proofs.YtainfdcfkgemhaaGreat.Hr
namespace Go.Proofs.YtainfdcfkgemhaaGreat.Hr
open Go Go.Proofs Go.Sx Nw Pe So
set_option linter.unusedVariables false
def C5:List TypeId:=38::52::44::41::good
theorem qd2:C5.all (kc prog)=true:=by kernel_rfl
def yN (P:Program) (good:List TypeId) (t:TypeId) (xs ys:List Value):Option Bool :=
 match yM P good t xs ys with
 | some r=>some r
 | none=>match good.contains t,qR P t with
  | true,some (m,_)=>if xs.length=m then ji xs ys else none
  | _,_=>none
theorem qhU {P:Program} {good:List TypeId} (hg:good.all (kc P)=true) (t:TypeId) (xs ys:List Value) (r:Bool) (h:yN P good t xs ys=some r) (w:World) (op:BinOp) (x y:Operand) (hop:op=.eql\/op=.neq) :
  (eqGuard op t x y (.agg xs.toArray) (.agg ys.toArray)).run P w=.ok () w/\(Op.equal t (.agg xs.toArray) (.agg ys.toArray)).run P w=.ok r w:=by
 unfold yN at h
 split at h
 ·rename_i r' hr
  injection h with h
  subst h
  exact O5 hg t xs ys _ hr w op x y hop
 ·split at h
  ·rename_i m e hc hm
   have ht:kc P t=true:=List.all_eq_true.1 hg t (by simpa using hc)
   unfold kc at ht
   simp only [Bool.and_eq_true,Bool.not_eq_true'] at ht
   split at h
   ·rename_i hl
    refine ⟨?_,?_⟩
    ·rcases hop with rfl|rfl<;>simp [eqGuard,program,Sem.run,ht.1.2]
    ·unfold Op.equal Op.maxDepth
     exact Bw (n:=9998) hm hl h
   ·cases h
  ·cases h
def pj (g:List SV->Mem->Option (Bool×SV×Mem)) (xs:List SV) (m:Mem):Option (Bool×SV×Mem):=match g xs m with
 | some (true,r,m')=>some (true,r,m')
 | _=>none
theorem vw {f:FuncId} {g:List SV->Mem->Option (Bool×SV×Mem)} (h:∀ xs m r m',g xs m=some (true,r,m')->bB prog f xs m r m'):∀ xs m r m',pj g xs m=some (true,r,m')->bB prog f xs m r m':=by
 intro xs m r m' e
 unfold pj at e
 split at e
 ·rename_i r1 m1 e1
  obtain ⟨_,rfl,rfl⟩:=aw e
  exact h _ _ _ _ e1
 ·cases e
def stR (g:List SV->Mem->Option (Bool×Value)) (xs:List SV) (m:Mem):Option (Bool×SV×Mem):=match g xs m with
 | some (true,r)=>some (true,.v r,m)
 | _=>none
theorem Bj {f:FuncId} {g:List SV->Mem->Option (Bool×Value)} (h:∀ xs m r,g xs m=some (true,r)->bB prog f xs m (.v r) m):∀ xs m r m',stR g xs m=some (true,r,m')->bB prog f xs m r m':=by
 intro xs m r m' e
 unfold stR at e
 split at e
 ·rename_i r1 e1
  obtain ⟨_,rfl,rfl⟩:=aw e
  exact h _ _ _ e1
 ·cases e
def Γa7:Orc:=aC 18 (pj xU) (aC 41 (pj tu) (aC 38 (pj xL) (aC 19 (stR xE) (aC 24 (stR FL) (aC 25 (stR xZ) (ah 30 Fy (ah 23 xF (ah 22 FF (aC 17 Fq.gFNew (aC 120 (pj yg) ΓP24))))))))))
theorem Q3:Γa7.Ok prog:=aA (aA (aA (aA (aA (aA (af (af (af (aA (aA ko (vw Oy)) Fq.gFNew_ok) qgo) N3) qgi) (Bj On)) (Bj qgu)) (Bj N2)) (vw N8)) (vw Oq)) (vw Oj)
def Γa8:Orc:=og prog Γa7.call Γa7.rd (yN prog C5) Ay 60 16
theorem Q2:Γa8.Ok prog:=yH mixed names (ext:=Γa7.call) (rd:=Γa7.rd) (eqv:=yN prog C5) ⟨Q3.call,Q3.rd,⟨fun t xs ys r h w op x y hop=>qhU qd2 t xs ys r h w op x y hop,fun _ _ _ _ _ _ h=>by cases h⟩⟩ 60 16
theorem qam:runG Γa8 (dV Γa8 prog 60 3) prog f15 [] M0=some (.v (Bo true),M0):=by kernel_rfl
def yk (vs:List Value):Option (Bool×Value) :=
 match vs with
 | []=>some (true,Bo true)
 | _=>none
theorem Oz:am 15 yk:=by
 intro vs r h
 unfold yk at h
 split at h
 ·obtain ⟨_,rfl⟩:=ab h
  exact ak (vs:=[]) (m':=M0) Q2 func15 rfl (fun z _ _ b _=>eY Q2 mixed 60 3 b) qam
 ·cases h
end Go.Proofs.YtainfdcfkgemhaaGreat.Hr
namespace Go.Proofs.YtainfdcfkgemhaaGreat.Hr
open Go Go.Proofs Go.Sx Nw Pe So
set_option linter.unusedVariables false
theorem qhH {L:List (List Dat)} (hw:∀ l∈L,eD pV l/\eQ l) (hf:qp L=true):L.length<=1000000/\∀ k,k<L.length->Cb (L.getD k []):=by
 unfold qp at hf
 cases hb:bA (ib L) L.length 0
 ·rw [hb] at hf
  have hl:=of_decide_eq_true hf
  refine ⟨by omega,fun k hk=>?_⟩
  have hk':ib L (k:Int)=false:=by
   cases e:ib L (k:Int)
   ·rfl
   ·exfalso
    have:=(Qh (p:=ib L) (m:=L.length) (k:=0)).2 ⟨(k:Int),by omega,by omega,e⟩
    rw [hb] at this
    cases this
  have hm:L.getD k []∈L:=by
   rw [List.getD_eq_getElem?_getD,List.getElem?_eq_getElem hk,Option.getD_some]
   exact List.getElem_mem hk
  have hw:=hw _ hm
  unfold ib at hk'
  have hk':=of_decide_eq_false hk'
  rw [show (k:Int).toNat=k from rfl] at hk'
  generalize L.getD k []=l at *
  match l,hw with
  | [.s a,.s b,.s c,.s d,_,_],hw =>
   have ha:a.size<=reachBytes:=hw.2 a (by simp)
   have hb:b.size<=reachBytes:=hw.2 b (by simp)
   have hc:c.size<=reachBytes:=hw.2 c (by simp)
   have hd:d.size<=reachBytes:=hw.2 d (by simp)
   have hm:=reachBytes_lt
   have hk':¬ wI (wI (wI ((a.size:Int)+(b.size:Int))+(c.size:Int))+(d.size:Int))>1000:=hk'
   rw [az (n:=(a.size:Int)+(b.size:Int)) (by omega),az (n:=(a.size:Int)+(b.size:Int)+(c.size:Int)) (by omega),az (by omega)] at hk'
   exact qbu (i:=⟨a,b,c,d⟩) (by show a.size<=_;omega) (by show b.size<=_;omega) (by show c.size<=_;omega) (by show d.size<=_;omega)
 ·rw [hb] at hf
  cases hf
def Γkr0:Orc:=aU 16 FR (ah 15 yk (aC 17 Fq.gFNew (aC 18 xU (ah 30 Fz ΓO))))
theorem Ij:Γkr0.Ok prog:=aO (af (aA (aA (af cw qgh) Oj) Fq.gFNew_ok) Oz) qgz
def Γkr:Orc:={ Γkr0 with av:=true,bs:=true,sb:=true,wr:=fun f=>Nat.beq f 18||Nat.beq f 17 }
theorem qj9:Γkr.Ok prog:=⟨Ij.call,Ij.rd,Ij.eqv⟩
theorem YE (p:Int) (L:List (List Dat)) (own mark:Bool):runG Γkr ΛKp prog f52 [.v (I p),.row 0] ⟨[],[],[eJ L own mark]⟩=(bif Nat.ble L.length 281474976710656 then (bif !qp L then some (.v (Bo true),⟨[],[],[eJ L own mark]⟩) else (bif kI (jT p) then (bif j0 (mq (jT p)) 0 5 dF then (bif (0:Int)==0&&((L.length:Int)==(L.length:Int)&&dW (Cc (dm (jT p)) kz false L)) then some (.v (Bo true),⟨[],[],[eJ L own mark]⟩) else none) else none) else none)) else none):=by kernel_rfl
theorem CB (p:Int) (L:List (List Dat)) (own mark:Bool) (hw:∀ l∈L,eD pV l/\eQ l) (hl:L.length<=281474976710656):runG Γkr ΛKp prog f52 [.v (I p),.row 0] ⟨[],[],[eJ L own mark]⟩=some (.v (Bo true),⟨[],[],[eJ L own mark]⟩):=by
 refine (YE p L own mark).trans ?_
 have hk:=qa3 p
 rw [Nat.ble_eq_true_of_le hl,hk,qbE hk]
 cases hf:qp L
 ·rfl
 ·obtain ⟨h1,h2⟩:=qhH hw hf
  obtain ⟨g1,g2⟩:=qbz hk
  rw [iG.2 (show Cc (dm (jT p)) kz false L from ⟨g1,g2.symm,by rw [g2];rfl,h1,h2⟩),beq_self_eq_true,beq_self_eq_true]
  rfl
def sE (L:List (List Dat)):Prop:=(∀ l∈L,eD pV l/\eQ l)/\L.length<=281474976710656
def EV (xs:List SV) (m:Mem):Option (Bool×Value) :=
 match xs,m with
 | [.v (.int .i64 p),.row 0],⟨[],[],[r]⟩=>match uN r with
  | some (L,own,mark)=>some (dW (sE L),Bo true)
  | none=>none
 | _,_=>none
theorem qfF:bk 52 EV:=by
 intro xs m r h
 unfold EV at h
 split at h
 ·rename_i p r0
  split at h
  ·rename_i L own mark hr
   obtain ⟨h1,rfl⟩:=ab h
   obtain ⟨g1,g2⟩:=iG.1 h1
   rw [Ka hr]
   exact aj (Λ:=ΛKp) qj9 func52 rfl (fun z z1 z2=>bR qct (qdf z z1 z2)) (CB p L own mark g1 g2)
  ·cases h
 ·cases h
def Γtk0:Orc:=aU 52 EV (ah 15 yk ΓO)
theorem Ic:Γtk0.Ok prog:=aO (af cw Oz) qfF
def Γtk:Orc:={ Γtk0 with av:=true,bs:=true,sb:=true }
theorem Oktk:Γtk.Ok prog:=⟨Ic.call,Ic.rd,Ic.eqv⟩
theorem VZ (p:Int) (L M:List (List Dat)):runG Γtk L0 prog f11 [.v (I p),.row 0,.row 1] ⟨[],[],[eJ L false false,eJ M false false]⟩=(bif dW (sE L) then (bif dW (sE M) then some (.v (Bo true),⟨[],[],[eJ L false false,eJ M false false]⟩) else none) else none):=by kernel_rfl
theorem topKeeps (p:Int) (L M:List (List Dat)) (h1:sE L) (h2:sE M):runG Γtk L0 prog f11 [.v (I p),.row 0,.row 1] ⟨[],[],[eJ L false false,eJ M false false]⟩=some (.v (Bo true),⟨[],[],[eJ L false false,eJ M false false]⟩):=by
 rw [VZ,iG.2 h1,iG.2 h2]
 rfl
end Go.Proofs.YtainfdcfkgemhaaGreat.Hr
namespace Go.Proofs.YtainfdcfkgemhaaGreat
open Go Go.Proofs Go.Sx
theorem topKeepsLaw (a0:Int) (l1 l2:List (List Dat)) (_:(Lit.int .i64 a0).wf=true) (w1:∀ o∈l1,eD [.str,.str,.str,.str,.num .i64,.bool] o/\eQ o) (n1:l1.length<=281474976710656) (w2:∀ o∈l2,eD [.str,.str,.str,.str,.num .i64,.bool] o/\eQ o) (n2:l2.length<=281474976710656):∃ m',runG Hr.Γtk L0 prog f11 (inArgs [.v (.int .i64 a0),.row 36 [.str,.str,.str,.str,.num .i64,.bool] l1,.row 36 [.str,.str,.str,.str,.num .i64,.bool] l2] 0) (inMem [.v (.int .i64 a0),.row 36 [.str,.str,.str,.str,.num .i64,.bool] l1,.row 36 [.str,.str,.str,.str,.num .i64,.bool] l2])=some (.v (.bool true),m'):=⟨_,Hr.topKeeps a0 l1 l2 ⟨w1,n1⟩ ⟨w2,n2⟩⟩
end Go.Proofs.YtainfdcfkgemhaaGreat
