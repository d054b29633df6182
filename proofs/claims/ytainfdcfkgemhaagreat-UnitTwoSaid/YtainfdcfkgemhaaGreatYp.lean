/-
  A unit's ordnance fires in the first cycle in which both lines are on: round by round,and as a law over values.
-/
import Derived.Test.YtainfdcfkgemhaaGreatYn
import Derived.Test.YtainfdcfkgemhaaGreatYm
set_option maxRecDepth 100000
noncomputable section
namespace Go.Proofs.YtainfdcfkgemhaaGreat.Hr
open Go Go.Proofs Go.Sx Nw Pe So
set_option linter.unusedVariables false
def Γut0:Orc:=qay 37 qLc Γul0
theorem qCN:Γut0.Ok Tryz.prog:=qai qMO qAz
def Γut:Orc:={ Γut0 with av:=true,bs:=true,sb:=true }
theorem Okut:Γut.Ok Tryz.prog:=⟨qCN.call,qCN.rd,qCN.eqv⟩
def qME:Code:=qaH (Tryz.f5.body.getD .skip) 0
def kUt:List Bool:=qam 102 [8,9,10,37,38,39]
def xUt (e:Ex):List Bool:=match e with
 | .exit _=>qam 102 []
 | .ret=>qam 102 [6]
 | .normal=>qam 102 [8,9,10,37,38,39]
def KUt (e:Ex) (st:St):Option (Ex×St):=some (e,qav 0 1 (xUt e) st)
def EUt (n:Nat) (nn i w:Int) (s:US) (x:Fl) (L:List (List Dat)) (own mark:Bool):Option (Ex×St):=qaj Γut Tryz.prog L0 (qav 0 1 kUt) qME n (mk kUt [.ptr 0 0,.ptr 1 0,.v (I w),.row 0,.v (I nn),.v (I i)] (mSl s x (rU5 L own mark))) KUt
def qqw (L:List (List Dat)) (own mark:Bool):Option (Ex×St):=some (.ret,mk (xUt .ret) [.v (Bo false)] ⟨[],[],[rU5 L own mark]⟩)
def qCt (n:Nat) (nn i w:Int) (x:Fl) (L:List (List Dat)) (own mark:Bool) (o:Ot) (s:US):Option (Ex×St) :=
 bif s.wh != w then qqw L own mark else (bif decide (s.wh>0) != decide (w>0) then qqw L own mark else (bif s.nw != wI (i+1) then qqw L own mark else (bif o.up then (bif o.fi != (o.s==2) then qqw L own mark else EUt n nn (wI (i+1)) w s x L own mark) else (bif o.fi != false then qqw L own mark else EUt n nn (wI (i+1)) w s x L own mark))))
def qDn (n:Nat) (nn i w:Int) (x:Fl) (L:List (List Dat)) (own mark:Bool) (o p:Ot) (s:US):Option (Ex×St) :=
 bif o.fi then (bif p.fi then (bif w==0 then qCt n nn i (wI (i+1)) x L own mark o s else qCt n nn i w x L own mark o s) else qCt n nn i w x L own mark o s) else qCt n nn i w x L own mark o s
def qKB (n:Nat) (nn i w:Int) (s:US) (x:Fl) (u:Uin) (L:List (List Dat)) (own mark:Bool):Option (Ex×St) :=
 bif bts (ucX s u)&&bts (ucY s u) then (bif grB s.l1 (ucX s u)&&grB s.l0 (ucY s u) then qDn n nn i w x L own mark o0 o0 (nxS s o0 o0 (btP (ucX s u)) (btP (ucY s u))) else none)
 else (bif bts (ucX s u) then (bif grB s.l1 (ucX s u)&&grA s.l0 (ucY s u) (qdM s u) then qDn n nn i w x L own mark o0 (cyR (ucY s u) (qdM s u)) (nxS s o0 (cyR (ucY s u) (qdM s u)) (btP (ucX s u)) (cyN (ucY s u) (qdM s u))) else none)
 else (bif bts (ucY s u) then (bif grA s.l1 (ucX s u) (qdN s u)&&grB s.l0 (ucY s u) then qDn n nn i w x L own mark (cyR (ucX s u) (qdN s u)) o0 (nxS s (cyR (ucX s u) (qdN s u)) o0 (cyN (ucX s u) (qdN s u)) (btP (ucY s u))) else none)
 else (bif grA s.l1 (ucX s u) (qdN s u)&&grA s.l0 (ucY s u) (qdM s u) then qDn n nn i w x L own mark (cyR (ucX s u) (qdN s u)) (cyR (ucY s u) (qdM s u)) (nxS s (cyR (ucX s u) (qdN s u)) (cyR (ucY s u) (qdM s u)) (cyN (ucX s u) (qdN s u)) (cyN (ucY s u) (qdM s u))) else none)))
def uiF (x:Fl) (o:Op5):Uin:=qya (goF x o).n o
theorem qxG (n:Nat) (nn i w:Int) (s:US) (x:Fl) (L:List (List Dat)) (own mark:Bool):EUt (n+1) nn i w s (wE x) L own mark=(bif decide (i<nn) then (bif decide (0≤i)&&decide (i<(L.length:Int)) then qKB n nn i w s (wE (goF x (qxZ (L.getD i.toNat [])))) (uiF x (qxZ (L.getD i.toNat []))) L own mark else none) else some (.exit 0,mk (xUt (.exit 0)) [] ⟨[],[],[rU5 L own mark]⟩)):=by kernel_rfl
end Go.Proofs.YtainfdcfkgemhaaGreat.Hr
namespace Go.Proofs.YtainfdcfkgemhaaGreat.Hr
open Go Go.Proofs Go.Sx Nw Pe So
set_option linter.unusedVariables false
structure IT (k w:Int) (s:US):Prop where
 x:Pv s.x
 y:Pv s.y
 l0:s.l0.size≤100
 l1:s.l1.size≤100
 wh:s.wh=w
 nw:s.nw=k
 w0:0≤w∧w≤k
def qDd (o:Ot):Prop:=o.fi=(o.up&&o.s==2)
theorem qqV:qDd o0:=rfl
theorem qnE (x:PS) (i:Inp):qDd (cyR x i):=by
 unfold qDd cyR
 cases x.up
 ·rfl
 ·cases cyX x i != 0
  ·rfl
  ·rfl
def nxW (k w:Int) (o p:Ot):Int:=bif o.fi&&(p.fi&&w==0) then k+1 else w
theorem IT.nx {k w:Int} {s:US} (h:IT k w s) (hk:0≤k∧k<1000000) {o p:Ot} {x y:PS} (hx:Pv x) (hy:Pv y) (ho:o.l.size≤70) (hp:p.l.size≤70):IT (k+1) (nxW k w o p) (nxS s o p x y):=by
 have hn:nwS s=k+1:=by
  unfold nwS
  rw [h.nw,qaw (by omega)]
  split<;>omega
 have h0:=h.w0
 refine ⟨hx,hy,?_,?_,?_,hn,?_⟩
 ·show o.l.size≤100
  omega
 ·show p.l.size≤100
  omega
 ·show whS s o p=nxW k w o p
  unfold whS nxW
  rw [hn,h.wh]
  by_cases e:w=0
  ·rw [e];rfl
  ·rw [decide_eq_true (show w>0 by omega),beq_eq_false_iff_ne.2 e];rfl
 ·unfold nxW
  cases o.fi&&(p.fi&&w==0)
  ·show 0≤w∧w≤k+1
   omega
  ·show 0≤k+1∧k+1≤k+1
   omega
theorem qCs (n:Nat) (nn i w:Int) (x:Fl) (L:List (List Dat)) (own mark:Bool) {o:Ot} {s:US} (hi:0≤i∧i<1000000) (ho:qDd o) (hs:IT (i+1) w s):qCt n nn i w x L own mark o s=EUt n nn (wI (i+1)) w s x L own mark:=by
 unfold qCt
 rw [hs.wh,hs.nw,qaw (n:=i+1) (by omega),bne_self_eq_false,bne_self_eq_false,bne_self_eq_false]
 unfold qDd at ho
 rw [ho]
 cases o.up
 ·rfl
 ·cases o.s==2<;>rfl
theorem qiL (n:Nat) (nn i w:Int) (x:Fl) (L:List (List Dat)) (own mark:Bool) {o p:Ot} {s:US} (hi:0≤i∧i<1000000) (ho:qDd o) (hs:IT (i+1) (nxW i w o p) s):qDn n nn i w x L own mark o p s=EUt n nn (wI (i+1)) (nxW i w o p) s x L own mark:=by
 have key:=qCs n nn i (nxW i w o p) x L own mark hi ho hs
 unfold qDn
 generalize hW:nxW i w o p=W at *
 unfold nxW at hW
 cases ha:o.fi
 ·rw [ha] at hW
  have hW:w=W:=hW
  rw [hW];exact key
 ·cases hb:p.fi
  ·rw [ha,hb] at hW
   have hW:w=W:=hW
   rw [hW];exact key
  ·rw [ha,hb] at hW
   cases hc:(w==0)
   ·rw [hc] at hW
    have hW:w=W:=hW
    rw [hW];exact key
   ·rw [hc] at hW
    have hW:i+1=W:=hW
    show qCt n nn i (wI (i+1)) x L own mark o s=EUt n nn (wI (i+1)) W s x L own mark
    have e:wI (i+1)=i+1:=qaw (by omega)
    refine Eq.trans ?_ key
    rw [e,hW]
theorem qzG (n:Nat) (nn i w:Int) (hi:0≤i∧i<1000000) {s:US} (h:IT i w s) (x y:Fl) (o:Op5) (ho:okO o) (L:List (List Dat)) (own mark:Bool):∃ s' w',IT (i+1) w' s'∧qKB n nn i w s y (uiF x o) L own mark=EUt n nn (wI (i+1)) w' s' y L own mark:=by
 have X:Pv (ucX s (uiF x o)):=h.x.uc _ _
 have Y:Pv (ucY s (uiF x o)):=h.y.uc _ _
 have i0:qm6 (qdN s (uiF x o))=true:=qGE ho h.l1
 have i1:qm6 (qdM s (uiF x o))=true:=qGD ho h.l0
 have z0:o0.l.size≤70:=Nat.zero_le _
 unfold qKB
 cases hx:bts (ucX s (uiF x o))
 ·obtain ⟨a1,a2⟩:=X.n h.l1 i0 hx
  cases hy:bts (ucY s (uiF x o))
  ·obtain ⟨b1,b2⟩:=Y.n h.l0 i1 hy
   have hI:=h.nx hi (o:=cyR (ucX s (uiF x o)) (qdN s (uiF x o))) (p:=cyR (ucY s (uiF x o)) (qdM s (uiF x o))) a2 b2 (qwY _ _) (qwY _ _)
   refine ⟨_,_,hI,?_⟩
   rw [a1,b1]
   exact qiL n nn i w y L own mark hi (qnE _ _) hI
  ·obtain ⟨b1,b2⟩:=Y.b h.l0 hy
   have hI:=h.nx hi (o:=cyR (ucX s (uiF x o)) (qdN s (uiF x o))) (p:=o0) a2 b2 (qwY _ _) z0
   refine ⟨_,_,hI,?_⟩
   rw [a1,b1]
   exact qiL n nn i w y L own mark hi (qnE _ _) hI
 ·obtain ⟨a1,a2⟩:=X.b h.l1 hx
  cases hy:bts (ucY s (uiF x o))
  ·obtain ⟨b1,b2⟩:=Y.n h.l0 i1 hy
   have hI:=h.nx hi (o:=o0) (p:=cyR (ucY s (uiF x o)) (qdM s (uiF x o))) a2 b2 z0 (qwY _ _)
   refine ⟨_,_,hI,?_⟩
   rw [a1,b1]
   exact qiL n nn i w y L own mark hi qqV hI
  ·obtain ⟨b1,b2⟩:=Y.b h.l0 hy
   have hI:=h.nx hi (o:=o0) (p:=o0) a2 b2 z0 z0
   refine ⟨_,_,hI,?_⟩
   rw [a1,b1]
   exact qiL n nn i w y L own mark hi qqV hI
def qMt (L:List (List Dat)) (own mark:Bool):Ex×St:=(.exit 0,mk (xUt (.exit 0)) [] ⟨[],[],[rU5 L own mark]⟩)
theorem qGd (L:List (List Dat)) (own mark:Bool) (hl:L.length≤1000000) (hO:∀ k,k<L.length→okO (qxZ (L.getD k []))):∀ (m k:Nat) (w:Int) (s:US) (x:Fl),k+m=L.length→IT (k:Int) w s→qtA x=true→EUt (m+1) (L.length:Int) (k:Int) w s x L own mark=some (qMt L own mark):=by
 intro m
 induction m with
 | zero =>
  intro k w s x hk hs hx
  have e:=qxG 0 (L.length:Int) (k:Int) w s x L own mark
  rw [qkS hx,decide_eq_false (show ¬ (k:Int)<(L.length:Int) by omega)] at e
  exact e
 | succ m ih =>
  intro k w s x hk hs hx
  have e:=qxG (m+1) (L.length:Int) (k:Int) w s x L own mark
  have hx':qtA (goF x (qxZ (L.getD (k:Int).toNat [])))=true:=hx
  rw [qkS hx,qkS hx',decide_eq_true (show (k:Int)<(L.length:Int) by omega),decide_eq_true (show (0:Int)≤(k:Int) by omega)] at e
  obtain ⟨s',w',hs',e'⟩:=qzG (m+1) (L.length:Int) (k:Int) w (by omega) hs x (goF x (qxZ (L.getD (k:Int).toNat []))) (qxZ (L.getD (k:Int).toNat [])) (hO k (by omega)) L own mark
  refine e.trans (Eq.trans e' ?_)
  rw [qaw (n:=(k:Int)+1) (by omega)]
  exact ih (k+1) w' s' _ (by omega) hs' hx'
def qKI (s:US) (x:Fl) (L:List (List Dat)):Prop:=IT 0 0 s∧qtA x=true∧L.length≤1000000∧∀ k,k<L.length→okO (qxZ (L.getD k []))
def GUt (vals:List SV) (m:Mem):Option (Bool×LT) :=
 match vals,uSl m with
 | [.ptr 0 0,.ptr 1 0,.v (.int .i64 w),.row 0,.v (.int .i64 nn),.v (.int .i64 i)],some (s,x,r)=>match zU5 r with
  | some (L,own,mark)=>some (i==0&&(w==0&&(nn==(L.length:Int)&&isT (qKI s x L))),.leaf (qMt L own mark).1 (qMt L own mark).2)
  | none=>none
 | _,_=>none
def ΛUt:qao:=fun _ st=>qkN 0 1 kUt GUt st
theorem qvB (z:Base) (z1:z.L.length=0) (z2:z.U.length=1):qas ΛUt Tryz.prog z qME:=by
 refine qa5 (Λ:=L0) (kx:=xUt) Okut mixed z1 z2 (fun b hb st t h=>by cases h) (G:=GUt) (fun _=>rfl) ?_
 intro vals m t h
 unfold GUt at h
 split at h
 case h_2=>cases h
 rename_i w nn i s x r hm
 split at h
 case h_2=>cases h
 rename_i L own mark hr
 obtain ⟨h1,rfl⟩:=qac h
 simp only [Bool.and_eq_true,beq_iff_eq] at h1
 obtain ⟨rfl,rfl,rfl,h2⟩:=h1
 obtain ⟨g1,g2,g3,g4⟩:=qcP.1 h2
 rw [qDN hm,qDz hr]
 exact ⟨L.length+1,qGd L own mark g3 g4 L.length 0 0 s x (by omega) g1 g2⟩
theorem qzW:qak (Tryz.f5.body.getD .skip)=[qME]:=by kernel_rfl
def Γuv0:Orc:=qay 27 qr9 (qah 26 gAx (qau 29 gUN (qah 30 gIm (qau 28 gMi (qau 31 gSt ΓO)))))
theorem qCM:Γuv0.Ok Tryz.prog:=qai (qaa (qad (qaa (qad (qad OkO qyf) qGV) qGY) qyd) qHg) qr8
def Γuv:Orc:={ Γuv0 with av:=true,bs:=true,sb:=true,wr:=fun f=>Nat.beq f 28||Nat.beq f 31 }
theorem Okuv:Γuv.Ok Tryz.prog:=⟨qCM.call,qCM.rd,qCM.eqv⟩
theorem qJP (p:Int) (n:Nv) (L:List (List Dat)) (own mark:Bool):runG Γuv ΛUt Tryz.prog Tryz.f5 [.v (I p),.v (.agg #[I n.x1,I n.x2,I n.x3,I n.x4,I n.x5,I n.x6,I n.x7,I n.x8]),.row 0] ⟨[],[],[rU5 L own mark]⟩=(bif Nat.ble L.length 281474976710656 then (bif !qDk L then some (.v (Bo true),⟨[],[],[rU5 L own mark]⟩) else (bif okK (phK p) then (bif okK (phK p) then (bif qlk (imN (phK p)) 0 0 qph&&qlk (imN (phK p)) 0 0 qph then (bif (0:Int)==0&&((0:Int)==0&&((L.length:Int)==(L.length:Int)&&isT (qKI (s0K (phK p)) (x0K (phK p) n) L))) then some (.v (Bo true),⟨[],[],[rU5 L own mark]⟩) else none) else none) else none) else none)) else none):=by kernel_rfl
theorem qEh {k:Int} (h:okK k=true):IT 0 0 (s0K k):=⟨qqW h,qqW h,Nat.zero_le _,Nat.zero_le _,rfl,rfl,by decide⟩
theorem unitTwo (p:Int) (n:Nv) (L:List (List Dat)) (own mark:Bool) (hw:∀ l∈L,WfL qGt l∧SmL l) (hl:L.length≤281474976710656):runG Γuv ΛUt Tryz.prog Tryz.f5 [.v (I p),.v (.agg #[I n.x1,I n.x2,I n.x3,I n.x4,I n.x5,I n.x6,I n.x7,I n.x8]),.row 0] ⟨[],[],[rU5 L own mark]⟩=some (.v (Bo true),⟨[],[],[rU5 L own mark]⟩):=by
 refine (qJP p n L own mark).trans ?_
 have hk:=qF2 p
 rw [Nat.ble_eq_true_of_le hl,hk,qF6 hk]
 cases hf:qDk L
 ·rfl
 ·obtain ⟨h1,h2⟩:=qCd hw hf
  rw [qcP.2 (show qKI (s0K (phK p)) (x0K (phK p) n) L from ⟨qEh hk,rfl,h1,h2⟩),beq_self_eq_true,beq_self_eq_true]
  rfl
theorem loopsOkUt (z:Base) (z1:z.L.length=0) (z2:z.U.length=1):∀ b∈qak (Tryz.f5.body.getD .skip),qas ΛUt Tryz.prog z b:=qax qzW (qvB z z1 z2)
end Go.Proofs.YtainfdcfkgemhaaGreat.Hr
namespace Go.Proofs.YtainfdcfkgemhaaGreat
open Go Go.Proofs Go.Sx
theorem unitTwoLaw (a0:Int) (l1:List Dat) (l2:List (List Dat)) (_:(Lit.int .i64 a0).wf=true) (w1:WfL [.num .i64,.num .i64,.num .i64,.num .i64,.num .i64,.num .i64,.num .i64,.num .i64] l1) (w2:∀ o∈l2,WfL [.num .i8,.num .i8,.num .i8,.num .i8,.num .i8,.num .i8,.num .i8,.num .i8,.num .i8,.num .i8,.num .i8,.num .i8,.num .i8,.num .i8,.num .i8,.num .i64,.num .i64,.str,.str,.num .i64,.num .i64,.num .i64,.num .i64,.bool,.bool,.num .i64,.num .i64] o∧SmL o) (n2:l2.length≤281474976710656):∃ m',runG Hr.Γuv Hr.ΛUt Tryz.prog Tryz.f5 (inArgs [.v (.int .i64 a0),.v (.agg (mkEl [.num .i64,.num .i64,.num .i64,.num .i64,.num .i64,.num .i64,.num .i64,.num .i64] l1).toArray),.row 75 [.num .i8,.num .i8,.num .i8,.num .i8,.num .i8,.num .i8,.num .i8,.num .i8,.num .i8,.num .i8,.num .i8,.num .i8,.num .i8,.num .i8,.num .i8,.num .i64,.num .i64,.str,.str,.num .i64,.num .i64,.num .i64,.num .i64,.bool,.bool,.num .i64,.num .i64] l2] 0) (inMem [.v (.int .i64 a0),.v (.agg (mkEl [.num .i64,.num .i64,.num .i64,.num .i64,.num .i64,.num .i64,.num .i64,.num .i64] l1).toArray),.row 75 [.num .i8,.num .i8,.num .i8,.num .i8,.num .i8,.num .i8,.num .i8,.num .i8,.num .i8,.num .i8,.num .i8,.num .i8,.num .i8,.num .i8,.num .i8,.num .i64,.num .i64,.str,.str,.num .i64,.num .i64,.num .i64,.num .i64,.bool,.bool,.num .i64,.num .i64] l2])=some (.v (.bool true),m'):=by
 obtain ⟨n,rfl⟩:=Hr.navs8' w1
 exact ⟨_,Hr.unitTwo a0 n l2 false false w2 n2⟩
end Go.Proofs.YtainfdcfkgemhaaGreat
