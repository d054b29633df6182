/-
  A processor,a cycle with a tear and a reset ahead of it: what it keeps.
-/
import Derived.Test.YtainfdcfkgemhaaGreatYk
import Derived.Test.YtainfdcfkgemhaaGreatYl
import Derived.Test.YtainfdcfkgemhaaGreatYq
import Derived.Test.YtainfdcfkgemhaaGreatYi
import Derived.Test.YtainfdcfkgemhaaGreatYd
set_option maxRecDepth 100000
noncomputable section
open Go.Proofs.Tryz
namespace Go.Proofs.YtainfdcfkgemhaaGreat.Hr
open Go Go.Proofs Go.Sx Nw Pe So
set_option linter.unusedVariables false
def Ti (f:FuncId):Bool:=Nat.beq f 41||(Nat.beq f 38||Nat.beq f 39)
def Γsp0:Orc:=zw 41 HT (aC 41 Gu (aC 38 xL (aU 19 xE (aC 39 Fq.gTear ΓO))))
theorem Ig:Γsp0.Ok prog:=Qt (aA (aA (aO (aA cw Fq.gTear_ok) N2) N8) qhb) qjD
def Γsp1:Orc:={ Γsp0 with av:=true,bs:=true,sb:=true,wr:=Ti }
theorem QE:Γsp1.Ok prog:=⟨Ig.call,Ig.rd,Ig.eqv⟩
def Mx (i:Inp) (t:Int) (r:Bool):Value:=.agg #[S i.a,S i.b,S i.c,S i.d,I t,Bo r]
def rU (y:PS) (i:Inp):Option (SV×Mem):=bif fg y then (bif okB y then some (.v (oV o0),iN (bw (bm y 1)) (bZ y)) else none) else (bif okN y i then some (.v (oV (fJ y i)),mP (cyN y i)) else none)
def rW (y:PS) (i:Inp) (r:Bool):Option (SV×Mem):=bif r then rU (sd y) i else rU y i
theorem Wt (x:PS) (i:Inp) (t:Int) (r:Bool):runG Γsp1 L0 prog f20 [.ptr 0 0,.ptr 1 0,.v (Mx i t r)] (mP x)=(bif decide (t>=0) then (bif decide (t<=30) then (bif x.up then rW (ng x t) i r else rW x i r) else rW x i r) else rW x i r):=by kernel_rfl
def dA (x:PS) (t:Int) (r:Bool):PS:=bif r then sd (bif decide (t>=0)&&(decide (t<=30)&&x.up) then ng x t else x) else (bif decide (t>=0)&&(decide (t<=30)&&x.up) then ng x t else x)
theorem Lw (x:PS) (i:Inp) (t:Int) (r:Bool):runG Γsp1 L0 prog f20 [.ptr 0 0,.ptr 1 0,.v (Mx i t r)] (mP x)=rU (dA x t r) i:=by
 refine (Wt x i t r).trans ?_
 unfold rW dA
 cases decide (t>=0)
 ·cases r<;>rfl
 ·cases decide (t<=30)
  ·cases r<;>rfl
  ·simp only [cond_true,Bool.true_and]
   cases x.up<;>cases r<;>rfl
def DP (xs:List SV) (m:Mem):Option (Bool×SV×Mem) :=
 match xs,uP m with
 | [.ptr 0 0,.ptr 1 0,.v (.agg ⟨[.string a,.string b,.string c,.string d,.int .i64 t,.bool r]⟩)],some x=>some (!fg (dA x t r)&&okN (dA x t r) ⟨a,b,c,d⟩,.v (oV (fJ (dA x t r) ⟨a,b,c,d⟩)),mP (cyN (dA x t r) ⟨a,b,c,d⟩))
 | _,_=>none
def HS (xs:List SV) (m:Mem):List (Bool×Option (Bool×SV×Mem)) :=
 match xs,uP m with
 | [.ptr 0 0,.ptr 1 0,.v (.agg ⟨[.string a,.string b,.string c,.string d,.int .i64 t,.bool r]⟩)],some x=>[(fg (dA x t r),some (fg (dA x t r)&&okB (dA x t r),.v (oV o0),iN (bw (bm (dA x t r) 1)) (bZ (dA x t r))))]
 | _,_=>[]
theorem qeI:aQ 20 DP:=by
 intro xs m r m' h
 unfold DP at h
 split at h
 case h_2=>cases h
 rename_i a b c d t s x hx
 obtain ⟨h1,rfl,rfl⟩:=aw h
 rw [Bool.and_eq_true,Bool.not_eq_true'] at h1
 rw [dZ hx]
 refine aj (Λ:=L0) QE func20 rfl ai ((Lw x ⟨a,b,c,d⟩ t s).trans ?_)
 unfold rU
 rw [h1.1,h1.2]
 rfl
theorem qjC:∀ xs m b r m',(b,some (true,r,m'))∈HS xs m->bB prog 20 xs m r m':=by
 intro xs m b r m' h
 unfold HS at h
 split at h
 case h_2=>cases h
 rename_i a b' c d t s x hx
 rw [List.mem_singleton] at h
 injection h with _ h
 obtain ⟨h1,rfl,rfl⟩:=aw h.symm
 rw [Bool.and_eq_true] at h1
 rw [dZ hx]
 refine aj (Λ:=L0) QE func20 rfl ai ((Lw x ⟨a,b',c,d⟩ t s).trans ?_)
 unfold rU
 rw [h1.1,h1.2]
 rfl
theorem Inv.sp {n:Nat} {x:PS} (h:Inv n x) (t:Int) (r:Bool):Inv n (dA x t r):=by
 have ha:Inv n (bif decide (t>=0)&&(decide (t<=30)&&x.up) then ng x t else x):=by
  cases decide (t>=0)&&(decide (t<=30)&&x.up)
  ·exact h
  ·exact h.te t
 unfold dA
 cases r
 ·exact ha
 ·exact ha.rs
end Go.Proofs.YtainfdcfkgemhaaGreat.Hr
namespace Go.Proofs.YtainfdcfkgemhaaGreat.Hr
open Go Go.Proofs Go.Sx Nw Pe So
set_option linter.unusedVariables false
def nK:Nm:=⟨0,4,5,6,7,8,9,10,11,12,13,3,14,15,16,17,18,19,20,21,22,23,2,1,3⟩
def wY (x:PS) (k:Rcd) (r:RowS):Mem:=⟨[NB nK x.f,NA nK x,tU k [],cC x.f.a x.f.v,CF nK x.la,bT 14 x.a,bT 15 x.b,bT 16 x.g,bT 17 x.e,ec 18 x.s,ec 19 x.t,ou 3 20 x.m,CC nK,jz x.q,cC x.a.a x.a.v,cC x.b.a x.b.v,cC x.g.a x.g.v,cC x.e.a x.e.v,cC x.s.a x.s.t,cC x.t.a x.t.t,cC x.m.a x.m.v,cC x.y.a x.y.u,cC x.y.b x.y.v,cC x.y.c x.y.w],tt 24,[r,gt x.f.F,cq x.L,cq x.m.L]⟩
def pV:List CK:=[.str,.str,.str,.str,.num .i64,.bool]
abbrev eJ (L:List (List Dat)) (own mark:Bool):RowS:=.live ⟨36,pV,L,own,mark⟩
def CU (l:List Dat):Inp:=⟨(l.headD (.n 0)).toS,(l.tail.headD (.n 0)).toS,(l.tail.tail.headD (.n 0)).toS,(l.tail.tail.tail.headD (.n 0)).toS⟩
def Kz (l:List Dat):Int:=(l.tail.tail.tail.tail.headD (.n 0)).toI
def LD (l:List Dat):Bool:=(l.tail.tail.tail.tail.tail.headD (.n 0)).toB
def Γkp0:Orc:=zw 20 HS (aC 20 DP (aU 25 xZ (ah 23 xF ΓO)))
theorem Ik:Γkp0.Ok prog:=Qt (aA (aO (af cw N3) On) qeI) qjC
def Γkp:Orc:={ Γkp0 with av:=true,bs:=true,sb:=true }
theorem qka:Γkp.Ok prog:=⟨Ik.call,Ik.rd,Ik.eqv⟩
def HH:Code:=ch (f52.body.getD .skip) 0
def CG:List Bool:=aB 183 [5,7,9,10,45,46,47]
def rD (e:Ex):List Bool:=match e with
 | .exit _=>aB 183 []
 | .ret=>aB 183 [4]
 | .normal=>aB 183 [5,7,9,10,45,46,47]
def KKp (e:Ex) (st:St):Option (Ex×St):=some (e,ac 0 1 (rD e) st)
def m5 (n:Nat) (nn i:Int) (x:PS) (k:Rcd) (fd:Bool) (L:List (List Dat)) (own mark:Bool):Option (Ex×St):=an Γkp prog L0 (ac 0 1 CG) HH n (mk CG [.ptr 0 0,.ptr 1 0,.ptr 2 0,.v (Bo fd),.row 0,.v (I nn),.v (I i)] (wY x k (eJ L own mark))) KKp
def v7 (L:List (List Dat)) (own mark:Bool):Option (Ex×St):=some (.ret,mk (rD .ret) [.v (Bo false)] ⟨[],[],[eJ L own mark]⟩)
def lg {α:Type} (K:Rcd->Bool->Option α) (R:Option α) (n k:Rcd) (f:Bool):Option α :=
 bif decide (n.p<k.p) then R else (bif decide (n.c<k.c) then R else (bif decide (n.f<k.f) then R else (bif decide (n.q>0) then (bif f then K n true else K n (n.s==2)) else K k f)))
def u3 {α:Type} (K:Rcd->Bool->Option α) (R:Option α) (o:Ot) (n k:Rcd) (f:Bool):Option α:=bif f then lg K R n k true else lg K R n k (o.s==2)
def GV {α:Type} (K:Rcd->Bool->Option α) (R:Option α) (o:Ot) (n k:Rcd) (f:Bool):Option α:=bif o.s==2 then (bif k.s==0 then R else u3 K R o n k f) else u3 K R o n k f
def y7 {α:Type} (K:Rcd->Bool->Option α) (R:Option α) (o:Ot) (n k:Rcd) (f:Bool):Option α :=
 bif o.up then (bif Nat.ble o.r.size 1000000 then
  (bif !decide (n.q>0) then R else (bif n.s != o.s then R else (bif n.p != o.p then R else (bif n.c != rV o (bY (aN o.r)) then R else (bif n.v != rV o (wI (aa (aN o.r) 5)) then R else (bif n.d != rV o (wI (aa (aN o.r) 6)) then R else (bif n.i != rV o (wI (aa (aN o.r) 7)) then R else (bif n.q != wI (k.q+1) then R else
  (bif f then (bif o.s != 2 then R else GV K R o n k f) else GV K R o n k f))))))))) else none)
 else (bif n.q != k.q then (bif n.q != wI (k.q+1) then R else lg K R n k f) else lg K R n k f)
def wc (n:Nat) (nn i:Int) (X:PS) (k:Rcd) (fd:Bool) (j:Inp) (L:List (List Dat)) (own mark:Bool):Option (Ex×St) :=
 bif fg X then (bif fg X&&okB X then y7 (fun k' f'=>m5 n nn (wI (i+1)) (bZ X) k' f' L own mark) (v7 L own mark) o0 (bZ X).la.r k fd else none)
 else (bif !fg X&&okN X j then y7 (fun k' f'=>m5 n nn (wI (i+1)) (cyN X j) k' f' L own mark) (v7 L own mark) (fJ X j) (cyN X j).la.r k fd else none)
theorem Lb (n:Nat) (nn i:Int) (x:PS) (k:Rcd) (fd:Bool) (L:List (List Dat)) (own mark:Bool):m5 (n+1) nn i x k fd L own mark=(bif decide (i<nn) then (bif decide (0<=i)&&decide (i<(L.length:Int)) then wc n nn i (dA x (Kz (L.getD i.toNat [])) (LD (L.getD i.toNat []))) k fd (CU (L.getD i.toNat [])) L own mark else none) else some (.exit 0,mk (rD (.exit 0)) [] ⟨[],[],[eJ L own mark]⟩)):=by kernel_rfl
end Go.Proofs.YtainfdcfkgemhaaGreat.Hr
namespace Go.Proofs.YtainfdcfkgemhaaGreat.La
open Go Go.Proofs Go.Sx Fq
set_option linter.unusedVariables false
theorem Ts {n l m:Int}:withB n l m=true↔l<=n/\n<=m:=by
 unfold withB
 by_cases h:n>=l
 ·rw [decide_eq_true h,cond_true,decide_eq_true_iff]
  exact ⟨fun g=>⟨h,g⟩,fun g=>g.2⟩
 ·rw [decide_eq_false h]
  exact ⟨fun g=>(by cases g),fun g=>absurd g.1 h⟩
theorem qaA (q c p u f v d i n:Int):rightL q c p u f v d i n=(withB v 0 255&&(withB d 0 255&&(withB i 0 255&&(withB p 0 3&&(withB u 0 2&&(withB f 0 1&&(withB q 1 2147483648&&(withB c 0 1000000&&withB n 0 1000000)))))))):=by
 unfold rightL
 cases withB v 0 255
 ·rfl
 cases withB d 0 255
 ·rfl
 cases withB i 0 255
 ·rfl
 cases withB p 0 3
 ·rfl
 cases withB u 0 2
 ·rfl
 cases withB f 0 1
 ·rfl
 cases withB q 1 2147483648
 ·rfl
 cases withB c 0 1000000
 ·rfl
 rfl
theorem right_iff {q c p u f v d i n:Int} (h:rightL q c p u f v d i n=true):(0<=v/\v<=255)/\(0<=d/\d<=255)/\(0<=i/\i<=255)/\(0<=p/\p<=3)/\(0<=u/\u<=2)/\(0<=f/\f<=1)/\(1<=q/\q<=2147483648)/\(0<=c/\c<=1000000)/\(0<=n/\n<=1000000):=by
 rw [qaA] at h
 simpa only [Bool.and_eq_true,Ts] using h
theorem LV {q c p u f v d i n:Int} (h:rightL q c p u f v d i n=true):∃ k:Int,L (recS q c p u f v d i n)=L (be 4 q)++(L (be 4 c)++(L (be 1 (p+4*f+16*u))++(L (be 1 v)++(L (be 1 d)++(L (be 1 i)++(L (be 4 n)++(L (be 4 k)++L (be 4 q)))))))):=by
 obtain ⟨_,_,_,hp,hu,hf,_⟩:=right_iff h
 refine ⟨wI (f7 (oB q c p u f v d i n)),?_⟩
 unfold recS
 rw [h]
 show L (oB q c p u f v d i n++be 4 (wI (f7 (oB q c p u f v d i n)))++be 4 q)=_
 generalize wI (f7 (oB q c p u f v d i n))=k
 unfold oB
 rw [az (n:=4*f) (by omega),az (n:=p+4*f) (by omega),az (n:=16*u) (by omega),az (n:=p+4*f+16*u) (by omega)]
 simp only [de,List.append_assoc]
theorem tI {s t:ByteArray} {a:Nat} {A B:List UInt8} (h:L s=A++(L t++B)) (ha:A.length=a) (ht:t.size=4):s.extract a (a+4)=t:=by
 rw [<- gM,fO,h,List.drop_append,List.drop_of_length_le (by omega),ha,Nat.sub_self,List.drop_zero,List.nil_append,show a+4 - a=(L t).length by rw [eG];omega,List.take_left]
theorem zo {s:ByteArray} {a:Nat} {A B:List UInt8} {x:Int} (h:L s=A++(L (be 1 x)++B)) (ha:A.length=a) (hx:0<=x/\x<256):aa s (a:Int)=x:=by
 rw [dR,h,List.getElem?_append_right (by omega),ha,Nat.sub_self,SO]
 show (((UInt8.ofNat (x / 256 ^ 0 % 256).toNat).toNat:Nat):Int)=x
 rw [show (256:Int) ^ 0=1 by decide,Int.ediv_one,pd (by omega) (by omega)]
 omega
theorem rec_rd {q c p u f v d i n:Int} (h:rightL q c p u f v d i n=true):(recS q c p u f v d i n).size=24/\qS (recS q c p u f v d i n)=q/\cS (recS q c p u f v d i n)=c/\pS (recS q c p u f v d i n)=p/\uS (recS q c p u f v d i n)=u/\fS (recS q c p u f v d i n)=f/\aa (recS q c p u f v d i n) 9=v/\aa (recS q c p u f v d i n) 10=d/\aa (recS q c p u f v d i n) 11=i/\nS (recS q c p u f v d i n)=n:=by
 obtain ⟨k,hL⟩:=LV h
 obtain ⟨hv,hd,hi,hp,hu,hf,hq,hc,hn⟩:=right_iff h
 generalize recS q c p u f v d i n=s at hL ⊢
 have l4:∀ x,(L (be 4 x)).length=4:=fun x=>by rw [eG,gh]
 have l1:∀ x,(L (be 1 x)).length=1:=fun x=>by rw [eG,gh]
 have e0:s.extract 0 4=be 4 q:=tI (A:=[]) (a:=0) hL rfl (gh 4 q)
 have e4:s.extract 4 8=be 4 c:=tI (A:=L (be 4 q)) (a:=4) hL (l4 _) (gh 4 c)
 have e8:aa s 8=p+4*f+16*u:=zo (A:=L (be 4 q)++L (be 4 c)) (a:=8) (by rw [hL];simp only [List.append_assoc];rfl) (by rw [List.length_append,l4,l4]) (by omega)
 have e9:aa s 9=v:=zo (A:=L (be 4 q)++(L (be 4 c)++L (be 1 (p+4*f+16*u)))) (a:=9) (by rw [hL];simp only [List.append_assoc];rfl) (by rw [List.length_append,List.length_append,l4,l4,l1]) (by omega)
 have e10:aa s 10=d:=zo (A:=L (be 4 q)++(L (be 4 c)++(L (be 1 (p+4*f+16*u))++L (be 1 v)))) (a:=10) (by rw [hL];simp only [List.append_assoc];rfl) (by rw [List.length_append,List.length_append,List.length_append,l4,l4,l1,l1]) (by omega)
 have e11:aa s 11=i:=zo (A:=L (be 4 q)++(L (be 4 c)++(L (be 1 (p+4*f+16*u))++(L (be 1 v)++L (be 1 d))))) (a:=11) (by rw [hL];simp only [List.append_assoc];rfl) (by rw [List.length_append,List.length_append,List.length_append,List.length_append,l4,l4,l1,l1,l1]) (by omega)
 have e12:s.extract 12 16=be 4 n:=tI (A:=L (be 4 q)++(L (be 4 c)++(L (be 1 (p+4*f+16*u))++(L (be 1 v)++(L (be 1 d)++L (be 1 i)))))) (a:=12) (by rw [hL];simp only [List.append_assoc];rfl) (by rw [List.length_append,List.length_append,List.length_append,List.length_append,List.length_append,l4,l4,l1,l1,l1,l1]) (gh 4 n)
 have hz:s.size=24:=by
  rw [<- eG,hL]
  simp only [List.length_append,l4,l1]
 refine ⟨hz,?_,?_,?_,?_,?_,e9,e10,e11,?_⟩
 ·unfold qS;rw [e0,wL];omega
 ·unfold cS;rw [e4,wL];omega
 ·unfold pS;rw [e8];omega
 ·unfold uS;rw [e8];omega
 ·unfold fS;rw [e8];omega
 ·unfold nS;rw [e12,wL];omega
theorem T1 (a b:ByteArray):(a.toList==b.toList)=decide (a=b):=by
 rw [mN]
 by_cases h:a=b
 ·rw [decide_eq_true h,(ic a b).2 h]
 ·rw [decide_eq_false h]
  cases e:a==b
  ·rfl
  ·exact absurd ((ic a b).1 e) h
theorem Ca (s:ByteArray):okS s=true↔s.size=24/\ny s=s:=by
 unfold okS
 by_cases hs:s.size=24
 ·rw [show ((s.size:Int) != 24)=false by rw [hs];rfl,cond_false,T1,decide_eq_true_iff]
  exact ⟨fun g=>⟨hs,g⟩,fun g=>g.2⟩
 ·rw [bne_iff_ne.2 (show (s.size:Int)≠24 by omega)]
  exact ⟨fun g=>(by cases g),fun g=>absurd g.1 hs⟩
theorem BM {q c p u f v d i n:Int} (h:rightL q c p u f v d i n=false):recS q c p u f v d i n=⟨#[]⟩:=by
 unfold recS
 rw [h]
 rfl
theorem ok_rec (q c p u f v d i n:Int):okS (recS q c p u f v d i n)=rightL q c p u f v d i n:=by
 cases h:rightL q c p u f v d i n
 ·rw [BM h]
  rfl
 ·rw [Ca]
  obtain ⟨hz,e1,e2,e3,e4,e5,e6,e7,e8,e9⟩:=rec_rd h
  refine ⟨hz,?_⟩
  unfold ny
  rw [e1,e2,e3,e4,e5,e6,e7,e8,e9]
theorem ok_pos {s:ByteArray} (h:okS s=true):1<=qS s/\qS s<=2147483648:=by
 obtain ⟨hz,hrd⟩:=(Ca s).1 h
 unfold ny at hrd
 cases e:rightL (qS s) (cS s) (pS s) (uS s) (fS s) (aa s 9) (aa s 10) (aa s 11) (nS s)
 ·rw [BM e] at hrd
  rw [<- hrd] at hz
  exact absurd hz (by decide)
 ·exact (right_iff e).2.2.2.2.2.2.1
theorem oU (x:Int):zI true x=x:=rfl
theorem C4 (a:ByteArray):mu a=okS a:=by
 unfold mu
 cases h:okS a
 ·rfl
 ·rw [oU,decide_eq_true (show qS a>0 by have:=ok_pos h;omega)];rfl
theorem qaT (B s:ByteArray) (j:Nat):(dD B j s).data.toList=B.data.toList.take j++s.data.toList++B.data.toList.drop (j+s.data.toList.length):=by
 unfold dD
 have e:B.data.toList.length=B.size:=rfl
 have e':s.data.toList.length=s.size:=rfl
 simp only [ByteArray.data_append,ByteArray.data_extract,Array.toList_append,Array.toList_extract,List.extract_eq_take_drop,Nat.sub_zero,List.drop_zero]
 rw [e',List.take_of_length_le (l:=B.data.toList.drop (j+s.size)) (by rw [List.length_drop];omega)]
end Go.Proofs.YtainfdcfkgemhaaGreat.La
namespace Go.Proofs.YtainfdcfkgemhaaGreat.La
open Go Go.Proofs Go.Sx Fq
set_option linter.unusedVariables false
def eS (s:ByteArray):Int:=((numN (s.extract 20 24):Nat):Int)
theorem ka (s:ByteArray) (a b:Nat):(s.extract a b).data.toList=(s.data.toList.drop a).take (b - a):=by
 rw [ByteArray.data_extract,Array.toList_extract,List.extract_eq_take_drop]
theorem qja (q:Int):L (be 4 q)=[UInt8.ofNat (q / 256 ^ 3 % 256).toNat,UInt8.ofNat (q / 256 ^ 2 % 256).toNat,UInt8.ofNat (q / 256 ^ 1 % 256).toNat,UInt8.ofNat (q / 256 ^ 0 % 256).toNat]:=rfl
theorem LU {q c p u f v d i n:Int} (h:rightL q c p u f v d i n=true):eS (recS q c p u f v d i n)=q/\aa (recS q c p u f v d i n) 23=q % 256:=by
 have hq:=(rec_rd h).2.1
 obtain ⟨k,hL⟩:=LV h
 generalize recS q c p u f v d i n=R at *
 have e0:R.extract 0 4=be 4 q:=tI (a:=0) (A:=[]) (by rw [hL];rfl) rfl (gh 4 q)
 have hn:((numN (be 4 q):Nat):Int)=q:=by rw [<- e0];exact hq
 have hL2:L R=(L (be 4 q)++(L (be 4 c)++(L (be 1 (p+4*f+16*u))++(L (be 1 v)++(L (be 1 d)++(L (be 1 i)++(L (be 4 n)++L (be 4 k))))))))++L (be 4 q):=by
  rw [hL]
  simp only [List.append_assoc]
 have hA:(L (be 4 q)++(L (be 4 c)++(L (be 1 (p+4*f+16*u))++(L (be 1 v)++(L (be 1 d)++(L (be 1 i)++(L (be 4 n)++L (be 4 k)))))))).length=20:=by
  simp only [List.length_append,eG,gh]
 have e20:R.extract 20 24=be 4 q:=tI (a:=20) (B:=[]) (by rw [List.append_nil];exact hL2) hA (gh 4 q)
 refine ⟨by unfold eS;rw [e20];exact hn,?_⟩
 have:=Pe.bytesAt (s:=R) (l:=(L (be 4 q)++(L (be 4 c)++(L (be 1 (p+4*f+16*u))++(L (be 1 v)++(L (be 1 d)++(L (be 1 i)++(L (be 4 n)++L (be 4 k))))))))++L (be 4 q)) (r:=[]) (i:=23) (x:=q) (by rw [List.append_nil];exact hL2) (by
  rw [List.getElem?_append_right (by rw [hA];decide),hA,qja]
  show some (UInt8.ofNat (q / 256 ^ 0 % 256).toNat)=_
  rw [Pe.div0])
 exact this
theorem qbq {s:ByteArray} (h:okS s=true):rightL (qS s) (cS s) (pS s) (uS s) (fS s) (aa s 9) (aa s 10) (aa s 11) (nS s)=true/\recS (qS s) (cS s) (pS s) (uS s) (fS s) (aa s 9) (aa s 10) (aa s 11) (nS s)=s/\s.size=24:=by
 obtain ⟨h1,h2⟩:=(Ca s).1 h
 have h2:recS (qS s) (cS s) (pS s) (uS s) (fS s) (aa s 9) (aa s 10) (aa s 11) (nS s)=s:=h2
 refine ⟨?_,h2,h1⟩
 cases e:rightL (qS s) (cS s) (pS s) (uS s) (fS s) (aa s 9) (aa s 10) (aa s 11) (nS s)
 ·rw [BM e] at h2
  rw [<- h2] at h1
  exact absurd h1 (by decide)
 ·rfl
theorem qbs {s:ByteArray} (h:okS s=true):eS s=qS s/\aa s 23=qS s % 256/\1<=qS s/\qS s<=2147483648:=by
 obtain ⟨h1,h2,_⟩:=qbq h
 have:=LU h1
 rw [h2] at this
 exact ⟨this.1,this.2,ok_pos h⟩
structure slP (s:ByteArray) (k:Int):Prop where
 sz:s.size=24
 l:aa s 23≠(k+1) % 256
 e:qS s=k+1\/eS s<k\/eS s>2147483648
theorem slP.lt {s:ByteArray} {k:Int} (h:slP s k) (ho:okS s=true):qS s<k:=by
 obtain ⟨e1,e2,e3,e4⟩:=qbs ho
 rcases h.e with e|e|e
 ·exfalso
  apply h.l
  rw [e2,e]
 ·omega
 ·omega
theorem slP_rec {q c p u f v d i n:Int} (h:rightL q c p u f v d i n=true):slP (recS q c p u f v d i n) (q+1):=by
 obtain ⟨e1,e2⟩:=LU h
 refine ⟨(rec_rd h).1,?_,.inr (.inl (by rw [e1];omega))⟩
 rw [e2]
 omega
theorem MO (a b c d:UInt8):numN ⟨⟨[a,b,c,d]⟩⟩=((a.toNat*256+b.toNat)*256+c.toNat)*256+d.toNat:=by
 have:=a.toNat_lt;have:=b.toNat_lt;have:=c.toNat_lt;have:=d.toNat_lt
 show p8 (p8 (p8 (p8 0 a) b) c) d=_
 unfold p8
 omega
theorem OC {l:List UInt8} (h:l.length=4):∃ a b c d,l=[a,b,c,d]:=by
 match l,h with
 | [a,b,c,d],_=>exact ⟨a,b,c,d,rfl⟩
theorem qbB {s t:ByteArray} (hs:s.size=4) (ht:t.size=4) (h:numN s=numN t):s.data.toList=t.data.toList:=by
 obtain ⟨⟨ls⟩⟩:=s
 obtain ⟨⟨lt⟩⟩:=t
 obtain ⟨a,b,c,d,rfl⟩:=OC (l:=ls) hs
 obtain ⟨x,y,z,w,rfl⟩:=OC (l:=lt) ht
 rw [MO,MO] at h
 have:=a.toNat_lt;have:=b.toNat_lt;have:=c.toNat_lt;have:=d.toNat_lt
 have:=x.toNat_lt;have:=y.toNat_lt;have:=z.toNat_lt;have:=w.toNat_lt
 have h1:a=x:=UInt8.toNat_inj.1 (by omega)
 have h2:b=y:=UInt8.toNat_inj.1 (by omega)
 have h3:c=z:=UInt8.toNat_inj.1 (by omega)
 have h4:d=w:=UInt8.toNat_inj.1 (by omega)
 rw [h1,h2,h3,h4]
theorem qw {s t:ByteArray} (h:s.data.toList=t.data.toList):s=t:=by
 apply ByteArray.ext
 exact Array.ext' h
theorem Uo (s:ByteArray) (k:Nat):∀ t:ByteArray,s.data.toList[k]?=t.data.toList[k]?->aa s (k:Int)=aa t (k:Int):=by
 intro t h
 rw [dR,dR]
 have h:(L s)[k]?=(L t)[k]?:=h
 rw [h]
theorem slP_mix {s s' R:ByteArray} {k:Int} {m:Nat} (hm:m<24) (h:slP s k) (hR:R.size=24) (hq:qS R=k+1) (he:s'.data.toList=R.data.toList.take m++s.data.toList.drop m):slP s' k:=by
 have hs:=h.sz
 have ls:s.data.toList.length=24:=hs
 have lR:R.data.toList.length=24:=hR
 have l':s'.data.toList.length=24:=by
  rw [he,List.length_append,List.length_take,List.length_drop]
  omega
 have atm:∀ j,m<=j->s'.data.toList[j]?=s.data.toList[j]?:=by
  intro j hj
  rw [he,List.getElem?_append_right (by rw [List.length_take];omega),List.length_take,List.getElem?_drop]
  congr 1
  omega
 refine ⟨l',?_,?_⟩
 ·have e:aa s' 23=aa s 23:=Uo s' 23 s (atm 23 (by omega))
  rw [e]
  exact h.l
 ·by_cases h4:4<=m
  ·refine .inl ?_
   rw [<- hq]
   unfold qS
   have:s'.extract 0 4=R.extract 0 4:=by
    apply qw
    rw [ka,ka,List.drop_zero,List.drop_zero,he,List.take_append_of_le_length (by rw [List.length_take];omega),List.take_take,Nat.min_eq_left (by omega)]
   rw [this]
  ·rcases h.e with e|e
   ·refine .inl ?_
    rw [<- e]
    unfold qS
    have hf:(s.extract 0 4).data.toList=(R.extract 0 4).data.toList:=by
     apply qbB
     ·rw [ByteArray.size_extract];omega
     ·rw [ByteArray.size_extract];omega
     ·have:(((numN (s.extract 0 4):Nat)):Int)=((numN (R.extract 0 4):Nat):Int):=by
       show qS s=qS R
       rw [e,hq]
      omega
    rw [ka,ka,List.drop_zero,List.drop_zero] at hf
    have:s'.extract 0 4=s.extract 0 4:=by
     apply qw
     rw [ka,ka,List.drop_zero,List.drop_zero,he]
     have e1:R.data.toList.take m=s.data.toList.take m:=by
      have:=congrArg (List.take m) hf
      rw [List.take_take,List.take_take,Nat.min_eq_left (by omega)] at this
      exact this.symm
     rw [e1,List.take_append_drop]
    rw [this]
   ·refine .inr ?_
    have:eS s'=eS s:=by
     unfold eS
     have:s'.extract 20 24=s.extract 20 24:=by
      apply qw
      rw [ka,ka]
      congr 1
      apply List.ext_getElem?
      intro j
      rw [List.getElem?_drop,List.getElem?_drop]
      exact atm (20+j) (by omega)
     rw [this]
    rw [this]
    exact e
end Go.Proofs.YtainfdcfkgemhaaGreat.La
namespace Go.Proofs.YtainfdcfkgemhaaGreat.La
open Go Go.Proofs Go.Sx Fq
set_option linter.unusedVariables false
def s0 (T:ByteArray):ByteArray:=T.extract 5 29
def s1 (T:ByteArray):ByteArray:=T.extract 29 53
theorem L8 {T s:ByteArray} {k:Nat} (hk:k<=T.size) (i:Nat):(dD T k s).data.toList[i]?=if i<k then T.data.toList[i]? else if i<k+s.size then s.data.toList[i - k]? else T.data.toList[i]?:=by
 rw [qaT]
 have ht:(T.data.toList.take k).length=k:=by
  rw [List.length_take]
  have:T.data.toList.length=T.size:=rfl
  omega
 have hs:s.data.toList.length=s.size:=rfl
 rw [List.append_assoc]
 by_cases h1:i<k
 ·rw [if_pos h1,List.getElem?_append_left (by omega),List.getElem?_take_of_lt h1]
 ·rw [if_neg h1,List.getElem?_append_right (by omega),ht]
  by_cases h2:i<k+s.size
  ·rw [if_pos h2,List.getElem?_append_left (by omega)]
  ·rw [if_neg h2,List.getElem?_append_right (by omega),List.getElem?_drop,hs]
   congr 1
   omega
theorem jt (T:ByteArray) (a b i:Nat) (hi:i<b - a):(T.extract a b).data.toList[i]?=T.data.toList[a+i]?:=by
 rw [ka,List.getElem?_take_of_lt hi,List.getElem?_drop]
theorem iL {T:ByteArray} {a b:Nat} (hb:b<=T.size):(T.extract a b).data.toList.length=b - a:=by
 have:(T.extract a b).data.toList.length=(T.extract a b).size:=rfl
 rw [this,ByteArray.size_extract]
 omega
theorem G0 {s t:ByteArray} (h1:s.data.toList.length=t.data.toList.length) (h:∀ i,i<s.data.toList.length->s.data.toList[i]?=t.data.toList[i]?):s=t:=by
 apply qw
 apply List.ext_getElem?
 intro i
 by_cases hi:i<s.data.toList.length
 ·exact h i hi
 ·rw [List.getElem?_eq_none (by omega),List.getElem?_eq_none (by omega)]
theorem put_mix {T R:ByteArray} {k m:Nat} (hT:k+24<=T.size) (hR:R.size=24) (hm:m<=24):((dD T k (R.extract 0 m)).extract k (k+24)).data.toList=R.data.toList.take m++(T.extract k (k+24)).data.toList.drop m:=by
 have sz:(R.extract 0 m).size=m:=by rw [ByteArray.size_extract];omega
 have pz:(dD T k (R.extract 0 m)).size=T.size:=sn (by omega)
 have lR:R.data.toList.length=24:=hR
 have l1:((dD T k (R.extract 0 m)).extract k (k+24)).data.toList.length=24:=by rw [iL (by omega)];omega
 have l2:(T.extract k (k+24)).data.toList.length=24:=by rw [iL hT];omega
 apply List.ext_getElem?
 intro i
 by_cases hi:i<24
 ·rw [jt _ _ _ _ (by omega),L8 (by omega),if_neg (by omega),sz]
  by_cases h2:i<m
  ·rw [if_pos (by omega),List.getElem?_append_left (by rw [List.length_take];omega),show k+i - k=i by omega,jt _ _ _ _ (by omega),List.getElem?_take_of_lt h2,Nat.zero_add]
  ·rw [if_neg (by omega),List.getElem?_append_right (by rw [List.length_take];omega),List.length_take,List.getElem?_drop,jt _ _ _ _ (by omega)]
   congr 1
   omega
 ·rw [List.getElem?_eq_none (by omega),List.getElem?_eq_none (by rw [List.length_append,List.length_take,List.length_drop];omega)]
theorem put_other {T R:ByteArray} {k j m:Nat} (hk:k+24<=T.size) (hj:j+24<=T.size) (hR:R.size=24) (hm:m<=24) (h:j+24<=k\/k+24<=j):(dD T k (R.extract 0 m)).extract j (j+24)=T.extract j (j+24):=by
 have sz:(R.extract 0 m).size=m:=by rw [ByteArray.size_extract];omega
 have pz:(dD T k (R.extract 0 m)).size=T.size:=sn (by omega)
 apply G0
 ·rw [iL (by omega),iL hj]
 ·intro i hi
  rw [iL (by omega)] at hi
  rw [jt _ _ _ _ (by omega),jt _ _ _ _ (by omega),L8 (by omega),sz]
  rcases h with h|h
  ·rw [if_pos (by omega)]
  ·rw [if_neg (by omega),if_neg (by omega)]
theorem put_all {T R:ByteArray} {k:Nat} (hT:k+24<=T.size) (hR:R.size=24):(dD T k (R.extract 0 24)).extract k (k+24)=R:=by
 apply qw
 rw [put_mix hT hR (Nat.le_refl 24),List.take_of_length_le (by show R.size<=24;omega),List.drop_of_length_le (by rw [iL hT];omega),List.append_nil]
theorem ex_all {R:ByteArray} (hR:R.size=24):R.extract 0 24=R:=by
 apply qw
 rw [ka,List.drop_zero,List.take_of_length_le (by show R.size<=24;omega)]
theorem sl0_is {T:ByteArray} (h:53<=T.size):sl0 T 5=s0 T:=by
 apply G0
 ·unfold sl0 s0
  rw [iL (by rw [ByteArray.size_extract];show 24<=min 53 T.size - 5;omega),iL (by omega)]
 ·intro i hi
  unfold sl0 at hi ⊢
  rw [iL (by rw [ByteArray.size_extract];show 24<=min 53 T.size - 5;omega)] at hi
  unfold s0
  rw [jt _ _ _ _ (by omega),jt _ _ _ _ (by show 0+i<53 - 5;omega),jt _ _ _ _ (by omega)]
  show T.data.toList[5+(0+i)]?=_
  rw [Nat.zero_add]
theorem sl1_is {T:ByteArray} (h:53<=T.size):sl1 T 5=s1 T:=by
 apply G0
 ·unfold sl1 s1
  rw [iL (by rw [ByteArray.size_extract];show 48<=min 53 T.size - 5;omega),iL (by omega)]
 ·intro i hi
  unfold sl1 at hi ⊢
  rw [iL (by rw [ByteArray.size_extract];show 48<=min 53 T.size - 5;omega)] at hi
  unfold s1
  rw [jt _ _ _ _ (by omega),jt _ _ _ _ (by show 24+i<53 - 5;omega),jt _ _ _ _ (by omega)]
  show T.data.toList[5+(24+i)]?=_
  congr 1
  omega
theorem op_0 {a b:ByteArray} (ha:okS a=true) (hb:okS b=true->qS b<qS a):(∀ g,opI a b g=g a)/\opN a b=1:=by
 have pa:=ok_pos ha
 have h0:mu a=true:=by rw [C4];exact ha
 have h1:kZ a b=false:=by
  unfold kZ
  cases e:okS b
  ·rfl
  ·have:=hb e
   rw [h0,ha,oU,oU]
   exact decide_eq_false (by omega)
 refine ⟨fun g=>?_,?_⟩
 ·unfold opI
  rw [h1,h0,ha]
  rfl
 ·unfold opN
  rw [h1,h0]
  rfl
theorem op_1 {a b:ByteArray} (hb:okS b=true) (ha:okS a=true->qS a<qS b):(∀ g,opI a b g=g b)/\opN a b=0:=by
 have pb:=ok_pos hb
 have h1:kZ a b=true:=by
  unfold kZ
  rw [C4,hb]
  cases e:okS a
  ·rw [oU]
   exact decide_eq_true (by omega)
  ·have:=ha e
   rw [oU,oU]
   exact decide_eq_true (by omega)
 refine ⟨fun g=>?_,?_⟩
 ·unfold opI
  rw [h1,hb]
  rfl
 ·unfold opN
  rw [h1]
  rfl
theorem op_n {a b:ByteArray} (ha:okS a=false) (hb:okS b=false):(∀ g,opI a b g=0)/\opN a b=0:=by
 have h0:mu a=false:=by rw [C4];exact ha
 have h1:kZ a b=false:=by
  unfold kZ
  rw [hb]
  rfl
 refine ⟨fun g=>?_,?_⟩
 ·unfold opI
  rw [h1,h0]
  rfl
 ·unfold opN
  rw [h1,h0]
  rfl
end Go.Proofs.YtainfdcfkgemhaaGreat.La
namespace Go.Proofs.YtainfdcfkgemhaaGreat.Hr
open Go Go.Proofs Go.Sx Nw Pe So
set_option linter.unusedVariables false
def kz:Rcd:=⟨0,0,0,0,0,0,0,0,0⟩
def sN (T:ByteArray) (nx:Int):ByteArray:=bif nx==0 then La.s0 T else La.s1 T
def sO (T:ByteArray) (nx:Int):ByteArray:=bif nx==0 then La.s1 T else La.s0 T
def mW (T:ByteArray) (nx:Int) (k:Rcd):Prop:=(dQ k=true/\sO T nx=bn k)\/(k=kz/\nx=0/\La.slP (La.s1 T) 1/\La.okS (La.s1 T)=false)
structure Fo (T:ByteArray) (nx:Int) (k:Rcd):Prop where
 sz:T.size=60
 hx:nx=0\/nx=1
 p:La.slP (sN T nx) k.q
 o:mW T nx k
structure Fp (T:ByteArray) (nx:Int) (k r:Rcd):Prop where
 sz:T.size=60
 hx:nx=0\/nx=1
 rt:dQ r=true
 q:r.q=k.q+1
 n:sN T nx=bn r
 o:mW T nx k
def opR (T:ByteArray):Rcd:=⟨La.opI (La.s0 T) (La.s1 T) La.qS,La.opI (La.s0 T) (La.s1 T) La.cS,La.opI (La.s0 T) (La.s1 T) La.pS,La.opI (La.s0 T) (La.s1 T) La.uS,La.opI (La.s0 T) (La.s1 T) La.fS,La.opI (La.s0 T) (La.s1 T) La.at9,La.opI (La.s0 T) (La.s1 T) La.at10,La.opI (La.s0 T) (La.s1 T) La.at11,La.opI (La.s0 T) (La.s1 T) La.nS⟩
theorem vk {k:Rcd} (h:dQ k=true):La.okS (bn k)=true/\(bn k).size=24/\La.qS (bn k)=k.q/\(1<=k.q/\k.q<=2147483648):=by
 refine ⟨(La.ok_rec _ _ _ _ _ _ _ _ _).trans h,(La.rec_rd h).1,(La.rec_rd h).2.1,?_⟩
 have:=LO (show La.rightL k.q k.c k.p k.s k.f k.v k.d k.i k.n=true from h)
 exact this.2.2.2.2.2.2.1
theorem LY {k:Rcd} (h:dQ k=true):(⟨La.qS (bn k),La.cS (bn k),La.pS (bn k),La.uS (bn k),La.fS (bn k),La.at9 (bn k),La.at10 (bn k),La.at11 (bn k),La.nS (bn k)⟩:Rcd)=k:=by
 obtain ⟨h0,h1,h2,h3,h4,h5,h6,h7,h8,h9⟩:=La.rec_rd (show La.rightL k.q k.c k.p k.s k.f k.v k.d k.i k.n=true from h)
 unfold La.at9 La.at10 La.at11 bn
 rw [h1,h2,h3,h4,h5,h6,h7,h8,h9]
theorem qbi {T:ByteArray} {k:Rcd} (hk:dQ k=true) (h0:La.s0 T=bn k) (h1:La.okS (La.s1 T)=true->La.qS (La.s1 T)<k.q):opR T=k/\La.opN (La.s0 T) (La.s1 T)=1:=by
 obtain ⟨a1,a2,a3,a4⟩:=vk hk
 obtain ⟨b1,b2⟩:=La.op_0 (a:=La.s0 T) (b:=La.s1 T) (by rw [h0];exact a1) (by rw [h0,a3];exact h1)
 refine ⟨?_,b2⟩
 unfold opR
 simp only [b1]
 rw [h0]
 exact LY hk
theorem qbh {T:ByteArray} {k:Rcd} (hk:dQ k=true) (h0:La.s1 T=bn k) (h1:La.okS (La.s0 T)=true->La.qS (La.s0 T)<k.q):opR T=k/\La.opN (La.s0 T) (La.s1 T)=0:=by
 obtain ⟨a1,a2,a3,a4⟩:=vk hk
 obtain ⟨b1,b2⟩:=La.op_1 (a:=La.s0 T) (b:=La.s1 T) (by rw [h0];exact a1) (by rw [h0,a3];exact h1)
 refine ⟨?_,b2⟩
 unfold opR
 simp only [b1]
 rw [h0]
 exact LY hk
theorem Fo.op {T:ByteArray} {nx:Int} {k:Rcd} (h:Fo T nx k):opR T=k/\La.opN (La.s0 T) (La.s1 T)=nx:=by
 have hp:=h.p
 rcases h.o with ⟨h1,h2⟩|⟨rfl,rfl,h3,h4⟩
 ·rcases h.hx with e|e
  ·subst e
   exact qbh h1 h2 (fun ho=>hp.lt ho)
  ·subst e
   exact qbi h1 h2 (fun ho=>hp.lt ho)
 ·have h0:La.okS (La.s0 T)=false:=by
   cases e:La.okS (La.s0 T)
   ·rfl
   ·have h5:La.qS (La.s0 T)<0:=La.slP.lt (show La.slP (La.s0 T) 0 from hp) e
    have:=La.ok_pos e
    omega
  obtain ⟨b1,b2⟩:=La.op_n h0 h4
  refine ⟨?_,b2⟩
  unfold opR
  simp only [b1]
  rfl
theorem mW.next {T:ByteArray} {nx:Int} {k r:Rcd} (hx:nx=0\/nx=1) (ho:mW T nx k) (hr:dQ r=true) (hq:r.q=k.q+1) (hn:sN T nx=bn r) (hs:T.size=60):Fo T (1 - nx) r:=by
 rcases hx with e|e
 ·subst e
  refine ⟨hs,.inr rfl,?_,.inl ⟨hr,hn⟩⟩
  show La.slP (La.s1 T) r.q
  rcases ho with ⟨h1,h2⟩|⟨h1,_,h3,h4⟩
  ·have h2:La.s1 T=bn k:=h2
   rw [h2,hq]
   exact La.slP_rec h1
  ·rw [hq,h1]
   exact h3
 ·subst e
  refine ⟨hs,.inl rfl,?_,.inl ⟨hr,hn⟩⟩
  show La.slP (La.s0 T) r.q
  rcases ho with ⟨h1,h2⟩|⟨h1,h0,h3,h4⟩
  ·have h2:La.s0 T=bn k:=h2
   rw [h2,hq]
   exact La.slP_rec h1
  ·exact absurd h0 (by decide)
theorem Fp.op {T:ByteArray} {nx:Int} {k r:Rcd} (h:Fp T nx k r):opR T=r/\La.opN (La.s0 T) (La.s1 T)=1 - nx/\Fo T (1 - nx) r:=by
 have hF:=h.o.next h.hx h.rt h.q h.n h.sz
 obtain ⟨h1,h2⟩:=hF.op
 exact ⟨h1,h2,hF⟩
theorem Fo.put {T:ByteArray} {nx:Int} {k r:Rcd} (h:Fo T nx k) (hr:dQ r=true) (hq:r.q=k.q+1) {m:Nat} (hm:m<=24) :
  (m<24->Fo (dD T (5+24*nx).toNat ((bn r).extract 0 m)) nx k)/\(m=24->Fp (dD T (5+24*nx).toNat ((bn r).extract 0 m)) nx k r):=by
 obtain ⟨r1,r2,r3,r4⟩:=vk hr
 have hT:=h.sz
 have hp:=h.p
 rcases h.hx with e|e
 ·subst e
  have e5:(5+24*(0:Int)).toNat=5:=by decide
  rw [e5]
  have sz:((bn r).extract 0 m).size=m:=by rw [ByteArray.size_extract];omega
  have pz:(dD T 5 ((bn r).extract 0 m)).size=60:=by rw [sn (by omega)];exact hT
  have ho:La.s1 (dD T 5 ((bn r).extract 0 m))=La.s1 T:=La.put_other (k:=5) (j:=29) (by omega) (by omega) r2 hm (.inr (by omega))
  have oth:mW (dD T 5 ((bn r).extract 0 m)) 0 k:=by
   rcases h.o with ⟨h1,h2⟩|⟨h1,h2,h3,h4⟩
   ·exact .inl ⟨h1,ho.trans h2⟩
   ·exact .inr ⟨h1,h2,by rw [ho];exact h3,by rw [ho];exact h4⟩
  refine ⟨fun hm'=>⟨pz,.inl rfl,?_,oth⟩,fun hm'=>⟨pz,.inl rfl,hr,hq,?_,oth⟩⟩
  ·exact La.slP_mix hm' hp r2 (by rw [r3,hq]) (La.put_mix (k:=5) (by omega) r2 hm)
  ·subst hm'
   exact La.put_all (k:=5) (by omega) r2
 ·subst e
  have e5:(5+24*(1:Int)).toNat=29:=by decide
  rw [e5]
  have sz:((bn r).extract 0 m).size=m:=by rw [ByteArray.size_extract];omega
  have pz:(dD T 29 ((bn r).extract 0 m)).size=60:=by rw [sn (by omega)];exact hT
  have ho:La.s0 (dD T 29 ((bn r).extract 0 m))=La.s0 T:=La.put_other (k:=29) (j:=5) (by omega) (by omega) r2 hm (.inl (by omega))
  have oth:mW (dD T 29 ((bn r).extract 0 m)) 1 k:=by
   rcases h.o with ⟨h1,h2⟩|⟨h1,h2,h3,h4⟩
   ·exact .inl ⟨h1,ho.trans h2⟩
   ·exact absurd h2 (by decide)
  refine ⟨fun hm'=>⟨pz,.inr rfl,?_,oth⟩,fun hm'=>⟨pz,.inr rfl,hr,hq,?_,oth⟩⟩
  ·exact La.slP_mix hm' hp r2 (by rw [r3,hq]) (La.put_mix (k:=29) (by omega) r2 hm)
  ·subst hm'
   exact La.put_all (k:=29) (by omega) r2
end Go.Proofs.YtainfdcfkgemhaaGreat.Hr
namespace Go.Proofs.YtainfdcfkgemhaaGreat.Hr
open Go Go.Proofs Go.Sx Nw Pe So
set_option linter.unusedVariables false
theorem mW.q {T:ByteArray} {nx:Int} {k:Rcd} (h:mW T nx k):(0<=k.q/\k.q<=2147483648)/\(0<=k.p/\k.p<=3)/\(0<=k.s/\k.s<=2)/\(0<=k.f/\k.f<=1)/\(0<=k.c/\k.c<=1000000)/\(0<=k.n/\k.n<=1000000):=by
 rcases h with ⟨h1,_⟩|⟨h1,_⟩
 ·obtain ⟨rv,rd,ri,rp,rs,rf,rq,rc,rn⟩:=La.right_iff (show La.rightL k.q k.c k.p k.s k.f k.v k.d k.i k.n=true from h1)
  exact ⟨⟨by omega,rq.2⟩,rp,rs,rf,rc,rn⟩
 ·rw [h1]
  decide
theorem Ui (D:PS):ao (fj D).f.F=La.svT (dQ (bQ D)) (Fq.wrB (ao D.f.F) D.f.dn D.f.wt D.f.le (kw D) (bn (bQ D))) (ao D.f.F):=by
 show ao (cp _)=_
 rw [nb]
theorem Bf (D:PS) (r:Rcd) (h:d4 D r=false):kv D r=D.la:=by
 unfold kv
 rw [h]
 rfl
theorem Uj (D:PS) (r:Rcd) (h:d4 D r=true):kv D r=⟨D.la.b,r,(wI (D.la.x+1)).tmod 2⟩:=by
 unfold kv
 rw [h]
 rfl
theorem Ug (D:PS) (hb:D.la.b=5) (hF:Fo (ao D.f.F) D.la.x D.la.r) (hle:0<=D.f.le) :
  (svE D (bQ D)=0->dQ (bQ D)=true/\(fj D).la.r=bQ D/\Fo (ao (fj D).f.F) (fj D).la.x (bQ D)/\(fj D).la.b=5) /\
  (svE D (bQ D)≠0->(fj D).la=D.la/\(Fo (ao (fj D).f.F) D.la.x D.la.r\/(dQ (bQ D)=true/\Fp (ao (fj D).f.F) D.la.x D.la.r (bQ D)))):=by
 have hq0:=hF.o.q.1
 have hq:(bQ D).q=D.la.r.q+1:=by
  show wI (D.la.r.q+1)=_
  exact az (by omega)
 have hA:kw D=5+24*D.la.x:=by
  unfold kw
  rw [hb]
  rcases hF.hx with e|e<;>rw [e]<;>decide
 have hT:=hF.sz
 rw [Ui,hA]
 have ela:(fj D).la=kv D (bQ D):=rfl
 generalize bQ D=r at *
 cases hk:dQ r
 ·have hO:d4 D r=false:=by unfold d4;rw [hk];rfl
  have hE:svE D r=1:=by unfold svE La.svE;rw [hk];rfl
  rw [ela,Bf D r hO,hE]
  exact ⟨fun h=>absurd h (by decide),fun _=>⟨rfl,.inl hF⟩⟩
 ·obtain ⟨r1,r2,r3,r4⟩:=vk hk
  have hE:svE D r=ip D r:=by unfold svE La.svE;rw [hk];rfl
  have hO:d4 D r=(ip D r==0):=by unfold d4;rw [hk];rfl
  have hW:ip D r=Fq.wrE (ao D.f.F) D.f.dn D.f.wt (5+24*D.la.x) (bn r):=by unfold ip;rw [hA]
  show _/\_
  rw [ela,hE]
  show (ip D r=0->_)/\(ip D r≠0->kv D r=D.la/\(Fo (Fq.wrB (ao D.f.F) D.f.dn D.f.wt D.f.le (5+24*D.la.x) (bn r)) D.la.x D.la.r\/(true=true/\Fp (Fq.wrB (ao D.f.F) D.f.dn D.f.wt D.f.le (5+24*D.la.x) (bn r)) D.la.x D.la.r r)))
  cases hN:Fq.wrN (ao D.f.F) D.f.dn (5+24*D.la.x) (bn r)
  ·have hB:Fq.wrB (ao D.f.F) D.f.dn D.f.wt D.f.le (5+24*D.la.x) (bn r)=dD (ao D.f.F) (5+24*D.la.x).toNat (Fq.tornS D.f.wt D.f.le (bn r)):=by unfold Fq.wrB;rw [hN];rfl
   rw [hB]
   cases hw:D.f.wt
   ·have hW0:ip D r=0:=by rw [hW];unfold Fq.wrE;rw [hN,hw];rfl
    have hs:Fq.tornS false D.f.le (bn r)=(bn r).extract 0 24:=(La.ex_all r2).symm
    rw [hW0] at hO
    rw [hW0,Uj D r hO,hs]
    refine ⟨fun _=>⟨rfl,rfl,?_,hb⟩,fun h=>absurd rfl h⟩
    have hP:=(hF.put hk hq (Nat.le_refl 24)).2 rfl
    have hN':=hP.o.next hP.hx hP.rt hP.q hP.n hP.sz
    have e:(wI (D.la.x+1)).tmod 2=1 - D.la.x:=by rcases hF.hx with e|e<;>rw [e]<;>decide
    show Fo _ ((wI (D.la.x+1)).tmod 2) r
    rw [e]
    exact hN'
   ·have hW0:ip D r=11:=by rw [hW];unfold Fq.wrE;rw [hN,hw];rfl
    have hO':d4 D r=false:=by rw [hO,hW0];rfl
    rw [hW0,Bf D r hO']
    refine ⟨fun h=>absurd h (by decide),fun _=>⟨rfl,?_⟩⟩
    have hs:Fq.tornS true D.f.le (bn r)=(bn r).extract 0 (if ((bn r).size:Int)<D.f.le then ((bn r).size:Int) else D.f.le).toNat:=rfl
    rw [hs]
    generalize hm:(if ((bn r).size:Int)<D.f.le then ((bn r).size:Int) else D.f.le).toNat=m
    have hm24:m<=24:=by
     rw [<- hm,r2]
     split<;>omega
    obtain ⟨p1,p2⟩:=hF.put hk hq hm24
    by_cases e:m<24
    ·exact .inl (p1 e)
    ·exact .inr ⟨rfl,p2 (by omega)⟩
  ·have hB:Fq.wrB (ao D.f.F) D.f.dn D.f.wt D.f.le (5+24*D.la.x) (bn r)=ao D.f.F:=by unfold Fq.wrB;rw [hN];rfl
   have hW0:ip D r≠0:=by
    rw [hW]
    unfold Fq.wrE
    rw [hN]
    unfold Fq.wrN at hN
    exact bne_iff_ne.1 hN
   have hO':d4 D r=false:=by rw [hO];exact beq_eq_false_iff_ne.2 hW0
   rw [Bf D r hO',hB]
   exact ⟨fun h=>absurd h hW0,fun _=>⟨rfl,.inl hF⟩⟩
structure Mo (k r:Rcd):Prop where
 p:k.p<=r.p
 c:k.c<=r.c
 f:k.f<=r.f
 s:k.s=2->r.s=2
 z:r.s=2->k.s≠0
structure Kv (x:PS):Prop where
 i:Inv 60 x
 q:Qv x
 ba:x.base=5
 lb:x.la.b=5
 kp:x.la.r.p<((cc x.img).length:Int)
 fo:Fo (ao x.f.F) x.la.x x.la.r\/(x.up=false/\∃ r,Fp (ao x.f.F) x.la.x x.la.r r/\Mo x.la.r r/\r.p<((cc x.img).length:Int))
 rel:x.up=true->x.q.t=x.la.r.s/\x.m.p=x.la.r.p/\x.cy=x.la.r.c/\x.fl=(x.la.r.f==1)
structure Sk (k n:Rcd) (o:Ot):Prop where
 u:o.up=true->TO o n/\o.s=n.s/\o.p=n.p/\n.q=k.q+1/\Mo k n
 d:o.up=false->n=k\/(n.q=k.q+1/\n.q>0/\Mo k n)
 q:0<=k.q/\k.q<=2147483648
 z:n.q=0->n=k
theorem Kv.sp {x:PS} (h:Kv x) (t:Int) (r:Bool):Kv (dA x t r):=by
 have ha:Kv (bif decide (t>=0)&&(decide (t<=30)&&x.up) then ng x t else x):=by
  cases decide (t>=0)&&(decide (t<=30)&&x.up)
  ·exact h
  ·exact ⟨h.i.te t,⟨h.q.w,h.q.e⟩,h.ba,h.lb,h.kp,h.fo,h.rel⟩
 have hi:=h.i.sp t r
 unfold dA at hi ⊢
 generalize (bif decide (t>=0)&&(decide (t<=30)&&x.up) then ng x t else x)=y at *
 cases r
 ·exact ha
 ·refine ⟨hi,⟨ha.q.w,ha.q.e⟩,ha.ba,ha.lb,ha.kp,?_,fun hu=>by cases hu⟩
  rcases ha.fo with e|⟨_,e⟩
  ·exact .inl e
  ·exact .inr ⟨rfl,e⟩
theorem UX (x:PS) (t:Int) (r:Bool):(dA x t r).la=x.la:=by
 unfold dA
 cases r<;>cases decide (t>=0)&&(decide (t<=30)&&x.up)<;>rfl
end Go.Proofs.YtainfdcfkgemhaaGreat.Hr
