/-
  One that hears no word stays safe;the unit that never hears a word: round by round,and as a law over values.
-/
import Derived.Test.YtagaiddomhpdmaaGreatYk
import Derived.Test.YtagaiddomhpdmaaGreatYm
import Derived.Test.YtagaiddomhpdmaaGreatYl
import Derived.Test.YtagaiddomhpdmaaGreatYe
import Derived.Test.YtagaiddomhpdmaaGreatSx
set_option maxRecDepth 100000
set_option linter.unusedVariables false
namespace Go.Proofs.YtagaiddomhpdmaaGreat.Hr
open Go Go.Proofs Go.Sx Nw Pe So
theorem with_iff {n l m:Int}:La.withB n l m=true↔l≤n∧n≤m:=by
  unfold La.withB
  by_cases h:n≥l
  · rw [decide_eq_true h,cond_true,decide_eq_true_iff]
    exact ⟨fun g=>⟨h,g⟩,fun g=>g.2⟩
  · rw [decide_eq_false h]
    exact ⟨fun g=>(by cases g),fun g=>absurd g.1 h⟩
theorem rt_and (q c p u f v d i n:Int):La.rightL q c p u f v d i n=(La.withB v 0 255&&(La.withB d 0 255&&(La.withB i 0 255&&(La.withB p 0 3&&(La.withB u 0 2&&(La.withB f 0 1&&(La.withB q 1 2147483648&&(La.withB c 0 1000000&&La.withB n 0 1000000)))))))):=by
  unfold La.rightL
  cases La.withB v 0 255<;>cases La.withB d 0 255<;>cases La.withB i 0 255<;>cases La.withB p 0 3<;>cases La.withB u 0 2<;>cases La.withB f 0 1<;>cases La.withB q 1 2147483648<;>cases La.withB c 0 1000000<;>rfl
theorem rt_iff {q c p u f v d i n:Int} (h:La.rightL q c p u f v d i n=true):(0≤v∧v≤255)∧(0≤d∧d≤255)∧(0≤i∧i≤255)∧(0≤p∧p≤3)∧(0≤u∧u≤2)∧(0≤f∧f≤1)∧(1≤q∧q≤2147483648)∧(0≤c∧c≤1000000)∧(0≤n∧n≤1000000):=by
  rw [rt_and] at h
  simpa only [Bool.and_eq_true,with_iff] using h
def sfV (v:Int):Prop:=v<16∨v=255
theorem at_put {B s:ByteArray} {k i:Nat} (h:k+s.size≤B.size):strAt (putT B k s) (i:Int)=strAt B (i:Int)∨(k≤i∧i<k+s.size∧strAt (putT B k s) (i:Int)=strAt s ((i - k:Nat):Int)):=by
  have e:L (putT B k s)=(L B).take k++L s++(L B).drop (k+s.size):=by
    unfold putT
    rw [L_app,L_app,L_ext,L_ext,List.drop_zero,List.take_of_length_le (l:=(L B).drop _) (by rw [List.length_drop,L_len];omega),Nat.sub_zero]
  have l1:((L B).take k).length=k:=by rw [List.length_take,L_len];omega
  rw [strAt_L,strAt_L,strAt_L,e]
  rcases Nat.lt_or_ge i k with h1|h1
  · left
    rw [List.append_assoc,List.getElem?_append_left (by omega),List.getElem?_take_of_lt h1]
  rcases Nat.lt_or_ge i (k+s.size) with h2|h2
  · right
    refine ⟨h1,h2,?_⟩
    rw [List.append_assoc,List.getElem?_append_right (by omega),l1,List.getElem?_append_left (by rw [L_len];omega)]
  · left
    rw [List.getElem?_append_right (by rw [List.length_append,l1,L_len];omega),List.length_append,l1,L_len,List.getElem?_drop]
    rw [show k+s.size+(i - (k+s.size))=i by omega]
theorem at_ext {s:ByteArray} {a b i:Nat} (h:i<b - a):strAt (s.extract a b) (i:Int)=strAt s ((a+i:Nat):Int):=by
  rw [strAt_L,strAt_L,L_ext,List.getElem?_take_of_lt h,List.getElem?_drop]
theorem sl0_at (B:ByteArray):strAt (La.sl0 B 0) 8=strAt B 8:=by
  unfold La.sl0
  rw [show (8:Int)=((8:Nat):Int) from rfl,at_ext (by decide)]
  exact at_ext (s:=B) (a:=0) (b:=48) (i:=8) (by decide)
theorem sl1_at (B:ByteArray):strAt (La.sl1 B 0) 8=strAt B 32:=by
  unfold La.sl1
  rw [show (8:Int)=((8:Nat):Int) from rfl,at_ext (by decide)]
  exact at_ext (s:=B) (a:=0) (b:=48) (i:=32) (by decide)
theorem okS_u {s:ByteArray} (h:La.okS s=true) (hs:sfV (strAt s 8)):La.uS s=0:=by
  unfold La.okS at h
  have hz:((s.size:Int) != 24)=false:=by
    cases e:((s.size:Int) != 24)
    · rfl
    · rw [e] at h;cases h
  rw [hz,cond_false] at h
  have hz:s.size=24:=by
    have:=bne_eq_false_iff_eq.1 hz
    omega
  rw [beq_TS,beq_S] at h
  have hr:La.rightL (La.qS s) (La.cS s) (La.pS s) (La.uS s) (La.fS s) (strAt s 9) (strAt s 10) (strAt s 11) (La.nS s)=true:=by
    unfold La.rdS La.recS at h
    cases e:La.rightL (La.qS s) (La.cS s) (La.pS s) (La.uS s) (La.fS s) (strAt s 9) (strAt s 10) (strAt s 11) (La.nS s)
    · rw [e] at h
      have:=congrArg ByteArray.size h
      rw [hz] at this
      cases this
    · rfl
  have hu:=(rt_iff hr)
  have hb:=strAt_range s 8
  rw [show ((8:Nat):Int)=8 from rfl] at hb
  unfold sfV at hs
  unfold La.uS at *
  omega
theorem op_u {a b:ByteArray} (ha:sfV (strAt a 8)) (hb:sfV (strAt b 8)):La.opI a b La.uS=0:=by
  unfold La.opI
  cases e1:La.has1 a b
  · cases e0:La.has0 a
    · rfl
    · unfold La.has0 at e0
      rw [Bool.and_eq_true] at e0
      show La.zI (La.okS a) (La.uS a)=0
      rw [e0.1]
      exact okS_u e0.1 ha
  · unfold La.has1 at e1
    rw [Bool.and_eq_true] at e1
    show La.zI (La.okS b) (La.uS b)=0
    rw [e1.1]
    exact okS_u e1.1 hb
theorem opN_in (a b:ByteArray):La.opN a b=0∨La.opN a b=1:=by
  unfold La.opN
  cases La.has1 a b
  · cases La.has0 a
    · exact .inl rfl
    · exact .inr rfl
  · exact .inl rfl
structure Sfe (x:PS):Prop where
  ba:x.base=0
  qt:x.q.t=0
  lr:x.la.r.s=0
  lb:x.la.b=0
  lx:x.la.x=0∨x.la.x=1
  e:x.e.w=zS
  f0:sfV (strAt (txt x.f.F) 8)
  f1:sfV (strAt (txt x.f.F) 32)
theorem at_is8 {s:ByteArray} {a:Nat} {A B:List UInt8} {x:Int} (h:L s=A++(L (be 1 x)++B)) (ha:A.length=a) (hx:0≤x∧x<256):strAt s (a:Int)=x:=by
  have e1:L (be 1 x)=[UInt8.ofNat (x / 256 ^ 0 % 256).toNat]:=rfl
  rw [strAt_L,h,List.getElem?_append_right (by omega),ha,Nat.sub_self,e1]
  show (((UInt8.ofNat (x / 256 ^ 0 % 256).toNat).toNat:Nat):Int)=x
  rw [show (256:Int) ^ 0=1 by decide,Int.ediv_one,UInt8.toNat_ofNat_of_lt' (by show _<256;omega)]
  omega
theorem rec8 {r:Rcd} (h:svK r=true) (hs:r.s=0):(svS r).size=24∧sfV (strAt (svS r) 8):=by
  unfold svK at h
  have hu:=rt_iff h
  have e:svS r=La.bodyS r.q r.c r.p r.s r.f r.v r.d r.i r.n++be 4 (wI (sum32 (La.bodyS r.q r.c r.p r.s r.f r.v r.d r.i r.n)))++be 4 r.q:=by
    unfold svS La.recS
    rw [h]
    rfl
  have hz:(La.bodyS r.q r.c r.p r.s r.f r.v r.d r.i r.n).size=16:=by
    unfold La.bodyS
    simp only [ByteArray.size_append,be_size]
  refine ⟨by rw [e];simp only [ByteArray.size_append,be_size,hz],.inl ?_⟩
  have e8:strAt (svS r) ((8:Nat):Int)=r.p+4*r.f+16*0:=by
    refine at_is8 (A:=L (be 4 r.q)++L (be 4 r.c)) (B:=L (be 1 r.v)++(L (be 1 r.d)++(L (be 1 r.i)++(L (be 4 r.n)++(L (be 4 (wI (sum32 (La.bodyS r.q r.c r.p r.s r.f r.v r.d r.i r.n))))++L (be 4 r.q)))))) ?_ (by rw [List.length_append,L_len,L_len,be_size,be_size]) (by omega)
    rw [e]
    generalize wI (sum32 (La.bodyS r.q r.c r.p r.s r.f r.v r.d r.i r.n))=k
    unfold La.bodyS
    rw [hs,wI_id (n:=16*0) (by decide),wI_id (n:=4*r.f) (by omega),wI_id (n:=r.p+4*r.f) (by omega),wI_id (n:=r.p+4*r.f+16*0) (by omega)]
    simp only [L_app,List.append_assoc]
  rw [show (8:Int)=((8:Nat):Int) from rfl,e8]
  omega
theorem sv_flash {x:PS} {r:Rcd} (hr:r.s=0) (hB:(txt x.f.F).size=48) (hle:0≤x.f.le) (hb:x.la.b=0) (hx:x.la.x=0∨x.la.x=1) (f0:sfV (strAt (txt x.f.F) 8)) (f1:sfV (strAt (txt x.f.F) 32)):sfV (strAt (txt (svFl x r).F) 8)∧sfV (strAt (txt (svFl x r).F) 32):=by
  have eF:(svFl x r).F=rowT (La.svT (svK r) (Fq.wrB (txt x.f.F) x.f.dn x.f.wt x.f.le (svA x) (svS r)) (txt x.f.F)):=rfl
  rw [eF,txt_rowT]
  cases hk:svK r
  · exact ⟨f0,f1⟩
  unfold La.svT
  rw [cond_true]
  unfold Fq.wrB
  cases Fq.wrN (txt x.f.F) x.f.dn (svA x) (svS r)
  · rw [cond_false]
    obtain ⟨z1,z2⟩:=rec8 hk hr
    have hk':(svA x).toNat=0∨(svA x).toNat=24:=by
      unfold svA
      rw [hb]
      rcases hx with h|h<;>rw [h]
      · exact .inl rfl
      · exact .inr rfl
    have tz:=Fq.tornS_size x.f.wt hle (svS r)
    have ta:∀ i:Nat,i<(Fq.tornS x.f.wt x.f.le (svS r)).size→strAt (Fq.tornS x.f.wt x.f.le (svS r)) (i:Int)=strAt (svS r) (i:Int):=by
      intro i hi
      unfold Fq.tornS at *
      cases hw:x.f.wt
      · rfl
      · rw [hw] at hi
        simp only [cond_true,ByteArray.size_extract] at hi
        rw [cond_true,at_ext (by omega),Nat.zero_add]
    have one:∀ i:Nat,(i=8∨i=32)→sfV (strAt (txt x.f.F) (i:Int))→sfV (strAt (putT (txt x.f.F) (svA x).toNat (Fq.tornS x.f.wt x.f.le (svS r))) (i:Int)):=by
      intro i hi hf
      rcases at_put (B:=txt x.f.F) (s:=Fq.tornS x.f.wt x.f.le (svS r)) (k:=(svA x).toNat) (i:=i) (by omega) with e|⟨e1,e2,e3⟩
      · rw [e];exact hf
      · have:i - (svA x).toNat=8:=by omega
        rw [e3,this,ta 8 (by omega)]
        exact z2
    exact ⟨one 8 (.inl rfl) f0,one 32 (.inr rfl) f1⟩
  · exact ⟨f0,f1⟩
theorem Sfe.cyE {x:PS} (h:Sfe x) (hI:Inv 48 x) {i:Inp} (hd:i.d=zS):Sfe (Hr.cyE x i)∧(cyD x i).q.t=0:=by
  have hF:stF x.e i.d=[]:=by
    unfold stF
    rw [h.e,hd]
    kernel_rfl
  have eh:(cyH x i).hw=(wdL 48 (stF x.e i.d)).2:=by kernel_rfl
  have hw:(cyH x i).hw=false:=by
    rw [eh,hF]
    rfl
  have eq:(cyD x i).q.t=Se.cyT x.q.s x.q.l x.q.t x.q.w (cyH x i).c x.m.p (csF (cyB x i) (cyJ x i)) (x.q.t==1&&firY (csY (cyB x i) (cyJ x i) true)) (Se.armB (cyH x i).hw (cyH x i).w.s (cyH x i).w.w) (Se.safB (cyH x i).hw (cyH x i).w.s (cyH x i).w.w):=by kernel_rfl
  have hq:(cyD x i).q.t=0:=by
    rw [eq,hw,h.qt]
    unfold Se.cyT Se.wsT Se.armB
    rw [Bool.false_and,Bool.and_false]
    cases x.q.l<;>rfl
  have es:(svRr (cyD x i)).s=(cyD x i).q.t:=by kernel_rfl
  have hs:(svRr (cyD x i)).s=0:=es.trans hq
  have eF:(cyD x i).f=x.f:=by kernel_rfl
  have eL:(cyD x i).la=x.la:=by kernel_rfl
  have e1:(Hr.cyE x i).base=x.base:=by kernel_rfl
  have e2:(Hr.cyE x i).q.t=(cyD x i).q.t:=by kernel_rfl
  have e3:(Hr.cyE x i).la.r.s=La.svI (svO (cyD x i) (svRr (cyD x i))) (svRr (cyD x i)).s x.la.r.s:=by kernel_rfl
  have e4:(Hr.cyE x i).la.b=x.la.b:=by kernel_rfl
  have e5:(Hr.cyE x i).la.x=La.svI (svO (cyD x i) (svRr (cyD x i))) ((wI (x.la.x+1)).tmod 2) x.la.x:=by kernel_rfl
  have e6:(Hr.cyE x i).e.w=sR (x.e.w++i.d):=by kernel_rfl
  have e7:(Hr.cyE x i).f.F=(svFl (cyD x i) (svRr (cyD x i))).F:=by kernel_rfl
  obtain ⟨y0,y1⟩:=sv_flash (x:=cyD x i) (r:=svRr (cyD x i)) hs (by rw [eF];exact hI.fr.2) (by rw [eF];exact hI.le) (by rw [eL];exact h.lb) (by rw [eL];exact h.lx) (by rw [eF];exact h.f0) (by rw [eF];exact h.f1)
  refine ⟨⟨by rw [e1];exact h.ba,by rw [e2];exact hq,?_,by rw [e4];exact h.lb,?_,?_,by rw [e7];exact y0,by rw [e7];exact y1⟩,hq⟩
  · rw [e3,hs,h.lr]
    unfold La.svI
    cases svO (cyD x i) (svRr (cyD x i))<;>rfl
  · rw [e5]
    unfold La.svI
    cases svO (cyD x i) (svRr (cyD x i))
    · exact h.lx
    · rcases h.lx with e|e<;>rw [e]
      · exact .inr rfl
      · exact .inl rfl
  · rw [e6,h.e,hd]
    kernel_rfl
theorem Sfe.upd {x:PS} (h:Sfe x) (u:Bool) (l:Int):Sfe { x with up:=u,lf:=l }:=⟨h.ba,h.qt,h.lr,h.lb,h.lx,h.e,h.f0,h.f1⟩
theorem Sfe.rs {x:PS} (h:Sfe x):Sfe (rsP x):=h.upd _ _
theorem Sfe.te {x:PS} (h:Sfe x) (k:Int):Sfe (teP x k):=⟨h.ba,h.qt,h.lr,h.lb,h.lx,h.e,h.f0,h.f1⟩
theorem Sfe.bt {x:PS} (h:Sfe x):Sfe (btP x):=by
  have e0:(btP x).la.r.s=La.opI (La.sl0 (txt x.f.F) x.base) (La.sl1 (txt x.f.F) x.base) La.uS:=by kernel_rfl
  have hr:(btP x).la.r.s=0:=by
    rw [e0,h.ba]
    exact op_u (by rw [sl0_at];exact h.f0) (by rw [sl1_at];exact h.f1)
  have e1:(btP x).q.t=bif Se.setB (!(btF x.img x.port==0)) (btP x).la.r.s then (btP x).la.r.s else 0:=by kernel_rfl
  have e2:(btP x).la.b=x.base:=by kernel_rfl
  have e3:(btP x).la.x=La.opN (La.sl0 (txt x.f.F) x.base) (La.sl1 (txt x.f.F) x.base):=by kernel_rfl
  have e4:(btP x).e.w=zS:=by kernel_rfl
  refine ⟨by rw [btP_base];exact h.ba,?_,hr,by rw [e2];exact h.ba,by rw [e3];exact opN_in _ _,e4,by rw [btP_F];exact h.f0,by rw [btP_F];exact h.f1⟩
  rw [e1,hr]
  cases Se.setB (!(btF x.img x.port==0)) 0<;>rfl
theorem Sfe.cyF {x:PS} (h:Sfe x) (hI:Inv 48 x) {i:Inp} (hd:i.d=zS):Sfe (Hr.cyF x i)∧(cyR x i).s=0:=by
  obtain ⟨h1,h2⟩:=h.cyE hI hd
  unfold Hr.cyF Hr.cyN cyS cyR
  cases hb:bts x
  · cases hu:x.up
    · exact ⟨h.upd _ _,rfl⟩
    · have e:(teO (Hr.cyE x i) (cyJ x i) (cyW x i)).s=(cyD x i).q.t:=by kernel_rfl
      cases hx:(cyX x i != 0)
      · exact ⟨h1,e.trans h2⟩
      · exact ⟨h1.upd _ _,rfl⟩
  · cases hu:x.up
    · exact ⟨h.bt,rfl⟩
    · unfold bts at hb;rw [hu] at hb;cases hb
end Go.Proofs.YtagaiddomhpdmaaGreat.Hr
namespace Go.Proofs.YtagaiddomhpdmaaGreat.Hr
open Go Go.Proofs Go.Sx Pe
structure O6 where (a b c d e f:Int)
structure Op5 where (d0 d1 d2:Int) (p q:O6) (m0 m1:Int) (s0 s1:ByteArray) (g0 g1 k0 k1:Int) (r0 r1:Bool) (t0 t1:Int)
def i8 (x:Int):Value:=.int .i8 x
def opV5 (o:Op5):Value:=.agg #[i8 o.d0,i8 o.d1,i8 o.d2,i8 o.p.a,i8 o.p.b,i8 o.p.c,i8 o.p.d,i8 o.p.e,i8 o.p.f,i8 o.q.a,i8 o.q.b,i8 o.q.c,i8 o.q.d,i8 o.q.e,i8 o.q.f,I o.m0,I o.m1,S o.s0,S o.s1,I o.g0,I o.g1,I o.k0,I o.k1,Bo o.r0,Bo o.r1,I o.t0,I o.t1]
noncomputable def Γfi:Orc:={ addRd 72 gFb2 (addRd 69 gTd (addVal 73 gCt ΓO)) with av:=true,bs:=true,sb:=true }
theorem Okfi:Γfi.Ok Tryz.prog:=⟨(addRd_ok (addRd_ok (addVal_ok OkO gCt_ok) gTd_ok) gFb2_ok).call,(addRd_ok (addRd_ok (addVal_ok OkO gCt_ok) gTd_ok) gFb2_ok).rd,(addRd_ok (addRd_ok (addVal_ok OkO gCt_ok) gTd_ok) gFb2_ok).eqv⟩
def an4 (b:Int):Int:=wI ((BitVec.ofInt 64 b &&& BitVec.ofInt 64 4).toNat:Int)
def an1 (b:Int):Int:=wI ((BitVec.ofInt 64 b &&& BitVec.ofInt 64 1).toNat:Int)
def sh3 (b:Int):Int:=b.fdiv 8
def fiA (n:Nv) (o:Op5):ByteArray:=tdT 0 n o.p.a o.p.b o.p.c o.p.d o.p.e o.p.f
def fiB (n:Nv) (o:Op5):ByteArray:=tdT 1 n o.q.a o.q.b o.q.c o.q.d o.q.e o.q.f
def fbW (n:Nv) (m:Int) (s:ByteArray):ByteArray:=fbT (an1 m) n (sh3 m) s
def pt0 (n:Nv) (A:ByteArray) (m:Int) (s:ByteArray):ByteArray:=bif an4 m != 0 then (bif an1 m==0 then fbW n m s else A) else A
def pt1 (n:Nv) (A:ByteArray) (m:Int) (s:ByteArray):ByteArray:=bif an4 m != 0 then (bif an1 m==0 then A else fbW n m s) else A
def inI5 (n:Nv) (o:Op5):Uin:=⟨pt0 n (fiA n o) o.m0 o.s0,pt1 n (fiB n o) o.m0 o.s0,pt0 n (fiA n o) o.m1 o.s1,pt1 n (fiB n o) o.m1 o.s1,ctT o.g0,ctT o.g1,o.k0,o.k1,o.r0,o.r1,o.t0,o.t1⟩
def v8 (x:Int):SA:=.v (.int .i8 x)
def cO5 (o:Op5):List SA:=v8 o.d0::v8 o.d1::v8 o.d2::v8 o.p.a::v8 o.p.b::v8 o.p.c::v8 o.p.d::v8 o.p.e::v8 o.p.f::v8 o.q.a::v8 o.q.b::v8 o.q.c::v8 o.q.d::v8 o.q.e::v8 o.q.f::[.v (I o.m0),.v (I o.m1),.v (S o.s0),.v (S o.s1),.v (I o.g0),.v (I o.g1),.v (I o.k0),.v (I o.k1),.v (Bo o.r0),.v (Bo o.r1),.v (I o.t0),.v (I o.t1)]
def u6 (b:List SA):Option (O6×List SA):=match b with
  | .v (.int .i8 a)::.v (.int .i8 b)::.v (.int .i8 c)::.v (.int .i8 d)::.v (.int .i8 e)::.v (.int .i8 f)::r=>some (⟨a,b,c,d,e,f⟩,r)
  | _=>none
theorem u6_eq {b r:List SA} {x:O6} (h:u6 b=some (x,r)):b=v8 x.a::v8 x.b::v8 x.c::v8 x.d::v8 x.e::v8 x.f::r:=by
  unfold u6 at h
  split at h
  · injection h with h
    injection h with h1 h2
    subst h1 h2
    rfl
  · cases h
def uO5 (b:List SA):Option Op5:=match b with
  | .v (.int .i8 d0)::.v (.int .i8 d1)::.v (.int .i8 d2)::r=>match u6 r with
    | some (p,r)=>match u6 r with
      | some (q,[.v (.int .i64 m0),.v (.int .i64 m1),.v (.string s0),.v (.string s1),.v (.int .i64 g0),.v (.int .i64 g1),.v (.int .i64 k0),.v (.int .i64 k1),.v (.bool r0),.v (.bool r1),.v (.int .i64 t0),.v (.int .i64 t1)])=>some ⟨d0,d1,d2,p,q,m0,m1,s0,s1,g0,g1,k0,k1,r0,r1,t0,t1⟩
      | _=>none
    | none=>none
  | _=>none
theorem uO5_eq {b:List SA} {o:Op5} (h:uO5 b=some o):b=cO5 o:=by
  unfold uO5 at h
  split at h
  case h_2=>cases h
  split at h
  case h_2=>cases h
  rename_i p r1 h1
  split at h
  case h_2=>cases h
  rename_i q m0 m1 s0 s1 g0 g1 k0 k1 r0 r1 t0 t1 h2
  injection h with h
  subst h
  rw [u6_eq h1,u6_eq h2]
  rfl
def cUi (u:Uin):List SA:=[.v (S u.a0),.v (S u.a1),.v (S u.b0),.v (S u.b1),.v (S u.g0),.v (S u.g1),.v (I u.k0),.v (I u.k1),.v (Bo u.r0),.v (Bo u.r1),.v (I u.t0),.v (I u.t1)]
def zUi:Uin:=⟨⟨#[]⟩,⟨#[]⟩,⟨#[]⟩,⟨#[]⟩,⟨#[]⟩,⟨#[]⟩,0,0,false,false,0,0⟩
noncomputable def bdIn:Code:=loopAt (Tryz.f34.body.getD .skip) 0
def kIn:List Bool:=maskOf 75 [0,3,4,5,15]
def xIn (e:Ex):List Bool:=match e with
  | .exit _=>maskOf 75 [4,5]
  | .ret=>maskOf 75 [4]
  | .normal=>maskOf 75 [0,3,4,5,15]
def KIn (e:Ex) (st:St):Option (Ex×St):=some (e,cutC 1 1 (xIn e) st)
def mIn (x:Fl) (o:Op5):Mem:=⟨[cFi 0 x,cO5 o,cUi zUi,cUi { zUi with k0:=o.k0,k1:=o.k1,r0:=o.r0,r1:=o.r1,t0:=o.t0,t1:=o.t1 }],tt 4,[rPh x.L]⟩
def mOut (x:Fl) (u:Uin):Mem:=⟨[cFi 0 x,cUi zUi,cUi u],tt 3,[rPh x.L]⟩
def inL (x:Fl) (o:Op5) (a0 a1 b0 b1:ByteArray):Option (Ex×St):=some (.exit 0,mk (xIn (.exit 0)) [.ptr 1 0,.ptr 2 0] (mOut (wE x) ⟨a0,a1,b0,b1,ctT o.g0,ctT o.g1,o.k0,o.k1,o.r0,o.r1,o.t0,o.t1⟩))
def inT1 (x:Fl) (o:Op5) (a0 a1:ByteArray):Option (Ex×St):=bif an4 o.m1 != 0 then (bif an1 o.m1==0 then inL x o a0 a1 (fbW x.n o.m1 o.s1) (fiB x.n o) else (bif an1 o.m1==1 then inL x o a0 a1 (fiA x.n o) (fbW x.n o.m1 o.s1) else none)) else inL x o a0 a1 (fiA x.n o) (fiB x.n o)
theorem stepIn (x:Fl) (o:Op5):evLoop Γfi Tryz.prog (loopX Γfi Tryz.prog 8 1) (cutC 1 1 kIn) bdIn 3 (mk kIn [.ptr 0 0,.ptr 1 0,.ptr 2 0,.ptr 3 0,.v (I 0)] (mIn (wE x) o)) KIn=(bif an4 o.m0 != 0 then (bif an1 o.m0==0 then inT1 x o (fbW x.n o.m0 o.s0) (fiB x.n o) else (bif an1 o.m0==1 then inT1 x o (fiA x.n o) (fbW x.n o.m0 o.s0) else none)) else inT1 x o (fiA x.n o) (fiB x.n o)):=by kernel_rfl
theorem mask_in (n m:Int) (h0:0≤m) (h1:m<9223372036854775808):0≤wI ((BitVec.ofInt 64 n &&& BitVec.ofInt 64 m).toNat:Int)∧wI ((BitVec.ofInt 64 n &&& BitVec.ofInt 64 m).toNat:Int)≤m:=by
  obtain ⟨k,rfl⟩:=Int.eq_ofNat_of_zero_le h0
  have e:(BitVec.ofInt 64 n &&& BitVec.ofInt 64 (k:Int)).toNat≤k:=by
    rw [BitVec.toNat_and,BitVec.ofInt_natCast,BitVec.toNat_ofNat,Nat.mod_eq_of_lt (a:=k) (by omega)]
    exact Nat.and_le_right
  rw [wI_id (by omega)]
  omega
theorem an1_in (b:Int):an1 b=0∨an1 b=1:=by
  have:=mask_in b 1 (by decide) (by decide)
  unfold an1
  omega
theorem in1_is (x:Fl) (o:Op5) (a0 a1:ByteArray):inT1 x o a0 a1=inL x o a0 a1 (pt0 x.n (fiA x.n o) o.m1 o.s1) (pt1 x.n (fiB x.n o) o.m1 o.s1):=by
  unfold inT1 pt0 pt1
  cases an4 o.m1 != 0
  · rfl
  · rcases an1_in o.m1 with h|h<;>rw [h]<;>rfl
theorem stepIn' (x:Fl) (o:Op5):evLoop Γfi Tryz.prog (loopX Γfi Tryz.prog 8 1) (cutC 1 1 kIn) bdIn 3 (mk kIn [.ptr 0 0,.ptr 1 0,.ptr 2 0,.ptr 3 0,.v (I 0)] (mIn (wE x) o)) KIn=some (.exit 0,mk (xIn (.exit 0)) [.ptr 1 0,.ptr 2 0] (mOut (wE x) (inI5 x.n o))):=by
  refine (stepIn x o).trans ?_
  rw [in1_is,in1_is,in1_is]
  unfold inI5 pt0 pt1
  cases an4 o.m0 != 0
  · rfl
  · rcases an1_in o.m0 with h|h<;>rw [h]<;>rfl
def uUz (b:List SA):Option Uin:=match b with
  | .v (.string a0)::.v (.string a1)::.v (.string b0)::.v (.string b1)::.v (.string g0)::.v (.string g1)::r=>match r with
    | [.v (.int .i64 k0),.v (.int .i64 k1),.v (.bool r0),.v (.bool r1),.v (.int .i64 t0),.v (.int .i64 t1)]=>some ⟨a0,a1,b0,b1,g0,g1,k0,k1,r0,r1,t0,t1⟩
    | _=>none
  | _=>none
theorem uUz_eq {b:List SA} {u:Uin} (h:uUz b=some u):b=cUi u:=by
  unfold uUz at h
  split at h
  · split at h
    · injection h with h
      subst h
      rfl
    · cases h
  · cases h
def isZu (u:Uin):Bool:=Nat.beq u.a0.size 0&&(Nat.beq u.a1.size 0&&(Nat.beq u.b0.size 0&&(Nat.beq u.b1.size 0&&(Nat.beq u.g0.size 0&&Nat.beq u.g1.size 0))))
def isZw (u:Uin):Bool:=isZu u&&(u.k0==0&&(u.k1==0&&(!u.r0&&(!u.r1&&(u.t0==0&&u.t1==0)))))
def isZo (u:Uin) (o:Op5):Bool:=isZu u&&(u.k0==o.k0&&(u.k1==o.k1&&(u.r0==o.r0&&(u.r1==o.r1&&(u.t0==o.t0&&u.t1==o.t1)))))
theorem zB0 {s:ByteArray} (h:Nat.beq s.size 0=true):s=⟨#[]⟩:=by
  rw [← L_inj]
  exact List.eq_nil_of_length_eq_zero (by rw [L_len];exact Nat.eq_of_beq_eq_true h)
theorem isZu_eq {u:Uin} (h:isZu u=true):u={ zUi with k0:=u.k0,k1:=u.k1,r0:=u.r0,r1:=u.r1,t0:=u.t0,t1:=u.t1 }:=by
  unfold isZu at h
  simp only [Bool.and_eq_true] at h
  obtain ⟨h1,h2,h3,h4,h5,h6⟩:=h
  rcases u with ⟨a0,a1,b0,b1,g0,g1,k0,k1,r0,r1,t0,t1⟩
  obtain rfl:=zB0 h1
  obtain rfl:=zB0 h2
  obtain rfl:=zB0 h3
  obtain rfl:=zB0 h4
  obtain rfl:=zB0 h5
  obtain rfl:=zB0 h6
  rfl
def uIn (m:Mem):Option (Fl×Op5×Uin×Uin):=match m with
  | ⟨[b0,b1,b2,b3],lv,[r]⟩=>match isTT 4 lv,zPh r,uFi 0 b0,uO5 b1,uUz b2,uUz b3 with
    | true,some L,some (R,n),some o,some u,some w=>some (⟨L,R,n⟩,o,u,w)
    | _,_,_,_,_,_=>none
  | _=>none
theorem uIn_eq {m:Mem} {x:Fl} {o:Op5} {u w:Uin} (h:uIn m=some (x,o,u,w)):m=⟨[cFi 0 x,cO5 o,cUi u,cUi w],tt 4,[rPh x.L]⟩:=by
  unfold uIn at h
  split at h
  case h_2=>cases h
  split at h
  case h_2=>cases h
  rename_i h1 h2 h3 h4 h5 h6
  injection h with h
  injection h with e1 h
  injection h with e2 h
  injection h with e3 e4
  subst e1 e2 e3 e4
  rw [isTT_eq h1,zPh_eq h2,uFi_eq h3,uO5_eq h4,uUz_eq h5,uUz_eq h6]
  rfl
def GIn (vals:List SV) (m:Mem):Option (Bool×LT) :=
  match vals,uIn m with
  | [.ptr 0 0,.ptr 1 0,.ptr 2 0,.ptr 3 0,.v (.int .i64 i)],some (x,o,u,w)=>some (i==0&&(okFl x&&(isZw u&&isZo w o)),.leaf (.exit 0) (mk (xIn (.exit 0)) [.ptr 1 0,.ptr 2 0] (mOut x (inI5 x.n o))))
  | _,_=>none
noncomputable def ΛIn:LoopOrc:=fun _ st=>viaT 1 1 kIn GIn st
theorem loopOkIn (z:Base) (z1:z.L.length=1) (z2:z.U.length=1):LoopOk ΛIn Tryz.prog z bdIn:=by
  refine loop_okT (Λ:=loopX Γfi Tryz.prog 8 1) (kx:=xIn) Okfi mixed z1 z2 (fun b _=>loopX_ok Okfi mixed 8 1 b) (G:=GIn) (fun _=>rfl) ?_
  intro vals m t h
  unfold GIn at h
  split at h
  case h_2=>cases h
  rename_i i x o u w hm
  obtain ⟨h1,rfl⟩:=some_t h
  simp only [Bool.and_eq_true,beq_iff_eq] at h1
  obtain ⟨rfl,hx,hu,hw⟩:=h1
  rw [uIn_eq hm]
  have e:=stepIn' x o
  rw [wE_is hx] at e
  unfold isZw at hu
  unfold isZo at hw
  simp only [Bool.and_eq_true,beq_iff_eq,Bool.not_eq_true'] at hu hw
  obtain ⟨u0,u1,u2,u3,u4,u5,u6⟩:=hu
  obtain ⟨w0,w1,w2,w3,w4,w5,w6⟩:=hw
  have eu:u=zUi:=by
    rw [isZu_eq u0,u1,u2,u3,u4,u5,u6]
    rfl
  have ew:w={ zUi with k0:=o.k0,k1:=o.k1,r0:=o.r0,r1:=o.r1,t0:=o.t0,t1:=o.t1 }:=by
    rw [isZu_eq w0,w1,w2,w3,w4,w5,w6]
  rw [eu,ew]
  exact ⟨3,e⟩
theorem loopsIn:loopsOf (Tryz.f34.body.getD .skip)=[bdIn]:=by kernel_rfl
theorem runFi (x:Fl) (o:Op5):runG Γfi ΛIn Tryz.prog Tryz.f34 [.ptr 0 0,.v (opV5 o)] (fM x)=(bif okFl x&&(o.k0==o.k0&&(o.k1==o.k1&&(o.r0==o.r0&&(o.r1==o.r1&&(o.t0==o.t0&&o.t1==o.t1))))) then some (.v (uiV (inI5 x.n o)),fM x) else none):=by kernel_rfl
def uOv (v:Value):Option Op5:=match v with
  | .agg ⟨l⟩=>uO5 (l.map .v)
  | _=>none
theorem map_v:∀ {l l':List Value},l.map SA.v=l'.map SA.v→l=l'
  | [],[],_=>rfl
  | a::l,b::l',h=>by
    injection h with h1 h2
    injection h1 with h1
    rw [h1,map_v h2]
  | [],_::_,h=>by cases h
  | _::_,[],h=>by cases h
theorem uOv_eq {v:Value} {o:Op5} (h:uOv v=some o):v=opV5 o:=by
  unfold uOv at h
  split at h
  · rename_i l
    have:=uO5_eq h
    have e:l=(opV5 o).cells.toList:=map_v (this.trans rfl)
    rw [e]
    rfl
  · cases h
def gFi (xs:List SV) (m:Mem):Option (Bool×Value) :=
  match xs,uF0 m with
  | [.ptr 0 0,.v v],some x=>match uOv v with
    | some o=>some (okFl x,uiV (inI5 x.n o))
    | none=>none
  | _,_=>none
theorem gFi_ok:CtR 34 gFi:=by
  intro xs m r h
  unfold gFi at h
  split at h
  case h_2=>cases h
  rename_i v x hx
  split at h
  case h_2=>cases h
  rename_i o ho
  obtain ⟨h1,rfl⟩:=some_t h
  rw [uF0_eq hx,uOv_eq ho]
  refine runOk (Λ:=ΛIn) Okfi Tryz.func34 rfl (fun z z1 z2=>oneLoop loopsIn (loopOkIn z z1 z2)) ((runFi x o).trans ?_)
  rw [h1]
  simp only [beq_self_eq_true,Bool.and_self,cond_true]
end Go.Proofs.YtagaiddomhpdmaaGreat.Hr
namespace Go.Proofs.YtagaiddomhpdmaaGreat.Hr
open Go Go.Proofs Go.Sx Nw Pe So
def tl:Nat→List Dat→List Dat
  | 0,l=>l
  | n+1,l=>tl n l.tail
def gI (n:Nat) (l:List Dat):Int:=((tl n l).headD (.n 0)).toI
def gS (n:Nat) (l:List Dat):ByteArray:=((tl n l).headD (.n 0)).toS
def gB (n:Nat) (l:List Dat):Bool:=((tl n l).headD (.n 0)).toB
def opOf (l:List Dat):Op5:=⟨gI 0 l,gI 1 l,gI 2 l,⟨gI 3 l,gI 4 l,gI 5 l,gI 6 l,gI 7 l,gI 8 l⟩,⟨gI 9 l,gI 10 l,gI 11 l,gI 12 l,gI 13 l,gI 14 l⟩,gI 15 l,gI 16 l,gS 17 l,gS 18 l,gI 19 l,gI 20 l,gI 21 l,gI 22 l,gB 23 l,gB 24 l,gI 25 l,gI 26 l⟩
def kUp5:List CK:=[.num .i8,.num .i8,.num .i8,.num .i8,.num .i8,.num .i8,.num .i8,.num .i8,.num .i8,.num .i8,.num .i8,.num .i8,.num .i8,.num .i8,.num .i8,.num .i64,.num .i64,.str,.str,.num .i64,.num .i64,.num .i64,.num .i64,.bool,.bool,.num .i64,.num .i64]
abbrev rU5 (L:List (List Dat)) (ow mr:Bool):RowS:=.live ⟨80,kUp5,L,ow,mr⟩
noncomputable def Γul0:Orc:=addAlt 33 aUC (addCl 33 gUC (addRd 34 gFi (addCl 32 gGo1 (addRd 35 gUw (addRd 36 gUf ΓO)))))
theorem Okul0:Γul0.Ok Tryz.prog:=addAlt_ok (addCl_ok (addRd_ok (addCl_ok (addRd_ok (addRd_ok OkO gUf_ok) gUw_ok) gGo1_ok) gFi_ok) gUC_ok) aUC_ok
noncomputable def Γul:Orc:={ Γul0 with av:=true,bs:=true,sb:=true }
theorem Okul:Γul.Ok Tryz.prog:=⟨Okul0.call,Okul0.rd,Okul0.eqv⟩
def mSl (s:US) (x:Fl) (r:RowS):Mem:=⟨cU 1 s::cFi 1 x::ubk 1 2 s.x s.y,tt 48,r::rPh x.L::urw s.x s.y⟩
noncomputable def bdUs:Code:=loopAt (Tryz.f8.body.getD .skip) 0
def kUs:List Bool:=maskOf 56 [5,6,24,25,26]
def xUs (e:Ex):List Bool:=match e with
  | .exit _=>maskOf 56 []
  | .ret=>maskOf 56 [4]
  | .normal=>maskOf 56 [5,6,24,25,26]
def KUs (e:Ex) (st:St):Option (Ex×St):=some (e,cutC 0 1 (xUs e) st)
def goF (x:Fl) (o:Op5):Fl:={ x with n:=goN x.n o.d0 o.d1 o.d2 }
def lost (o:Op5):Op5:={ o with k0:=1,k1:=1 }
def uiS (x:Fl) (o:Op5):Uin:=inI5 (goF x o).n (lost o)
noncomputable def EUs (n:Nat) (nn i:Int) (s:US) (x:Fl) (L:List (List Dat)) (ow mr:Bool):Option (Ex×St):=evLoop Γul Tryz.prog L0 (cutC 0 1 kUs) bdUs n (mk kUs [.ptr 0 0,.ptr 1 0,.row 0,.v (I nn),.v (I i)] (mSl s x (rU5 L ow mr))) KUs
def retUs (L:List (List Dat)) (ow mr:Bool):Option (Ex×St):=some (.ret,mk (xUs .ret) [.v (Bo false)] ⟨[],[],[rU5 L ow mr]⟩)
noncomputable def chUs (n:Nat) (nn i:Int) (x:Fl) (L:List (List Dat)) (ow mr:Bool) (o p:Ot) (s:US):Option (Ex×St):=bif o.s != 0 then retUs L ow mr else (bif p.s != 0 then retUs L ow mr else (bif decide (s.wh>0) then retUs L ow mr else EUs n nn (wI (i+1)) s x L ow mr))
noncomputable def rdK (n:Nat) (nn i:Int) (s:US) (x:Fl) (X Y:PS) (a b:Inp) (L:List (List Dat)) (ow mr:Bool):Option (Ex×St) :=
  bif bts X&&bts Y then (bif grB s.l1 X&&grB s.l0 Y then chUs n nn i x L ow mr o0 o0 (nxS s o0 o0 (btP X) (btP Y)) else none)
  else (bif bts X then (bif grB s.l1 X&&grA s.l0 Y b then chUs n nn i x L ow mr o0 (cyR Y b) (nxS s o0 (cyR Y b) (btP X) (cyN Y b)) else none)
  else (bif bts Y then (bif grA s.l1 X a&&grB s.l0 Y then chUs n nn i x L ow mr (cyR X a) o0 (nxS s (cyR X a) o0 (cyN X a) (btP Y)) else none)
  else (bif grA s.l1 X a&&grA s.l0 Y b then chUs n nn i x L ow mr (cyR X a) (cyR Y b) (nxS s (cyR X a) (cyR Y b) (cyN X a) (cyN Y b)) else none)))
noncomputable def rdUs (n:Nat) (nn i:Int) (s:US) (x:Fl) (u:Uin) (L:List (List Dat)) (ow mr:Bool):Option (Ex×St):=rdK n nn i s x (ucX s u) (ucY s u) (in0' s u) (in1' s u) L ow mr
theorem stepUs (n:Nat) (nn i:Int) (s:US) (x:Fl) (L:List (List Dat)) (ow mr:Bool):EUs (n+1) nn i s (wE x) L ow mr=(bif decide (i<nn) then (bif decide (0≤i)&&decide (i<(L.length:Int)) then rdUs n nn i s (wE (goF x (opOf (L.getD i.toNat [])))) (uiS x (opOf (L.getD i.toNat []))) L ow mr else none) else some (.exit 0,mk (xUs (.exit 0)) [] ⟨[],[],[rU5 L ow mr]⟩)):=by kernel_rfl
end Go.Proofs.YtagaiddomhpdmaaGreat.Hr
namespace Go.Proofs.YtagaiddomhpdmaaGreat.Hr
open Go Go.Proofs Go.Sx Nw Pe So
theorem fdT_size (k:Int) (p:ByteArray):(fdT k p).size≤70:=by
  unfold fdT
  cases p.toList==(⟨#[]⟩:ByteArray).toList
  · exact printB_size k p
  · exact Nat.zero_le _
theorem cyR_l (x:PS) (i:Inp):(cyR x i).l.size≤70:=by
  unfold cyR
  cases x.up
  · exact Nat.zero_le _
  · cases cyX x i != 0
    · exact fdT_size _ _
    · exact Nat.zero_le _
theorem cyR_fi {x:PS} (h:Sfe x) (hI:Inv 48 x) {i:Inp} (hd:i.d=zS):(cyR x i).fi=false:=by
  obtain ⟨h1,h2⟩:=h.cyE hI hd
  have e:(teO (Hr.cyE x i) (cyJ x i) (cyW x i)).fi=((cyD x i).q.t==2):=by kernel_rfl
  unfold cyR
  cases x.up
  · rfl
  · cases cyX x i != 0
    · refine Eq.trans (b:=(teO (Hr.cyE x i) (cyJ x i) (cyW x i)).fi) rfl ?_
      rw [e,h2]
      rfl
    · rfl
theorem cdT_lost (w:ByteArray):cdT w 1=zS:=by
  unfold cdT
  cases e:(w.toList==(⟨#[]⟩:ByteArray).toList)
  · rfl
  · rw [beq_TS,beq_S] at e
    exact e
structure Pu (x:PS):Prop where
  i:Inv 48 x
  s:Sfe x
theorem Pu.uc {x:PS} (h:Pu x) (r:Bool) (t:Int):Pu (ucB (ucA x r) t):=by
  have ha:Pu (ucA x r):=by
    unfold ucA
    cases r
    · exact h
    · exact ⟨h.i.rs,h.s.rs⟩
  unfold ucB
  cases decide (t>0)&&(ucA x r).up
  · exact ha
  · exact ⟨ha.i.te _,ha.s.te _⟩
theorem Pu.b {x:PS} (h:Pu x) {l:ByteArray} (hl:l.size≤100) (hb:bts x=true):grB l x=true∧Pu (btP x):=by
  refine ⟨?_,h.i.bt',h.s.bt⟩
  unfold grB
  rw [Nat.ble_eq_true_of_le (show l.size≤1000000 by omega),hb,h.i.okB hb]
  rfl
theorem Pu.n {x:PS} (h:Pu x) {l:ByteArray} (hl:l.size≤100) {i:Inp} (hi:okIn i=true) (hd:i.d=zS) (hb:bts x=false):grA l x i=true∧Pu (cyN x i)∧(cyR x i).s=0∧(cyR x i).fi=false:=by
  have hs:=h.s.cyF h.i hd
  unfold cyF at hs
  rw [hb] at hs
  refine ⟨?_,⟨h.i.cyN hb,hs.1⟩,hs.2,cyR_fi h.s h.i hd⟩
  unfold grA
  rw [Nat.ble_eq_true_of_le (show l.size≤1000000 by omega),hb,h.i.okN hi hb]
  rfl
structure IU (s:US):Prop where
  x:Pu s.x
  y:Pu s.y
  l0:s.l0.size≤100
  l1:s.l1.size≤100
  wh:s.wh=0
def okO (o:Op5):Prop:=o.s0.size≤300∧o.s1.size≤300
theorem bsz {b:Bool} {x y:ByteArray} {k:Nat} (hx:x.size≤k) (hy:y.size≤k):(bif b then x else y).size≤k:=by
 cases b
 · exact hy
 · exact hx
theorem pt0_size (n:Nv) (A:ByteArray) (m:Int) (s:ByteArray) (hA:A.size≤70):(pt0 n A m s).size≤s.size+70:=bsz (bsz (fbT_size _ _ _ _) (by omega)) (by omega)
theorem pt1_size (n:Nv) (A:ByteArray) (m:Int) (s:ByteArray) (hA:A.size≤70):(pt1 n A m s).size≤s.size+70:=bsz (bsz (by omega) (fbT_size _ _ _ _)) (by omega)
theorem okI_mk {i:Inp} (a:i.a.size≤900000) (b:i.b.size≤900000) (c:i.c.size≤900000) (d:i.d.size≤900000):okIn i=true:=by
  unfold okIn
  rw [Nat.ble_eq_true_of_le a,Nat.ble_eq_true_of_le b,Nat.ble_eq_true_of_le c,Nat.ble_eq_true_of_le d]
  rfl
theorem inx_ok {n:Nv} {o:Op5} {m g h:Int} {s l:ByteArray} (hs:s.size≤300) (hl:l.size≤100):okIn ⟨pt0 n (fiA n o) m s,pt1 n (fiB n o) m s,ctT g,cdT l h⟩=true:=by
  have h1:=pt0_size n (fiA n o) m s (tdT_size _ _ _ _ _ _ _ _)
  have h2:=pt1_size n (fiB n o) m s (tdT_size _ _ _ _ _ _ _ _)
  have h3:=ctT_size g
  have h4:=cdT_size l h
  exact okI_mk (by show (pt0 _ _ _ _).size≤_;omega) (by show (pt1 _ _ _ _).size≤_;omega) (by show (ctT _).size≤_;omega) (by show (cdT _ _).size≤_;omega)
theorem in0_ok {s:US} {n:Nv} {o:Op5} (ho:okO o) (hl:s.l1.size≤100):okIn (in0' s (inI5 n o))=true:=inx_ok ho.1 hl
theorem in1_ok {s:US} {n:Nv} {o:Op5} (ho:okO o) (hl:s.l0.size≤100):okIn (in1' s (inI5 n o))=true:=inx_ok ho.2 hl
theorem IU.nx {s:US} (h:IU s) {o p:Ot} {x y:PS} (hx:Pu x) (hy:Pu y) (ho:o.l.size≤70) (hp:p.l.size≤70) (hf:o.fi=false):IU (nxS s o p x y):=by
  refine ⟨hx,hy,?_,?_,?_⟩
  · show o.l.size≤100
    omega
  · show p.l.size≤100
    omega
  · show (bif o.fi&&(p.fi&&!decide (s.wh>0)) then nwS s else s.wh)=0
    rw [hf]
    exact h.wh
theorem chUs_ok (n:Nat) (nn i:Int) (x:Fl) (L:List (List Dat)) (ow mr:Bool) {o p:Ot} {s:US} (ho:o.s=0) (hp:p.s=0) (hs:IU s):chUs n nn i x L ow mr o p s=EUs n nn (wI (i+1)) s x L ow mr:=by
  unfold chUs
  rw [ho,hp,hs.wh]
  rfl
theorem rdUs_ok (n:Nat) (nn i:Int) {s:US} (h:IU s) (x y:Fl) (o:Op5) (ho:okO o) (L:List (List Dat)) (ow mr:Bool):∃ s',IU s'∧rdUs n nn i s y (uiS x o) L ow mr=EUs n nn (wI (i+1)) s' y L ow mr:=by
  have X:Pu (ucX s (uiS x o)):=h.x.uc _ _
  have Y:Pu (ucY s (uiS x o)):=h.y.uc _ _
  have i0:okIn (in0' s (uiS x o))=true:=in0_ok (o:=lost o) ho h.l1
  have i1:okIn (in1' s (uiS x o))=true:=in1_ok (o:=lost o) ho h.l0
  have d0:(in0' s (uiS x o)).d=zS:=cdT_lost _
  have d1:(in1' s (uiS x o)).d=zS:=cdT_lost _
  have z0:o0.l.size≤70:=Nat.zero_le _
  unfold rdUs rdK
  cases hx:bts (ucX s (uiS x o))
  · obtain ⟨a1,a2,a3,a4⟩:=X.n h.l1 i0 d0 hx
    cases hy:bts (ucY s (uiS x o))
    · obtain ⟨b1,b2,b3,b4⟩:=Y.n h.l0 i1 d1 hy
      have hI:=h.nx (o:=cyR (ucX s (uiS x o)) (in0' s (uiS x o))) (p:=cyR (ucY s (uiS x o)) (in1' s (uiS x o))) a2 b2 (cyR_l _ _) (cyR_l _ _) a4
      refine ⟨_,hI,?_⟩
      rw [a1,b1]
      exact chUs_ok n nn i y L ow mr a3 b3 hI
    · obtain ⟨b1,b2⟩:=Y.b h.l0 hy
      have hI:=h.nx (o:=cyR (ucX s (uiS x o)) (in0' s (uiS x o))) (p:=o0) a2 b2 (cyR_l _ _) z0 a4
      refine ⟨_,hI,?_⟩
      rw [a1,b1]
      exact chUs_ok n nn i y L ow mr (p:=o0) a3 rfl hI
  · obtain ⟨a1,a2⟩:=X.b h.l1 hx
    cases hy:bts (ucY s (uiS x o))
    · obtain ⟨b1,b2,b3,b4⟩:=Y.n h.l0 i1 d1 hy
      have hI:=h.nx (o:=o0) (p:=cyR (ucY s (uiS x o)) (in1' s (uiS x o))) a2 b2 z0 (cyR_l _ _) rfl
      refine ⟨_,hI,?_⟩
      rw [a1,b1]
      exact chUs_ok n nn i y L ow mr (o:=o0) rfl b3 hI
    · obtain ⟨b1,b2⟩:=Y.b h.l0 hy
      have hI:=h.nx (o:=o0) (p:=o0) a2 b2 z0 z0 rfl
      refine ⟨_,hI,?_⟩
      rw [a1,b1]
      exact chUs_ok n nn i y L ow mr (o:=o0) (p:=o0) rfl rfl hI
def exUs (L:List (List Dat)) (ow mr:Bool):Ex×St:=(.exit 0,mk (xUs (.exit 0)) [] ⟨[],[],[rU5 L ow mr]⟩)
theorem loopUs (L:List (List Dat)) (ow mr:Bool) (hl:L.length≤1000000) (hO:∀ k,k<L.length→okO (opOf (L.getD k []))):∀ (m k:Nat) (s:US) (x:Fl),k+m=L.length→IU s→okFl x=true→EUs (m+1) (L.length:Int) (k:Int) s x L ow mr=some (exUs L ow mr):=by
  intro m
  induction m with
  | zero =>
    intro k s x hk hs hx
    have e:=stepUs 0 (L.length:Int) (k:Int) s x L ow mr
    rw [wE_is hx,decide_eq_false (show ¬ (k:Int)<(L.length:Int) by omega)] at e
    exact e
  | succ m ih =>
    intro k s x hk hs hx
    have e:=stepUs (m+1) (L.length:Int) (k:Int) s x L ow mr
    have hx':okFl (goF x (opOf (L.getD (k:Int).toNat [])))=true:=hx
    rw [wE_is hx,wE_is hx',decide_eq_true (show (k:Int)<(L.length:Int) by omega),decide_eq_true (show (0:Int)≤(k:Int) by omega)] at e
    obtain ⟨s',hs',e'⟩:=rdUs_ok (m+1) (L.length:Int) (k:Int) hs x (goF x (opOf (L.getD (k:Int).toNat []))) (opOf (L.getD (k:Int).toNat [])) (hO k (by omega)) L ow mr
    refine e.trans (Eq.trans e' ?_)
    rw [wI_id (n:=(k:Int)+1) (by omega)]
    exact ih (k+1) s' _ (by omega) hs' hx'
end Go.Proofs.YtagaiddomhpdmaaGreat.Hr
namespace Go.Proofs.YtagaiddomhpdmaaGreat
open Go Go.Proofs Go.Sx
def bigU (L:List (List Dat)) (i:Int):Bool:=decide (wI ((((L.getD i.toNat []).tail.tail.tail.tail.tail.tail.tail.tail.tail.tail.tail.tail.tail.tail.tail.tail.tail.headD (Dat.n (0:Int))).toS.size:Int)+(((L.getD i.toNat []).tail.tail.tail.tail.tail.tail.tail.tail.tail.tail.tail.tail.tail.tail.tail.tail.tail.tail.headD (Dat.n (0:Int))).toS.size:Int))>(300:Int))
def kUp:List CK:=[.num .i8,.num .i8,.num .i8,.num .i8,.num .i8,.num .i8,.num .i8,.num .i8,.num .i8,.num .i8,.num .i8,.num .i8,.num .i8,.num .i8,.num .i8,.num .i64,.num .i64,.str,.str,.num .i64,.num .i64,.num .i64,.num .i64,.bool,.bool,.num .i64,.num .i64]
abbrev rUp (L:List (List Dat)) (ow mr:Bool):RowS:=.live ⟨80,kUp,L,ow,mr⟩
noncomputable def bdFu:Code:=loopAt (Tryz.f28.body.getD .skip) 0
def kFu:List Bool:=maskOf 25 [0,5,6,7]
def xFu (e:Ex):List Bool:=match e with
  | .exit _=>maskOf 25 [0]
  | .ret=>maskOf 25 [2]
  | .normal=>maskOf 25 [0,5,6,7]
def KFu (e:Ex) (st:St):Option (Ex×St):=some (e,cutC 0 1 (xFu e) st)
theorem stepFu (i nn:Int) (L:List (List Dat)) (ow mr:Bool) (n:Nat):evLoop ΓP24 Tryz.prog L0 (cutC 0 1 kFu) bdFu (n+1) (mk kFu [.row 0,.row 0,.v (I nn),.v (I i)] ⟨[],[],[rUp L ow mr]⟩) KFu =
    (bif decide (i<nn) then (bif decide ((0:Int)≤i)&&decide (i<(L.length:Int)) then (bif (bigU L i) then some (.ret,mk (xFu .ret) [.v (Bo false)] ⟨[],[],[.live ⟨80,[.num .i8,.num .i8,.num .i8,.num .i8,.num .i8,.num .i8,.num .i8,.num .i8,.num .i8,.num .i8,.num .i8,.num .i8,.num .i8,.num .i8,.num .i8,.num .i64,.num .i64,.str,.str,.num .i64,.num .i64,.num .i64,.num .i64,.bool,.bool,.num .i64,.num .i64],L,ow,mr⟩]⟩) else evLoop ΓP24 Tryz.prog L0 (cutC 0 1 kFu) bdFu n (mk kFu [.row 0,.row 0,.v (I nn),.v (I (wI (i+(1:Int))))] ⟨[],[],[.live ⟨80,[.num .i8,.num .i8,.num .i8,.num .i8,.num .i8,.num .i8,.num .i8,.num .i8,.num .i8,.num .i8,.num .i8,.num .i8,.num .i8,.num .i8,.num .i8,.num .i64,.num .i64,.str,.str,.num .i64,.num .i64,.num .i64,.num .i64,.bool,.bool,.num .i64,.num .i64],L,ow,mr⟩]⟩) KFu) else none) else some ((.exit 0),mk (xFu (.exit 0)) [.row 0] ⟨[],[],[.live ⟨80,[.num .i8,.num .i8,.num .i8,.num .i8,.num .i8,.num .i8,.num .i8,.num .i8,.num .i8,.num .i8,.num .i8,.num .i8,.num .i8,.num .i8,.num .i8,.num .i64,.num .i64,.str,.str,.num .i64,.num .i64,.num .i64,.num .i64,.bool,.bool,.num .i64,.num .i64],L,ow,mr⟩]⟩)):=by kernel_rfl
noncomputable def EFu (n:Nat) (i:Int) (nn:Int) (L:List (List Dat)) (ow:Bool) (mr:Bool):Option (Ex×St) :=
  evLoop ΓP24 Tryz.prog L0 (cutC 0 1 kFu) bdFu n (mk kFu [.row 0,.row 0,.v (I nn),.v (I i)] ⟨[],[],[rUp L ow mr]⟩) KFu
def lfFu (L:List (List Dat)) (ow mr:Bool):LT:=.br (anyN (bigU L) L.length 0) (.leaf .ret (mk (xFu .ret) [.v (Bo false)] ⟨[],[],[rUp L ow mr]⟩)) (.leaf (.exit 0) (mk (xFu (.exit 0)) [.row 0] ⟨[],[],[rUp L ow mr]⟩))
theorem loopFu (L:List (List Dat)) (ow mr:Bool) (hl:L.length≤281474976710656):EFu (L.length+1) 0 (L.length:Int) L ow mr=some (lfFu L ow mr).pick:=by
  have h:=findLoop (bigU L) (L.length:Int) (fun n k=>EFu n k (L.length:Int) L ow mr) (some (.exit 0,mk (xFu (.exit 0)) [.row 0] ⟨[],[],[rUp L ow mr]⟩)) (some (.ret,mk (xFu .ret) [.v (Bo false)] ⟨[],[],[rUp L ow mr]⟩)) (fun n k hk=>?_) (fun n k hk=>?_) L.length 0 (by decide) (by omega)
  · refine h.trans ?_
    unfold lfFu
    cases anyN (bigU L) L.length 0<;>rfl
  · refine (stepFu k (L.length:Int) L ow mr n).trans ?_
    rw [decide_eq_false hk]
    rfl
  · refine (stepFu k (L.length:Int) L ow mr n).trans ?_
    rw [decide_eq_true hk.1,decide_eq_true hk.2,wI_id (n:=k+1) (by omega)]
    rfl
def GFu (vals:List SV) (m:Mem):Option (Bool×LT) :=
  match vals,m with
  | [.row 0,.row 0,.v (.int .i64 nn),.v (.int .i64 i)],⟨[],[],[.live ⟨80,[.num .i8,.num .i8,.num .i8,.num .i8,.num .i8,.num .i8,.num .i8,.num .i8,.num .i8,.num .i8,.num .i8,.num .i8,.num .i8,.num .i8,.num .i8,.num .i64,.num .i64,.str,.str,.num .i64,.num .i64,.num .i64,.num .i64,.bool,.bool,.num .i64,.num .i64],L,ow,mr⟩]⟩=>some (nn==(L.length:Int)&&(i==0&&Nat.ble L.length 281474976710656),lfFu L ow mr)
  | _,_=>none
noncomputable def ΛFu:LoopOrc:=fun _ st=>viaT 0 1 kFu GFu st
theorem loopOkFu (z:Base) (z1:z.L.length=0) (z2:z.U.length=1):LoopOk ΛFu Tryz.prog z bdFu:=by
  refine loop_okT (Λ:=L0) (kx:=xFu) OkP24 mixed z1 z2 (fun b hb st t h=>by cases h) (G:=GFu) (fun _=>rfl) ?_
  intro vals m t h
  unfold GFu at h
  split at h
  · rename_i nn i L ow mr
    obtain ⟨h1,rfl⟩:=some_t h
    simp only [Bool.and_eq_true,beq_iff_eq] at h1
    obtain ⟨rfl,rfl,hl⟩:=h1
    exact ⟨L.length+1,loopFu L ow mr (Nat.le_of_ble_eq_true hl)⟩
  · cases h
theorem loopsFu:loopsOf (Tryz.f28.body.getD .skip)=[bdFu]:=by kernel_rfl
def fewU (L:List (List Dat)):Bool:=bif anyN (bigU L) L.length 0 then false else decide ((L.length:Int)≤120)
theorem runFew25 (L:List (List Dat)) (ow mr:Bool):runG ΓP24 ΛFu Tryz.prog Tryz.f28 [.row 0] ⟨[],[],[rUp L ow mr]⟩=bif (L.length:Int)==(L.length:Int)&&Nat.ble L.length 281474976710656 then (bif anyN (bigU L) L.length 0 then some (.v (Bo false),⟨[],[],[rUp L ow mr]⟩) else some (.v (Bo (decide ((L.length:Int)≤120))),⟨[],[],[rUp L ow mr]⟩)) else none:=by kernel_rfl
def gFew25 (xs:List SV) (m:Mem):Option (Bool×Value) :=
  match xs,m with
  | [.row 0],⟨[],[],[.live ⟨80,[.num .i8,.num .i8,.num .i8,.num .i8,.num .i8,.num .i8,.num .i8,.num .i8,.num .i8,.num .i8,.num .i8,.num .i8,.num .i8,.num .i8,.num .i8,.num .i64,.num .i64,.str,.str,.num .i64,.num .i64,.num .i64,.num .i64,.bool,.bool,.num .i64,.num .i64],L,ow,mr⟩]⟩=>some (Nat.ble L.length 281474976710656,Bo (fewU L))
  | _,_=>none
theorem gFew25_ok:CtR 28 gFew25:=by
  intro xs m r h
  unfold gFew25 at h
  split at h
  · rename_i L ow mr
    obtain ⟨h1,rfl⟩:=some_t h
    refine runOk (Λ:=ΛFu) OkP24 Tryz.func28 rfl (fun z z1 z2=>oneLoop loopsFu (loopOkFu z z1 z2)) ?_
    refine (runFew25 L ow mr).trans ?_
    rw [beq_self_eq_true,h1]
    unfold fewU
    cases anyN (bigU L) L.length 0<;>rfl
  · cases h
end Go.Proofs.YtagaiddomhpdmaaGreat
namespace Go.Proofs.YtagaiddomhpdmaaGreat.Hr
open Go Go.Proofs Go.Sx Nw Pe So
def uSl (m:Mem):Option (US×Fl×RowS):=match m with
  | ⟨b0::b1::bs,lv,r::r1::rs⟩=>match Nat.beq bs.length 46&&(isTT 48 lv&&Nat.beq rs.length 6),uUb 1 b0,uFi 1 b1,zPh r1 with
    | true,some (l0,l1,nw,wh),some (R,n),some L=>match asm (n0 1 2) 2 (fun i=>(b0::b1::bs).getD i []) (fun i=>(r::r1::rs).getD i .dead),asm (n1 1 2) 3 (fun i=>(b0::b1::bs).getD i []) (fun i=>(r::r1::rs).getD i .dead) with
      | some x,some y=>some (⟨x,y,l0,l1,nw,wh⟩,⟨L,R,n⟩,r)
      | _,_=>none
    | _,_,_,_=>none
  | _=>none
set_option maxHeartbeats 4000000 in
theorem uSl_eq {m:Mem} {s:US} {f:Fl} {r0:RowS} (h:uSl m=some (s,f,r0)):m=mSl s f r0:=by
  unfold uSl at h
  split at h
  case h_2=>cases h
  rename_i b0 b1 bs lv r r1 rs
  split at h
  case h_2=>cases h
  rename_i l0 l1 nw wh R n L hb hu hf hl
  split at h
  case h_2=>cases h
  rename_i x y hx hy
  injection h with h
  injection h with e1 h
  injection h with e2 e3
  subst e1 e2 e3
  rw [Bool.and_eq_true,Bool.and_eq_true] at hb
  obtain ⟨b1',b2,b3⟩:=hb
  have e2:=isTT_eq b2
  generalize hbs:b0::b1::bs=B at hx hy
  generalize hrs:r::r1::rs=Q at hx hy
  have k1:B.length=48:=by rw [← hbs];show bs.length+1+1=48;rw [Nat.eq_of_beq_eq_true b1']
  have k2:Q.length=8:=by rw [← hrs];show rs.length+1+1=8;rw [Nat.eq_of_beq_eq_true b3]
  have g0:B.getD 0 []=b0:=by rw [← hbs];rfl
  have g1:B.getD 1 []=b1:=by rw [← hbs];rfl
  have q0:Q.getD 0 .dead=r:=by rw [← hrs];rfl
  have q1:Q.getD 1 .dead=r1:=by rw [← hrs];rfl
  have e1:=toGet [] B 48 k1
  have e3:=toGet RowS.dead Q 8 k2
  obtain ⟨p1,p2,p3,p4,p5,p6,p7,p8,p9,p10,p11,p12,p13,p14,p15,p16,p17,p18,p19,p20,p21,p22,p23,p24,p25,p26⟩:=asm_eq hx
  obtain ⟨q1',q2,q3,q4,q5,q6,q7,q8,q9,q10,q11,q12,q13,q14,q15,q16,q17,q18,q19,q20,q21,q22,q23,q24,q25,q26⟩:=asm_eq hy
  have j1:(List.range 48).map (fun i=>B.getD i [])=cU 1 ⟨x,y,l0,l1,nw,wh⟩::cFi 1 ⟨L,R,n⟩::ubk 1 2 x y:=by
    refine Eq.trans (b:=[B.getD 0 [],B.getD 1 [],B.getD 2 [],B.getD 3 [],B.getD 4 [],B.getD 5 [],B.getD 6 [],B.getD 7 [],B.getD 8 [],B.getD 9 [],B.getD 10 [],B.getD 11 [],B.getD 12 [],B.getD 13 [],B.getD 14 [],B.getD 15 [],B.getD 16 [],B.getD 17 [],B.getD 18 [],B.getD 19 [],B.getD 20 [],B.getD 21 [],B.getD 22 [],B.getD 23 [],B.getD 24 [],B.getD 25 [],B.getD 26 [],B.getD 27 [],B.getD 28 [],B.getD 29 [],B.getD 30 [],B.getD 31 [],B.getD 32 [],B.getD 33 [],B.getD 34 [],B.getD 35 [],B.getD 36 [],B.getD 37 [],B.getD 38 [],B.getD 39 [],B.getD 40 [],B.getD 41 [],B.getD 42 [],B.getD 43 [],B.getD 44 [],B.getD 45 [],B.getD 46 [],B.getD 47 []]) rfl ?_
    rw [g0,g1,uUb_eq hu,uFi_eq hf,show B.getD 2 []=_ from p1,show B.getD 3 []=_ from q1',show B.getD 4 []=_ from p2,show B.getD 5 []=_ from q2,show B.getD 6 []=_ from p3,show B.getD 7 []=_ from p4,show B.getD 8 []=_ from p5,show B.getD 9 []=_ from p6,show B.getD 10 []=_ from p7,show B.getD 11 []=_ from p8,show B.getD 12 []=_ from p9,show B.getD 13 []=_ from p10,show B.getD 14 []=_ from p11,show B.getD 15 []=_ from p12,show B.getD 16 []=_ from q3,show B.getD 17 []=_ from q4,show B.getD 18 []=_ from q5,show B.getD 19 []=_ from q6,show B.getD 20 []=_ from q7,show B.getD 21 []=_ from q8,show B.getD 22 []=_ from q9,show B.getD 23 []=_ from q10,show B.getD 24 []=_ from q11,show B.getD 25 []=_ from q12,show B.getD 26 []=_ from p13,show B.getD 27 []=_ from q13,show B.getD 28 []=_ from p14,show B.getD 29 []=_ from p15,show B.getD 30 []=_ from p16,show B.getD 31 []=_ from p17,show B.getD 32 []=_ from p18,show B.getD 33 []=_ from p19,show B.getD 34 []=_ from p20,show B.getD 35 []=_ from p21,show B.getD 36 []=_ from p22,show B.getD 37 []=_ from p23,show B.getD 38 []=_ from q14,show B.getD 39 []=_ from q15,show B.getD 40 []=_ from q16,show B.getD 41 []=_ from q17,show B.getD 42 []=_ from q18,show B.getD 43 []=_ from q19,show B.getD 44 []=_ from q20,show B.getD 45 []=_ from q21,show B.getD 46 []=_ from q22,show B.getD 47 []=_ from q23]
    rfl
  have j2:(List.range 8).map (fun i=>Q.getD i .dead)=r::rPh L::urw x y:=by
    refine Eq.trans (b:=[Q.getD 0 .dead,Q.getD 1 .dead,Q.getD 2 .dead,Q.getD 3 .dead,Q.getD 4 .dead,Q.getD 5 .dead,Q.getD 6 .dead,Q.getD 7 .dead]) rfl ?_
    rw [q0,q1,zPh_eq hl,show Q.getD 2 .dead=_ from p24,show Q.getD 3 .dead=_ from q24,show Q.getD 4 .dead=_ from p25,show Q.getD 5 .dead=_ from q25,show Q.getD 6 .dead=_ from p26,show Q.getD 7 .dead=_ from q26]
    rfl
  rw [e1,e2,e3,j1,j2]
  rfl
end Go.Proofs.YtagaiddomhpdmaaGreat.Hr
namespace Go.Proofs.YtagaiddomhpdmaaGreat.Hr
open Go Go.Proofs Go.Sx Nw Pe So
def zU5 (r:RowS):Option (List (List Dat)×Bool×Bool):=match r with
  | .live ⟨t,ks,L,ow,mr⟩=>bif Nat.beq t 80&&ksEq ks kUp5 then some (L,ow,mr) else none
  | _=>none
theorem zU5_eq {r:RowS} {L:List (List Dat)} {ow mr:Bool} (h:zU5 r=some (L,ow,mr)):r=rU5 L ow mr:=by
  unfold zU5 at h
  split at h
  · rename_i t ks L' o m
    cases e:Nat.beq t 80&&ksEq ks kUp5
    · rw [e] at h;cases h
    · rw [e] at h
      injection h with h
      injection h with h1 h
      injection h with h2 h3
      subst h1 h2 h3
      rw [Bool.and_eq_true] at e
      rw [Nat.eq_of_beq_eq_true e.1,ksEq_eq e.2]
  · cases h
def okUs (s:US) (x:Fl) (L:List (List Dat)):Prop:=IU s∧okFl x=true∧L.length≤1000000∧∀ k,k<L.length→okO (opOf (L.getD k []))
noncomputable def GUs (vals:List SV) (m:Mem):Option (Bool×LT) :=
  match vals,uSl m with
  | [.ptr 0 0,.ptr 1 0,.row 0,.v (.int .i64 nn),.v (.int .i64 i)],some (s,x,r)=>match zU5 r with
    | some (L,ow,mr)=>some (i==0&&(nn==(L.length:Int)&&isT (okUs s x L)),.leaf (exUs L ow mr).1 (exUs L ow mr).2)
    | none=>none
  | _,_=>none
noncomputable def ΛUs:LoopOrc:=fun _ st=>viaT 0 1 kUs GUs st
theorem loopOkUs (z:Base) (z1:z.L.length=0) (z2:z.U.length=1):LoopOk ΛUs Tryz.prog z bdUs:=by
  refine loop_okT (Λ:=L0) (kx:=xUs) Okul mixed z1 z2 (fun b hb st t h=>by cases h) (G:=GUs) (fun _=>rfl) ?_
  intro vals m t h
  unfold GUs at h
  split at h
  case h_2=>cases h
  rename_i nn i s x r hm
  split at h
  case h_2=>cases h
  rename_i L ow mr hr
  obtain ⟨h1,rfl⟩:=some_t h
  simp only [Bool.and_eq_true,beq_iff_eq] at h1
  obtain ⟨rfl,rfl,h2⟩:=h1
  obtain ⟨g1,g2,g3,g4⟩:=isT_iff.1 h2
  rw [uSl_eq hm,zU5_eq hr]
  exact ⟨L.length+1,loopUs L ow mr g3 g4 L.length 0 s x (by omega) g1 g2⟩
theorem loopsUs:loopsOf (Tryz.f8.body.getD .skip)=[bdUs]:=by kernel_rfl
noncomputable def Γuw0:Orc:=addRd 28 gFew25 (addVal 27 gAx (addCl 30 gUN (addVal 23 gIm1 (addCl 29 gMi1 (addCl 31 gSt ΓO)))))
theorem Okuw0:Γuw0.Ok Tryz.prog:=addRd_ok (addVal_ok (addCl_ok (addVal_ok (addCl_ok (addCl_ok OkO gSt_ok) gMi1_ok) gIm1_ok) gUN_ok) gAx_ok) gFew25_ok
noncomputable def Γuw:Orc:={ Γuw0 with av:=true,bs:=true,sb:=true,wr:=fun f=>Nat.beq f 29||Nat.beq f 31 }
theorem Okuw:Γuw.Ok Tryz.prog:=⟨Okuw0.call,Okuw0.rd,Okuw0.eqv⟩
noncomputable def s0U:US:=⟨nwX im1 0,nwX im1 0,zS,zS,0,0⟩
def x0F (n:Nv):Fl:=⟨[phE],⟨2,3,4,2,50,2,10,1⟩,stN n⟩
theorem runUs (n:Nv) (L:List (List Dat)) (ow mr:Bool):runG Γuw ΛUs Tryz.prog Tryz.f8 [.v (.agg #[I n.x1,I n.x2,I n.x3,I n.x4,I n.x5,I n.x6,I n.x7,I n.x8]),.row 0] ⟨[],[],[rU5 L ow mr]⟩=(bif Nat.ble L.length 281474976710656 then (bif !fewU L then some (.v (Bo true),⟨[],[],[rU5 L ow mr]⟩) else (bif (0:Int)==0&&((L.length:Int)==(L.length:Int)&&isT (okUs s0U (x0F n) L)) then some (.v (Bo true),⟨[],[],[rU5 L ow mr]⟩) else none)) else none):=by kernel_rfl
end Go.Proofs.YtagaiddomhpdmaaGreat.Hr
namespace Go.Proofs.YtagaiddomhpdmaaGreat.Hr
open Go Go.Proofs Go.Sx Nw Pe So
theorem nw_inv:Inv 48 (nwX im1 0):=by
  have e1:okBt (nwX im1 0).img (nwX im1 0).port=true:=by kernel_rfl
  have e2:(nwX im1 0).m.L=btL (nwX im1 0).img:=by kernel_rfl
  have e3:(decide (0≤(nwX im1 0).m.p)&&decide ((nwX im1 0).m.p<((btL (nwX im1 0).img).length:Int)))=true:=by kernel_rfl
  have e4:(nwX im1 0).ft=0:=by kernel_rfl
  have e5:okH (nwX im1 0)=true:=by kernel_rfl
  have e6:isRow (nwX im1 0).f.F=true:=by kernel_rfl
  have e7:(txt (nwX im1 0).f.F).size=48:=by kernel_rfl
  have e8:(nwX im1 0).f.le=0:=by kernel_rfl
  have e9:(nwX im1 0).base=0:=by kernel_rfl
  have e10:lfOk (nwX im1 0)=true:=by kernel_rfl
  rw [Bool.and_eq_true,decide_eq_true_eq,decide_eq_true_eq] at e3
  exact ⟨e1,e2,e3,e4,e5,⟨e6,e7⟩,by rw [e8];exact Int.le_refl _,by rw [e9];decide,e10⟩
theorem nw_sfe:Sfe (nwX im1 0):=by
  have e1:(nwX im1 0).base=0:=by kernel_rfl
  have e2:(nwX im1 0).q.t=0:=by kernel_rfl
  have e3:(nwX im1 0).la.r.s=0:=by kernel_rfl
  have e4:(nwX im1 0).la.b=0:=by kernel_rfl
  have e5:(nwX im1 0).la.x=0:=by kernel_rfl
  have e6:(nwX im1 0).e.w=zS:=by kernel_rfl
  have e7:strAt (txt (nwX im1 0).f.F) 8=255:=by kernel_rfl
  have e8:strAt (txt (nwX im1 0).f.F) 32=255:=by kernel_rfl
  exact ⟨e1,e2,e3,e4,.inl e5,e6,.inr e7,.inr e8⟩
theorem s0_ok:IU s0U:=⟨⟨nw_inv,nw_sfe⟩,⟨nw_inv,nw_sfe⟩,Nat.zero_le _,Nat.zero_le _,rfl⟩
theorem few_ok5 {L:List (List Dat)} (hw:∀ l∈L,WfL kUp5 l∧SmL l) (hf:fewU L=true):L.length≤1000000∧∀ k,k<L.length→okO (opOf (L.getD k [])):=by
  unfold fewU at hf
  cases hb:anyN (bigU L) L.length 0
  · rw [hb] at hf
    have hl:=of_decide_eq_true hf
    refine ⟨by omega,fun k hk=>?_⟩
    have hk':bigU L (k:Int)=false:=by
      cases e:bigU L (k:Int)
      · rfl
      · exfalso
        have:=(anyN_iff (p:=bigU L) (m:=L.length) (k:=0)).2 ⟨(k:Int),by omega,by omega,e⟩
        rw [hb] at this
        cases this
    have hm:L.getD k []∈L:=by
      rw [List.getD_eq_getElem?_getD,List.getElem?_eq_getElem hk,Option.getD_some]
      exact List.getElem_mem hk
    have hw:=hw _ hm
    have hs:bigU L (k:Int)=decide (wI (((gS 17 (L.getD k [])).size:Int)+((gS 18 (L.getD k [])).size:Int))>300):=rfl
    rw [hs] at hk'
    have hk':=of_decide_eq_false hk'
    generalize L.getD k []=l at *
    match l,hw with
    | [_,_,_,_,_,_,_,_,_,_,_,_,_,_,_,_,_,.s a,.s b,_,_,_,_,_,_,_,_],hw =>
      have ha:a.size≤reachBytes:=hw.2 a (by simp)
      have hb:b.size≤reachBytes:=hw.2 b (by simp)
      have hm:=reachBytes_lt
      have hk':¬ wI ((a.size:Int)+(b.size:Int))>300:=hk'
      rw [wI_id (by omega)] at hk'
      exact ⟨by show a.size≤300;omega,by show b.size≤300;omega⟩
  · rw [hb] at hf
    cases hf
theorem unitSafe (n:Nv) (L:List (List Dat)) (ow mr:Bool) (hw:∀ l∈L,WfL kUp5 l∧SmL l) (hl:L.length≤281474976710656):runG Γuw ΛUs Tryz.prog Tryz.f8 [.v (.agg #[I n.x1,I n.x2,I n.x3,I n.x4,I n.x5,I n.x6,I n.x7,I n.x8]),.row 0] ⟨[],[],[rU5 L ow mr]⟩=some (.v (Bo true),⟨[],[],[rU5 L ow mr]⟩):=by
  refine (runUs n L ow mr).trans ?_
  rw [Nat.ble_eq_true_of_le hl]
  cases hf:fewU L
  · rfl
  · obtain ⟨h1,h2⟩:=few_ok5 hw hf
    rw [isT_iff.2 (show okUs s0U (x0F n) L from ⟨s0_ok,rfl,h1,h2⟩),beq_self_eq_true,beq_self_eq_true]
    rfl
theorem loopsOkUs (z:Base) (z1:z.L.length=0) (z2:z.U.length=1):∀ b∈loopsOf (Tryz.f8.body.getD .skip),LoopOk ΛUs Tryz.prog z b:=oneLoop loopsUs (loopOkUs z z1 z2)
theorem navs8' {l:List Dat} (h:WfL [.num .i64,.num .i64,.num .i64,.num .i64,.num .i64,.num .i64,.num .i64,.num .i64] l):∃ n:Nv,l=[.n n.x1,.n n.x2,.n n.x3,.n n.x4,.n n.x5,.n n.x6,.n n.x7,.n n.x8]:=by
  match l,h with
  | [.n a,.n b,.n c,.n d,.n e,.n f,.n g,.n q],_=>exact ⟨⟨a,b,c,d,e,f,g,q⟩,rfl⟩
def n88:List CK:=[.num .i64,.num .i64,.num .i64,.num .i64,.num .i64,.num .i64,.num .i64,.num .i64]
theorem unitSafeLaw (l0:List Dat) (l1:List (List Dat)) (w0:WfL n88 l0) (w1:∀ o∈l1,WfL kUp5 o∧SmL o) (n1:l1.length≤281474976710656):∃ m',runG Γuw ΛUs Tryz.prog Tryz.f8 (inArgs [.v (.agg (mkEl n88 l0).toArray),.row 80 kUp5 l1] 0) (inMem [.v (.agg (mkEl n88 l0).toArray),.row 80 kUp5 l1])=some (.v (.bool true),m'):=by
  obtain ⟨n,rfl⟩:=navs8' w0
  exact ⟨_,unitSafe n l1 false false w1 n1⟩
end Go.Proofs.YtagaiddomhpdmaaGreat.Hr
namespace Go.Proofs.YtagaiddomhpdmaaGreat
open Go Go.Proofs Go.Sx
theorem unitSafeLaw (l0:List Dat) (l1:List (List Dat)) (w0:WfL Hr.n88 l0) (w1:∀ o∈l1,WfL Hr.kUp5 o∧SmL o) (n1:l1.length≤281474976710656):∃ m',runG Hr.Γuw Hr.ΛUs Tryz.prog Tryz.f8 (inArgs [.v (.agg (mkEl Hr.n88 l0).toArray),.row 80 Hr.kUp5 l1] 0) (inMem [.v (.agg (mkEl Hr.n88 l0).toArray),.row 80 Hr.kUp5 l1])=some (.v (.bool true),m'):=Hr.unitSafeLaw l0 l1 w0 w1 n1
end Go.Proofs.YtagaiddomhpdmaaGreat
