/-
  Bytes that come in pieces count as they stand: a law over values.
-/
import Derived.Test.YtagaiddomhpdmaaGreatYj
import Derived.Test.YtagaiddomhpdmaaGreatPc
namespace Go.Proofs.YtagaiddomhpdmaaGreat.Hr
open Go Go.Proofs Go.Sx Nw Pe So
set_option linter.unusedVariables false
def phE0:List Dat:=[.l (.slice none 0 0) [[.n (-1000),.n (-1000)],[.n 1000,.n (-1000)],[.n 1000,.n 1000],[.n (-1000),.n 1000]],.n 1,.n 200,.n 5,.n 100]
def st0:PS:=⟨imL,0,8,true,0,[phE0],⟨2,3,4,2,50,2,10,1⟩,0,⟨[bN 255,bN 255,bN 255,bN 255,bN 255,bN 255,bN 255,bN 255,bN 0,bN 0,bN 0,bN 1,bN 0,bN 0,bN 0,bN 1,bN 16,bN 0,bN 0,bN 0,bN 0,bN 0,bN 0,bN 0,bN 90,bN 237,bN 183,bN 184,bN 0,bN 0,bN 0,bN 1,bN 255,bN 255,bN 255,bN 255,bN 255,bN 255,bN 255,bN 255,bN 255,bN 255,bN 255,bN 255,bN 255,bN 255,bN 255,bN 255,bN 255,bN 255,bN 255,bN 255,bN 255,bN 255,bN 255,bN 255,bN 255,bN 255,bN 255,bN 255,bN 255,bN 255,bN 255,bN 255],false,false,0,1000000,1⟩,⟨8,⟨1,1,0,1,0,0,0,0,0⟩,1⟩,⟨e0,1000000,0⟩,⟨e0,1000000,0⟩,⟨e0,1000000,0⟩,⟨e0,1000000,0⟩,⟨50,2,⟨0,0,0,0,0,0,0,0⟩,false,1000000,1⟩,⟨50,2,⟨0,0,0,0,0,0,0,0⟩,false,1000000,1⟩,⟨[phE0],⟨2,3,4,2,50,2,10,1⟩,0,1000000,0⟩,⟨2,0,3,0,4,0⟩,⟨1,false,1,0⟩,false,1⟩
def goodP:List TypeId:=38::61::good
theorem goodPOk:goodP.all (eqTypeOk Tryz.prog)=true:=by kernel_rfl
noncomputable def Γp0:Orc:=addVal 21 gNv24 (addCl 23 (litC [.v (I 1)] M0 rL1 mL1) (addCl 12 (litC [] M0 rL52 mL52) (addCl 22 (litC [.v (S imL)] M0 rL15 mL15) (addCl 24 gCyU ΓO))))
theorem Okp0:Γp0.Ok Tryz.prog:=addVal_ok (addCl_ok (addCl_ok (addCl_ok (addCl_ok OkO gCyU_ok) (litC_ok okL15)) (litC_ok okL52)) (litC_ok okL1)) gNv24_ok
noncomputable def Γpp:Orc:={ Γp0 with av:=true,bs:=true,sb:=true,wr:=(fun f=>Nat.beq f 24||Nat.beq f 22),eqv:=eqvOf Tryz.prog goodP }
theorem Okpp:Γpp.Ok Tryz.prog:=⟨Okp0.call,Okp0.rd,fun t xs ys r h w op x y hop=>eqvOf_ok goodPOk t xs ys r h w op x y hop⟩
def mk16 (a:Int):Int:=wI (((BitVec.ofInt 64 a &&& BitVec.ofInt 64 65535).toNat:Nat):Int)
def mk12 (a:Int):Int:=wI (((BitVec.ofInt 64 a &&& BitVec.ofInt 64 4095).toNat:Nat):Int)
def ppT (a c d e f q:Int):ByteArray:=printT (mk16 a) 0 (c.tmod 5000) (d.tmod 5000) (mk12 e) (f.tmod 300) 0 (q.tmod 300)
def ppS (a c d e f q:Int):ByteArray:=printB 16 (ppT a c d e f q)
def ppC (k:Int) (s:ByteArray):Int:=wI ((IntKind.u64.wrap k).tmod (IntKind.u64.wrap (s.size:Int)))
def zB:ByteArray:=⟨#[]⟩
def in0 (s:ByteArray):Inp:=⟨s,zB,zB,zB⟩
def cyG (x:PS) (i:Inp):Prop:=okP x=true∧okIn i=true∧x.up=true∧x.ft=0∧cyX x i=0
def cyO (x:PS) (i:Inp):Ot:=teO (cyE x i) (cyJ x i) (cyW x i)
def eqO (a b:Ot):Bool:=(a.up==b.up)&&((a.s==b.s)&&((a.p==b.p)&&((a.fi==b.fi)&&((a.l==b.l)&&((a.r==b.r)&&true)))))
noncomputable def ppR (s f:ByteArray) (c:Int):Option (SV×Mem) :=
  bif isT (cyG st0 (in0 zB)) then (bif Nat.ble (s.size+f.size) 9223372036854775807 then (bif isT (cyG (cyE st0 (in0 zB)) (in0 (s++f))) then
    (bif true&&(decide (0≤c)&&decide (c≤(f.size:Int))) then (bif Nat.ble (s.size+(f.extract 0 c.toNat).size) 9223372036854775807 then (bif isT (cyG st0 (in0 (s++f.extract 0 c.toNat))) then
      (bif decide (0≤c)&&(decide (c≤(f.size:Int))&&decide ((f.size:Int)≤(f.size:Int))) then (bif isT (cyG (cyE st0 (in0 (s++f.extract 0 c.toNat))) (in0 (f.extract c.toNat ((f.size:Int)).toNat))) then
        (bif eqO (cyO st0 (in0 zB)) (cyO st0 (in0 (s++f.extract 0 c.toNat))) then some (.v (Bo (eqO (cyO (cyE st0 (in0 zB)) (in0 (s++f))) (cyO (cyE st0 (in0 (s++f.extract 0 c.toNat))) (in0 (f.extract c.toNat ((f.size:Int)).toNat))))),M0) else some (.v (Bo false),M0)) else none) else none) else none) else none) else none) else none) else none) else none
set_option maxRecDepth 100000 in
theorem runPp (a b c d e f g q k:Int) (s:ByteArray):runG Γpp ΛPn Tryz.prog Tryz.f4 [.v (.agg #[I a,I b,I c,I d,I e,I f,I g,I q]),.v (I k),.v (S s)] M0 =
    bif decide ((s.size:Int)>100) then some (.v (Bo true),M0) else (bif (s.size:Int)==(s.size:Int)&&(true&&Nat.ble s.size 4611686018427387903) then (bif noA5 s then (bif true&&!((ppT a c d e f q).toList==zB.toList) then (bif IntKind.u64.wrap ((ppS a c d e f q).size:Int)==0 then none else ppR s (ppS a c d e f q) (ppC k (ppS a c d e f q))) else none) else some (.v (Bo true),M0)) else none):=by kernel_rfl
end Go.Proofs.YtagaiddomhpdmaaGreat.Hr
namespace Go.Proofs.YtagaiddomhpdmaaGreat.Hr
open Go Go.Proofs Go.Sx Nw Pe So
set_option linter.unusedVariables false
theorem cy_like (x:PS) (w:Stm) (a a':ByteArray) (h:stF w a'=stF x.a a):cyO { x with a:=w } (in0 a')=cyO x (in0 a)∧cyX { x with a:=w } (in0 a')=cyX x (in0 a)∧cyE { x with a:=w } (in0 a')={ cyE x (in0 a) with a:=stA w a' }:=by
  have hH:cyH { x with a:=w } (in0 a')=cyH x (in0 a):=by
    show hrH (cyA { x with a:=w }) (in0 a')=hrH (cyA x) (in0 a)
    unfold hrH
    rw [show stF (cyA { x with a:=w }).a (in0 a').a=stF (cyA x).a (in0 a).a from h]
    rfl
  have hB:cyB { x with a:=w } (in0 a')={ cyB x (in0 a) with a:=stA w a' }:=by
    show hrP (cyA { x with a:=w }) (in0 a')={ hrP (cyA x) (in0 a) with a:=stA w a' }
    unfold hrP
    rw [show stF (cyA { x with a:=w }).a (in0 a').a=stF (cyA x).a (in0 a).a from h]
    rfl
  have hJ:cyJ { x with a:=w } (in0 a')=cyJ x (in0 a):=by
    unfold cyJ
    rw [hB,hH]
    rfl
  have hC:cyC { x with a:=w } (in0 a')={ cyC x (in0 a) with a:=stA w a' }:=by
    unfold cyC
    rw [hB,hH,hJ]
    rfl
  have hD:cyD { x with a:=w } (in0 a')={ cyD x (in0 a) with a:=stA w a' }:=by
    unfold cyD
    rw [hC,hH,hJ]
    rfl
  have hE:cyE { x with a:=w } (in0 a')={ cyE x (in0 a) with a:=stA w a' }:=by
    unfold cyE
    rw [hD]
    rfl
  refine ⟨?_,?_,hE⟩
  · unfold cyO cyW
    rw [hE,hC,hJ]
    rfl
  · unfold cyX
    rw [hD]
    rfl
theorem scF_pay:∀ s:ByteArray,∀ d∈scF s,(d.tail.headD (Dat.n (0:Int))).toS.size+6≤s.size:=by
  refine scan_ind (fun s h d hd=>?_) (fun s h ih d hd=>?_) (fun s h h' ih d hd=>?_)
  · rw [(scan5 h).1] at hd;cases hd
  · obtain ⟨g1,g2,_,_,_,_,g3,_⟩:=rd_ok h
    rw [(scan0 h).1,List.mem_cons] at hd
    rcases hd with rfl|hd
    · show (rdP s).size+6≤s.size
      omega
    · have:=ih d hd
      rw [ext_size g1] at this
      omega
  · rw [(scan1 h h').1] at hd
    have:=ih d hd
    rw [ext_size (rd_some h)] at this
    omega
theorem scF_nil:scF zB=[]:=by kernel_rfl
theorem zB_app (s:ByteArray):zB++s=s:=ByteArray.ext (by simp [zB])
theorem ext_all {f:ByteArray} {c:Nat} (h:c≤f.size):f.extract 0 c++f.extract c f.size=f:=by
  rw [Pe.ext_join (by omega) h]
  exact ByteArray.ext (by simp)
theorem scF_cut {p:ByteArray} (hr:rightB 16 p=true) {s:ByteArray} (hs:noA5 s=true) {c:Nat} (hc:c<(printB 16 p).size):scF (s++(printB 16 p).extract 0 c)=[]:=by
  have hf:=printB_of hr
  have hp:(printB 16 p).size=p.size+6:=by
    obtain ⟨h1,h2,h3,h4⟩:=rd_prt hr ⟨#[]⟩
    obtain ⟨_,_,_,_,_,_,g3,_⟩:=rd_ok h1
    rw [h3,h4] at g3
    rw [hf]
    omega
  have hf1:scF (printB 16 p)=[[.n 16,.s p]]:=by
    obtain ⟨h1,h2,h3,h4⟩:=rd_prt hr ⟨#[]⟩
    have e0:prt 16 p++(⟨#[]⟩:ByteArray)=prt 16 p:=ByteArray.ext (by simp)
    rw [e0] at h1 h2 h3 h4
    rw [hf,(scan0 h1).1,h4]
    have:(prt 16 p).extract (((prt 16 p).size:Int)).toNat (prt 16 p).size=zB:=ByteArray.ext (by simp [zB])
    rw [this,scF_nil]
    unfold fr
    rw [h2,h3]
  rw [(scan_noise _ _ s rfl hs).1]
  cases hq:scF ((printB 16 p).extract 0 c) with
  | nil=>rfl
  | cons d D =>
    exfalso
    have hap:=(scan_app ((printB 16 p).extract c (printB 16 p).size) ((printB 16 p).extract 0 c)).1
    rw [ext_all (Nat.le_of_lt hc),hf1,hq,List.cons_append] at hap
    injection hap with hd _
    have:=scF_pay _ d (by rw [hq];exact List.mem_cons_self)
    rw [← hd,ByteArray.size_extract] at this
    have:p.size+6≤min c (printB 16 p).size - 0:=this
    omega
end Go.Proofs.YtagaiddomhpdmaaGreat.Hr
namespace Go.Proofs.YtagaiddomhpdmaaGreat.Hr
open Go Go.Proofs Go.Sx Nw Pe So
set_option linter.unusedVariables false
def st1:PS:=cyE st0 (in0 zB)
def stB:PS:=cyA st1
theorem ok0:okP st0=true:=by kernel_rfl
theorem ok1:okP st1=true:=by kernel_rfl
theorem cyX0:cyX st0 (in0 zB)=0:=by kernel_rfl
theorem up1:st1.up=true:=by kernel_rfl
theorem ft1:st1.ft=0:=by kernel_rfl
def tVb (b1 b2 b3 b4 b5:Bool) (a u:Int):Int:=bif b1||b2 then (bif b3&&b4 then clampI 0 a else bif b1&&(b2&&b5) then u else addN' a u 1) else u
def tDb (b1 b2 b3 b4 b5:Bool) (b v:Int):Int:=bif b1||b2 then (bif b3&&b4 then clampI 0 b else bif b1&&(b2&&b5) then addN' b v 1 else v) else v
def tGb (b1 b2:Bool) (c w:Int):Int:=bif b1||b2 then clampI 0 c else addN' c w 1
def yB (b1 b2 b3 b4 b5:Bool):Tly:=⟨2,tVb b1 b2 b3 b4 b5 2 0,3,tDb b1 b2 b3 b4 b5 3 0,4,tGb b1 b2 4 1⟩
def hB0:Hd:=⟨⟨0,0,0,0,0,0,0,0⟩,⟨0,0,0,0,0,0,0,0⟩,false,false,0,⟨0,0,0,0⟩,false⟩
def zK (b1 b2 b3 b4 b5 fl:Bool):PS:={ stB with fl:=fl,y:=yB b1 b2 b3 b4 b5,q:=csQ stB hB0 fl (true&&firY (yB b1 b2 b3 b4 b5)),m:=bif fl then cpM stB hB0 ⟨0,0,0,false,0⟩ else stB.m }
def xK (b1 b2 b3 b4 b5 fl:Bool):Int:=svE (zK b1 b2 b3 b4 b5 fl) (svRr (zK b1 b2 b3 b4 b5 fl))
theorem xK0:∀ b1 b2 b3 b4 b5 fl,xK b1 b2 b3 b4 b5 fl=0:=by
  intro b1 b2 b3 b4 b5 fl
  cases b1<;>cases b2<;>cases b3<;>cases b4<;>cases b5<;>cases fl<;>kernel_rfl
theorem cyX1 (i:ByteArray):cyX st1 (in0 i)=xK (hrd (cyJ st1 (in0 i)).v1) (hrd (cyJ st1 (in0 i)).v2) ((cyJ st1 (in0 i)).v1 != 3) ((cyJ st1 (in0 i)).v2 != 3) ((cyJ st1 (in0 i)).v1 != (cyJ st1 (in0 i)).v2) (csF stB (cyJ st1 (in0 i))):=by kernel_rfl
end Go.Proofs.YtagaiddomhpdmaaGreat.Hr
namespace Go.Proofs.YtagaiddomhpdmaaGreat.Hr
open Go Go.Proofs Go.Sx Nw Pe So
set_option linter.unusedVariables false
theorem okSt_stA {x:Stm} {s:ByteArray}:okSt (stA x s)=true:=by
  unfold okSt stA
  have h:=sR_size (x.w++s)
  rw [inN_of (show sat x.v.toNat (sD (x.w++s))<1000001 by have:=sat_le x.v.toNat (sD (x.w++s));omega),Nat.ble_eq_true_of_le (show (sR (x.w++s)).size≤69 by omega)]
  rfl
theorem okP_a {x:PS} (h:okP x=true) {w:Stm} (hw:okSt w=true):okP { x with a:=w }=true:=by
  unfold okP okH at h
  simp only [Bool.and_eq_true] at h
  obtain ⟨⟨_,h2,h3,h4,h5,h6⟩,h7,h8⟩:=h
  show ((okSt w&&(okSt x.b&&(okSt x.g&&(okSt x.e&&(okSr x.s&&okSr x.t)))))&&(okJ x&&okLc x.f.F x.f.le))=true
  rw [hw,h2,h3,h4,h5,h6,h7,h8]
  rfl
theorem okIn0 {s:ByteArray} (h:s.size≤900000):okIn (in0 s)=true:=by
  unfold okIn in0
  rw [Nat.ble_eq_true_of_le h]
  rfl
theorem eqO_self (o:Ot):eqO o o=true:=by
  unfold eqO
  rw [beq_self_eq_true,beq_self_eq_true,beq_self_eq_true,beq_self_eq_true,(beq_S o.l o.l).2 rfl,(beq_S o.r o.r).2 rfl]
  rfl
theorem w1:st1.a.w=zB:=by kernel_rfl
theorem ppR_eq {p s:ByteArray} (hr:rightB 16 p=true) (hs:noA5 s=true) (hl:s.size≤100) {c:Int} (h0:0≤c) (hc:c<((printB 16 p).size:Int)):ppR s (printB 16 p) c=some (.v (Bo true),M0):=by
  have hz:=printB_size 16 p
  have he:((printB 16 p).size:Int).toNat=(printB 16 p).size:=rfl
  have hcut:=scF_cut hr hs (c:=c.toNat) (by omega)
  have sz1:((printB 16 p).extract 0 c.toNat).size≤70:=by rw [ByteArray.size_extract];omega
  have sz2:((printB 16 p).extract c.toNat (printB 16 p).size).size≤70:=by rw [ByteArray.size_extract];omega
  have hA:stF st0.a (s++(printB 16 p).extract 0 c.toNat)=stF st0.a zB:=by
    show scF (zB++_)=scF (zB++zB)
    rw [zB_app,zB_app,hcut,scF_nil]
  obtain ⟨o1,x1,e1⟩:=cy_like st0 st0.a zB (s++(printB 16 p).extract 0 c.toNat) hA
  have hB:stF (stA st0.a (s++(printB 16 p).extract 0 c.toNat)) ((printB 16 p).extract c.toNat (printB 16 p).size)=stF st1.a (s++printB 16 p):=by
    show scF (sR (zB++_)++_)=scF (st1.a.w++_)
    rw [w1,zB_app,zB_app]
    have:=(scan_app ((printB 16 p).extract c.toNat (printB 16 p).size) (s++(printB 16 p).extract 0 c.toNat)).1
    rw [hcut,List.nil_append,ByteArray.append_assoc,ext_all (by omega)] at this
    exact this.symm
  obtain ⟨o2,x2,_⟩:=cy_like st1 (stA st0.a (s++(printB 16 p).extract 0 c.toNat)) (s++printB 16 p) ((printB 16 p).extract c.toNat (printB 16 p).size) hB
  have z1:cyX st1 (in0 (s++printB 16 p))=0:=(cyX1 _).trans (xK0 _ _ _ _ _ _)
  have g1:cyG st0 (in0 zB):=⟨ok0,okIn0 (by decide),rfl,rfl,cyX0⟩
  have g2:cyG (cyE st0 (in0 zB)) (in0 (s++printB 16 p)):=⟨ok1,okIn0 (by rw [ByteArray.size_append];omega),up1,ft1,z1⟩
  have g3:cyG st0 (in0 (s++(printB 16 p).extract 0 c.toNat)):=⟨ok0,okIn0 (by rw [ByteArray.size_append];omega),rfl,rfl,x1.trans cyX0⟩
  have g4:cyG (cyE st0 (in0 (s++(printB 16 p).extract 0 c.toNat))) (in0 ((printB 16 p).extract c.toNat (printB 16 p).size)):=by
    have e1':cyE st0 (in0 (s++(printB 16 p).extract 0 c.toNat))={ st1 with a:=stA st0.a (s++(printB 16 p).extract 0 c.toNat) }:=e1
    rw [e1']
    exact ⟨okP_a ok1 okSt_stA,okIn0 (by omega),up1,ft1,x2.trans z1⟩
  have e1':cyE st0 (in0 (s++(printB 16 p).extract 0 c.toNat))={ st1 with a:=stA st0.a (s++(printB 16 p).extract 0 c.toNat) }:=e1
  have o1':cyO st0 (in0 (s++(printB 16 p).extract 0 c.toNat))=cyO st0 (in0 zB):=o1
  have o2':cyO (cyE st0 (in0 (s++(printB 16 p).extract 0 c.toNat))) (in0 ((printB 16 p).extract c.toNat (printB 16 p).size))=cyO (cyE st0 (in0 zB)) (in0 (s++printB 16 p)):=by
    rw [e1'];exact o2
  unfold ppR
  rw [he,isT_iff.2 g1,isT_iff.2 g2,isT_iff.2 g3,isT_iff.2 g4,o1',o2',eqO_self,eqO_self,decide_eq_true h0,decide_eq_true (Int.le_of_lt hc),decide_eq_true (Int.le_refl _),Nat.ble_eq_true_of_le (show s.size+(printB 16 p).size≤9223372036854775807 by omega),Nat.ble_eq_true_of_le (show s.size+((printB 16 p).extract 0 c.toNat).size≤9223372036854775807 by omega)]
  rfl
theorem maskIn (n m:Int) (h0:0≤m) (h1:m<9223372036854775808):0≤wI ((BitVec.ofInt 64 n &&& BitVec.ofInt 64 m).toNat:Int)∧wI ((BitVec.ofInt 64 n &&& BitVec.ofInt 64 m).toNat:Int)≤m:=by
  obtain ⟨k,rfl⟩:=Int.eq_ofNat_of_zero_le h0
  have e:(BitVec.ofInt 64 n &&& BitVec.ofInt 64 (k:Int)).toNat≤k:=by
    rw [BitVec.toNat_and,BitVec.ofInt_natCast,BitVec.toNat_ofNat,Nat.mod_eq_of_lt (a:=k) (by omega)]
    exact Nat.and_le_right
  rw [wI_id (by omega)]
  omega
theorem ppT_size (a c d e f q:Int):(ppT a c d e f q).size=27:=by
  have h1:=maskIn a 65535 (by decide) (by decide)
  have h2:=maskIn e 4095 (by decide) (by decide)
  have tm:∀ (x m:Int),0<m→-m<x.tmod m∧x.tmod m<m:=fun x m hm=>⟨by have:=Int.lt_tmod_of_pos x hm;omega,Int.tmod_lt_of_pos x hm⟩
  have h3:=tm c 5000 (by decide)
  have h4:=tm d 5000 (by decide)
  have h5:=tm f 300 (by decide)
  have h6:=tm q 300 (by decide)
  have hn:navR (mk16 a) 0 (c.tmod 5000) (d.tmod 5000) (mk12 e) (f.tmod 300) 0 (q.tmod 300)=true:=by
    unfold navR mk16 mk12
    refine decide_eq_true ?_
    omega
  unfold ppT printT
  rw [hn]
  show (navB _ _ _ _ _ _ _ _).size=27
  unfold navB
  simp only [ByteArray.size_append,be_size]
theorem procPieces (a b c d e f g q k:Int) (s:ByteArray) (hn:s.size≤281474976710656):runG Γpp ΛPn Tryz.prog Tryz.f4 [.v (.agg #[I a,I b,I c,I d,I e,I f,I g,I q]),.v (I k),.v (S s)] M0=some (.v (Bo true),M0):=by
  refine (runPp a b c d e f g q k s).trans ?_
  by_cases hl:(s.size:Int)>100
  · rw [decide_eq_true hl];rfl
  rw [decide_eq_false hl,beq_self_eq_true,Nat.ble_eq_true_of_le (show s.size≤4611686018427387903 by omega)]
  cases hs:noA5 s
  · rfl
  have hp:=ppT_size a c d e f q
  have hne:((ppT a c d e f q).toList==zB.toList)=false:=by
    rw [beq_T]
    refine beq_eq_false_iff_ne.2 fun h=>?_
    have:=congrArg List.length h
    rw [L_len,hp] at this
    cases this
  have hr:rightB 16 (ppT a c d e f q)=true:=by
    unfold rightB
    rw [decide_eq_true (show ((ppT a c d e f q).size:Int)≤64 by omega)]
    rfl
  have hz:=printB_size 16 (ppT a c d e f q)
  have hz0:0<(printB 16 (ppT a c d e f q)).size:=by
    have hf:=printB_of hr
    rw [hf]
    obtain ⟨h1,h2,h3,h4⟩:=rd_prt hr ⟨#[]⟩
    obtain ⟨_,g2,_⟩:=rd_ok h1
    rw [h4] at g2
    omega
  have hu:IntKind.u64.wrap ((ppS a c d e f q).size:Int)=((ppS a c d e f q).size:Int):=wrU_id (by unfold ppS;omega)
  have hq:(IntKind.u64.wrap ((ppS a c d e f q).size:Int)==0)=false:=by
    rw [hu]
    refine beq_eq_false_iff_ne.2 ?_
    unfold ppS
    omega
  have hc:0≤ppC k (ppS a c d e f q)∧ppC k (ppS a c d e f q)<((ppS a c d e f q).size:Int):=by
    have e2:0≤IntKind.u64.wrap k:=Int.emod_nonneg k (by show (18446744073709551616:Int)≠0;decide)
    have hpos:(0:Int)<((ppS a c d e f q).size:Int):=by unfold ppS;omega
    have b1:=Int.emod_nonneg (IntKind.u64.wrap k) (show ((ppS a c d e f q).size:Int)≠0 by omega)
    have b2:=Int.emod_lt_of_pos (IntKind.u64.wrap k) hpos
    have hzz:((ppS a c d e f q).size:Int)≤70:=by unfold ppS;omega
    unfold ppC
    rw [hu,Int.tmod_eq_emod_of_nonneg e2,wI_id (by omega)]
    exact ⟨b1,b2⟩
  rw [hne,hq]
  exact ppR_eq hr hs (by omega) hc.1 hc.2
end Go.Proofs.YtagaiddomhpdmaaGreat.Hr
namespace Go.Proofs.YtagaiddomhpdmaaGreat
open Go Go.Proofs Go.Sx
set_option linter.unusedVariables false
theorem navs8 {l:List Dat} (h:WfL [.num .i64,.num .i64,.num .i64,.num .i64,.num .i64,.num .i64,.num .i64,.num .i64] l):∃ a b c d e f g q,l=[.n a,.n b,.n c,.n d,.n e,.n f,.n g,.n q]:=by
  match l,h with
  | [.n a,.n b,.n c,.n d,.n e,.n f,.n g,.n q],_=>exact ⟨a,b,c,d,e,f,g,q,rfl⟩
theorem loopsOkPn (z:Base) (z1:z.L.length=0) (z2:z.U.length=0):∀ b∈loopsOf (Tryz.f4.body.getD .skip),LoopOk Hr.ΛPn Tryz.prog z b:=oneLoop Hr.loopsPn (Hr.loopOkPn z z1 z2)
theorem procPiecesLaw (l0:List Dat) (a1:Int) (z2:ByteArray) (w0:WfL [.num .i64,.num .i64,.num .i64,.num .i64,.num .i64,.num .i64,.num .i64,.num .i64] l0) (u1:(Lit.int .i64 a1).wf=true) (n2:z2.size≤281474976710656):∃ m',runG Hr.Γpp Hr.ΛPn Tryz.prog Tryz.f4 (inArgs [.v (.agg (mkEl [.num .i64,.num .i64,.num .i64,.num .i64,.num .i64,.num .i64,.num .i64,.num .i64] l0).toArray),.v (.int .i64 a1),.v (.string z2)] 0) (inMem [.v (.agg (mkEl [.num .i64,.num .i64,.num .i64,.num .i64,.num .i64,.num .i64,.num .i64,.num .i64] l0).toArray),.v (.int .i64 a1),.v (.string z2)])=some (.v (.bool true),m'):=by
  obtain ⟨a,b,c,d,e,f,g,q,rfl⟩:=navs8 w0
  exact ⟨_,Hr.procPieces a b c d e f g q a1 z2 n2⟩
end Go.Proofs.YtagaiddomhpdmaaGreat
