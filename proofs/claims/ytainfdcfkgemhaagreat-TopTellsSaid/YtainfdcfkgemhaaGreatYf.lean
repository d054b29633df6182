/-
  What is known of this program: frames,streams,navs.
-/
import Derived.Test.YtainfdcfkgemhaaGreatYd
set_option maxRecDepth 100000
noncomputable section
open Go.Proofs.Tryz
namespace Go.Proofs.YtainfdcfkgemhaaGreat
open Go Go.Proofs Go.Sx
set_option linter.unusedVariables false
def ΓOp:Orc:={ call:=ΓO.call,rd:=ΓO.rd,eqv:=ΓO.eqv,unr:=8,wr:=sh }
theorem RC:ΓOp.Ok prog:=⟨bM.call,bM.rd,bM.eqv⟩
theorem VV (s:ByteArray):runG ΓOp L0 prog f246 [.v (S s)] M0=bif bm s then some (.v (S (fG s)),M0) else none:=by kernel_rfl
def DV (vs:List Value):Option (Bool×Value) :=
 match vs with
 | [.string s]=>some (bm s,S (fG s))
 | _=>none
theorem qdC:am 246 DV:=by
 intro vs r h
 unfold DV at h
 split at h
 ·rename_i s
  obtain ⟨h1,rfl⟩:=ab h
  refine ak (vs:=[S s]) (Λ:=L0) (m':=M0) RC func246 rfl (fun z _ _=>aV (by kernel_rfl) z) ?_
  exact (VV s).trans (by rw [h1];rfl)
 ·cases h
def ΓF1:Orc:=ah 246 DV ΓOp
theorem OkF1:ΓF1.Ok prog:=ac RC qdC
theorem Vu (x:Int):runG ΓF1 L0 prog f200 [.v (bO x)] M0=some (.v (S (rz x)),M0):=by kernel_rfl
def DH (vs:List Value):Option (Bool×Value) :=
 match vs with
 | [.int .u16 x]=>some (true,S (rz x))
 | _=>none
theorem qdr:am 200 DH:=by
 intro vs r h
 unfold DH at h
 split at h
 ·rename_i x
  obtain ⟨h1,rfl⟩:=ab h
  refine ak (vs:=[bO x]) (Λ:=L0) (m':=M0) OkF1 func200 rfl (fun z _ _=>aV (by kernel_rfl) z) ?_
  exact (Vu x).trans (rfl)
 ·cases h
def ΓF2:Orc:=ah 200 DH ΓF1
theorem R3:ΓF2.Ok prog:=ac OkF1 qdr
theorem WS (k:Int) (p:ByteArray):runG ΓF2 L0 prog f245 [.v (.agg #[I k,S p])] M0=bif decide (k>=0) then (bif decide (k<=255) then some (.v (Bo (decide ((p.size:Int)<=64))),M0) else some (.v (Bo false),M0)) else some (.v (Bo false),M0):=by kernel_rfl
def gRight (vs:List Value):Option (Bool×Value) :=
 match vs with
 | [.agg ⟨[.int .i64 k,.string p]⟩]=>some (true,Bo (d6 k p))
 | _=>none
theorem gRight_ok:am 245 gRight:=by
 intro vs r h
 unfold gRight at h
 split at h
 ·rename_i k p
  obtain ⟨h1,rfl⟩:=ab h
  refine ak (vs:=[.agg #[I k,S p]]) (Λ:=L0) (m':=M0) R3 func245 rfl (fun z _ _=>aV (by kernel_rfl) z) ?_
  exact (WS k p).trans (by unfold d6;cases decide (k>=0)<;>cases decide (k<=255)<;>rfl)
 ·cases h
def ΓF3:Orc:=ah 245 gRight ΓF2
theorem R2:ΓF3.Ok prog:=ac R3 gRight_ok
theorem W4 (k:Int) (p:ByteArray):runG ΓF3 L0 prog f199 [.v (.agg #[I k,S p])] M0=bif decide (k>=0) then (bif decide (k<=255) then some (.v (Bo (decide ((p.size:Int)<=64))),M0) else some (.v (Bo false),M0)) else some (.v (Bo false),M0):=by kernel_rfl
def EK (vs:List Value):Option (Bool×Value) :=
 match vs with
 | [.agg ⟨[.int .i64 k,.string p]⟩]=>some (true,Bo (d6 k p))
 | _=>none
theorem qej:am 199 EK:=by
 intro vs r h
 unfold EK at h
 split at h
 ·rename_i k p
  obtain ⟨h1,rfl⟩:=ab h
  refine ak (vs:=[.agg #[I k,S p]]) (Λ:=L0) (m':=M0) R2 func199 rfl (fun z _ _=>aV (by kernel_rfl) z) ?_
  exact (W4 k p).trans (by unfold d6;cases decide (k>=0)<;>cases decide (k<=255)<;>rfl)
 ·cases h
def ΓF4:Orc:=ah 199 EK ΓF3
theorem qjX:ΓF4.Ok prog:=ac R2 qej
def ΓF5:Orc:=ΓF4
theorem R1:ΓF5.Ok prog:=qjX
def hasP (s t:ByteArray):Bool:=decide (t.size<=s.size)&&(L (s.extract 0 t.size)==L t)
theorem Yr (s t:ByteArray):runG ΓF5 L0 prog f309 [.v (S s),.v (S t)] M0=bif decide ((s.size:Int)>=(t.size:Int)) then (bif decide ((0:Int)<=0)&&(decide (0<=(t.size:Int))&&decide ((t.size:Int)<=(s.size:Int))) then some (.v (Bo ((s.extract (Int.toNat 0) (t.size:Int).toNat).toList==t.toList)),M0) else none) else some (.v (Bo false),M0):=by kernel_rfl
def FL (vs:List Value):Option (Bool×Value) :=
 match vs with
 | [.string s,.string t]=>some (true,Bo (hasP s t))
 | _=>none
theorem qfe:am 309 FL:=by
 intro vs r h
 unfold FL at h
 split at h
 ·rename_i s t
  obtain ⟨h1,rfl⟩:=ab h
  refine ak (vs:=[S s,S t]) (Λ:=L0) (m':=M0) R1 func309 rfl (fun z _ _=>aV (by kernel_rfl) z) ?_
  exact (Yr s t).trans (by
   unfold hasP
   by_cases hc:t.size<=s.size
   ·rw [decide_eq_true (show (s.size:Int)>=(t.size:Int) by omega),decide_eq_true (show (0:Int)<=0 by omega),decide_eq_true (show 0<=(t.size:Int) by omega),decide_eq_true hc,HK]
    rfl
   ·rw [decide_eq_false (show ¬ (s.size:Int)>=(t.size:Int) by omega),decide_eq_false hc]
    rfl)
 ·cases h
def ΓF6:Orc:=ah 309 FL ΓF5
theorem R0:ΓF6.Ok prog:=ac R1 qfe
theorem Ys (s t:ByteArray):runG ΓF6 L0 prog f250 [.v (S s),.v (S t)] M0=some (.v (Bo (hasP s t)),M0):=by kernel_rfl
def FN (vs:List Value):Option (Bool×Value) :=
 match vs with
 | [.string s,.string t]=>some (true,Bo (hasP s t))
 | _=>none
theorem qfd:am 250 FN:=by
 intro vs r h
 unfold FN at h
 split at h
 ·rename_i s t
  obtain ⟨h1,rfl⟩:=ab h
  refine ak (vs:=[S s,S t]) (Λ:=L0) (m':=M0) R0 func250 rfl (fun z _ _=>aV (by kernel_rfl) z) ?_
  exact (Ys s t).trans (rfl)
 ·cases h
def ΓF7:Orc:=ah 250 FN ΓF6
theorem RZ:ΓF7.Ok prog:=ac R0 qfd
theorem Zb (s:ByteArray):runG ΓF7 L0 prog f162 [.v (S s)] M0=bif Nat.ble s.size 281474976710656 then some (.v (S s),M0) else none:=by kernel_rfl
def Gp (vs:List Value):Option (Bool×Value) :=
 match vs with
 | [.string s]=>some (Nat.ble s.size 281474976710656,S s)
 | _=>none
theorem qfP:am 162 Gp:=by
 intro vs r h
 unfold Gp at h
 split at h
 ·rename_i s
  obtain ⟨h1,rfl⟩:=ab h
  refine ak (vs:=[S s]) (Λ:=L0) (m':=M0) RZ func162 rfl (fun z _ _=>aV (by kernel_rfl) z) ?_
  exact (Zb s).trans (by rw [h1];rfl)
 ·cases h
def ΓF8:Orc:=ah 162 Gp ΓF7
theorem RY:ΓF8.Ok prog:=ac RZ qfP
theorem V8 (s:ByteArray):runG ΓF8 L0 prog f277 [.v (S s)] M0=bif decide ((0:Int)<=3)&&decide (3<(s.size:Int)) then some (.v (I (IntKind.i64.wrap (IntKind.i64.wrap (4+IntKind.i64.wrap (aa s 3))+2))),M0) else none:=by kernel_rfl
def D6 (vs:List Value):Option (Bool×Value) :=
 match vs with
 | [.string s]=>some (decide (3<(s.size:Int)),I (aY s))
 | _=>none
theorem qdN:am 277 D6:=by
 intro vs r h
 unfold D6 at h
 split at h
 ·rename_i s
  obtain ⟨h1,rfl⟩:=ab h
  refine ak (vs:=[S s]) (Λ:=L0) (m':=M0) RY func277 rfl (fun z _ _=>aV (by kernel_rfl) z) ?_
  exact (V8 s).trans (by
   have h3:=dV s 3
   rw [show ((3:Nat):Int)=3 from rfl] at h3
   have e:IntKind.i64.wrap (IntKind.i64.wrap (4+IntKind.i64.wrap (aa s 3))+2)=aY s:=by
    show wI (wI (4+wI (aa s 3))+2)=_
    rw [aC (n:=aa s 3) (by omega),aC (n:=4+aa s 3) (by omega),aC (by omega)]
    unfold aY
    omega
   rw [e,show decide ((0:Int)<=3)=true from rfl,h1]
   rfl)
 ·cases h
def ΓF9:Orc:=ah 277 D6 ΓF8
theorem qjW:ΓF9.Ok prog:=ac RY qdN
def ΓFap:Orc:=ΓF9
theorem RW:ΓFap.Ok prog:=qjW
end Go.Proofs.YtainfdcfkgemhaaGreat
namespace Go.Proofs.YtainfdcfkgemhaaGreat
open Go Go.Proofs Go.Sx
theorem tN (a:UInt8) (n:Nat) (hn:n<256):((a.toNat:Int) != (n:Int))=(a != UInt8.ofNat n):=by
 have e:((a.toNat:Int)=(n:Int))↔a=UInt8.ofNat n:=by
  constructor
  ·intro h
   rw [<- UInt8.toNat_inj,UInt8.toNat_ofNat',Nat.mod_eq_of_lt hn]
   omega
  ·rintro rfl
   rw [UInt8.toNat_ofNat',Nat.mod_eq_of_lt hn]
 by_cases h:a=UInt8.ofNat n
 ·rw [bne_eq_false_iff_eq.2 (e.2 h),bne_eq_false_iff_eq.2 h]
 ·rw [bne_iff_ne.2 (fun q=>h (e.1 q)),bne_iff_ne.2 h]
theorem qcZ (s:ByteArray):hasP s (mark.extract (Int.toNat 0) (if (2:Int)<(s.size:Int) then 2 else (s.size:Int)).toNat) =
  !((decide ((s.size:Int)>0)&&aa s 0 != 165)||(decide ((s.size:Int)>1)&&aa s 1 != 90)):=by
 have h0:=ek s 0
 have h1:=ek s 1
 rw [show ((0:Nat):Int)=0 from rfl] at h0
 rw [show ((1:Nat):Int)=1 from rfl] at h1
 have hl:=fw s
 unfold hasP
 rw [ga,ga]
 have hmk:L mark=[165,90]:=rfl
 rw [hmk,h0,h1]
 generalize hx:L s=l at *
 match l with
 | [] =>
  have hs:s.size=0:=by rw [<- hl];rfl
  rw [hs]
  rfl
 | [a] =>
  have hs:s.size=1:=by rw [<- hl];rfl
  rw [hs]
  have e:(mark.extract (Int.toNat 0) (if (2:Int)<((1:Nat):Int) then 2 else ((1:Nat):Int)).toNat).size=1:=rfl
  rw [e]
  have:=tN a 165 (by omega)
  simp only [List.getElem?_cons_zero,Option.map_some,Option.getD_some]
  rw [show ((165:Nat):Int)=165 from rfl] at this
  rw [this]
  simp [bne]
 | a::b::r =>
  have hs:2<=s.size:=by rw [<- hl];simp
  have e0:(if (2:Int)<(s.size:Int) then 2 else (s.size:Int)).toNat=2:=by split<;>omega
  rw [e0]
  have e:(mark.extract (Int.toNat 0) 2).size=2:=rfl
  rw [e]
  have t0:=tN a 165 (by omega)
  have t1:=tN b 90 (by omega)
  rw [show ((165:Nat):Int)=165 from rfl] at t0
  rw [show ((90:Nat):Int)=90 from rfl] at t1
  simp only [List.getElem?_cons_zero,List.getElem?_cons_succ,Option.map_some,Option.getD_some]
  rw [t0,t1,decide_eq_true (show (s.size:Int)>0 by omega),decide_eq_true (show (s.size:Int)>1 by omega),decide_eq_true hs]
  simp [bne]
theorem qbb (s:ByteArray):(!cX s)=(hasP s (mark.extract (Int.toNat 0) (if (2:Int)<(s.size:Int) then 2 else (s.size:Int)).toNat)&&(decide ((s.size:Int)<4)||decide (aa s 3<=64))):=by
 rw [qcZ]
 unfold cX
 generalize (decide ((s.size:Int)>0)&&aa s 0 != 165)=x
 generalize (decide ((s.size:Int)>1)&&aa s 1 != 90)=y
 have:(decide ((s.size:Int)>3)&&decide (aa s 3>64))=!(decide ((s.size:Int)<4)||decide (aa s 3<=64)):=by
  by_cases h1:(s.size:Int)<4<;>by_cases h2:aa s 3<=64<;>simp [h1,h2]<;>omega
 rw [this]
 cases x<;>cases y<;>cases (decide ((s.size:Int)<4)||decide (aa s 3<=64))<;>rfl
theorem nc {s:ByteArray} (h:s.size<=9223372036854775807):bm s=true:=Nat.ble_eq_true_of_le h
theorem wn {k:Int} {p:ByteArray} (h:d6 k p=true):p.size<=64/\0<=k/\k<=255:=by
 unfold d6 at h
 simp only [Bool.and_eq_true,decide_eq_true_eq] at h
 omega
end Go.Proofs.YtainfdcfkgemhaaGreat
namespace Go.Proofs.YtainfdcfkgemhaaGreat
open Go Go.Proofs Go.Sx
set_option linter.unusedVariables false
theorem X0 (s:ByteArray):runG ΓFap L0 prog f276 [.v (S s)] M0=bif decide ((0:Int)<=0)&&(decide ((0:Int)<=(if (2:Int)<(s.size:Int) then 2 else (s.size:Int)))&&decide ((if (2:Int)<(s.size:Int) then 2 else (s.size:Int))<=(mark.size:Int))) then
 (bif !hasP s (mark.extract (Int.toNat 0) (if (2:Int)<(s.size:Int) then 2 else (s.size:Int)).toNat) then some (.v (Bo false),M0) else
  (bif decide ((s.size:Int)<4) then some (.v (Bo true),M0) else (bif decide ((0:Int)<=3)&&decide (3<(s.size:Int)) then some (.v (Bo (decide (aa s 3<=64))),M0) else none))) else none:=by kernel_rfl
def Fr (vs:List Value):Option (Bool×Value) :=
 match vs with
 | [.string s]=>some (true,Bo (!cX s))
 | _=>none
theorem qeT:am 276 Fr:=by
 intro vs r h
 unfold Fr at h
 split at h
 ·rename_i s
  obtain ⟨h1,rfl⟩:=ab h
  refine ak (vs:=[S s]) (Λ:=L0) (m':=M0) RW func276 rfl (fun z _ _=>aV (by kernel_rfl) z) ?_
  exact (X0 s).trans (by
   have hm:mark.size=2:=rfl
   have e1:(0:Int)<=(if (2:Int)<(s.size:Int) then 2 else (s.size:Int)):=by split<;>omega
   have e2:(if (2:Int)<(s.size:Int) then 2 else (s.size:Int))<=(mark.size:Int):=by rw [hm];split<;>omega
   rw [decide_eq_true e1,decide_eq_true e2,qbb s]
   generalize hasP s (mark.extract (Int.toNat 0) (if (2:Int)<(s.size:Int) then 2 else (s.size:Int)).toNat)=q
   by_cases h4:(s.size:Int)<4
   ·rw [decide_eq_true h4]
    cases q<;>rfl
   ·rw [decide_eq_false h4,decide_eq_true (show (3:Int)<(s.size:Int) by omega)]
    cases q<;>rfl)
 ·cases h
def ΓG1:Orc:=ah 276 Fr ΓFap
theorem OkG1:ΓG1.Ok prog:=ac RW qeT
theorem Xl (k:Int) (p:ByteArray):runG ΓG1 L0 prog f179 [.v (.agg #[I k,S p])] M0=bif !d6 k p then some (.v (S ⟨#[]⟩),M0) else
 (bif Nat.ble ((strOfNums [IntKind.u8.wrap k,IntKind.u8.wrap (p.size:Int)]).size+p.size) 9223372036854775807 then (bif Nat.ble (mark.size+(cR k p).size) 9223372036854775807 then (bif bm (cR k p) then (bif Nat.ble ((mark++cR k p).size+(fG (cR k p)).size) 9223372036854775807 then some (.v (S ((mark++cR k p)++fG (cR k p))),M0) else none) else none) else none) else none):=by kernel_rfl
def gPrint (vs:List Value):Option (Bool×Value) :=
 match vs with
 | [.agg ⟨[.int .i64 k,.string p]⟩]=>some (true,S (printB k p))
 | _=>none
theorem N9:am 179 gPrint:=by
 intro vs r h
 unfold gPrint at h
 split at h
 ·rename_i k p
  obtain ⟨h1,rfl⟩:=ab h
  refine ak (vs:=[.agg #[I k,S p]]) (Λ:=L0) (m':=M0) OkG1 func179 rfl (fun z _ _=>aV (by kernel_rfl) z) ?_
  exact (Xl k p).trans (by
   unfold printB
   cases hr:d6 k p with
   | false=>rfl
   | true =>
    obtain ⟨hp,_,_⟩:=wn hr
    have hb:=HI k p
    have hm:mark.size=2:=rfl
    have h2:(fG (cR k p)).size=2:=Bg _
    have hma:(mark++cR k p).size=2+(p.size+2):=by rw [ByteArray.size_append,hm,hb]
    rw [strOfNums_size,hma,h2,hm,hb,nc (by omega)]
    rw [show Nat.ble ([IntKind.u8.wrap k,IntKind.u8.wrap (p.size:Int)].length+p.size) 9223372036854775807=true from Nat.ble_eq_true_of_le (by simp only [List.length_cons,List.length_nil];omega),show Nat.ble (2+(p.size+2)) 9223372036854775807=true from Nat.ble_eq_true_of_le (by omega),show Nat.ble (2+(p.size+2)+2) 9223372036854775807=true from Nat.ble_eq_true_of_le (by omega)]
    rfl)
 ·cases h
def ΓG2:Orc:=ah 179 gPrint ΓG1
theorem OkG2:ΓG2.Ok prog:=ac OkG1 N9
theorem Xa (k:Int) (p:ByteArray):runG ΓG2 L0 prog f127 [.v (.agg #[I k,S p])] M0=bif !d6 k p then some (.v (S ⟨#[]⟩),M0) else
 (bif Nat.ble ((strOfNums [IntKind.u8.wrap k,IntKind.u8.wrap (p.size:Int)]).size+p.size) 9223372036854775807 then (bif Nat.ble ((strOfNums [165,90]).size+(cR k p).size) 9223372036854775807 then (bif dY 65535&&bm (cR k p) then (bif Nat.ble (((strOfNums [165,90])++cR k p).size+(fG (cR k p)).size) 9223372036854775807 then some (.v (S (((strOfNums [165,90])++cR k p)++fG (cR k p))),M0) else none) else none) else none) else none):=by kernel_rfl
def ye (vs:List Value):Option (Bool×Value) :=
 match vs with
 | [.agg ⟨[.int .i64 k,.string p]⟩]=>some (true,S (printB k p))
 | _=>none
theorem N6:am 127 ye:=by
 intro vs r h
 unfold ye at h
 split at h
 ·rename_i k p
  obtain ⟨h1,rfl⟩:=ab h
  refine ak (vs:=[.agg #[I k,S p]]) (Λ:=L0) (m':=M0) OkG2 func127 rfl (fun z _ _=>aV (by kernel_rfl) z) ?_
  exact (Xa k p).trans (by
   unfold printB
   cases hr:d6 k p with
   | false=>rfl
   | true =>
    obtain ⟨hp,_,_⟩:=wn hr
    have hb:=HI k p
    have hm:(strOfNums [165,90]).size=2:=rfl
    have h2:(fG (cR k p)).size=2:=Bg _
    have hma:((strOfNums [165,90])++cR k p).size=2+(p.size+2):=by rw [ByteArray.size_append,hm,hb]
    rw [strOfNums_size,hma,h2,hm,hb,nc (by omega)]
    rw [show Nat.ble ([IntKind.u8.wrap k,IntKind.u8.wrap (p.size:Int)].length+p.size) 9223372036854775807=true from Nat.ble_eq_true_of_le (by simp only [List.length_cons,List.length_nil];omega),show Nat.ble (2+(p.size+2)) 9223372036854775807=true from Nat.ble_eq_true_of_le (by omega),show Nat.ble (2+(p.size+2)+2) 9223372036854775807=true from Nat.ble_eq_true_of_le (by omega)]
    rfl)
 ·cases h
def ΓG3:Orc:=ah 127 ye ΓG2
theorem OkG3:ΓG3.Ok prog:=ac OkG2 N6
def ΓGa:Orc:=ΓG3
theorem RT:ΓGa.Ok prog:=OkG3
end Go.Proofs.YtainfdcfkgemhaaGreat
namespace Go.Proofs.YtainfdcfkgemhaaGreat
open Go Go.Proofs Go.Sx
theorem PM (c d:UInt8) (p:ByteArray) (hp:p.size=d.toNat):L (cR (c.toNat:Int) p)=c::d::L p:=by
 unfold cR
 rw [dC,uz,hp,AF,AF,Nat.mod_eq_of_lt (dM c),Nat.mod_eq_of_lt (dM d)]
 simp only [List.map_cons,List.map_nil,Int.toNat_natCast,UInt8.ofNat_toNat,List.cons_append,List.nil_append]
theorem On {s:ByteArray} (h1:cX s=false) (h2:fa s=false):∃ c d r,L s=165::90::c::d::r/\eL s=(c.toNat:Int)/\aa s 3=(d.toNat:Int)/\d.toNat<=64/\aY s=((6+d.toNat:Nat):Int)/\d.toNat+2<=r.length:=by
 obtain ⟨h4,h5,h6⟩:=wW h2
 have hl:=fw s
 have a0:=ek s 0
 have a1:=ek s 1
 have a2:=ek s 2
 have a3:=ek s 3
 generalize hx:L s=l at *
 match l,hl with
 | [],hl=>simp at hl;omega
 | [_],hl=>simp at hl;omega
 | [_,_],hl=>simp at hl;omega
 | [_,_,_],hl=>simp at hl;omega
 | a::b::c::d::r,hl =>
  simp only [List.getElem?_cons_zero,List.getElem?_cons_succ,Option.map_some,Option.getD_some] at a0 a1 a2 a3
  unfold cX at h1
  rw [show (0:Int)=((0:Nat):Int) from rfl,show (1:Int)=((1:Nat):Int) from rfl,show (3:Int)=((3:Nat):Int) from rfl] at h1
  rw [a0,a1,a3] at h1
  have b0:=tN a 165 (by omega)
  have b1:=tN b 90 (by omega)
  rw [show ((165:Nat):Int)=165 from rfl] at b0
  rw [show ((90:Nat):Int)=90 from rfl] at b1
  rw [b0,b1] at h1
  simp only [Bool.or_eq_false_iff,Bool.and_eq_false_iff,decide_eq_false_iff_not,bne_eq_false_iff_eq] at h1
  obtain ⟨g0,g1,g3⟩:=h1
  have e0:a=165:=by
   rcases g0 with g0|g0
   ·omega
   ·exact g0
  have e1:b=90:=by
   rcases g1 with g1|g1
   ·omega
   ·exact g1
  subst e0 e1
  have hlen:aY s=((6+d.toNat:Nat):Int):=by
   unfold aY
   rw [show (3:Int)=((3:Nat):Int) from rfl,a3]
   omega
  refine ⟨c,d,r,rfl,?_,a3,by omega,hlen,?_⟩
  ·unfold eL;exact a2
  ·rw [hlen] at h5
   simp only [List.length_cons] at hl
   omega
theorem Cf {s:ByteArray} {d:Nat} {x y z u:UInt8} {r:List UInt8} (hl:L s=x::y::z::u::r) (hn:aY s=((6+d:Nat):Int)):L (eJ s)=r.take d:=by
 unfold eJ
 rw [hn,ga,hl,show (((6+d:Nat):Int) - 2).toNat - 4=d by omega]
 rfl
theorem qaR {s:ByteArray} (h1:cX s=false) (h2:fa s=false):((fG (s.extract 2 (aY s - 2).toNat)).toList==(s.extract (aY s - 2).toNat (aY s).toNat).toList)=okB s:=by
 obtain ⟨c,d,r,hl,hk,hd,hd64,hn,hr⟩:=On h1 h2
 have hp:=Cf hl hn
 have hps:(eJ s).size=d.toNat:=by
  rw [<- fw,hp,List.length_take]
  omega
 have e1:s.extract 2 (aY s - 2).toNat=cR (eL s) (eJ s):=by
  rw [<- f9,hk,PM c d _ hps,hp,ga,hl,hn,show (((6+d.toNat:Nat):Int) - 2).toNat - 2=d.toNat+2 by omega]
  rfl
 have e2:L (s.extract (aY s - 2).toNat (aY s).toNat)=(r.drop d.toNat).take 2:=by
  rw [ga,hl,hn,show (((6+d.toNat:Nat):Int) - 2).toNat=d.toNat+4 by omega,show (((6+d.toNat:Nat):Int)).toNat - (d.toNat+4)=2 by omega]
  rw [Nat.add_comm d.toNat 4,<- List.drop_drop]
  rfl
 have e3:L (s.extract 0 (aY s).toNat)=165::90::c::d::(r.take d.toNat++(r.drop d.toNat).take 2):=by
  rw [ga,hl,hn,show (((6+d.toNat:Nat):Int)).toNat - 0=(d.toNat+2)+4 by omega,<- List.take_add]
  rfl
 have e4:L (cj (eL s) (eJ s))=165::90::c::d::(r.take d.toNat++L (fG (cR (eL s) (eJ s)))):=by
  unfold cj
  rw [dC,dC,hk,PM c d _ hps,hp]
  rfl
 rw [e1,HK,e2]
 unfold okB
 rw [PU,e3,e4,Bool.eq_iff_iff]
 simp only [beq_iff_eq,List.cons.injEq,true_and,List.append_cancel_left_eq]
theorem qc1 {s:ByteArray} (h1:cX s=false) (h2:fa s=false):d6 (eL s) (eJ s)=true:=by
 obtain ⟨c,d,r,hl,hk,hd,hd64,hn,hr⟩:=On h1 h2
 have hp:=Cf hl hn
 have hps:(eJ s).size=d.toNat:=by
  rw [<- fw,hp,List.length_take]
  omega
 have:=dM c
 unfold d6
 rw [hk,hps,decide_eq_true (by omega),decide_eq_true (by omega),decide_eq_true (by omega)]
 rfl
def ic (s:ByteArray):Value:=.tuple #[.agg #[I (eG s),S (aG s)],I (bJ s),I (aU s)]
theorem pA {s:ByteArray} {e:Int} (h:aU s=e) (h0:e≠0):ic s=.tuple #[.agg #[I 0,S ⟨#[]⟩],I 0,I e]:=by
 subst h
 unfold ic eG aG bJ
 rw [show (aU s==0)=false from beq_eq_false_iff_ne.2 h0]
 rfl
theorem LP {s:ByteArray} (h:aU s=0):ic s=.tuple #[.agg #[I (eL s),S (eJ s)],I (aY s),I 0]:=by
 unfold ic eG aG bJ
 rw [h]
 rfl
def oV (v:Value):Option (SV×Mem):=some (.v v,M0)
def iL (e:Int):Option (SV×Mem):=oV (.tuple #[.agg #[I 0,S ⟨#[]⟩],I 0,I e])
def w2 (s:ByteArray):Int:=wI (aY s - 2)
def BY (s:ByteArray):Option (SV×Mem) :=
 bif !!cX s then iL 3 else bif decide ((s.size:Int)<4) then iL 5 else bif decide (3<(s.size:Int)) then (bif decide ((s.size:Int)<aY s) then iL 5 else bif decide (3<(s.size:Int)) then
  (bif decide ((0:Int)<=2)&&(decide (2<=w2 s)&&decide (w2 s<=(s.size:Int))) then (bif bm (s.extract (Int.toNat 2) (w2 s).toNat) then (bif decide (0<=w2 s)&&(decide (w2 s<=aY s)&&decide (aY s<=(s.size:Int))) then
   (bif !((fG (s.extract (Int.toNat 2) (w2 s).toNat)).toList==(s.extract (w2 s).toNat (aY s).toNat).toList) then iL 4 else
    (bif decide ((0:Int)<=2)&&decide (2<(s.size:Int)) then (bif decide ((0:Int)<=4)&&(decide (4<=w2 s)&&decide (w2 s<=(s.size:Int))) then (bif Nat.ble (s.extract (Int.toNat 4) (w2 s).toNat).size 281474976710656 then
     oV (.tuple #[.agg #[I (wI (aa s 2)),S (s.extract (Int.toNat 4) (w2 s).toNat)],I (aY s),I 0]) else none) else none) else none))
   else none) else none) else none) else none) else none
theorem S4 (s:ByteArray):w2 s=aY s - 2:=by
 have:=sn s
 unfold w2
 rw [aC (by omega)]
theorem Nl (s:ByteArray):wI (aa s 2)=eL s:=by
 have:=dV s 2
 rw [show ((2:Nat):Int)=2 from rfl] at this
 unfold eL
 rw [aC (by omega)]
theorem qak (s:ByteArray):BY s=oV (ic s):=by
 unfold BY
 rcases ww s with ⟨h1,h2⟩|⟨h1,h2,h3⟩|⟨h1,h2,h3,h4⟩|⟨h1,h2,h3,h4⟩
 ·rw [pA h1 (by decide),h2];rfl
 ·rw [pA h1 (by decide),h2]
  unfold fa at h3
  by_cases h5:(s.size:Int)<4
  ·rw [decide_eq_true h5];rfl
  ·rw [decide_eq_false h5,decide_eq_true (show 3<(s.size:Int) by omega)]
   rw [decide_eq_false h5,Bool.false_or] at h3
   rw [h3];rfl
 all_goals
  obtain ⟨g1,g2,g3⟩:=wW h3
  have hr:=sn s
  have he:=qaR h2 h3
  have hx:(s.extract 4 (aY s - 2).toNat).size<=281474976710656:=by rw [ByteArray.size_extract];omega
  have hy:(s.extract 2 (aY s - 2).toNat).size<=9223372036854775807:=by rw [ByteArray.size_extract];omega
  rw [S4,show Int.toNat 2=2 from rfl,show Int.toNat 4=4 from rfl,he,h4,Nl,nc hy,Nat.ble_eq_true_of_le hx,h2,decide_eq_false (show ¬ (s.size:Int)<4 by omega),decide_eq_true (show 3<(s.size:Int) by omega),decide_eq_false (show ¬ (s.size:Int)<aY s by omega),
   decide_eq_true (show (2:Int)<=aY s - 2 by omega),decide_eq_true (show aY s - 2<=(s.size:Int) by omega),decide_eq_true (show 0<=aY s - 2 by omega),decide_eq_true (show aY s - 2<=aY s by omega),decide_eq_true (show aY s<=(s.size:Int) by omega),decide_eq_true (show 2<(s.size:Int) by omega),decide_eq_true (show (4:Int)<=aY s - 2 by omega)]
 ·rw [LP h1];rfl
 ·rw [pA h1 (by decide)];rfl
def wN (s:ByteArray):Int:=wI (6+wI (aa s 3))
def wP (s:ByteArray):Int:=wI (wN s - 2)
def tT (s:ByteArray):Option (SV×Mem) :=
 bif decide ((s.size:Int)<4) then iL 5 else bif decide ((0:Int)<=3)&&decide (3<(s.size:Int)) then (bif decide ((s.size:Int)<wN s) then iL 5 else
  bif decide ((0:Int)<=3)&&decide (3<(s.size:Int)) then (bif decide ((0:Int)<=2)&&decide (2<(s.size:Int)) then (bif decide ((0:Int)<=4)&&(decide (4<=wP s)&&decide (wP s<=(s.size:Int))) then
   (bif decide ((0:Int)<=0)&&(decide (0<=wN s)&&decide (wN s<=(s.size:Int))) then
    (bif !((printB (wI (aa s 2)) (s.extract (Int.toNat 4) (wP s).toNat)).toList==(s.extract (Int.toNat 0) (wN s).toNat).toList) then iL 4 else
     oV (.tuple #[.agg #[I (wI (aa s 2)),S (s.extract (Int.toNat 4) (wP s).toNat)],I (wN s),I 0])) else none) else none) else none) else none) else none
def tX (s:ByteArray):Option (SV×Mem) :=
 bif decide ((s.size:Int)>3) then (bif decide ((0:Int)<=3)&&decide (3<(s.size:Int)) then (bif decide (aa s 3>64) then iL 3 else tT s) else none) else tT s
def tY (s:ByteArray):Option (SV×Mem) :=
 bif decide ((s.size:Int)>1) then (bif decide ((0:Int)<=1)&&decide (1<(s.size:Int)) then (bif aa s 1 != 90 then iL 3 else tX s) else none) else tX s
def tZ (s:ByteArray):Option (SV×Mem) :=
 bif decide ((s.size:Int)>0) then (bif decide ((0:Int)<=0)&&decide (0<(s.size:Int)) then (bif aa s 0 != 165 then iL 3 else tY s) else none) else tY s
theorem Kf (s:ByteArray):wN s=aY s:=by
 have:=dV s 3
 rw [show ((3:Nat):Int)=3 from rfl] at this
 unfold wN aY
 rw [aC (n:=aa s 3) (by omega),aC (by omega)]
theorem KC {s:ByteArray} (h2:cX s=false):tT s=oV (ic s):=by
 have hr:=sn s
 have hw:wP s=aY s - 2:=by unfold wP;rw [Kf,aC (by omega)]
 unfold tT
 rw [Kf,hw,Nl,show Int.toNat 4=4 from rfl,show Int.toNat 0=0 from rfl]
 rcases ww s with ⟨h1,h2'⟩|⟨h1,_,h3⟩|⟨h1,_,h3,h4⟩|⟨h1,_,h3,h4⟩
 ·rw [h2] at h2';cases h2'
 ·rw [pA h1 (by decide)]
  unfold fa at h3
  by_cases h5:(s.size:Int)<4
  ·rw [decide_eq_true h5];rfl
  ·rw [decide_eq_false h5,decide_eq_true (show 3<(s.size:Int) by omega)]
   rw [decide_eq_false h5,Bool.false_or] at h3
   rw [h3];rfl
 all_goals
  obtain ⟨g1,g2,g3⟩:=wW h3
  have hg:=qc1 h2 h3
  have he:((printB (eL s) (s.extract 4 (aY s - 2).toNat)).toList==(s.extract 0 (aY s).toNat).toList)=okB s:=by
   rw [oq]
   unfold printB okB
   have:d6 (eL s) (s.extract 4 (aY s - 2).toNat)=true:=hg
   rw [this]
   rfl
  rw [he,h4,decide_eq_false (show ¬ (s.size:Int)<4 by omega),decide_eq_true (show 3<(s.size:Int) by omega),decide_eq_false (show ¬ (s.size:Int)<aY s by omega),
   decide_eq_true (show (2:Int)<(s.size:Int) by omega),decide_eq_true (show (4:Int)<=aY s - 2 by omega),decide_eq_true (show aY s - 2<=(s.size:Int) by omega),decide_eq_true (show 0<=aY s by omega),decide_eq_true (show aY s<=(s.size:Int) by omega)]
 ·rw [LP h1];rfl
 ·rw [pA h1 (by decide)];rfl
theorem TL (s:ByteArray):tZ s=oV (ic s):=by
 have hb:∀ {x:Bool},cX s=x->x=true->iL 3=oV (ic s):=by
  rintro x h rfl
  have:aU s=3:=by unfold aU;rw [h];rfl
  rw [pA this (by decide)]
  rfl
 have hX:(decide ((s.size:Int)>0)&&aa s 0 != 165)=false->(decide ((s.size:Int)>1)&&aa s 1 != 90)=false->tX s=oV (ic s):=by
  intro e0 e1
  have e2:cX s=(decide ((s.size:Int)>3)&&decide (aa s 3>64)):=by unfold cX;rw [e0,e1];rfl
  unfold tX
  by_cases h3:(s.size:Int)>3
  ·rw [decide_eq_true h3] at e2 ⊢
   by_cases h64:aa s 3>64
   ·rw [decide_eq_true h64] at e2 ⊢
    exact hb e2 rfl
   ·rw [decide_eq_false h64] at e2 ⊢
    exact KC e2
  ·rw [decide_eq_false h3] at e2 ⊢
   exact KC e2
 have hY:(decide ((s.size:Int)>0)&&aa s 0 != 165)=false->tY s=oV (ic s):=by
  intro e0
  unfold tY
  by_cases h1:(s.size:Int)>1
  ·have e3:decide ((s.size:Int)>1)=true:=decide_eq_true h1
   rw [e3]
   cases h:aa s 1 != 90 with
   | true=>exact hb (x:=cX s) rfl (by unfold cX;rw [e0,e3,h];rfl)
   | false=>exact hX e0 (by rw [e3,h];rfl)
  ·have e3:decide ((s.size:Int)>1)=false:=decide_eq_false h1
   rw [e3]
   exact hX e0 (by rw [e3];rfl)
 unfold tZ
 by_cases h1:(s.size:Int)>0
 ·have e3:decide ((s.size:Int)>0)=true:=decide_eq_true h1
  rw [e3]
  cases h:aa s 0 != 165 with
  | true=>exact hb (x:=cX s) rfl (by unfold cX;rw [e3,h];rfl)
  | false=>exact hY (by rw [e3,h];rfl)
 ·have e3:decide ((s.size:Int)>0)=false:=decide_eq_false h1
  rw [e3]
  exact hY (by rw [e3];rfl)
end Go.Proofs.YtainfdcfkgemhaaGreat
namespace Go.Proofs.YtainfdcfkgemhaaGreat
open Go Go.Proofs Go.Sx
set_option linter.unusedVariables false
theorem WY (s:ByteArray):runG ΓGa L0 prog f209 [.v (S s)] M0=BY s:=by kernel_rfl
def gRead (vs:List Value):Option (Bool×Value) :=
 match vs with
 | [.string s]=>some (true,ic s)
 | _=>none
theorem qee:am 209 gRead:=by
 intro vs r h
 unfold gRead at h
 split at h
 ·rename_i s
  obtain ⟨h1,rfl⟩:=ab h
  refine ak (vs:=[S s]) (Λ:=L0) (m':=M0) RT func209 rfl (fun z _ _=>aV (by kernel_rfl) z) ?_
  exact (WY s).trans (qak s)
 ·cases h
def ΓH1:Orc:=ah 209 gRead ΓGa
theorem RR:ΓH1.Ok prog:=ac RT qee
theorem W5 (s:ByteArray):runG ΓH1 L0 prog f64 [.v (S s)] M0=tZ s:=by kernel_rfl
def yb (vs:List Value):Option (Bool×Value) :=
 match vs with
 | [.string s]=>some (true,ic s)
 | _=>none
theorem N3:am 64 yb:=by
 intro vs r h
 unfold yb at h
 split at h
 ·rename_i s
  obtain ⟨h1,rfl⟩:=ab h
  refine ak (vs:=[S s]) (Λ:=L0) (m':=M0) RR func64 rfl (fun z _ _=>aV (by kernel_rfl) z) ?_
  exact (W5 s).trans (TL s)
 ·cases h
def ΓH2:Orc:=ah 64 yb ΓH1
theorem qjT:ΓH2.Ok prog:=ac RR N3
def ΓHa:Orc:=ΓH2
theorem qjS:ΓHa.Ok prog:=qjT
end Go.Proofs.YtainfdcfkgemhaaGreat
namespace Go.Proofs.YtainfdcfkgemhaaGreat
open Go Go.Proofs Go.Sx
set_option linter.unusedVariables false
def MS (w:ByteArray) (a b:Int):Mem:=⟨[[.v (S w),.ptr 1 0],[.v (I a),.v (I b)]],[true,true],[]⟩
abbrev MA:Value:=.pointer none
def ΓJ1:Orc:=ΓHa
theorem OkJ1:ΓJ1.Ok prog:=qjS
def ΓJ2:Orc:=ΓJ1
theorem OkJ2:ΓJ2.Ok prog:=OkJ1
theorem YZ (r:ByteArray) (n:Int) (w:ByteArray) (a b:Int):runG ΓJ2 L0 prog f210 [.ptr 0 0,.v (S r),.v (I n)] (MS w a b)=bif decide (0<=n)&&(decide (n<=(r.size:Int))&&decide ((r.size:Int)<=(r.size:Int))) then some (.v (S (r.extract n.toNat r.size)),MS w a (ao a b n)) else none:=by kernel_rfl
def Gc (xs:List SV) (m:Mem):Option (Bool×SV×Mem) :=
 match xs,m with
 | [.ptr 0 0,.v (.string r),.v (.int .i64 n)],⟨[[.v (.string w),.ptr 1 0],[.v (.int .i64 a),.v (.int .i64 b)]],[true,true],[]⟩=>some (decide (0<=n)&&(decide (n<=(r.size:Int))&&decide ((r.size:Int)<=(r.size:Int))),.v (S (r.extract n.toNat r.size)),MS w a (ao a b n))
 | _,_=>none
theorem qfB:aM 210 Gc:=by
 intro xs m r m' h
 unfold Gc at h
 split at h
 ·rename_i r n w a b
  obtain ⟨h1,rfl,rfl⟩:=an h
  refine af (Λ:=L0) OkJ2 func210 rfl (fun z _ _=>aV (by kernel_rfl) z) ?_
  exact (YZ r n w a b).trans (by rw [h1];rfl)
 ·cases h
def ΓJ3:Orc:=aw 210 Gc ΓJ2
theorem RQ:ΓJ3.Ok prog:=aq OkJ2 qfB
theorem XK:runG ΓJ3 L0 prog f192 [] M0=some (.ptr 0 0,MS ⟨#[]⟩ 1000000 0):=by kernel_rfl
def yn (xs:List SV) (m:Mem):Option (Bool×SV×Mem) :=
 match xs,m with
 | [],⟨[],[],[]⟩=>some (true,.ptr 0 0,MS ⟨#[]⟩ 1000000 0)
 | _,_=>none
theorem Od:aM 192 yn:=by
 intro xs m r m' h
 unfold yn at h
 split at h
 ·obtain ⟨h1,rfl,rfl⟩:=an h
  refine af (Λ:=L0) RQ func192 rfl (fun z _ _=>aV (by kernel_rfl) z) ?_
  exact (XK ).trans (rfl)
 ·cases h
def ΓJ4:Orc:=aw 192 yn ΓJ3
theorem qjQ:ΓJ4.Ok prog:=aq RQ Od
def ΓJa:Orc:=ΓJ4
theorem z9:ΓJa.Ok prog:=qjQ
end Go.Proofs.YtainfdcfkgemhaaGreat
namespace Go.Proofs.YtainfdcfkgemhaaGreat
open Go Go.Proofs Go.Sx
set_option linter.unusedVariables false
def ksF:List CK:=[.num .i64,.str]
def kT (t:TypeId) (Q:List (List Dat)):RowS:=.live ⟨t,ksF,Q,true,false⟩
def MF (t:TypeId) (w:ByteArray) (a v:Int) (Q:List (List Dat)):Mem:=⟨[[.v (S w),.ptr 1 0],[.v (I a),.v (I v)]],[true,true],[kT t Q]⟩
def fr (s:ByteArray):List Dat:=[.n (eG s),.s (aG s)]
def pu (Q:List (List Dat)) (b:Nat):Bool:=decide ((Q.length+1)*b<=140737488355328/\Q.length+1<=9223372036854775807)
def mc:List Bool:=aE 53 [0,5,6]
def mF:Code:=cH (f139.body.getD .skip) 0
theorem qbM:aL (f139.body.getD .skip)=[mF]:=by kernel_rfl
theorem qbL:aL mF=[]:=by kernel_rfl
def Ak (e:Ex) (st:St):Option (Ex×St):=some (e,aj 2 0 mc st)
def mT (w:ByteArray) (a v:Int) (Q:List (List Dat)) (r:ByteArray):St:=mk mc [.ptr 0 0,.row 0,.v (S r)] (MF 284 w a v Q)
theorem Uj (k:Nat) (w:ByteArray) (a v:Int) (Q:List (List Dat)) (r:ByteArray):au ΓJa prog L0 (aj 2 0 mc) mF (k+1) (mT w a v Q r) Ak =
 bif !(r.toList==(⟨#[]⟩:ByteArray).toList) then (bif aU r==5 then some (.exit 0,mT w a v Q r) else bif aU r==0 then
  (bif pu Q 24 then (bif decide (0<=bJ r)&&(decide (bJ r<=(r.size:Int))&&decide ((r.size:Int)<=(r.size:Int))) then au ΓJa prog L0 (aj 2 0 mc) mF k (mT w a v (Q++[fr r]) (r.extract (bJ r).toNat r.size)) Ak else none) else none) else
  (bif decide ((0:Int)<=1)&&(decide (1<=(r.size:Int))&&decide ((r.size:Int)<=(r.size:Int))) then au ΓJa prog L0 (aj 2 0 mc) mF k (mT w a (ao a v 1) Q (r.extract (Int.toNat 1) r.size)) Ak else none))
 else some (.exit 0,mT w a v Q r):=by kernel_rfl
def jz:Nat->ByteArray->List (List Dat)×ByteArray×Nat
 | 0,s=>([],s,0)
 | n+1,s=>if aU s=5 then ([],s,0) else if aU s=0 then (fr s::(jz n (s.extract (bJ s).toNat s.size)).1,(jz n (s.extract (bJ s).toNat s.size)).2) else
  ((jz n (s.extract 1 s.size)).1,(jz n (s.extract 1 s.size)).2.1,(jz n (s.extract 1 s.size)).2.2+1)
theorem gu {s:ByteArray} {n:Nat} (h:n<=s.size):(s.extract n s.size).size=s.size - n:=by
 rw [ByteArray.size_extract];omega
theorem vQ:∀ (n m:Nat) (s:ByteArray),s.size<n->s.size<m->jz n s=jz m s
 | 0,_,_,h,_=>by omega
 | _+1,0,_,_,h=>by omega
 | n+1,m+1,s,h1,h2=>by
  unfold jz
  by_cases h5:aU s=5
  ·rw [if_pos h5,if_pos h5]
  rw [if_neg h5,if_neg h5]
  by_cases h0:aU s=0
  ·obtain ⟨g1,g2,_⟩:=lT h0
   rw [if_pos h0,if_pos h0,vQ n m _ (by rw [gu g1];omega) (by rw [gu g1];omega)]
  ·have:=pz h5
   rw [if_neg h0,if_neg h0,vQ n m _ (by rw [gu (by omega)];omega) (by rw [gu (by omega)];omega)]
def jy (s:ByteArray):List (List Dat)×ByteArray×Nat:=jz (s.size+1) s
theorem Bz (s:ByteArray):jy s=if aU s=5 then ([],s,0) else if aU s=0 then (fr s::(jy (s.extract (bJ s).toNat s.size)).1,(jy (s.extract (bJ s).toNat s.size)).2) else
  ((jy (s.extract 1 s.size)).1,(jy (s.extract 1 s.size)).2.1,(jy (s.extract 1 s.size)).2.2+1):=by
 unfold jy
 rw [jz]
 by_cases h5:aU s=5
 ·rw [if_pos h5,if_pos h5]
 rw [if_neg h5,if_neg h5]
 by_cases h0:aU s=0
 ·obtain ⟨g1,g2,_⟩:=lT h0
  rw [if_pos h0,if_pos h0,vQ s.size ((s.extract (bJ s).toNat s.size).size+1) _ (by rw [gu g1];omega) (by omega)]
 ·have:=pz h5
  rw [if_neg h0,if_neg h0,vQ s.size ((s.extract 1 s.size).size+1) _ (by rw [gu (by omega)];omega) (by omega)]
def dE (s:ByteArray):List (List Dat):=(jy s).1
def sR (s:ByteArray):ByteArray:=(jy s).2.1
def sD (s:ByteArray):Nat:=(jy s).2.2
theorem pm {s:ByteArray} (h:aU s=5):dE s=[]/\sR s=s/\sD s=0:=by
 unfold dE sR sD
 rw [Bz,if_pos h]
 exact ⟨rfl,rfl,rfl⟩
theorem pn {s:ByteArray} (h:aU s=0):dE s=fr s::dE (s.extract (bJ s).toNat s.size)/\sR s=sR (s.extract (bJ s).toNat s.size)/\sD s=sD (s.extract (bJ s).toNat s.size):=by
 unfold dE sR sD
 rw [Bz,if_neg (by omega),if_pos h]
 exact ⟨rfl,rfl,rfl⟩
theorem rJ {s:ByteArray} (h5:aU s≠5) (h:aU s≠0):dE s=dE (s.extract 1 s.size)/\sR s=sR (s.extract 1 s.size)/\sD s=sD (s.extract 1 s.size)+1:=by
 unfold dE sR sD
 rw [Bz,if_neg h5,if_neg h]
 exact ⟨rfl,rfl,rfl⟩
theorem rI {Q:ByteArray->Prop} (h5:∀ s,aU s=5->Q s) (h0:∀ s,aU s=0->Q (s.extract (bJ s).toNat s.size)->Q s) (h1:∀ s,aU s≠5->aU s≠0->Q (s.extract 1 s.size)->Q s):∀ s,Q s:=by
 have:∀ (n:Nat) (s:ByteArray),s.size<n->Q s:=by
  intro n
  induction n with
  | zero=>intro s h;omega
  | succ n ih =>
   intro s h
   by_cases e5:aU s=5
   ·exact h5 s e5
   by_cases e0:aU s=0
   ·obtain ⟨g1,g2,_⟩:=lT e0
    exact h0 s e0 (ih _ (by rw [gu g1];omega))
   ·have:=pz e5
    exact h1 s e5 e0 (ih _ (by rw [gu (by omega)];omega))
 exact fun s=>this (s.size+1) s (by omega)
theorem UO:∀ s,aU (sR s)=5:=by
 refine rI (fun s h=>?_) (fun s h ih=>?_) (fun s h h' ih=>?_)
 ·rw [(pm h).2.1];exact h
 ·rw [(pn h).2.1];exact ih
 ·rw [(rJ h h').2.1];exact ih
theorem Lm (s:ByteArray):(sR s).size<70:=qag (UO s)
theorem BA:∀ s,(dE s).length<=s.size:=by
 refine rI (fun s h=>?_) (fun s h ih=>?_) (fun s h h' ih=>?_)
 ·rw [(pm h).1];exact Nat.zero_le _
 ·rw [(pn h).1,List.length_cons]
  obtain ⟨g1,g2,_⟩:=lT h
  have:=gu g1
  omega
 ·rw [(rJ h h').1]
  have:=gu (s:=s) (n:=1) (pz h)
  omega
def sat (v d:Nat):Nat:=min (v+d) 1000000
theorem Qa {v n:Nat} (h:v<=1000000):ao 1000000 (v:Int) (n:Int)=((sat v n:Nat):Int):=by
 have e:aR (n:Int) (1000000 - (v:Int))=((min n (1000000 - v):Nat):Int):=by
  unfold aR
  repeat' split
  all_goals omega
 unfold ao sat
 rw [aC (n:=1000000 - (v:Int)) (by omega),e,aC (by omega)]
 omega
theorem vR (v d:Nat):sat v d<=1000000:=Nat.min_le_right _ _
theorem UD (v d e:Nat):sat (sat v d) e=sat v (d+e):=by unfold sat;omega
theorem Lk {v:Nat} (h:v<=1000000):sat v 0=v:=by unfold sat;omega
theorem LH {Q:List (List Dat)} {b:Nat} (h:Q.length<1099511627776) (hb:b<=100):pu Q b=true:=by
 unfold pu
 have:(Q.length+1)*b<=1099511627776*100:=Nat.mul_le_mul (by omega) hb
 exact decide_eq_true (by omega)
theorem PT (r:ByteArray):(!(r.toList==(⟨#[]⟩:ByteArray).toList))=decide (0<r.size):=by
 rw [oq]
 by_cases h:r=⟨#[]⟩
 ·subst h;rfl
 ·have h0:0<r.size:=by
   apply Classical.byContradiction
   intro hn
   refine h (f9.1 ?_)
   have:(L r).length=0:=by rw [fw];omega
   exact List.eq_nil_of_length_eq_zero this
  rw [decide_eq_true h0,Bool.eq_false_iff.2 (fun hc=>h ((ji _ _).1 hc))]
  rfl
theorem qgw {α:Type} (E:Nat->Int->List (List Dat)->ByteArray->Option α) (F:Int->List (List Dat)->ByteArray->α)
  (hE:∀ k v Q r,E (k+1) v Q r=bif !(r.toList==(⟨#[]⟩:ByteArray).toList) then (bif aU r==5 then some (F v Q r) else bif aU r==0 then
   (bif pu Q 24 then (bif decide (0<=bJ r)&&(decide (bJ r<=(r.size:Int))&&decide ((r.size:Int)<=(r.size:Int))) then E k v (Q++[fr r]) (r.extract (bJ r).toNat r.size) else none) else none) else
   (bif decide ((0:Int)<=1)&&(decide (1<=(r.size:Int))&&decide ((r.size:Int)<=(r.size:Int))) then E k (ao 1000000 v 1) Q (r.extract (Int.toNat 1) r.size) else none)) else some (F v Q r)) :
  ∀ (r:ByteArray) (k v:Nat) (Q:List (List Dat)),r.size<k->v<=1000000->Q.length+r.size<1099511627776->E k (v:Int) Q r=some (F ((sat v (sD r):Nat):Int) (Q++dE r) (sR r)):=by
 refine rI (fun s h k v Q hk hv hq=>?_) (fun s h ih k v Q hk hv hq=>?_) (fun s h h' ih k v Q hk hv hq=>?_)
 ·obtain ⟨e1,e2,e3⟩:=pm h
  cases k with
  | zero=>omega
  | succ k =>
   rw [hE,h,e1,e2,e3,Lk hv,List.append_nil]
   cases (!(s.toList==(⟨#[]⟩:ByteArray).toList))<;>rfl
 ·obtain ⟨g1,g2,g3,_⟩:=lT h
  obtain ⟨e1,e2,e3⟩:=pn h
  have hsz:=gu g1
  cases k with
  | zero=>omega
  | succ k =>
   rw [hE,PT,decide_eq_true (show 0<s.size by omega),show (aU s==5)=false from by rw [h];rfl,show (aU s==0)=true from by rw [h];rfl,LH (by omega) (by omega),decide_eq_true (show 0<=bJ s by omega),decide_eq_true (show bJ s<=(s.size:Int) by omega),decide_eq_true (Int.le_refl (s.size:Int))]
   simp only [cond_true,cond_false,Bool.and_self]
   rw [ih k v (Q++[fr s]) (by omega) hv (by simp only [List.length_append,List.length_cons,List.length_nil];omega),e1,e2,e3,List.append_assoc]
   rfl
 ·have hp:=pz h
  obtain ⟨e1,e2,e3⟩:=rJ h h'
  have hsz:=gu (s:=s) (n:=1) hp
  cases k with
  | zero=>omega
  | succ k =>
   rw [hE,PT,decide_eq_true hp,show (aU s==5)=false from beq_eq_false_iff_ne.2 h,show (aU s==0)=false from beq_eq_false_iff_ne.2 h',decide_eq_true (show (1:Int)<=(s.size:Int) by omega),decide_eq_true (Int.le_refl (s.size:Int)),decide_eq_true (show (0:Int)<=1 by omega)]
   simp only [cond_true,cond_false,Bool.and_self]
   rw [show ao 1000000 (v:Int) 1=((sat v 1:Nat):Int) from Qa (n:=1) hv,show Int.toNat 1=1 from rfl,ih k (sat v 1) Q (by omega) (vR _ _) (by omega),e1,e2,e3,UD,Nat.add_comm 1]
end Go.Proofs.YtainfdcfkgemhaaGreat
namespace Go.Proofs.YtainfdcfkgemhaaGreat
open Go Go.Proofs Go.Sx
set_option linter.unusedVariables false
def JM (vals:List SV) (m:Mem):Option (Bool×Ex×St) :=
 match vals,m with
 | [.ptr 0 0,.row 0,.v (.string r)],⟨[[.v (.string w),.ptr 1 0],[.v (.int .i64 a),.v (.int .i64 v)]],[true,true],[.live ⟨284,[.num .i64,.str],Q,true,false⟩]⟩ =>
  some (a==1000000&&(iT 1000001 v&&Nat.ble (Q.length+r.size) 1099511627775),.exit 0,mT w a ((sat v.toNat (sD r):Nat):Int) (Q++dE r) (sR r))
 | _,_=>none
def ΛFeed:bg:=fun _ st=>dg 2 0 mc JM st
theorem qcn (z:Base) (h1:z.L.length=2) (h2:z.U.length=0):a9 ΛFeed prog z mF:=by
 refine d9 (Λ:=L0) (kx:=fun _=>mc) z9 mixed h1 h2 (fun b hb=>by rw [qbL] at hb;cases hb) (G:=JM) (fun _=>rfl) ?_
 intro vals m e st' h
 unfold JM at h
 split at h
 ·rename_i r w a v Q
  obtain ⟨hg,rfl,rfl⟩:=an h
  simp only [Bool.and_eq_true,beq_iff_eq] at hg
  obtain ⟨rfl,hv,hq⟩:=hg
  obtain ⟨n,rfl,hn⟩:=sM hv
  have hq:=Nat.le_of_ble_eq_true hq
  exact ⟨r.size+1,qgw (fun k v Q r=>au ΓJa prog L0 (aj 2 0 mc) mF k (mT w 1000000 v Q r) Ak) (fun v Q r=>(.exit 0,mT w 1000000 v Q r)) (fun k v Q r=>Uj k w 1000000 v Q r) r (r.size+1) n Q (by omega) (by omega) (by omega)⟩
 ·cases h
def jG (w s:ByteArray) (a v:Int):Bool:=a==1000000&&(iT 1000001 v&&Nat.ble (w.size+s.size) 1099511627775)
theorem YD (w s:ByteArray) (a v:Int):runG ΓJa ΛFeed prog f139 [.ptr 0 0,.v (S s)] (MS w a v) =
 bif Nat.ble (w.size+s.size) 9223372036854775807 then (bif a==1000000&&(iT 1000001 v&&Nat.ble (([]:List (List Dat)).length+(w++s).size) 1099511627775) then
  (bif decide (0<=(if wI (((sR (w++s)).size:Int) - 1024)>0 then wI (((sR (w++s)).size:Int) - 1024) else 0))&&(decide ((if wI (((sR (w++s)).size:Int) - 1024)>0 then wI (((sR (w++s)).size:Int) - 1024) else 0)<=((sR (w++s)).size:Int))&&decide (((sR (w++s)).size:Int)<=((sR (w++s)).size:Int))) then
   (bif Nat.ble ((sR (w++s)).extract (if wI (((sR (w++s)).size:Int) - 1024)>0 then wI (((sR (w++s)).size:Int) - 1024) else 0).toNat (sR (w++s)).size).size 281474976710656 then
    some (.row 0,MF 284 ((sR (w++s)).extract (if wI (((sR (w++s)).size:Int) - 1024)>0 then wI (((sR (w++s)).size:Int) - 1024) else 0).toNat (sR (w++s)).size) a (ao a ((sat v.toNat (sD (w++s)):Nat):Int) (if wI (((sR (w++s)).size:Int) - 1024)>0 then wI (((sR (w++s)).size:Int) - 1024) else 0)) ([]++dE (w++s))) else none) else none) else none) else none:=by kernel_rfl
theorem qgv {w s:ByteArray} {v:Int} (hv:iT 1000001 v=true) (hs:Nat.ble (w.size+s.size) 1099511627775=true):runG ΓJa ΛFeed prog f139 [.ptr 0 0,.v (S s)] (MS w 1000000 v) =
  some (.row 0,MF 284 (sR (w++s)) 1000000 ((sat v.toNat (sD (w++s)):Nat):Int) (dE (w++s))):=by
 refine (YD w s 1000000 v).trans ?_
 have hs':=Nat.le_of_ble_eq_true hs
 have hsz:(w++s).size=w.size+s.size:=ByteArray.size_append
 have hR:=Lm (w++s)
 have e0:(if wI (((sR (w++s)).size:Int) - 1024)>0 then wI (((sR (w++s)).size:Int) - 1024) else 0)=0:=by
  rw [aC (by omega),if_neg (by omega)]
 obtain ⟨n,rfl,hn⟩:=sM hv
 rw [e0,hsz,show ([]:List (List Dat)).length+(w.size+s.size)=w.size+s.size from Nat.zero_add _,hs,hv,Nat.ble_eq_true_of_le (show w.size+s.size<=9223372036854775807 by omega),show ((0:Int)).toNat=0 from rfl,yT,
  Nat.ble_eq_true_of_le (show (sR (w++s)).size<=281474976710656 by omega),decide_eq_true (show (0:Int)<=((sR (w++s)).size:Int) by omega),decide_eq_true (Int.le_refl ((sR (w++s)).size:Int)),show ao 1000000 ((sat ((n:Int)).toNat (sD (w++s)):Nat):Int) 0=((sat ((n:Int)).toNat (sD (w++s)):Nat):Int) from (Qa (n:=0) (vR _ _)).trans (by rw [Lk (vR _ _)])]
 rfl
def yv (xs:List SV) (m:Mem):Option (Bool×SV×Mem) :=
 match xs,m with
 | [.ptr 0 0,.v (.string s)],⟨[[.v (.string w),.ptr 1 0],[.v (.int .i64 a),.v (.int .i64 v)]],[true,true],[]⟩=>some (jG w s a v,.row 0,MF 284 (sR (w++s)) 1000000 ((sat v.toNat (sD (w++s)):Nat):Int) (dE (w++s)))
 | [.v (.pointer none),.v (.string s)],⟨[],[],[]⟩=>some (true,.row 0,⟨[],[],[kT 284 []]⟩)
 | _,_=>none
theorem TW (z:Base):a9 ΛFeed prog z mF->∀ b∈aL (f139.body.getD .skip),a9 ΛFeed prog z b:=fun h=>bX qbM h
theorem YC (s:ByteArray):runG ΓJa L0 prog f139 [.v MA,.v (S s)] M0=some (.row 0,⟨[],[],[kT 284 []]⟩):=by kernel_rfl
theorem qa2 (s:ByteArray):bB prog 139 [.v MA,.v (S s)] M0 (.row 0) ⟨[],[],[kT 284 []]⟩ :=
 af (c:=f139.body.getD .skip) (Λ:=L0) z9 func139 rfl (fun z h1 h2 b hb st t h=>by cases h) (YC s)
theorem yu:aM 139 yv:=by
 intro xs m r m' h
 unfold yv at h
 split at h
 ·rename_i s w a v
  obtain ⟨hg,rfl,rfl⟩:=an h
  unfold jG at hg
  simp only [Bool.and_eq_true,beq_iff_eq] at hg
  obtain ⟨rfl,hv,hs⟩:=hg
  refine af (c:=f139.body.getD .skip) (Λ:=ΛFeed) z9 func139 rfl (fun z h1 h2=>TW z (qcn z h1 h2)) (qgv hv hs)
 ·rename_i s
  obtain ⟨_,rfl,rfl⟩:=an h
  exact qa2 s
 ·cases h
def ΓM1:Orc:=aw 139 yv ΓJa
theorem IH:ΓM1.Ok prog:=aq z9 yu
def lZ:List Bool:=aE 37 [0,5,6]
def oh:Code:=cH (f62.body.getD .skip) 0
theorem qbs:aL (f62.body.getD .skip)=[oh]:=by kernel_rfl
theorem qbr:aL oh=[]:=by kernel_rfl
def Aj (e:Ex) (st:St):Option (Ex×St):=some (e,aj 0 0 lZ st)
def mS (d:Int) (Q:List (List Dat)) (r:ByteArray):St:=mk lZ [.v (S r),.row 0,.v (I d)] ⟨[],[],[kT 151 Q]⟩
theorem T7 (k:Nat) (d:Int) (Q:List (List Dat)) (r:ByteArray):au ΓM1 prog L0 (aj 0 0 lZ) oh (k+1) (mS d Q r) Aj =
 bif decide ((r.size:Int)>0) then (bif aU r==5 then some (.exit 0,mS d Q r) else bif aU r==0 then
  (bif pu Q 24 then (bif decide (0<=bJ r)&&(decide (bJ r<=(r.size:Int))&&decide ((r.size:Int)<=(r.size:Int))) then au ΓM1 prog L0 (aj 0 0 lZ) oh k (mS d (Q++[fr r]) (r.extract (bJ r).toNat r.size)) Aj else none) else none) else
  (bif decide ((0:Int)<=1)&&(decide (1<=(r.size:Int))&&decide ((r.size:Int)<=(r.size:Int))) then au ΓM1 prog L0 (aj 0 0 lZ) oh k (mS (wI (d+1)) Q (r.extract (Int.toNat 1) r.size)) Aj else none))
 else some (.exit 0,mS d Q r):=by kernel_rfl
theorem UC {α:Type} (E:Nat->Int->List (List Dat)->ByteArray->Option α) (F:Int->List (List Dat)->ByteArray->α)
  (hE:∀ k v Q r,E (k+1) v Q r=bif decide ((r.size:Int)>0) then (bif aU r==5 then some (F v Q r) else bif aU r==0 then
   (bif pu Q 24 then (bif decide (0<=bJ r)&&(decide (bJ r<=(r.size:Int))&&decide ((r.size:Int)<=(r.size:Int))) then E k v (Q++[fr r]) (r.extract (bJ r).toNat r.size) else none) else none) else
   (bif decide ((0:Int)<=1)&&(decide (1<=(r.size:Int))&&decide ((r.size:Int)<=(r.size:Int))) then E k (wI (v+1)) Q (r.extract (Int.toNat 1) r.size) else none)) else some (F v Q r)) :
  ∀ (r:ByteArray) (k v:Nat) (Q:List (List Dat)),r.size<k->v+r.size<1099511627776->Q.length+r.size<1099511627776->E k (v:Int) Q r=some (F ((v+sD r:Nat):Int) (Q++dE r) (sR r)):=by
 refine rI (fun s h k v Q hk hv hq=>?_) (fun s h ih k v Q hk hv hq=>?_) (fun s h h' ih k v Q hk hv hq=>?_)
 ·obtain ⟨e1,e2,e3⟩:=pm h
  cases k with
  | zero=>omega
  | succ k =>
   rw [hE,h,e1,e2,e3,Nat.add_zero,List.append_nil]
   cases decide ((s.size:Int)>0)<;>rfl
 ·obtain ⟨g1,g2,g3,_⟩:=lT h
  obtain ⟨e1,e2,e3⟩:=pn h
  have hsz:=gu g1
  cases k with
  | zero=>omega
  | succ k =>
   rw [hE,decide_eq_true (show (s.size:Int)>0 by omega),show (aU s==5)=false from by rw [h];rfl,show (aU s==0)=true from by rw [h];rfl,LH (by omega) (by omega),decide_eq_true (show 0<=bJ s by omega),decide_eq_true (show bJ s<=(s.size:Int) by omega),decide_eq_true (Int.le_refl (s.size:Int))]
   simp only [cond_true,cond_false,Bool.and_self]
   rw [ih k v (Q++[fr s]) (by omega) (by omega) (by simp only [List.length_append,List.length_cons,List.length_nil];omega),e1,e2,e3,List.append_assoc]
   rfl
 ·have hp:=pz h
  obtain ⟨e1,e2,e3⟩:=rJ h h'
  have hsz:=gu (s:=s) (n:=1) hp
  cases k with
  | zero=>omega
  | succ k =>
   rw [hE,decide_eq_true (show (s.size:Int)>0 by omega),show (aU s==5)=false from beq_eq_false_iff_ne.2 h,show (aU s==0)=false from beq_eq_false_iff_ne.2 h',decide_eq_true (show (1:Int)<=(s.size:Int) by omega),decide_eq_true (Int.le_refl (s.size:Int)),decide_eq_true (show (0:Int)<=1 by omega)]
   simp only [cond_true,cond_false,Bool.and_self]
   rw [aC (by omega),show ((v:Int)+1)=((v+1:Nat):Int) by omega,show Int.toNat 1=1 from rfl,ih k (v+1) Q (by omega) (by omega) (by omega),e1,e2,e3,show v+1+sD (s.extract 1 s.size)=v+(sD (s.extract 1 s.size)+1) by omega]
def Ju (vals:List SV) (m:Mem):Option (Bool×Ex×St) :=
 match vals,m with
 | [.v (.string r),.row 0,.v (.int .i64 d)],⟨[],[],[.live ⟨151,[.num .i64,.str],Q,true,false⟩]⟩ =>
  some (iT 1000001 d&&(Nat.ble r.size 1000000&&Nat.ble Q.length 1000000),.exit 0,mS ((d.toNat+sD r:Nat):Int) (Q++dE r) (sR r))
 | _,_=>none
def ΛScan:bg:=fun _ st=>dg 0 0 lZ Ju st
theorem qb9 (z:Base) (h1:z.L.length=0) (h2:z.U.length=0):a9 ΛScan prog z oh:=by
 refine d9 (Λ:=L0) (kx:=fun _=>lZ) IH mixed h1 h2 (fun b hb=>by rw [qbr] at hb;cases hb) (G:=Ju) (fun _=>rfl) ?_
 intro vals m e st' h
 unfold Ju at h
 split at h
 ·rename_i r d Q
  obtain ⟨hg,rfl,rfl⟩:=an h
  simp only [Bool.and_eq_true] at hg
  obtain ⟨hv,hr,hq⟩:=hg
  obtain ⟨n,rfl,hn⟩:=sM hv
  have hr:=Nat.le_of_ble_eq_true hr
  have hq:=Nat.le_of_ble_eq_true hq
  exact ⟨r.size+1,UC (fun k v Q r=>au ΓM1 prog L0 (aj 0 0 lZ) oh k (mS v Q r) Aj) (fun v Q r=>(.exit 0,mS v Q r)) (fun k v Q r=>T7 k v Q r) r (r.size+1) n Q (by omega) (by omega) (by omega)⟩
 ·cases h
theorem Wl (s:ByteArray):runG ΓM1 ΛScan prog f62 [.v (S s)] M0 =
 bif iT 1000001 0&&(Nat.ble s.size 1000000&&Nat.ble ([]:List (List Dat)).length 1000000) then some (.tup [.one (.row 0),.one (.v (S (sR s))),.one (.v (I ((Int.toNat 0+sD s:Nat):Int)))],⟨[],[],[kT 151 ([]++dE s)]⟩) else none:=by kernel_rfl
def Ef (xs:List SV) (m:Mem):Option (Bool×SV×Mem) :=
 match xs,m with
 | [.v (.string s)],⟨[],[],[]⟩=>some (Nat.ble s.size 1000000,.tup [.one (.row 0),.one (.v (S (sR s))),.one (.v (I ((sD s:Nat):Int)))],⟨[],[],[kT 151 (dE s)]⟩)
 | _,_=>none
theorem N0:aM 62 Ef:=by
 intro xs m r m' h
 unfold Ef at h
 split at h
 ·rename_i s
  obtain ⟨hg,rfl,rfl⟩:=an h
  refine af (c:=f62.body.getD .skip) (Λ:=ΛScan) IH func62 rfl (fun z h1 h2=>bX qbs (qb9 z h1 h2)) ((Wl s).trans ?_)
  rw [hg,show Int.toNat 0+sD s=sD s from Nat.zero_add _]
  rfl
 ·cases h
def ΓM2:Orc:=aw 62 Ef ΓM1
theorem RL:ΓM2.Ok prog:=aq IH N0
end Go.Proofs.YtainfdcfkgemhaaGreat
namespace Go.Proofs.YtainfdcfkgemhaaGreat
open Go Go.Proofs Go.Sx
set_option linter.unusedVariables false
theorem Kr {x:Int} (h0:0<=x) (h1:x<=255):((UInt8.ofNat (IntKind.u8.wrap x).toNat).toNat:Int)=x:=by
 obtain ⟨n,rfl⟩:∃ n:Nat,x=(n:Int):=⟨x.toNat,by omega⟩
 rw [AF,Int.toNat_natCast,UInt8.toNat_ofNat']
 omega
theorem qas (k:Int) (p:ByteArray):L (cj k p)=165::90::UInt8.ofNat (IntKind.u8.wrap k).toNat::UInt8.ofNat (IntKind.u8.wrap (p.size:Int)).toNat::(L p++L (fG (cR k p))):=by
 unfold cj
 rw [dC,dC]
 have:L (cR k p)=UInt8.ofNat (IntKind.u8.wrap k).toNat::UInt8.ofNat (IntKind.u8.wrap (p.size:Int)).toNat::L p:=by
  unfold cR
  rw [dC,uz]
  rfl
 rw [this]
 rfl
theorem qah {k:Int} {p:ByteArray} (h:d6 k p=true) (t:ByteArray):aU (cj k p++t)=0/\eG (cj k p++t)=k/\aG (cj k p++t)=p/\bJ (cj k p++t)=((cj k p).size:Int):=by
 obtain ⟨hp,hk0,hk1⟩:=wn h
 have hsz:=L5 k p
 have hall:(cj k p++t).size=(cj k p).size+t.size:=ByteArray.size_append
 have hl:=qas k p
 have at0:aa (cj k p++t) 0=165:=by
  have:=ek (cj k p++t) 0
  rw [dC,hl] at this
  exact this
 have at1:aa (cj k p++t) 1=90:=by
  have:=ek (cj k p++t) 1
  rw [dC,hl] at this
  exact this
 have at2:aa (cj k p++t) 2=k:=by
  have:=ek (cj k p++t) 2
  rw [dC,hl] at this
  exact this.trans (Kr hk0 hk1)
 have at3:aa (cj k p++t) 3=(p.size:Int):=by
  have:=ek (cj k p++t) 3
  rw [dC,hl] at this
  exact this.trans (Kr (by omega) (by omega))
 have hn:aY (cj k p++t)=((6+p.size:Nat):Int):=by
  unfold aY
  rw [at3]
  omega
 have hbad:cX (cj k p++t)=false:=by
  unfold cX
  rw [at0,at1,at3]
  simp only [Bool.or_eq_false_iff,Bool.and_eq_false_iff,decide_eq_false_iff_not]
  refine ⟨.inr rfl,.inr rfl,.inr (by omega)⟩
 have hsh:fa (cj k p++t)=false:=by
  unfold fa
  rw [hn]
  simp only [Bool.or_eq_false_iff,decide_eq_false_iff_not]
  omega
 have hpo:eJ (cj k p++t)=p:=by
  rw [<- f9]
  have:L (cj k p++t)=165::90::UInt8.ofNat (IntKind.u8.wrap k).toNat::UInt8.ofNat (IntKind.u8.wrap (p.size:Int)).toNat::((L p++L (fG (cR k p)))++L t):=by
   rw [dC,hl]
   rfl
  rw [Cf (d:=p.size) this hn,List.append_assoc,List.take_append_of_le_length (by rw [fw];omega),List.take_of_length_le (by rw [fw];omega)]
 have hko:eL (cj k p++t)=k:=at2
 have hok:okB (cj k p++t)=true:=by
  unfold okB
  rw [hko,hpo,hn,OO (by omega),show ((6+p.size:Nat):Int).toNat=(cj k p).size by omega,yT,ji]
 have hE:aU (cj k p++t)=0:=by
  unfold aU
  rw [hbad,hsh,hok]
  rfl
 obtain ⟨_,_,_,g1,g2,g3,_⟩:=lT hE
 exact ⟨hE,g1.trans hko,g2.trans hpo,by rw [g3,hn];omega⟩
theorem qat {k:Int} {p:ByteArray} (h:d6 k p=true):printB k p=cj k p:=by unfold printB;rw [h];rfl
theorem B9 (k:Int) (p:ByteArray):(printB k p).size<=70:=by
 unfold printB
 cases h:d6 k p with
 | false=>exact Nat.zero_le _
 | true =>
  have:=wn h
  have:=L5 k p
  show (cj k p).size<=70
  omega
end Go.Proofs.YtainfdcfkgemhaaGreat
namespace Go.Proofs.YtainfdcfkgemhaaGreat
open Go Go.Proofs Go.Sx
set_option linter.unusedVariables false
def Jb (a b c d e f g q:Int):Mem:=⟨[[.v (I a),.v (I b),.v (I c),.v (I d),.v (I e),.v (I f),.v (I g),.v (I q)]],[true],[]⟩
theorem zw (b X:Bool):(bif b then some (SV.v (Bo false),M0) else some (SV.v (Bo X),M0))=some (SV.v (Bo (!b&&X)),M0):=by cases b<;>rfl
theorem PP (b X:Bool):(bif b then some (SV.v (Bo X),M0) else some (SV.v (Bo false),M0))=some (SV.v (Bo (b&&X)),M0):=by cases b<;>rfl
def jI (a b c d e f g q:Int):Bool:=decide (0<=a/\a<=65535/\0<=b/\b<=255/\-2147483648<=c/\c<=2147483647/\-2147483648<=d/\d<=2147483647/\-2147483648<=e/\e<=2147483647/\-2147483648<=f/\f<=2147483647/\-2147483648<=g/\g<=2147483647/\-2147483648<=q/\q<=2147483647)
theorem XF (a b c d e f g q:Int):runG ΓM2 L0 prog f181 [.ptr 0 0] (Jb a b c d e f g q)=some (.ag [.ptr 0 2,.ptr 0 3,.ptr 0 4,.ptr 0 5,.ptr 0 6,.ptr 0 7],Jb a b c d e f g q):=by kernel_rfl
def E4 (xs:List SV) (m:Mem):Option (Bool×SV×Mem) :=
 match xs,m with
 | [.ptr 0 0],⟨[[.v (.int .i64 a),.v (.int .i64 b),.v (.int .i64 c),.v (.int .i64 d),.v (.int .i64 e),.v (.int .i64 f),.v (.int .i64 g),.v (.int .i64 q)]],[true],[]⟩=>some (true,.ag [.ptr 0 2,.ptr 0 3,.ptr 0 4,.ptr 0 5,.ptr 0 6,.ptr 0 7],Jb a b c d e f g q)
 | _,_=>none
theorem qeB:aM 181 E4:=by
 intro xs m r m' h
 unfold E4 at h
 split at h
 ·rename_i a b c d e f g q
  obtain ⟨h1,rfl,rfl⟩:=an h
  refine af (Λ:=L0) RL func181 rfl (fun z _ _=>bV _ z) ?_
  exact (XF a b c d e f g q).trans (rfl)
 ·cases h
def ΓN1:Orc:=aw 181 E4 ΓM2
theorem OkN1:ΓN1.Ok prog:=aq RL qeB
theorem Xc (a b c d e f g q:Int):runG ΓN1 L0 prog f267 [.v (.agg #[I a,I b,I c,I d,I e,I f,I g,I q])] M0=some (.row 0,⟨[],[],[.live ⟨2,[.num .i64],[[.n c],[.n d],[.n e],[.n f],[.n g],[.n q]],true,false⟩]⟩):=by kernel_rfl
def EN (xs:List SV) (m:Mem):Option (Bool×SV×Mem) :=
 match xs,m with
 | [.v (.agg ⟨[.int .i64 a,.int .i64 b,.int .i64 c,.int .i64 d,.int .i64 e,.int .i64 f,.int .i64 g,.int .i64 q]⟩)],⟨[],[],[]⟩=>some (true,.row 0,⟨[],[],[.live ⟨2,[.num .i64],[[.n c],[.n d],[.n e],[.n f],[.n g],[.n q]],true,false⟩]⟩)
 | _,_=>none
theorem qem:aM 267 EN:=by
 intro xs m r m' h
 unfold EN at h
 split at h
 ·rename_i a b c d e f g q
  obtain ⟨h1,rfl,rfl⟩:=an h
  refine af (Λ:=L0) OkN1 func267 rfl (fun z _ _=>bV _ z) ?_
  exact (Xc a b c d e f g q).trans (rfl)
 ·cases h
def ΓN2:Orc:=aw 267 EN ΓN1
theorem RH:ΓN2.Ok prog:=aq OkN1 qem
theorem XN (a b c d e f g q:Int):runG ΓN2 L0 prog f180 [.v (.agg #[I a,I b,I c,I d,I e,I f,I g,I q])] M0=bif decide (a<0) then some (.v (Bo false),M0) else (bif decide (a>65535) then some (.v (Bo false),M0) else (bif decide (b<0) then some (.v (Bo false),M0) else (bif decide (b>255) then some (.v (Bo false),M0) else (bif decide (c< -2147483648) then some (.v (Bo false),M0) else (bif decide (c>2147483647) then some (.v (Bo false),M0) else (bif decide (d< -2147483648) then some (.v (Bo false),M0) else (bif decide (d>2147483647) then some (.v (Bo false),M0) else (bif decide (e< -2147483648) then some (.v (Bo false),M0) else (bif decide (e>2147483647) then some (.v (Bo false),M0) else (bif decide (f< -2147483648) then some (.v (Bo false),M0) else (bif decide (f>2147483647) then some (.v (Bo false),M0) else (bif decide (g< -2147483648) then some (.v (Bo false),M0) else (bif decide (g>2147483647) then some (.v (Bo false),M0) else (bif decide (q< -2147483648) then some (.v (Bo false),M0) else (bif decide (q>2147483647) then some (.v (Bo false),M0) else (some (.v (Bo true),M0))))))))))))))))):=by kernel_rfl
def Fd (vs:List Value):Option (Bool×Value) :=
 match vs with
 | [.agg ⟨[.int .i64 a,.int .i64 b,.int .i64 c,.int .i64 d,.int .i64 e,.int .i64 f,.int .i64 g,.int .i64 q]⟩]=>some (true,Bo (jI a b c d e f g q))
 | _=>none
theorem qeI:am 180 Fd:=by
 intro vs r h
 unfold Fd at h
 split at h
 ·rename_i a b c d e f g q
  obtain ⟨h1,rfl⟩:=ab h
  refine ak (vs:=[.agg #[I a,I b,I c,I d,I e,I f,I g,I q]]) (Λ:=L0) (m':=M0) RH func180 rfl (fun z _ _=>bV _ z) ?_
  exact (XN a b c d e f g q).trans (by
   simp only [zw]
   congr 4
   rw [Bool.eq_iff_iff]
   unfold jI
   simp only [Bool.and_true,Bool.and_eq_true,Bool.not_eq_true',decide_eq_false_iff_not,decide_eq_true_eq]
   omega)
 ·cases h
def ΓN3:Orc:=ah 180 Fd ΓN2
theorem RG:ΓN3.Ok prog:=ac RH qeI
theorem Xd (a b c d e f g q:Int):runG ΓN3 L0 prog f266 [.v (.agg #[I a,I b,I c,I d,I e,I f,I g,I q])] M0=bif decide (c< -2147483648) then some (.v (Bo false),M0) else (bif decide (c>2147483647) then some (.v (Bo false),M0) else (bif decide (d< -2147483648) then some (.v (Bo false),M0) else (bif decide (d>2147483647) then some (.v (Bo false),M0) else (bif decide (e< -2147483648) then some (.v (Bo false),M0) else (bif decide (e>2147483647) then some (.v (Bo false),M0) else (bif decide (f< -2147483648) then some (.v (Bo false),M0) else (bif decide (f>2147483647) then some (.v (Bo false),M0) else (bif decide (g< -2147483648) then some (.v (Bo false),M0) else (bif decide (g>2147483647) then some (.v (Bo false),M0) else (bif decide (q< -2147483648) then some (.v (Bo false),M0) else (bif decide (q>2147483647) then some (.v (Bo false),M0) else (bif decide (a>=0) then (bif decide (a<=65535) then (bif decide (b>=0) then some (.v (Bo (decide (b<=255))),M0) else some (.v (Bo false),M0)) else some (.v (Bo false),M0)) else some (.v (Bo false),M0))))))))))))):=by kernel_rfl
def EO (vs:List Value):Option (Bool×Value) :=
 match vs with
 | [.agg ⟨[.int .i64 a,.int .i64 b,.int .i64 c,.int .i64 d,.int .i64 e,.int .i64 f,.int .i64 g,.int .i64 q]⟩]=>some (true,Bo (jI a b c d e f g q))
 | _=>none
theorem qen:am 266 EO:=by
 intro vs r h
 unfold EO at h
 split at h
 ·rename_i a b c d e f g q
  obtain ⟨h1,rfl⟩:=ab h
  refine ak (vs:=[.agg #[I a,I b,I c,I d,I e,I f,I g,I q]]) (Λ:=L0) (m':=M0) RG func266 rfl (fun z _ _=>bV _ z) ?_
  exact (Xd a b c d e f g q).trans (by
   simp only [zw,PP]
   congr 4
   rw [Bool.eq_iff_iff]
   unfold jI
   simp only [Bool.and_eq_true,Bool.not_eq_true',decide_eq_false_iff_not,decide_eq_true_eq]
   omega)
 ·cases h
def ΓN4:Orc:=ah 266 EO ΓN3
theorem RF:ΓN4.Ok prog:=ac RG qen
def jo (x y:Int):Int:=IntKind.u64.wrap (IntKind.u64.wrap (if y>x then y else x) - IntKind.u64.wrap (if y<x then y else x))
theorem ZL (x y:Int):runG ΓN4 L0 prog f279 [.v (I x),.v (I y)] M0=some (.v (f8 (jo x y)),M0):=by kernel_rfl
def GS (vs:List Value):Option (Bool×Value) :=
 match vs with
 | [.int .i64 x,.int .i64 y]=>some (true,f8 (jo x y))
 | _=>none
theorem qgf:am 279 GS:=by
 intro vs r h
 unfold GS at h
 split at h
 ·rename_i x y
  obtain ⟨h1,rfl⟩:=ab h
  refine ak (vs:=[I x,I y]) (Λ:=L0) (m':=M0) RF func279 rfl (fun z _ _=>bV _ z) ?_
  exact (ZL x y).trans (rfl)
 ·cases h
def ΓN5:Orc:=ah 279 GS ΓN4
theorem qjz:ΓN5.Ok prog:=ac RF qgf
def ΓN6:Orc:=ΓN5
theorem qjy:ΓN6.Ok prog:=qjz
def ΓN7:Orc:=ΓN6
theorem RE:ΓN7.Ok prog:=qjy
def kindI (x:Int):Int:=if x=0 then 16 else if x=1 then 17 else -1
theorem X8 (x:Int):runG ΓN7 L0 prog f113 [.v (I x)] M0=bif decide (x<0) then some (.v (I (-1)),M0) else (bif decide (x>=2) then some (.v (I (-1)),M0) else some (.v (I (IntKind.i64.wrap (16+x))),M0)):=by kernel_rfl
def Fv (vs:List Value):Option (Bool×Value) :=
 match vs with
 | [.int .i64 x]=>some (true,I (kindI x))
 | _=>none
theorem qeZ:am 113 Fv:=by
 intro vs r h
 unfold Fv at h
 split at h
 ·rename_i x
  obtain ⟨h1,rfl⟩:=ab h
  refine ak (vs:=[I x]) (Λ:=L0) (m':=M0) RE func113 rfl (fun z _ _=>bV _ z) ?_
  exact (X8 x).trans (by
   unfold kindI
   by_cases h0:x=0
   ·subst h0;rfl
   by_cases h2:x=1
   ·subst h2;rfl
   rw [if_neg h0,if_neg h2]
   by_cases h3:x<0
   ·rw [decide_eq_true h3];rfl
   ·rw [decide_eq_false h3,decide_eq_true (show x>=2 by omega)];rfl)
 ·cases h
def ΓN8:Orc:=ah 113 Fv ΓN7
theorem qjx:ΓN8.Ok prog:=ac RE qeZ
def ΓN9:Orc:=ΓN8
theorem RD:ΓN9.Ok prog:=qjx
def Cr (a b c d e f g q:Int):ByteArray:=((((((be 2 (a)++be 1 (b))++be 4 (c))++be 4 (d))++be 4 (e))++be 4 (f))++be 4 (g))++be 4 (q)
def printT (a b c d e f g q:Int):ByteArray:=bif jI a b c d e f g q then Cr a b c d e f g q else ⟨#[]⟩
theorem XP (a b c d e f g q:Int):runG ΓN9 L0 prog f114 [.v (.agg #[I a,I b,I c,I d,I e,I f,I g,I q])] M0=bif !jI a b c d e f g q then some (.v (S ⟨#[]⟩),M0) else (bif Nat.ble ((be 2 (IntKind.u64.wrap a)).size+(be 1 (IntKind.u64.wrap b)).size) 9223372036854775807 then (bif Nat.ble ((be 2 (IntKind.u64.wrap a)++be 1 (IntKind.u64.wrap b)).size+(be 4 (IntKind.u64.wrap c)).size) 9223372036854775807 then (bif Nat.ble (((be 2 (IntKind.u64.wrap a)++be 1 (IntKind.u64.wrap b))++be 4 (IntKind.u64.wrap c)).size+(be 4 (IntKind.u64.wrap d)).size) 9223372036854775807 then (bif Nat.ble ((((be 2 (IntKind.u64.wrap a)++be 1 (IntKind.u64.wrap b))++be 4 (IntKind.u64.wrap c))++be 4 (IntKind.u64.wrap d)).size+(be 4 (IntKind.u64.wrap e)).size) 9223372036854775807 then (bif Nat.ble (((((be 2 (IntKind.u64.wrap a)++be 1 (IntKind.u64.wrap b))++be 4 (IntKind.u64.wrap c))++be 4 (IntKind.u64.wrap d))++be 4 (IntKind.u64.wrap e)).size+(be 4 (IntKind.u64.wrap f)).size) 9223372036854775807 then (bif Nat.ble ((((((be 2 (IntKind.u64.wrap a)++be 1 (IntKind.u64.wrap b))++be 4 (IntKind.u64.wrap c))++be 4 (IntKind.u64.wrap d))++be 4 (IntKind.u64.wrap e))++be 4 (IntKind.u64.wrap f)).size+(be 4 (IntKind.u64.wrap g)).size) 9223372036854775807 then (bif Nat.ble (((((((be 2 (IntKind.u64.wrap a)++be 1 (IntKind.u64.wrap b))++be 4 (IntKind.u64.wrap c))++be 4 (IntKind.u64.wrap d))++be 4 (IntKind.u64.wrap e))++be 4 (IntKind.u64.wrap f))++be 4 (IntKind.u64.wrap g)).size+(be 4 (IntKind.u64.wrap q)).size) 9223372036854775807 then some (.v (S (((((((be 2 (IntKind.u64.wrap a)++be 1 (IntKind.u64.wrap b))++be 4 (IntKind.u64.wrap c))++be 4 (IntKind.u64.wrap d))++be 4 (IntKind.u64.wrap e))++be 4 (IntKind.u64.wrap f))++be 4 (IntKind.u64.wrap g))++be 4 (IntKind.u64.wrap q))),M0) else none) else none) else none) else none) else none) else none) else none):=by kernel_rfl
def Fe (vs:List Value):Option (Bool×Value) :=
 match vs with
 | [.agg ⟨[.int .i64 a,.int .i64 b,.int .i64 c,.int .i64 d,.int .i64 e,.int .i64 f,.int .i64 g,.int .i64 q]⟩]=>some (true,S (printT a b c d e f g q))
 | _=>none
theorem qeJ:am 114 Fe:=by
 intro vs r h
 unfold Fe at h
 split at h
 ·rename_i a b c d e f g q
  obtain ⟨h1,rfl⟩:=ab h
  refine ak (vs:=[.agg #[I a,I b,I c,I d,I e,I f,I g,I q]]) (Λ:=L0) (m':=M0) RD func114 rfl (fun z _ _=>bV _ z) ?_
  exact (XP a b c d e f g q).trans (by
   unfold printT
   cases jI a b c d e f g q with
   | false=>rfl
   | true =>
    simp only [HM,qhJ,zx,ByteArray.size_append,ot]
    rfl)
 ·cases h
def ΓN10:Orc:=ah 114 Fe ΓN9
theorem RI:ΓN10.Ok prog:=ac RD qeJ
theorem BZ (x:Int) (j k:Nat) (h:(2:Int) ^ min (Int.toNat (8*k:Nat)) 32=256 ^ k) (hj:j=8*k) (hk:k<=3):IntKind.u8.wrap ((IntKind.u32.wrap x).fdiv (2 ^ min (Int.toNat (j:Nat)) 32))=x / 256 ^ k % 256:=by
 subst hj
 rw [h,Int.fdiv_eq_ediv_of_nonneg _ (Int.le_of_lt (Int.pow_pos (by decide))),<- cE true,<- cE true]
 simp only [wr]
 have:k=0\/k=1\/k=2\/k=3:=by omega
 rcases this with rfl|rfl|rfl|rfl<;>omega
theorem pB (x:Int):strOfNums [IntKind.u8.wrap ((IntKind.u32.wrap x).fdiv (2 ^ min (Int.toNat 24) 32)),IntKind.u8.wrap ((IntKind.u32.wrap x).fdiv (2 ^ min (Int.toNat 16) 32)),IntKind.u8.wrap ((IntKind.u32.wrap x).fdiv (2 ^ min (Int.toNat 8) 32)),IntKind.u8.wrap (IntKind.u32.wrap x)]=be 4 x:=by
 have e1:=BZ x 8 1 (by decide) rfl (by decide)
 have e2:=BZ x 16 2 (by decide) rfl (by decide)
 have e3:=BZ x 24 3 (by decide) rfl (by decide)
 rw [show ((8:Nat):Int)=8 from rfl] at e1
 rw [show ((16:Nat):Int)=16 from rfl] at e2
 rw [show ((24:Nat):Int)=24 from rfl] at e3
 have e0:IntKind.u8.wrap (IntKind.u32.wrap x)=x / 256 ^ 0 % 256:=by
  rw [<- cE true,<- cE true]
  simp only [wr]
  omega
 rw [e0,e1,e2,e3];rfl
theorem ZR (a b c d e f g q:Int) (h0:0<=a) (h1:a<=65535):strOfNums [IntKind.u8.wrap (IntKind.i64.wrap (a.tdiv 256)),IntKind.u8.wrap (a.tmod 256),IntKind.u8.wrap b,IntKind.u8.wrap ((IntKind.u32.wrap c).fdiv (2 ^ min (Int.toNat 24) 32)),IntKind.u8.wrap ((IntKind.u32.wrap c).fdiv (2 ^ min (Int.toNat 16) 32)),IntKind.u8.wrap ((IntKind.u32.wrap c).fdiv (2 ^ min (Int.toNat 8) 32)),IntKind.u8.wrap (IntKind.u32.wrap c),IntKind.u8.wrap ((IntKind.u32.wrap d).fdiv (2 ^ min (Int.toNat 24) 32)),IntKind.u8.wrap ((IntKind.u32.wrap d).fdiv (2 ^ min (Int.toNat 16) 32)),IntKind.u8.wrap ((IntKind.u32.wrap d).fdiv (2 ^ min (Int.toNat 8) 32)),IntKind.u8.wrap (IntKind.u32.wrap d),IntKind.u8.wrap ((IntKind.u32.wrap e).fdiv (2 ^ min (Int.toNat 24) 32)),IntKind.u8.wrap ((IntKind.u32.wrap e).fdiv (2 ^ min (Int.toNat 16) 32)),IntKind.u8.wrap ((IntKind.u32.wrap e).fdiv (2 ^ min (Int.toNat 8) 32)),IntKind.u8.wrap (IntKind.u32.wrap e),IntKind.u8.wrap ((IntKind.u32.wrap f).fdiv (2 ^ min (Int.toNat 24) 32)),IntKind.u8.wrap ((IntKind.u32.wrap f).fdiv (2 ^ min (Int.toNat 16) 32)),IntKind.u8.wrap ((IntKind.u32.wrap f).fdiv (2 ^ min (Int.toNat 8) 32)),IntKind.u8.wrap (IntKind.u32.wrap f),IntKind.u8.wrap ((IntKind.u32.wrap g).fdiv (2 ^ min (Int.toNat 24) 32)),IntKind.u8.wrap ((IntKind.u32.wrap g).fdiv (2 ^ min (Int.toNat 16) 32)),IntKind.u8.wrap ((IntKind.u32.wrap g).fdiv (2 ^ min (Int.toNat 8) 32)),IntKind.u8.wrap (IntKind.u32.wrap g),IntKind.u8.wrap ((IntKind.u32.wrap q).fdiv (2 ^ min (Int.toNat 24) 32)),IntKind.u8.wrap ((IntKind.u32.wrap q).fdiv (2 ^ min (Int.toNat 16) 32)),IntKind.u8.wrap ((IntKind.u32.wrap q).fdiv (2 ^ min (Int.toNat 8) 32)),IntKind.u8.wrap (IntKind.u32.wrap q)]=Cr a b c d e f g q:=by
 unfold Cr
 rw [<- pB c,<- pB d,<- pB e,<- pB f,<- pB g,<- pB q]
 have e1:be 2 a++be 1 b=strOfNums [IntKind.u8.wrap (IntKind.i64.wrap (a.tdiv 256)),IntKind.u8.wrap (a.tmod 256),IntKind.u8.wrap b]:=by
  have t1:IntKind.u8.wrap (IntKind.i64.wrap (a.tdiv 256))=a / 256 ^ 1 % 256:=by
   rw [Int.tdiv_eq_ediv_of_nonneg h0]
   have:=aC (n:=a / 256) (by omega)
   unfold wI at this
   rw [this,<- cE true]
   simp only [wr]
   omega
  have t2:IntKind.u8.wrap (a.tmod 256)=a / 256 ^ 0 % 256:=by
   rw [Int.tmod_eq_emod_of_nonneg h0,<- cE true]
   simp only [wr]
   omega
  have t3:IntKind.u8.wrap b=b / 256 ^ 0 % 256:=by
   rw [<- cE true]
   simp only [wr]
   omega
  rw [t1,t2,t3]
  rfl
 rw [e1]
 simp only [<- qaY]
 rfl
theorem Xe (a b c d e f g q:Int):runG ΓN10 L0 prog f202 [.v (.agg #[I a,I b,I c,I d,I e,I f,I g,I q])] M0=bif !jI a b c d e f g q then some (.v (S ⟨#[]⟩),M0) else some (.v (S (strOfNums [IntKind.u8.wrap (IntKind.i64.wrap (a.tdiv 256)),IntKind.u8.wrap (a.tmod 256),IntKind.u8.wrap b,IntKind.u8.wrap ((IntKind.u32.wrap c).fdiv (2 ^ min (Int.toNat 24) 32)),IntKind.u8.wrap ((IntKind.u32.wrap c).fdiv (2 ^ min (Int.toNat 16) 32)),IntKind.u8.wrap ((IntKind.u32.wrap c).fdiv (2 ^ min (Int.toNat 8) 32)),IntKind.u8.wrap (IntKind.u32.wrap c),IntKind.u8.wrap ((IntKind.u32.wrap d).fdiv (2 ^ min (Int.toNat 24) 32)),IntKind.u8.wrap ((IntKind.u32.wrap d).fdiv (2 ^ min (Int.toNat 16) 32)),IntKind.u8.wrap ((IntKind.u32.wrap d).fdiv (2 ^ min (Int.toNat 8) 32)),IntKind.u8.wrap (IntKind.u32.wrap d),IntKind.u8.wrap ((IntKind.u32.wrap e).fdiv (2 ^ min (Int.toNat 24) 32)),IntKind.u8.wrap ((IntKind.u32.wrap e).fdiv (2 ^ min (Int.toNat 16) 32)),IntKind.u8.wrap ((IntKind.u32.wrap e).fdiv (2 ^ min (Int.toNat 8) 32)),IntKind.u8.wrap (IntKind.u32.wrap e),IntKind.u8.wrap ((IntKind.u32.wrap f).fdiv (2 ^ min (Int.toNat 24) 32)),IntKind.u8.wrap ((IntKind.u32.wrap f).fdiv (2 ^ min (Int.toNat 16) 32)),IntKind.u8.wrap ((IntKind.u32.wrap f).fdiv (2 ^ min (Int.toNat 8) 32)),IntKind.u8.wrap (IntKind.u32.wrap f),IntKind.u8.wrap ((IntKind.u32.wrap g).fdiv (2 ^ min (Int.toNat 24) 32)),IntKind.u8.wrap ((IntKind.u32.wrap g).fdiv (2 ^ min (Int.toNat 16) 32)),IntKind.u8.wrap ((IntKind.u32.wrap g).fdiv (2 ^ min (Int.toNat 8) 32)),IntKind.u8.wrap (IntKind.u32.wrap g),IntKind.u8.wrap ((IntKind.u32.wrap q).fdiv (2 ^ min (Int.toNat 24) 32)),IntKind.u8.wrap ((IntKind.u32.wrap q).fdiv (2 ^ min (Int.toNat 16) 32)),IntKind.u8.wrap ((IntKind.u32.wrap q).fdiv (2 ^ min (Int.toNat 8) 32)),IntKind.u8.wrap (IntKind.u32.wrap q)])),M0):=by kernel_rfl
def yf (vs:List Value):Option (Bool×Value) :=
 match vs with
 | [.agg ⟨[.int .i64 a,.int .i64 b,.int .i64 c,.int .i64 d,.int .i64 e,.int .i64 f,.int .i64 g,.int .i64 q]⟩]=>some (true,S (printT a b c d e f g q))
 | _=>none
theorem N7:am 202 yf:=by
 intro vs r h
 unfold yf at h
 split at h
 ·rename_i a b c d e f g q
  obtain ⟨h1,rfl⟩:=ab h
  refine ak (vs:=[.agg #[I a,I b,I c,I d,I e,I f,I g,I q]]) (Λ:=L0) (m':=M0) RI func202 rfl (fun z _ _=>bV _ z) ?_
  exact (Xe a b c d e f g q).trans (by
   unfold printT
   cases hr:jI a b c d e f g q with
   | false=>rfl
   | true =>
    have h0:0<=a/\a<=65535:=by
     unfold jI at hr
     have:=of_decide_eq_true hr
     omega
    rw [ZR a b c d e f g q h0.1 h0.2]
    rfl)
 ·cases h
def ΓN11:Orc:=ah 202 yf ΓN10
theorem qjA:ΓN11.Ok prog:=ac RI N7
def ΓNa:Orc:=ΓN11
theorem IG:ΓNa.Ok prog:=qjA
end Go.Proofs.YtainfdcfkgemhaaGreat
