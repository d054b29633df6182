/-
  What is known of this program: frames,streams,navs.
-/
import Derived.Test.YtainfdcfkgemhaaGreatYd
set_option maxRecDepth 100000
noncomputable section
open Go.Proofs.Tryz
namespace Go.Proofs.YtainfdcfkgemhaaGreat
open Go Go.Proofs Go.Sx
set_option linter.unusedVariables false
def ΓOp:Orc:={ call:=ΓO.call,rd:=ΓO.rd,eqv:=ΓO.eqv,unr:=8,wr:=sS }
theorem RW:ΓOp.Ok prog:=⟨bR.call,bR.rd,bR.eqv⟩
theorem Wj (s:ByteArray):runG ΓOp L0 prog f246 [.v (S s)] M0=bif bL s then some (.v (S (gK s)),M0) else none:=by kernel_rfl
def D5 (vs:List Value):Option (Bool×Value) :=
 match vs with
 | [.string s]=>some (bL s,S (gK s))
 | _=>none
theorem qeb:an 246 D5:=by
 intro vs r h
 unfold D5 at h
 split at h
 ·rename_i s
  obtain ⟨h1,rfl⟩:=aa h
  refine am (vs:=[S s]) (Λ:=L0) (m':=M0) RW func246 rfl (fun z _ _=>noLoops (by kernel_rfl) z) ?_
  exact (Wj s).trans (by rw [h1];rfl)
 ·cases h
def ΓF1:Orc:=ah 246 D5 ΓOp
theorem OkF1:ΓF1.Ok prog:=ac RW qeb
theorem VQ (x:Int):runG ΓF1 L0 prog f200 [.v (bJ x)] M0=some (.v (S (sc x)),M0):=by kernel_rfl
def DP (vs:List Value):Option (Bool×Value) :=
 match vs with
 | [.int .u16 x]=>some (true,S (sc x))
 | _=>none
theorem qdY:an 200 DP:=by
 intro vs r h
 unfold DP at h
 split at h
 ·rename_i x
  obtain ⟨h1,rfl⟩:=aa h
  refine am (vs:=[bJ x]) (Λ:=L0) (m':=M0) OkF1 func200 rfl (fun z _ _=>noLoops (by kernel_rfl) z) ?_
  exact (VQ x).trans (rfl)
 ·cases h
def ΓF2:Orc:=ah 200 DP ΓF1
theorem Sn:ΓF2.Ok prog:=ac OkF1 qdY
theorem Xe (k:Int) (p:ByteArray):runG ΓF2 L0 prog f245 [.v (.agg #[I k,S p])] M0=bif decide (k>=0) then (bif decide (k<=255) then some (.v (Bo (decide ((p.size:Int)<=64))),M0) else some (.v (Bo false),M0)) else some (.v (Bo false),M0):=by kernel_rfl
def gRight (vs:List Value):Option (Bool×Value) :=
 match vs with
 | [.agg ⟨[.int .i64 k,.string p]⟩]=>some (true,Bo (ir k p))
 | _=>none
theorem gRight_ok:an 245 gRight:=by
 intro vs r h
 unfold gRight at h
 split at h
 ·rename_i k p
  obtain ⟨h1,rfl⟩:=aa h
  refine am (vs:=[.agg #[I k,S p]]) (Λ:=L0) (m':=M0) Sn func245 rfl (fun z _ _=>noLoops (by kernel_rfl) z) ?_
  exact (Xe k p).trans (by unfold ir;cases decide (k>=0)<;>cases decide (k<=255)<;>rfl)
 ·cases h
def ΓF3:Orc:=ah 245 gRight ΓF2
theorem Sm:ΓF3.Ok prog:=ac Sn gRight_ok
theorem Xr (k:Int) (p:ByteArray):runG ΓF3 L0 prog f199 [.v (.agg #[I k,S p])] M0=bif decide (k>=0) then (bif decide (k<=255) then some (.v (Bo (decide ((p.size:Int)<=64))),M0) else some (.v (Bo false),M0)) else some (.v (Bo false),M0):=by kernel_rfl
def EU (vs:List Value):Option (Bool×Value) :=
 match vs with
 | [.agg ⟨[.int .i64 k,.string p]⟩]=>some (true,Bo (ir k p))
 | _=>none
theorem qeU:an 199 EU:=by
 intro vs r h
 unfold EU at h
 split at h
 ·rename_i k p
  obtain ⟨h1,rfl⟩:=aa h
  refine am (vs:=[.agg #[I k,S p]]) (Λ:=L0) (m':=M0) Sm func199 rfl (fun z _ _=>noLoops (by kernel_rfl) z) ?_
  exact (Xr k p).trans (by unfold ir;cases decide (k>=0)<;>cases decide (k<=255)<;>rfl)
 ·cases h
def ΓF4:Orc:=ah 199 EU ΓF3
theorem qkm:ΓF4.Ok prog:=ac Sm qeU
def ΓF5:Orc:=ΓF4
theorem Sl:ΓF5.Ok prog:=qkm
def hasP (s t:ByteArray):Bool:=decide (t.size<=s.size)&&(L (s.extract 0 t.size)==L t)
theorem YO (s t:ByteArray):runG ΓF5 L0 prog f309 [.v (S s),.v (S t)] M0=bif decide ((s.size:Int)>=(t.size:Int)) then (bif decide ((0:Int)<=0)&&(decide (0<=(t.size:Int))&&decide ((t.size:Int)<=(s.size:Int))) then some (.v (Bo ((s.extract (Int.toNat 0) (t.size:Int).toNat).toList==t.toList)),M0) else none) else some (.v (Bo false),M0):=by kernel_rfl
def FZ (vs:List Value):Option (Bool×Value) :=
 match vs with
 | [.string s,.string t]=>some (true,Bo (hasP s t))
 | _=>none
theorem qfT:an 309 FZ:=by
 intro vs r h
 unfold FZ at h
 split at h
 ·rename_i s t
  obtain ⟨h1,rfl⟩:=aa h
  refine am (vs:=[S s,S t]) (Λ:=L0) (m':=M0) Sl func309 rfl (fun z _ _=>noLoops (by kernel_rfl) z) ?_
  exact (YO s t).trans (by
   unfold hasP
   by_cases hc:t.size<=s.size
   ·rw [decide_eq_true (show (s.size:Int)>=(t.size:Int) by omega),decide_eq_true (show (0:Int)<=0 by omega),decide_eq_true (show 0<=(t.size:Int) by omega),decide_eq_true hc,HR]
    rfl
   ·rw [decide_eq_false (show ¬ (s.size:Int)>=(t.size:Int) by omega),decide_eq_false hc]
    rfl)
 ·cases h
def ΓF6:Orc:=ah 309 FZ ΓF5
theorem Sk:ΓF6.Ok prog:=ac Sl qfT
theorem YP (s t:ByteArray):runG ΓF6 L0 prog f250 [.v (S s),.v (S t)] M0=some (.v (Bo (hasP s t)),M0):=by kernel_rfl
def F0 (vs:List Value):Option (Bool×Value) :=
 match vs with
 | [.string s,.string t]=>some (true,Bo (hasP s t))
 | _=>none
theorem qfS:an 250 F0:=by
 intro vs r h
 unfold F0 at h
 split at h
 ·rename_i s t
  obtain ⟨h1,rfl⟩:=aa h
  refine am (vs:=[S s,S t]) (Λ:=L0) (m':=M0) Sk func250 rfl (fun z _ _=>noLoops (by kernel_rfl) z) ?_
  exact (YP s t).trans (rfl)
 ·cases h
def ΓF7:Orc:=ah 250 F0 ΓF6
theorem Sj:ΓF7.Ok prog:=ac Sk qfS
theorem Zx (s:ByteArray):runG ΓF7 L0 prog f162 [.v (S s)] M0=bif Nat.ble s.size 281474976710656 then some (.v (S s),M0) else none:=by kernel_rfl
def GB (vs:List Value):Option (Bool×Value) :=
 match vs with
 | [.string s]=>some (Nat.ble s.size 281474976710656,S s)
 | _=>none
theorem qgv:an 162 GB:=by
 intro vs r h
 unfold GB at h
 split at h
 ·rename_i s
  obtain ⟨h1,rfl⟩:=aa h
  refine am (vs:=[S s]) (Λ:=L0) (m':=M0) Sj func162 rfl (fun z _ _=>noLoops (by kernel_rfl) z) ?_
  exact (Zx s).trans (by rw [h1];rfl)
 ·cases h
def ΓF8:Orc:=ah 162 GB ΓF7
theorem Si:ΓF8.Ok prog:=ac Sj qgv
theorem Wu (s:ByteArray):runG ΓF8 L0 prog f277 [.v (S s)] M0=bif decide ((0:Int)<=3)&&decide (3<(s.size:Int)) then some (.v (I (IntKind.i64.wrap (IntKind.i64.wrap (4+IntKind.i64.wrap (aw s 3))+2))),M0) else none:=by kernel_rfl
def Ef (vs:List Value):Option (Bool×Value) :=
 match vs with
 | [.string s]=>some (decide (3<(s.size:Int)),I (bA s))
 | _=>none
theorem qem:an 277 Ef:=by
 intro vs r h
 unfold Ef at h
 split at h
 ·rename_i s
  obtain ⟨h1,rfl⟩:=aa h
  refine am (vs:=[S s]) (Λ:=L0) (m':=M0) Si func277 rfl (fun z _ _=>noLoops (by kernel_rfl) z) ?_
  exact (Wu s).trans (by
   have h3:=vo s 3
   rw [show ((3:Nat):Int)=3 from rfl] at h3
   have e:IntKind.i64.wrap (IntKind.i64.wrap (4+IntKind.i64.wrap (aw s 3))+2)=bA s:=by
    show wI (wI (4+wI (aw s 3))+2)=_
    rw [aM (n:=aw s 3) (by omega),aM (n:=4+aw s 3) (by omega),aM (by omega)]
    unfold bA
    omega
   rw [e,show decide ((0:Int)<=3)=true from rfl,h1]
   rfl)
 ·cases h
def ΓF9:Orc:=ah 277 Ef ΓF8
theorem qkl:ΓF9.Ok prog:=ac Si qem
def ΓFap:Orc:=ΓF9
theorem Sg:ΓFap.Ok prog:=qkl
end Go.Proofs.YtainfdcfkgemhaaGreat
namespace Go.Proofs.YtainfdcfkgemhaaGreat
open Go Go.Proofs Go.Sx
theorem tZ (a:UInt8) (n:Nat) (hn:n<256):((a.toNat:Int) != (n:Int))=(a != UInt8.ofNat n):=by
 have e:((a.toNat:Int)=(n:Int))↔a=UInt8.ofNat n:=by
  constructor
  ·intro h
   rw [<- UInt8.toNat_inj,UInt8.toNat_ofNat',Nat.mod_eq_of_lt hn]
   omega
  ·rintro rfl
   rw [UInt8.toNat_ofNat',Nat.mod_eq_of_lt hn]
 by_cases h:a=UInt8.ofNat n
 ·rw [bne_eq_false_iff_eq.2 (e.2 h),bne_eq_false_iff_eq.2 h]
 ·rw [bne_iff_ne.2 (fun q=>h (e.1 q)),bne_iff_ne.2 h]
theorem qdw (s:ByteArray):hasP s (mark.extract (Int.toNat 0) (if (2:Int)<(s.size:Int) then 2 else (s.size:Int)).toNat) =
  !((decide ((s.size:Int)>0)&&aw s 0 != 165)||(decide ((s.size:Int)>1)&&aw s 1 != 90)):=by
 have h0:=gL s 0
 have h1:=gL s 1
 rw [show ((0:Nat):Int)=0 from rfl] at h0
 rw [show ((1:Nat):Int)=1 from rfl] at h1
 have hl:=k9 s
 unfold hasP
 rw [mE,mE]
 have hmk:L mark=[165,90]:=rfl
 rw [hmk,h0,h1]
 generalize hx:L s=l at *
 match l with
 | [] =>
  have hs:s.size=0:=by rw [<- hl];rfl
  rw [hs]
  rfl
 | [a] =>
  have hs:s.size=1:=by rw [<- hl];rfl
  rw [hs]
  have e:(mark.extract (Int.toNat 0) (if (2:Int)<((1:Nat):Int) then 2 else ((1:Nat):Int)).toNat).size=1:=rfl
  rw [e]
  have:=tZ a 165 (by omega)
  simp only [List.getElem?_cons_zero,Option.map_some,Option.getD_some]
  rw [show ((165:Nat):Int)=165 from rfl] at this
  rw [this]
  simp [bne]
 | a::b::r =>
  have hs:2<=s.size:=by rw [<- hl];simp
  have e0:(if (2:Int)<(s.size:Int) then 2 else (s.size:Int)).toNat=2:=by split<;>omega
  rw [e0]
  have e:(mark.extract (Int.toNat 0) 2).size=2:=rfl
  rw [e]
  have t0:=tZ a 165 (by omega)
  have t1:=tZ b 90 (by omega)
  rw [show ((165:Nat):Int)=165 from rfl] at t0
  rw [show ((90:Nat):Int)=90 from rfl] at t1
  simp only [List.getElem?_cons_zero,List.getElem?_cons_succ,Option.map_some,Option.getD_some]
  rw [t0,t1,decide_eq_true (show (s.size:Int)>0 by omega),decide_eq_true (show (s.size:Int)>1 by omega),decide_eq_true hs]
  simp [bne]
theorem qbx (s:ByteArray):(!ff s)=(hasP s (mark.extract (Int.toNat 0) (if (2:Int)<(s.size:Int) then 2 else (s.size:Int)).toNat)&&(decide ((s.size:Int)<4)||decide (aw s 3<=64))):=by
 rw [qdw]
 unfold ff
 generalize (decide ((s.size:Int)>0)&&aw s 0 != 165)=x
 generalize (decide ((s.size:Int)>1)&&aw s 1 != 90)=y
 have:(decide ((s.size:Int)>3)&&decide (aw s 3>64))=!(decide ((s.size:Int)<4)||decide (aw s 3<=64)):=by
  by_cases h1:(s.size:Int)<4<;>by_cases h2:aw s 3<=64<;>simp [h1,h2]<;>omega
 rw [this]
 cases x<;>cases y<;>cases (decide ((s.size:Int)<4)||decide (aw s 3<=64))<;>rfl
theorem mZ {s:ByteArray} (h:s.size<=9223372036854775807):bL s=true:=Nat.ble_eq_true_of_le h
theorem L9 {k:Int} {p:ByteArray} (h:ir k p=true):p.size<=64/\0<=k/\k<=255:=by
 unfold ir at h
 simp only [Bool.and_eq_true,decide_eq_true_eq] at h
 omega
end Go.Proofs.YtainfdcfkgemhaaGreat
namespace Go.Proofs.YtainfdcfkgemhaaGreat
open Go Go.Proofs Go.Sx
set_option linter.unusedVariables false
theorem Yp (s:ByteArray):runG ΓFap L0 prog f276 [.v (S s)] M0=bif decide ((0:Int)<=0)&&(decide ((0:Int)<=(if (2:Int)<(s.size:Int) then 2 else (s.size:Int)))&&decide ((if (2:Int)<(s.size:Int) then 2 else (s.size:Int))<=(mark.size:Int))) then
 (bif !hasP s (mark.extract (Int.toNat 0) (if (2:Int)<(s.size:Int) then 2 else (s.size:Int)).toNat) then some (.v (Bo false),M0) else
  (bif decide ((s.size:Int)<4) then some (.v (Bo true),M0) else (bif decide ((0:Int)<=3)&&decide (3<(s.size:Int)) then some (.v (Bo (decide (aw s 3<=64))),M0) else none))) else none:=by kernel_rfl
def FF (vs:List Value):Option (Bool×Value) :=
 match vs with
 | [.string s]=>some (true,Bo (!ff s))
 | _=>none
theorem qfz:an 276 FF:=by
 intro vs r h
 unfold FF at h
 split at h
 ·rename_i s
  obtain ⟨h1,rfl⟩:=aa h
  refine am (vs:=[S s]) (Λ:=L0) (m':=M0) Sg func276 rfl (fun z _ _=>noLoops (by kernel_rfl) z) ?_
  exact (Yp s).trans (by
   have hm:mark.size=2:=rfl
   have e1:(0:Int)<=(if (2:Int)<(s.size:Int) then 2 else (s.size:Int)):=by split<;>omega
   have e2:(if (2:Int)<(s.size:Int) then 2 else (s.size:Int))<=(mark.size:Int):=by rw [hm];split<;>omega
   rw [decide_eq_true e1,decide_eq_true e2,qbx s]
   generalize hasP s (mark.extract (Int.toNat 0) (if (2:Int)<(s.size:Int) then 2 else (s.size:Int)).toNat)=q
   by_cases h4:(s.size:Int)<4
   ·rw [decide_eq_true h4]
    cases q<;>rfl
   ·rw [decide_eq_false h4,decide_eq_true (show (3:Int)<(s.size:Int) by omega)]
    cases q<;>rfl)
 ·cases h
def ΓG1:Orc:=ah 276 FF ΓFap
theorem OkG1:ΓG1.Ok prog:=ac Sg qfz
theorem XJ (k:Int) (p:ByteArray):runG ΓG1 L0 prog f179 [.v (.agg #[I k,S p])] M0=bif !ir k p then some (.v (S ⟨#[]⟩),M0) else
 (bif Nat.ble ((strOfNums [IntKind.u8.wrap k,IntKind.u8.wrap (p.size:Int)]).size+p.size) 9223372036854775807 then (bif Nat.ble (mark.size+(dd k p).size) 9223372036854775807 then (bif bL (dd k p) then (bif Nat.ble ((mark++dd k p).size+(gK (dd k p)).size) 9223372036854775807 then some (.v (S ((mark++dd k p)++gK (dd k p))),M0) else none) else none) else none) else none):=by kernel_rfl
def gPrint (vs:List Value):Option (Bool×Value) :=
 match vs with
 | [.agg ⟨[.int .i64 k,.string p]⟩]=>some (true,S (printB k p))
 | _=>none
theorem Ou:an 179 gPrint:=by
 intro vs r h
 unfold gPrint at h
 split at h
 ·rename_i k p
  obtain ⟨h1,rfl⟩:=aa h
  refine am (vs:=[.agg #[I k,S p]]) (Λ:=L0) (m':=M0) OkG1 func179 rfl (fun z _ _=>noLoops (by kernel_rfl) z) ?_
  exact (XJ k p).trans (by
   unfold printB
   cases hr:ir k p with
   | false=>rfl
   | true =>
    obtain ⟨hp,_,_⟩:=L9 hr
    have hb:=P1 k p
    have hm:mark.size=2:=rfl
    have h2:(gK (dd k p)).size=2:=KJ _
    have hma:(mark++dd k p).size=2+(p.size+2):=by rw [ByteArray.size_append,hm,hb]
    rw [strOfNums_size,hma,h2,hm,hb,mZ (by omega)]
    rw [show Nat.ble ([IntKind.u8.wrap k,IntKind.u8.wrap (p.size:Int)].length+p.size) 9223372036854775807=true from Nat.ble_eq_true_of_le (by simp only [List.length_cons,List.length_nil];omega),show Nat.ble (2+(p.size+2)) 9223372036854775807=true from Nat.ble_eq_true_of_le (by omega),show Nat.ble (2+(p.size+2)+2) 9223372036854775807=true from Nat.ble_eq_true_of_le (by omega)]
    rfl)
 ·cases h
def ΓG2:Orc:=ah 179 gPrint ΓG1
theorem OkG2:ΓG2.Ok prog:=ac OkG1 Ou
theorem Xs (k:Int) (p:ByteArray):runG ΓG2 L0 prog f127 [.v (.agg #[I k,S p])] M0=bif !ir k p then some (.v (S ⟨#[]⟩),M0) else
 (bif Nat.ble ((strOfNums [IntKind.u8.wrap k,IntKind.u8.wrap (p.size:Int)]).size+p.size) 9223372036854775807 then (bif Nat.ble ((strOfNums [165,90]).size+(dd k p).size) 9223372036854775807 then (bif dL 65535&&bL (dd k p) then (bif Nat.ble (((strOfNums [165,90])++dd k p).size+(gK (dd k p)).size) 9223372036854775807 then some (.v (S (((strOfNums [165,90])++dd k p)++gK (dd k p))),M0) else none) else none) else none) else none):=by kernel_rfl
def xW (vs:List Value):Option (Bool×Value) :=
 match vs with
 | [.agg ⟨[.int .i64 k,.string p]⟩]=>some (true,S (printB k p))
 | _=>none
theorem Oo:an 127 xW:=by
 intro vs r h
 unfold xW at h
 split at h
 ·rename_i k p
  obtain ⟨h1,rfl⟩:=aa h
  refine am (vs:=[.agg #[I k,S p]]) (Λ:=L0) (m':=M0) OkG2 func127 rfl (fun z _ _=>noLoops (by kernel_rfl) z) ?_
  exact (Xs k p).trans (by
   unfold printB
   cases hr:ir k p with
   | false=>rfl
   | true =>
    obtain ⟨hp,_,_⟩:=L9 hr
    have hb:=P1 k p
    have hm:(strOfNums [165,90]).size=2:=rfl
    have h2:(gK (dd k p)).size=2:=KJ _
    have hma:((strOfNums [165,90])++dd k p).size=2+(p.size+2):=by rw [ByteArray.size_append,hm,hb]
    rw [strOfNums_size,hma,h2,hm,hb,mZ (by omega)]
    rw [show Nat.ble ([IntKind.u8.wrap k,IntKind.u8.wrap (p.size:Int)].length+p.size) 9223372036854775807=true from Nat.ble_eq_true_of_le (by simp only [List.length_cons,List.length_nil];omega),show Nat.ble (2+(p.size+2)) 9223372036854775807=true from Nat.ble_eq_true_of_le (by omega),show Nat.ble (2+(p.size+2)+2) 9223372036854775807=true from Nat.ble_eq_true_of_le (by omega)]
    rfl)
 ·cases h
def ΓG3:Orc:=ah 127 xW ΓG2
theorem OkG3:ΓG3.Ok prog:=ac OkG2 Oo
def ΓGa:Orc:=ΓG3
theorem Sc:ΓGa.Ok prog:=OkG3
end Go.Proofs.YtainfdcfkgemhaaGreat
namespace Go.Proofs.YtainfdcfkgemhaaGreat
open Go Go.Proofs Go.Sx
theorem P0 (c d:UInt8) (p:ByteArray) (hp:p.size=d.toNat):L (dd (c.toNat:Int) p)=c::d::L p:=by
 unfold dd
 rw [uz,Ag,hp,Ko,Ko,Nat.mod_eq_of_lt (fc c),Nat.mod_eq_of_lt (fc d)]
 simp only [List.map_cons,List.map_nil,Int.toNat_natCast,UInt8.ofNat_toNat,List.cons_append,List.nil_append]
theorem qg1 {s:ByteArray} (h1:ff s=false) (h2:gO s=false):∃ c d r,L s=165::90::c::d::r/\gv s=(c.toNat:Int)/\aw s 3=(d.toNat:Int)/\d.toNat<=64/\bA s=((6+d.toNat:Nat):Int)/\d.toNat+2<=r.length:=by
 obtain ⟨h4,h5,h6⟩:=CC h2
 have hl:=k9 s
 have a0:=gL s 0
 have a1:=gL s 1
 have a2:=gL s 2
 have a3:=gL s 3
 generalize hx:L s=l at *
 match l,hl with
 | [],hl=>simp at hl;omega
 | [_],hl=>simp at hl;omega
 | [_,_],hl=>simp at hl;omega
 | [_,_,_],hl=>simp at hl;omega
 | a::b::c::d::r,hl =>
  simp only [List.getElem?_cons_zero,List.getElem?_cons_succ,Option.map_some,Option.getD_some] at a0 a1 a2 a3
  unfold ff at h1
  rw [show (0:Int)=((0:Nat):Int) from rfl,show (1:Int)=((1:Nat):Int) from rfl,show (3:Int)=((3:Nat):Int) from rfl] at h1
  rw [a0,a1,a3] at h1
  have b0:=tZ a 165 (by omega)
  have b1:=tZ b 90 (by omega)
  rw [show ((165:Nat):Int)=165 from rfl] at b0
  rw [show ((90:Nat):Int)=90 from rfl] at b1
  rw [b0,b1] at h1
  simp only [Bool.or_eq_false_iff,Bool.and_eq_false_iff,decide_eq_false_iff_not,bne_eq_false_iff_eq] at h1
  obtain ⟨g0,g1,g3⟩:=h1
  have e0:a=165:=by
   rcases g0 with g0|g0
   ·omega
   ·exact g0
  have e1:b=90:=by
   rcases g1 with g1|g1
   ·omega
   ·exact g1
  subst e0 e1
  have hlen:bA s=((6+d.toNat:Nat):Int):=by
   unfold bA
   rw [show (3:Int)=((3:Nat):Int) from rfl,a3]
   omega
  refine ⟨c,d,r,rfl,?_,a3,by omega,hlen,?_⟩
  ·unfold gv;exact a2
  ·rw [hlen] at h5
   simp only [List.length_cons] at hl
   omega
theorem qaU {s:ByteArray} {d:Nat} {x y z u:UInt8} {r:List UInt8} (hl:L s=x::y::z::u::r) (hn:bA s=((6+d:Nat):Int)):L (gS s)=r.take d:=by
 unfold gS
 rw [hn,mE,hl,show (((6+d:Nat):Int) - 2).toNat - 4=d by omega]
 rfl
theorem qa6 {s:ByteArray} (h1:ff s=false) (h2:gO s=false):((gK (s.extract 2 (bA s - 2).toNat)).toList==(s.extract (bA s - 2).toNat (bA s).toNat).toList)=okB s:=by
 obtain ⟨c,d,r,hl,hk,hd,hd64,hn,hr⟩:=qg1 h1 h2
 have hp:=qaU hl hn
 have hps:(gS s).size=d.toNat:=by
  rw [<- k9,hp,List.length_take]
  omega
 have e1:s.extract 2 (bA s - 2).toNat=dd (gv s) (gS s):=by
  rw [<- mD,hk,P0 c d _ hps,hp,mE,hl,hn,show (((6+d.toNat:Nat):Int) - 2).toNat - 2=d.toNat+2 by omega]
  rfl
 have e2:L (s.extract (bA s - 2).toNat (bA s).toNat)=(r.drop d.toNat).take 2:=by
  rw [mE,hl,hn,show (((6+d.toNat:Nat):Int) - 2).toNat=d.toNat+4 by omega,show (((6+d.toNat:Nat):Int)).toNat - (d.toNat+4)=2 by omega]
  rw [Nat.add_comm d.toNat 4,<- List.drop_drop]
  rfl
 have e3:L (s.extract 0 (bA s).toNat)=165::90::c::d::(r.take d.toNat++(r.drop d.toNat).take 2):=by
  rw [mE,hl,hn,show (((6+d.toNat:Nat):Int)).toNat - 0=(d.toNat+2)+4 by omega,<- List.take_add]
  rfl
 have e4:L (wy (gv s) (gS s))=165::90::c::d::(r.take d.toNat++L (gK (dd (gv s) (gS s)))):=by
  unfold wy
  rw [uz,uz,hk,P0 c d _ hps,hp]
  rfl
 rw [e1,HR,e2]
 unfold okB
 rw [Qd,e3,e4,Bool.eq_iff_iff]
 simp only [beq_iff_eq,List.cons.injEq,true_and,List.append_cancel_left_eq]
def pn (s:ByteArray):Value:=.tuple #[.agg #[I (kf s),S (jk s)],I (cF s),I (bE s)]
theorem Ce {s:ByteArray} {e:Int} (h:bE s=e) (h0:e≠0):pn s=.tuple #[.agg #[I 0,S ⟨#[]⟩],I 0,I e]:=by
 subst h
 unfold pn kf jk cF
 rw [show (bE s==0)=false from beq_eq_false_iff_ne.2 h0]
 rfl
theorem qaB {s:ByteArray} (h:bE s=0):pn s=.tuple #[.agg #[I (gv s),S (gS s)],I (bA s),I 0]:=by
 unfold pn kf jk cF
 rw [h]
 rfl
def oV (v:Value):Option (SV×Mem):=some (.v v,M0)
def ws (e:Int):Option (SV×Mem):=oV (.tuple #[.agg #[I 0,S ⟨#[]⟩],I 0,I e])
def w2 (s:ByteArray):Int:=wI (bA s - 2)
def Cf (s:ByteArray):Option (SV×Mem) :=
 bif !!ff s then ws 3 else bif decide ((s.size:Int)<4) then ws 5 else bif decide (3<(s.size:Int)) then (bif decide ((s.size:Int)<bA s) then ws 5 else bif decide (3<(s.size:Int)) then
  (bif decide ((0:Int)<=2)&&(decide (2<=w2 s)&&decide (w2 s<=(s.size:Int))) then (bif bL (s.extract (Int.toNat 2) (w2 s).toNat) then (bif decide (0<=w2 s)&&(decide (w2 s<=bA s)&&decide (bA s<=(s.size:Int))) then
   (bif !((gK (s.extract (Int.toNat 2) (w2 s).toNat)).toList==(s.extract (w2 s).toNat (bA s).toNat).toList) then ws 4 else
    (bif decide ((0:Int)<=2)&&decide (2<(s.size:Int)) then (bif decide ((0:Int)<=4)&&(decide (4<=w2 s)&&decide (w2 s<=(s.size:Int))) then (bif Nat.ble (s.extract (Int.toNat 4) (w2 s).toNat).size 281474976710656 then
     oV (.tuple #[.agg #[I (wI (aw s 2)),S (s.extract (Int.toNat 4) (w2 s).toNat)],I (bA s),I 0]) else none) else none) else none))
   else none) else none) else none) else none) else none
theorem Tq (s:ByteArray):w2 s=bA s - 2:=by
 have:=xi s
 unfold w2
 rw [aM (by omega)]
theorem qda (s:ByteArray):wI (aw s 2)=gv s:=by
 have:=vo s 2
 rw [show ((2:Nat):Int)=2 from rfl] at this
 unfold gv
 rw [aM (by omega)]
theorem qaC (s:ByteArray):Cf s=oV (pn s):=by
 unfold Cf
 rcases Cg s with ⟨h1,h2⟩|⟨h1,h2,h3⟩|⟨h1,h2,h3,h4⟩|⟨h1,h2,h3,h4⟩
 ·rw [Ce h1 (by decide),h2];rfl
 ·rw [Ce h1 (by decide),h2]
  unfold gO at h3
  by_cases h5:(s.size:Int)<4
  ·rw [decide_eq_true h5];rfl
  ·rw [decide_eq_false h5,decide_eq_true (show 3<(s.size:Int) by omega)]
   rw [decide_eq_false h5,Bool.false_or] at h3
   rw [h3];rfl
 all_goals
  obtain ⟨g1,g2,g3⟩:=CC h3
  have hr:=xi s
  have he:=qa6 h2 h3
  have hx:(s.extract 4 (bA s - 2).toNat).size<=281474976710656:=by rw [ByteArray.size_extract];omega
  have hy:(s.extract 2 (bA s - 2).toNat).size<=9223372036854775807:=by rw [ByteArray.size_extract];omega
  rw [Tq,show Int.toNat 2=2 from rfl,show Int.toNat 4=4 from rfl,he,h4,qda,mZ hy,Nat.ble_eq_true_of_le hx,h2,decide_eq_false (show ¬ (s.size:Int)<4 by omega),decide_eq_true (show 3<(s.size:Int) by omega),decide_eq_false (show ¬ (s.size:Int)<bA s by omega),
   decide_eq_true (show (2:Int)<=bA s - 2 by omega),decide_eq_true (show bA s - 2<=(s.size:Int) by omega),decide_eq_true (show 0<=bA s - 2 by omega),decide_eq_true (show bA s - 2<=bA s by omega),decide_eq_true (show bA s<=(s.size:Int) by omega),decide_eq_true (show 2<(s.size:Int) by omega),decide_eq_true (show (4:Int)<=bA s - 2 by omega)]
 ·rw [qaB h1];rfl
 ·rw [Ce h1 (by decide)];rfl
end Go.Proofs.YtainfdcfkgemhaaGreat
namespace Go.Proofs.YtainfdcfkgemhaaGreat
open Go Go.Proofs Go.Sx
set_option linter.unusedVariables false
theorem Xk (s:ByteArray):runG ΓGa L0 prog f209 [.v (S s)] M0=Cf s:=by kernel_rfl
def gRead (vs:List Value):Option (Bool×Value) :=
 match vs with
 | [.string s]=>some (true,pn s)
 | _=>none
theorem qeN:an 209 gRead:=by
 intro vs r h
 unfold gRead at h
 split at h
 ·rename_i s
  obtain ⟨h1,rfl⟩:=aa h
  refine am (vs:=[S s]) (Λ:=L0) (m':=M0) Sc func209 rfl (fun z _ _=>noLoops (by kernel_rfl) z) ?_
  exact (Xk s).trans (qaC s)
 ·cases h
def ΓH1:Orc:=ah 209 gRead ΓGa
theorem qki:ΓH1.Ok prog:=ac Sc qeN
def ΓH2:Orc:=ΓH1
theorem qkh:ΓH2.Ok prog:=qki
def ΓHa:Orc:=ΓH2
theorem qkg:ΓHa.Ok prog:=qkh
end Go.Proofs.YtainfdcfkgemhaaGreat
namespace Go.Proofs.YtainfdcfkgemhaaGreat
open Go Go.Proofs Go.Sx
set_option linter.unusedVariables false
def MS (w:ByteArray) (a b:Int):Mem:=⟨[[.v (S w),.ptr 1 0],[.v (I a),.v (I b)]],[true,true],[]⟩
abbrev M8:Value:=.pointer none
def ΓJ1:Orc:=ΓHa
theorem OkJ1:ΓJ1.Ok prog:=qkg
def ΓJ2:Orc:=ΓJ1
theorem OkJ2:ΓJ2.Ok prog:=OkJ1
theorem Zl (r:ByteArray) (n:Int) (w:ByteArray) (a b:Int):runG ΓJ2 L0 prog f210 [.ptr 0 0,.v (S r),.v (I n)] (MS w a b)=bif decide (0<=n)&&(decide (n<=(r.size:Int))&&decide ((r.size:Int)<=(r.size:Int))) then some (.v (S (r.extract n.toNat r.size)),MS w a (au a b n)) else none:=by kernel_rfl
def Gp (xs:List SV) (m:Mem):Option (Bool×SV×Mem) :=
 match xs,m with
 | [.ptr 0 0,.v (.string r),.v (.int .i64 n)],⟨[[.v (.string w),.ptr 1 0],[.v (.int .i64 a),.v (.int .i64 b)]],[true,true],[]⟩=>some (decide (0<=n)&&(decide (n<=(r.size:Int))&&decide ((r.size:Int)<=(r.size:Int))),.v (S (r.extract n.toNat r.size)),MS w a (au a b n))
 | _,_=>none
theorem qgh:aT 210 Gp:=by
 intro xs m r m' h
 unfold Gp at h
 split at h
 ·rename_i r n w a b
  obtain ⟨h1,rfl,rfl⟩:=az h
  refine aj (Λ:=L0) OkJ2 func210 rfl (fun z _ _=>noLoops (by kernel_rfl) z) ?_
  exact (Zl r n w a b).trans (by rw [h1];rfl)
 ·cases h
def ΓJ3:Orc:=aE 210 Gp ΓJ2
theorem Sb:ΓJ3.Ok prog:=aA OkJ2 qgh
theorem Ya:runG ΓJ3 L0 prog f192 [] M0=some (.ptr 0 0,MS ⟨#[]⟩ 1000000 0):=by kernel_rfl
def x9 (xs:List SV) (m:Mem):Option (Bool×SV×Mem) :=
 match xs,m with
 | [],⟨[],[],[]⟩=>some (true,.ptr 0 0,MS ⟨#[]⟩ 1000000 0)
 | _,_=>none
theorem Oy:aT 192 x9:=by
 intro xs m r m' h
 unfold x9 at h
 split at h
 ·obtain ⟨h1,rfl,rfl⟩:=az h
  refine aj (Λ:=L0) Sb func192 rfl (fun z _ _=>noLoops (by kernel_rfl) z) ?_
  exact (Ya ).trans (rfl)
 ·cases h
def ΓJ4:Orc:=aE 192 x9 ΓJ3
theorem qke:ΓJ4.Ok prog:=aA Sb Oy
def ΓJa:Orc:=ΓJ4
theorem Ac:ΓJa.Ok prog:=qke
end Go.Proofs.YtainfdcfkgemhaaGreat
namespace Go.Proofs.YtainfdcfkgemhaaGreat
open Go Go.Proofs Go.Sx
set_option linter.unusedVariables false
def ksF:List CK:=[.num .i64,.str]
def yv (t:TypeId) (Q:List (List Dat)):RowS:=.live ⟨t,ksF,Q,true,false⟩
def MF (t:TypeId) (w:ByteArray) (a v:Int) (Q:List (List Dat)):Mem:=⟨[[.v (S w),.ptr 1 0],[.v (I a),.v (I v)]],[true,true],[yv t Q]⟩
def fr (s:ByteArray):List Dat:=[.n (kf s),.s (jk s)]
def wm (Q:List (List Dat)) (b:Nat):Bool:=decide ((Q.length+1)*b<=140737488355328/\Q.length+1<=9223372036854775807)
def lT:List Bool:=aB 53 [0,5,6]
def mj:Code:=bX (f139.body.getD .skip) 0
theorem qca:loopsOf (f139.body.getD .skip)=[mj]:=by kernel_rfl
theorem qb9:loopsOf mj=[]:=by kernel_rfl
def Ar (e:Ex) (st:St):Option (Ex×St):=some (e,ab 2 0 lT st)
def mF (w:ByteArray) (a v:Int) (Q:List (List Dat)) (r:ByteArray):St:=mk lT [.ptr 0 0,.row 0,.v (S r)] (MF 284 w a v Q)
theorem UK (k:Nat) (w:ByteArray) (a v:Int) (Q:List (List Dat)) (r:ByteArray):ao ΓJa prog L0 (ab 2 0 lT) mj (k+1) (mF w a v Q r) Ar =
 bif !(r.toList==(⟨#[]⟩:ByteArray).toList) then (bif bE r==5 then some (.exit 0,mF w a v Q r) else bif bE r==0 then
  (bif wm Q 24 then (bif decide (0<=cF r)&&(decide (cF r<=(r.size:Int))&&decide ((r.size:Int)<=(r.size:Int))) then ao ΓJa prog L0 (ab 2 0 lT) mj k (mF w a v (Q++[fr r]) (r.extract (cF r).toNat r.size)) Ar else none) else none) else
  (bif decide ((0:Int)<=1)&&(decide (1<=(r.size:Int))&&decide ((r.size:Int)<=(r.size:Int))) then ao ΓJa prog L0 (ab 2 0 lT) mj k (mF w a (au a v 1) Q (r.extract (Int.toNat 1) r.size)) Ar else none))
 else some (.exit 0,mF w a v Q r):=by kernel_rfl
def jg:Nat->ByteArray->List (List Dat)×ByteArray×Nat
 | 0,s=>([],s,0)
 | n+1,s=>if bE s=5 then ([],s,0) else if bE s=0 then (fr s::(jg n (s.extract (cF s).toNat s.size)).1,(jg n (s.extract (cF s).toNat s.size)).2) else
  ((jg n (s.extract 1 s.size)).1,(jg n (s.extract 1 s.size)).2.1,(jg n (s.extract 1 s.size)).2.2+1)
theorem hJ {s:ByteArray} {n:Nat} (h:n<=s.size):(s.extract n s.size).size=s.size - n:=by
 rw [ByteArray.size_extract];omega
theorem vF:∀ (n m:Nat) (s:ByteArray),s.size<n->s.size<m->jg n s=jg m s
 | 0,_,_,h,_=>by omega
 | _+1,0,_,_,h=>by omega
 | n+1,m+1,s,h1,h2=>by
  unfold jg
  by_cases h5:bE s=5
  ·rw [if_pos h5,if_pos h5]
  rw [if_neg h5,if_neg h5]
  by_cases h0:bE s=0
  ·obtain ⟨g1,g2,_⟩:=pm h0
   rw [if_pos h0,if_pos h0,vF n m _ (by rw [hJ g1];omega) (by rw [hJ g1];omega)]
  ·have:=sC h5
   rw [if_neg h0,if_neg h0,vF n m _ (by rw [hJ (by omega)];omega) (by rw [hJ (by omega)];omega)]
def jf (s:ByteArray):List (List Dat)×ByteArray×Nat:=jg (s.size+1) s
theorem BH (s:ByteArray):jf s=if bE s=5 then ([],s,0) else if bE s=0 then (fr s::(jf (s.extract (cF s).toNat s.size)).1,(jf (s.extract (cF s).toNat s.size)).2) else
  ((jf (s.extract 1 s.size)).1,(jf (s.extract 1 s.size)).2.1,(jf (s.extract 1 s.size)).2.2+1):=by
 unfold jf
 rw [jg]
 by_cases h5:bE s=5
 ·rw [if_pos h5,if_pos h5]
 rw [if_neg h5,if_neg h5]
 by_cases h0:bE s=0
 ·obtain ⟨g1,g2,_⟩:=pm h0
  rw [if_pos h0,if_pos h0,vF s.size ((s.extract (cF s).toNat s.size).size+1) _ (by rw [hJ g1];omega) (by omega)]
 ·have:=sC h5
  rw [if_neg h0,if_neg h0,vF s.size ((s.extract 1 s.size).size+1) _ (by rw [hJ (by omega)];omega) (by omega)]
def en (s:ByteArray):List (List Dat):=(jf s).1
def sR (s:ByteArray):ByteArray:=(jf s).2.1
def sD (s:ByteArray):Nat:=(jf s).2.2
theorem vG {s:ByteArray} (h:bE s=5):en s=[]/\sR s=s/\sD s=0:=by
 unfold en sR sD
 rw [BH,if_pos h]
 exact ⟨rfl,rfl,rfl⟩
theorem vJ {s:ByteArray} (h:bE s=0):en s=fr s::en (s.extract (cF s).toNat s.size)/\sR s=sR (s.extract (cF s).toNat s.size)/\sD s=sD (s.extract (cF s).toNat s.size):=by
 unfold en sR sD
 rw [BH,if_neg (by omega),if_pos h]
 exact ⟨rfl,rfl,rfl⟩
theorem vH {s:ByteArray} (h5:bE s≠5) (h:bE s≠0):en s=en (s.extract 1 s.size)/\sR s=sR (s.extract 1 s.size)/\sD s=sD (s.extract 1 s.size)+1:=by
 unfold en sR sD
 rw [BH,if_neg h5,if_neg h]
 exact ⟨rfl,rfl,rfl⟩
theorem vE {Q:ByteArray->Prop} (h5:∀ s,bE s=5->Q s) (h0:∀ s,bE s=0->Q (s.extract (cF s).toNat s.size)->Q s) (h1:∀ s,bE s≠5->bE s≠0->Q (s.extract 1 s.size)->Q s):∀ s,Q s:=by
 have:∀ (n:Nat) (s:ByteArray),s.size<n->Q s:=by
  intro n
  induction n with
  | zero=>intro s h;omega
  | succ n ih =>
   intro s h
   by_cases e5:bE s=5
   ·exact h5 s e5
   by_cases e0:bE s=0
   ·obtain ⟨g1,g2,_⟩:=pm e0
    exact h0 s e0 (ih _ (by rw [hJ g1];omega))
   ·have:=sC e5
    exact h1 s e5 e0 (ih _ (by rw [hJ (by omega)];omega))
 exact fun s=>this (s.size+1) s (by omega)
theorem Vf:∀ s,bE (sR s)=5:=by
 refine vE (fun s h=>?_) (fun s h ih=>?_) (fun s h h' ih=>?_)
 ·rw [(vG h).2.1];exact h
 ·rw [(vJ h).2.1];exact ih
 ·rw [(vH h h').2.1];exact ih
theorem Ve (s:ByteArray):(sR s).size<70:=qaz (Vf s)
theorem BJ:∀ s,(en s).length<=s.size:=by
 refine vE (fun s h=>?_) (fun s h ih=>?_) (fun s h h' ih=>?_)
 ·rw [(vG h).1];exact Nat.zero_le _
 ·rw [(vJ h).1,List.length_cons]
  obtain ⟨g1,g2,_⟩:=pm h
  have:=hJ g1
  omega
 ·rw [(vH h h').1]
  have:=hJ (s:=s) (n:=1) (sC h)
  omega
def sat (v d:Nat):Nat:=min (v+d) 1000000
theorem Qt {v n:Nat} (h:v<=1000000):au 1000000 (v:Int) (n:Int)=((sat v n:Nat):Int):=by
 have e:aK (n:Int) (1000000 - (v:Int))=((min n (1000000 - v):Nat):Int):=by
  unfold aK
  repeat' split
  all_goals omega
 unfold au sat
 rw [aM (n:=1000000 - (v:Int)) (by omega),e,aM (by omega)]
 omega
theorem BI (v d:Nat):sat v d<=1000000:=Nat.min_le_right _ _
theorem Vc (v d e:Nat):sat (sat v d) e=sat v (d+e):=by unfold sat;omega
theorem LH {v:Nat} (h:v<=1000000):sat v 0=v:=by unfold sat;omega
theorem qam {Q:List (List Dat)} {b:Nat} (h:Q.length<1099511627776) (hb:b<=100):wm Q b=true:=by
 unfold wm
 have:(Q.length+1)*b<=1099511627776*100:=Nat.mul_le_mul (by omega) hb
 exact decide_eq_true (by omega)
theorem Qb (r:ByteArray):(!(r.toList==(⟨#[]⟩:ByteArray).toList))=decide (0<r.size):=by
 rw [zt]
 by_cases h:r=⟨#[]⟩
 ·subst h;rfl
 ·have h0:0<r.size:=by
   apply Classical.byContradiction
   intro hn
   refine h (mD.1 ?_)
   have:(L r).length=0:=by rw [k9];omega
   exact List.eq_nil_of_length_eq_zero this
  rw [decide_eq_true h0,Bool.eq_false_iff.2 (fun hc=>h ((Qc _ _).1 hc))]
  rfl
theorem qhg {α:Type} (E:Nat->Int->List (List Dat)->ByteArray->Option α) (F:Int->List (List Dat)->ByteArray->α)
  (hE:∀ k v Q r,E (k+1) v Q r=bif !(r.toList==(⟨#[]⟩:ByteArray).toList) then (bif bE r==5 then some (F v Q r) else bif bE r==0 then
   (bif wm Q 24 then (bif decide (0<=cF r)&&(decide (cF r<=(r.size:Int))&&decide ((r.size:Int)<=(r.size:Int))) then E k v (Q++[fr r]) (r.extract (cF r).toNat r.size) else none) else none) else
   (bif decide ((0:Int)<=1)&&(decide (1<=(r.size:Int))&&decide ((r.size:Int)<=(r.size:Int))) then E k (au 1000000 v 1) Q (r.extract (Int.toNat 1) r.size) else none)) else some (F v Q r)) :
  ∀ (r:ByteArray) (k v:Nat) (Q:List (List Dat)),r.size<k->v<=1000000->Q.length+r.size<1099511627776->E k (v:Int) Q r=some (F ((sat v (sD r):Nat):Int) (Q++en r) (sR r)):=by
 refine vE (fun s h k v Q hk hv hq=>?_) (fun s h ih k v Q hk hv hq=>?_) (fun s h h' ih k v Q hk hv hq=>?_)
 ·obtain ⟨e1,e2,e3⟩:=vG h
  cases k with
  | zero=>omega
  | succ k =>
   rw [hE,h,e1,e2,e3,LH hv,List.append_nil]
   cases (!(s.toList==(⟨#[]⟩:ByteArray).toList))<;>rfl
 ·obtain ⟨g1,g2,g3,_⟩:=pm h
  obtain ⟨e1,e2,e3⟩:=vJ h
  have hsz:=hJ g1
  cases k with
  | zero=>omega
  | succ k =>
   rw [hE,Qb,decide_eq_true (show 0<s.size by omega),show (bE s==5)=false from by rw [h];rfl,show (bE s==0)=true from by rw [h];rfl,qam (by omega) (by omega),decide_eq_true (show 0<=cF s by omega),decide_eq_true (show cF s<=(s.size:Int) by omega),decide_eq_true (Int.le_refl (s.size:Int))]
   simp only [cond_true,cond_false,Bool.and_self]
   rw [ih k v (Q++[fr s]) (by omega) hv (by simp only [List.length_append,List.length_cons,List.length_nil];omega),e1,e2,e3,List.append_assoc]
   rfl
 ·have hp:=sC h
  obtain ⟨e1,e2,e3⟩:=vH h h'
  have hsz:=hJ (s:=s) (n:=1) hp
  cases k with
  | zero=>omega
  | succ k =>
   rw [hE,Qb,decide_eq_true hp,show (bE s==5)=false from beq_eq_false_iff_ne.2 h,show (bE s==0)=false from beq_eq_false_iff_ne.2 h',decide_eq_true (show (1:Int)<=(s.size:Int) by omega),decide_eq_true (Int.le_refl (s.size:Int)),decide_eq_true (show (0:Int)<=1 by omega)]
   simp only [cond_true,cond_false,Bool.and_self]
   rw [show au 1000000 (v:Int) 1=((sat v 1:Nat):Int) from Qt (n:=1) hv,show Int.toNat 1=1 from rfl,ih k (sat v 1) Q (by omega) (BI _ _) (by omega),e1,e2,e3,Vc,Nat.add_comm 1]
end Go.Proofs.YtainfdcfkgemhaaGreat
namespace Go.Proofs.YtainfdcfkgemhaaGreat
open Go Go.Proofs Go.Sx
set_option linter.unusedVariables false
def JZ (vals:List SV) (m:Mem):Option (Bool×Ex×St) :=
 match vals,m with
 | [.ptr 0 0,.row 0,.v (.string r)],⟨[[.v (.string w),.ptr 1 0],[.v (.int .i64 a),.v (.int .i64 v)]],[true,true],[.live ⟨284,[.num .i64,.str],Q,true,false⟩]⟩ =>
  some (a==1000000&&(kC 1000001 v&&Nat.ble (Q.length+r.size) 1099511627775),.exit 0,mF w a ((sat v.toNat (sD r):Nat):Int) (Q++en r) (sR r))
 | _,_=>none
def ΛFeed:aV:=fun _ st=>cE 2 0 lT JZ st
theorem qcS (z:Base) (h1:z.L.length=2) (h2:z.U.length=0):aQ ΛFeed prog z mj:=by
 refine di (Λ:=L0) (kx:=fun _=>lT) Ac mixed h1 h2 (fun b hb=>by rw [qb9] at hb;cases hb) (G:=JZ) (fun _=>rfl) ?_
 intro vals m e st' h
 unfold JZ at h
 split at h
 ·rename_i r w a v Q
  obtain ⟨hg,rfl,rfl⟩:=az h
  simp only [Bool.and_eq_true,beq_iff_eq] at hg
  obtain ⟨rfl,hv,hq⟩:=hg
  obtain ⟨n,rfl,hn⟩:=xA hv
  have hq:=Nat.le_of_ble_eq_true hq
  exact ⟨r.size+1,qhg (fun k v Q r=>ao ΓJa prog L0 (ab 2 0 lT) mj k (mF w 1000000 v Q r) Ar) (fun v Q r=>(.exit 0,mF w 1000000 v Q r)) (fun k v Q r=>UK k w 1000000 v Q r) r (r.size+1) n Q (by omega) (by omega) (by omega)⟩
 ·cases h
def jt (w s:ByteArray) (a v:Int):Bool:=a==1000000&&(kC 1000001 v&&Nat.ble (w.size+s.size) 1099511627775)
theorem Y0 (w s:ByteArray) (a v:Int):runG ΓJa ΛFeed prog f139 [.ptr 0 0,.v (S s)] (MS w a v) =
 bif Nat.ble (w.size+s.size) 9223372036854775807 then (bif a==1000000&&(kC 1000001 v&&Nat.ble (([]:List (List Dat)).length+(w++s).size) 1099511627775) then
  (bif decide (0<=(if wI (((sR (w++s)).size:Int) - 1024)>0 then wI (((sR (w++s)).size:Int) - 1024) else 0))&&(decide ((if wI (((sR (w++s)).size:Int) - 1024)>0 then wI (((sR (w++s)).size:Int) - 1024) else 0)<=((sR (w++s)).size:Int))&&decide (((sR (w++s)).size:Int)<=((sR (w++s)).size:Int))) then
   (bif Nat.ble ((sR (w++s)).extract (if wI (((sR (w++s)).size:Int) - 1024)>0 then wI (((sR (w++s)).size:Int) - 1024) else 0).toNat (sR (w++s)).size).size 281474976710656 then
    some (.row 0,MF 284 ((sR (w++s)).extract (if wI (((sR (w++s)).size:Int) - 1024)>0 then wI (((sR (w++s)).size:Int) - 1024) else 0).toNat (sR (w++s)).size) a (au a ((sat v.toNat (sD (w++s)):Nat):Int) (if wI (((sR (w++s)).size:Int) - 1024)>0 then wI (((sR (w++s)).size:Int) - 1024) else 0)) ([]++en (w++s))) else none) else none) else none) else none:=by kernel_rfl
theorem qhf {w s:ByteArray} {v:Int} (hv:kC 1000001 v=true) (hs:Nat.ble (w.size+s.size) 1099511627775=true):runG ΓJa ΛFeed prog f139 [.ptr 0 0,.v (S s)] (MS w 1000000 v) =
  some (.row 0,MF 284 (sR (w++s)) 1000000 ((sat v.toNat (sD (w++s)):Nat):Int) (en (w++s))):=by
 refine (Y0 w s 1000000 v).trans ?_
 have hs':=Nat.le_of_ble_eq_true hs
 have hsz:(w++s).size=w.size+s.size:=ByteArray.size_append
 have hR:=Ve (w++s)
 have e0:(if wI (((sR (w++s)).size:Int) - 1024)>0 then wI (((sR (w++s)).size:Int) - 1024) else 0)=0:=by
  rw [aM (by omega),if_neg (by omega)]
 obtain ⟨n,rfl,hn⟩:=xA hv
 rw [e0,hsz,show ([]:List (List Dat)).length+(w.size+s.size)=w.size+s.size from Nat.zero_add _,hs,hv,Nat.ble_eq_true_of_le (show w.size+s.size<=9223372036854775807 by omega),show ((0:Int)).toNat=0 from rfl,qhm,
  Nat.ble_eq_true_of_le (show (sR (w++s)).size<=281474976710656 by omega),decide_eq_true (show (0:Int)<=((sR (w++s)).size:Int) by omega),decide_eq_true (Int.le_refl ((sR (w++s)).size:Int)),show au 1000000 ((sat ((n:Int)).toNat (sD (w++s)):Nat):Int) 0=((sat ((n:Int)).toNat (sD (w++s)):Nat):Int) from (Qt (n:=0) (BI _ _)).trans (by rw [LH (BI _ _)])]
 rfl
def yl (xs:List SV) (m:Mem):Option (Bool×SV×Mem) :=
 match xs,m with
 | [.ptr 0 0,.v (.string s)],⟨[[.v (.string w),.ptr 1 0],[.v (.int .i64 a),.v (.int .i64 v)]],[true,true],[]⟩=>some (jt w s a v,.row 0,MF 284 (sR (w++s)) 1000000 ((sat v.toNat (sD (w++s)):Nat):Int) (en (w++s)))
 | [.v (.pointer none),.v (.string s)],⟨[],[],[]⟩=>some (true,.row 0,⟨[],[],[yv 284 []]⟩)
 | _,_=>none
theorem Uq (z:Base):aQ ΛFeed prog z mj->∀ b∈loopsOf (f139.body.getD .skip),aQ ΛFeed prog z b:=fun h=>bW qca h
theorem YZ (s:ByteArray):runG ΓJa L0 prog f139 [.v M8,.v (S s)] M0=some (.row 0,⟨[],[],[yv 284 []]⟩):=by kernel_rfl
theorem qbj (s:ByteArray):bq prog 139 [.v M8,.v (S s)] M0 (.row 0) ⟨[],[],[yv 284 []]⟩ :=
 aj (c:=f139.body.getD .skip) (Λ:=L0) Ac func139 rfl (fun z h1 h2 b hb st t h=>by cases h) (YZ s)
theorem yk:aT 139 yl:=by
 intro xs m r m' h
 unfold yl at h
 split at h
 ·rename_i s w a v
  obtain ⟨hg,rfl,rfl⟩:=az h
  unfold jt at hg
  simp only [Bool.and_eq_true,beq_iff_eq] at hg
  obtain ⟨rfl,hv,hs⟩:=hg
  refine aj (c:=f139.body.getD .skip) (Λ:=ΛFeed) Ac func139 rfl (fun z h1 h2=>Uq z (qcS z h1 h2)) (qhf hv hs)
 ·rename_i s
  obtain ⟨_,rfl,rfl⟩:=az h
  exact qbj s
 ·cases h
def ΓM1:Orc:=aE 139 yl ΓJa
theorem qj1:ΓM1.Ok prog:=aA Ac yk
def ΓM2:Orc:=ΓM1
theorem R6:ΓM2.Ok prog:=qj1
end Go.Proofs.YtainfdcfkgemhaaGreat
namespace Go.Proofs.YtainfdcfkgemhaaGreat
open Go Go.Proofs Go.Sx
set_option linter.unusedVariables false
end Go.Proofs.YtainfdcfkgemhaaGreat
namespace Go.Proofs.YtainfdcfkgemhaaGreat
open Go Go.Proofs Go.Sx
set_option linter.unusedVariables false
def Je (a b c d e f g q:Int):Mem:=⟨[[.v (I a),.v (I b),.v (I c),.v (I d),.v (I e),.v (I f),.v (I g),.v (I q)]],[true],[]⟩
theorem zr (b X:Bool):(bif b then some (SV.v (Bo false),M0) else some (SV.v (Bo X),M0))=some (SV.v (Bo (!b&&X)),M0):=by cases b<;>rfl
theorem qii (b X:Bool):(bif b then some (SV.v (Bo X),M0) else some (SV.v (Bo false),M0))=some (SV.v (Bo (b&&X)),M0):=by cases b<;>rfl
def jB (a b c d e f g q:Int):Bool:=decide (0<=a/\a<=65535/\0<=b/\b<=255/\-2147483648<=c/\c<=2147483647/\-2147483648<=d/\d<=2147483647/\-2147483648<=e/\e<=2147483647/\-2147483648<=f/\f<=2147483647/\-2147483648<=g/\g<=2147483647/\-2147483648<=q/\q<=2147483647)
theorem X6 (a b c d e f g q:Int):runG ΓM2 L0 prog f181 [.ptr 0 0] (Je a b c d e f g q)=some (.ag [.ptr 0 2,.ptr 0 3,.ptr 0 4,.ptr 0 5,.ptr 0 6,.ptr 0 7],Je a b c d e f g q):=by kernel_rfl
def Fj (xs:List SV) (m:Mem):Option (Bool×SV×Mem) :=
 match xs,m with
 | [.ptr 0 0],⟨[[.v (.int .i64 a),.v (.int .i64 b),.v (.int .i64 c),.v (.int .i64 d),.v (.int .i64 e),.v (.int .i64 f),.v (.int .i64 g),.v (.int .i64 q)]],[true],[]⟩=>some (true,.ag [.ptr 0 2,.ptr 0 3,.ptr 0 4,.ptr 0 5,.ptr 0 6,.ptr 0 7],Je a b c d e f g q)
 | _,_=>none
theorem qfi:aT 181 Fj:=by
 intro xs m r m' h
 unfold Fj at h
 split at h
 ·rename_i a b c d e f g q
  obtain ⟨h1,rfl,rfl⟩:=az h
  refine aj (Λ:=L0) R6 func181 rfl (fun z _ _=>cq _ z) ?_
  exact (X6 a b c d e f g q).trans (rfl)
 ·cases h
def ΓN1:Orc:=aE 181 Fj ΓM2
theorem OkN1:ΓN1.Ok prog:=aA R6 qfi
theorem Xx (a b c d e f g q:Int):runG ΓN1 L0 prog f267 [.v (.agg #[I a,I b,I c,I d,I e,I f,I g,I q])] M0=some (.row 0,⟨[],[],[.live ⟨2,[.num .i64],[[.n c],[.n d],[.n e],[.n f],[.n g],[.n q]],true,false⟩]⟩):=by kernel_rfl
def EY (xs:List SV) (m:Mem):Option (Bool×SV×Mem) :=
 match xs,m with
 | [.v (.agg ⟨[.int .i64 a,.int .i64 b,.int .i64 c,.int .i64 d,.int .i64 e,.int .i64 f,.int .i64 g,.int .i64 q]⟩)],⟨[],[],[]⟩=>some (true,.row 0,⟨[],[],[.live ⟨2,[.num .i64],[[.n c],[.n d],[.n e],[.n f],[.n g],[.n q]],true,false⟩]⟩)
 | _,_=>none
theorem qeY:aT 267 EY:=by
 intro xs m r m' h
 unfold EY at h
 split at h
 ·rename_i a b c d e f g q
  obtain ⟨h1,rfl,rfl⟩:=az h
  refine aj (Λ:=L0) OkN1 func267 rfl (fun z _ _=>cq _ z) ?_
  exact (Xx a b c d e f g q).trans (rfl)
 ·cases h
def ΓN2:Orc:=aE 267 EY ΓN1
theorem R1:ΓN2.Ok prog:=aA OkN1 qeY
theorem Yd (a b c d e f g q:Int):runG ΓN2 L0 prog f180 [.v (.agg #[I a,I b,I c,I d,I e,I f,I g,I q])] M0=bif decide (a<0) then some (.v (Bo false),M0) else (bif decide (a>65535) then some (.v (Bo false),M0) else (bif decide (b<0) then some (.v (Bo false),M0) else (bif decide (b>255) then some (.v (Bo false),M0) else (bif decide (c< -2147483648) then some (.v (Bo false),M0) else (bif decide (c>2147483647) then some (.v (Bo false),M0) else (bif decide (d< -2147483648) then some (.v (Bo false),M0) else (bif decide (d>2147483647) then some (.v (Bo false),M0) else (bif decide (e< -2147483648) then some (.v (Bo false),M0) else (bif decide (e>2147483647) then some (.v (Bo false),M0) else (bif decide (f< -2147483648) then some (.v (Bo false),M0) else (bif decide (f>2147483647) then some (.v (Bo false),M0) else (bif decide (g< -2147483648) then some (.v (Bo false),M0) else (bif decide (g>2147483647) then some (.v (Bo false),M0) else (bif decide (q< -2147483648) then some (.v (Bo false),M0) else (bif decide (q>2147483647) then some (.v (Bo false),M0) else (some (.v (Bo true),M0))))))))))))))))):=by kernel_rfl
def Fu (vs:List Value):Option (Bool×Value) :=
 match vs with
 | [.agg ⟨[.int .i64 a,.int .i64 b,.int .i64 c,.int .i64 d,.int .i64 e,.int .i64 f,.int .i64 g,.int .i64 q]⟩]=>some (true,Bo (jB a b c d e f g q))
 | _=>none
theorem qfo:an 180 Fu:=by
 intro vs r h
 unfold Fu at h
 split at h
 ·rename_i a b c d e f g q
  obtain ⟨h1,rfl⟩:=aa h
  refine am (vs:=[.agg #[I a,I b,I c,I d,I e,I f,I g,I q]]) (Λ:=L0) (m':=M0) R1 func180 rfl (fun z _ _=>cq _ z) ?_
  exact (Yd a b c d e f g q).trans (by
   simp only [zr]
   congr 4
   rw [Bool.eq_iff_iff]
   unfold jB
   simp only [Bool.and_true,Bool.and_eq_true,Bool.not_eq_true',decide_eq_false_iff_not,decide_eq_true_eq]
   omega)
 ·cases h
def ΓN3:Orc:=ah 180 Fu ΓN2
theorem R0:ΓN3.Ok prog:=ac R1 qfo
theorem Xy (a b c d e f g q:Int):runG ΓN3 L0 prog f266 [.v (.agg #[I a,I b,I c,I d,I e,I f,I g,I q])] M0=bif decide (c< -2147483648) then some (.v (Bo false),M0) else (bif decide (c>2147483647) then some (.v (Bo false),M0) else (bif decide (d< -2147483648) then some (.v (Bo false),M0) else (bif decide (d>2147483647) then some (.v (Bo false),M0) else (bif decide (e< -2147483648) then some (.v (Bo false),M0) else (bif decide (e>2147483647) then some (.v (Bo false),M0) else (bif decide (f< -2147483648) then some (.v (Bo false),M0) else (bif decide (f>2147483647) then some (.v (Bo false),M0) else (bif decide (g< -2147483648) then some (.v (Bo false),M0) else (bif decide (g>2147483647) then some (.v (Bo false),M0) else (bif decide (q< -2147483648) then some (.v (Bo false),M0) else (bif decide (q>2147483647) then some (.v (Bo false),M0) else (bif decide (a>=0) then (bif decide (a<=65535) then (bif decide (b>=0) then some (.v (Bo (decide (b<=255))),M0) else some (.v (Bo false),M0)) else some (.v (Bo false),M0)) else some (.v (Bo false),M0))))))))))))):=by kernel_rfl
def EZ (vs:List Value):Option (Bool×Value) :=
 match vs with
 | [.agg ⟨[.int .i64 a,.int .i64 b,.int .i64 c,.int .i64 d,.int .i64 e,.int .i64 f,.int .i64 g,.int .i64 q]⟩]=>some (true,Bo (jB a b c d e f g q))
 | _=>none
theorem qeZ:an 266 EZ:=by
 intro vs r h
 unfold EZ at h
 split at h
 ·rename_i a b c d e f g q
  obtain ⟨h1,rfl⟩:=aa h
  refine am (vs:=[.agg #[I a,I b,I c,I d,I e,I f,I g,I q]]) (Λ:=L0) (m':=M0) R0 func266 rfl (fun z _ _=>cq _ z) ?_
  exact (Xy a b c d e f g q).trans (by
   simp only [zr,qii]
   congr 4
   rw [Bool.eq_iff_iff]
   unfold jB
   simp only [Bool.and_eq_true,Bool.not_eq_true',decide_eq_false_iff_not,decide_eq_true_eq]
   omega)
 ·cases h
def ΓN4:Orc:=ah 266 EZ ΓN3
theorem RZ:ΓN4.Ok prog:=ac R0 qeZ
def iU (x y:Int):Int:=IntKind.u64.wrap (IntKind.u64.wrap (if y>x then y else x) - IntKind.u64.wrap (if y<x then y else x))
theorem Z7 (x y:Int):runG ΓN4 L0 prog f279 [.v (I x),.v (I y)] M0=some (.v (gl (iU x y)),M0):=by kernel_rfl
def G5 (vs:List Value):Option (Bool×Value) :=
 match vs with
 | [.int .i64 x,.int .i64 y]=>some (true,gl (iU x y))
 | _=>none
theorem qgX:an 279 G5:=by
 intro vs r h
 unfold G5 at h
 split at h
 ·rename_i x y
  obtain ⟨h1,rfl⟩:=aa h
  refine am (vs:=[I x,I y]) (Λ:=L0) (m':=M0) RZ func279 rfl (fun z _ _=>cq _ z) ?_
  exact (Z7 x y).trans (rfl)
 ·cases h
def ΓN5:Orc:=ah 279 G5 ΓN4
theorem qjX:ΓN5.Ok prog:=ac RZ qgX
def ΓN6:Orc:=ΓN5
theorem qjW:ΓN6.Ok prog:=qjX
def ΓN7:Orc:=ΓN6
theorem RY:ΓN7.Ok prog:=qjW
def kindI (x:Int):Int:=if x=0 then 16 else if x=1 then 17 else -1
theorem Yy (x:Int):runG ΓN7 L0 prog f113 [.v (I x)] M0=bif decide (x<0) then some (.v (I (-1)),M0) else (bif decide (x>=2) then some (.v (I (-1)),M0) else some (.v (I (IntKind.i64.wrap (16+x))),M0)):=by kernel_rfl
def FK (vs:List Value):Option (Bool×Value) :=
 match vs with
 | [.int .i64 x]=>some (true,I (kindI x))
 | _=>none
theorem qfG:an 113 FK:=by
 intro vs r h
 unfold FK at h
 split at h
 ·rename_i x
  obtain ⟨h1,rfl⟩:=aa h
  refine am (vs:=[I x]) (Λ:=L0) (m':=M0) RY func113 rfl (fun z _ _=>cq _ z) ?_
  exact (Yy x).trans (by
   unfold kindI
   by_cases h0:x=0
   ·subst h0;rfl
   by_cases h2:x=1
   ·subst h2;rfl
   rw [if_neg h0,if_neg h2]
   by_cases h3:x<0
   ·rw [decide_eq_true h3];rfl
   ·rw [decide_eq_false h3,decide_eq_true (show x>=2 by omega)];rfl)
 ·cases h
def ΓN8:Orc:=ah 113 FK ΓN7
theorem qjV:ΓN8.Ok prog:=ac RY qfG
def ΓN9:Orc:=ΓN8
theorem RX:ΓN9.Ok prog:=qjV
def CD (a b c d e f g q:Int):ByteArray:=((((((be 2 (a)++be 1 (b))++be 4 (c))++be 4 (d))++be 4 (e))++be 4 (f))++be 4 (g))++be 4 (q)
def printT (a b c d e f g q:Int):ByteArray:=bif jB a b c d e f g q then CD a b c d e f g q else ⟨#[]⟩
theorem Yf (a b c d e f g q:Int):runG ΓN9 L0 prog f114 [.v (.agg #[I a,I b,I c,I d,I e,I f,I g,I q])] M0=bif !jB a b c d e f g q then some (.v (S ⟨#[]⟩),M0) else (bif Nat.ble ((be 2 (IntKind.u64.wrap a)).size+(be 1 (IntKind.u64.wrap b)).size) 9223372036854775807 then (bif Nat.ble ((be 2 (IntKind.u64.wrap a)++be 1 (IntKind.u64.wrap b)).size+(be 4 (IntKind.u64.wrap c)).size) 9223372036854775807 then (bif Nat.ble (((be 2 (IntKind.u64.wrap a)++be 1 (IntKind.u64.wrap b))++be 4 (IntKind.u64.wrap c)).size+(be 4 (IntKind.u64.wrap d)).size) 9223372036854775807 then (bif Nat.ble ((((be 2 (IntKind.u64.wrap a)++be 1 (IntKind.u64.wrap b))++be 4 (IntKind.u64.wrap c))++be 4 (IntKind.u64.wrap d)).size+(be 4 (IntKind.u64.wrap e)).size) 9223372036854775807 then (bif Nat.ble (((((be 2 (IntKind.u64.wrap a)++be 1 (IntKind.u64.wrap b))++be 4 (IntKind.u64.wrap c))++be 4 (IntKind.u64.wrap d))++be 4 (IntKind.u64.wrap e)).size+(be 4 (IntKind.u64.wrap f)).size) 9223372036854775807 then (bif Nat.ble ((((((be 2 (IntKind.u64.wrap a)++be 1 (IntKind.u64.wrap b))++be 4 (IntKind.u64.wrap c))++be 4 (IntKind.u64.wrap d))++be 4 (IntKind.u64.wrap e))++be 4 (IntKind.u64.wrap f)).size+(be 4 (IntKind.u64.wrap g)).size) 9223372036854775807 then (bif Nat.ble (((((((be 2 (IntKind.u64.wrap a)++be 1 (IntKind.u64.wrap b))++be 4 (IntKind.u64.wrap c))++be 4 (IntKind.u64.wrap d))++be 4 (IntKind.u64.wrap e))++be 4 (IntKind.u64.wrap f))++be 4 (IntKind.u64.wrap g)).size+(be 4 (IntKind.u64.wrap q)).size) 9223372036854775807 then some (.v (S (((((((be 2 (IntKind.u64.wrap a)++be 1 (IntKind.u64.wrap b))++be 4 (IntKind.u64.wrap c))++be 4 (IntKind.u64.wrap d))++be 4 (IntKind.u64.wrap e))++be 4 (IntKind.u64.wrap f))++be 4 (IntKind.u64.wrap g))++be 4 (IntKind.u64.wrap q))),M0) else none) else none) else none) else none) else none) else none) else none):=by kernel_rfl
def Fv (vs:List Value):Option (Bool×Value) :=
 match vs with
 | [.agg ⟨[.int .i64 a,.int .i64 b,.int .i64 c,.int .i64 d,.int .i64 e,.int .i64 f,.int .i64 g,.int .i64 q]⟩]=>some (true,S (printT a b c d e f g q))
 | _=>none
theorem qfp:an 114 Fv:=by
 intro vs r h
 unfold Fv at h
 split at h
 ·rename_i a b c d e f g q
  obtain ⟨h1,rfl⟩:=aa h
  refine am (vs:=[.agg #[I a,I b,I c,I d,I e,I f,I g,I q]]) (Λ:=L0) (m':=M0) RX func114 rfl (fun z _ _=>cq _ z) ?_
  exact (Yf a b c d e f g q).trans (by
   unfold printT
   cases jB a b c d e f g q with
   | false=>rfl
   | true =>
    simp only [HT,qij,zu,ByteArray.size_append,zv]
    rfl)
 ·cases h
def ΓN10:Orc:=ah 114 Fv ΓN9
theorem R2:ΓN10.Ok prog:=ac RX qfp
theorem Ch (x:Int) (j k:Nat) (h:(2:Int) ^ min (Int.toNat (8*k:Nat)) 32=256 ^ k) (hj:j=8*k) (hk:k<=3):IntKind.u8.wrap ((IntKind.u32.wrap x).fdiv (2 ^ min (Int.toNat (j:Nat)) 32))=x / 256 ^ k % 256:=by
 subst hj
 rw [h,Int.fdiv_eq_ediv_of_nonneg _ (Int.le_of_lt (Int.pow_pos (by decide))),<- cA true,<- cA true]
 simp only [wr]
 have:k=0\/k=1\/k=2\/k=3:=by omega
 rcases this with rfl|rfl|rfl|rfl<;>omega
theorem pq (x:Int):strOfNums [IntKind.u8.wrap ((IntKind.u32.wrap x).fdiv (2 ^ min (Int.toNat 24) 32)),IntKind.u8.wrap ((IntKind.u32.wrap x).fdiv (2 ^ min (Int.toNat 16) 32)),IntKind.u8.wrap ((IntKind.u32.wrap x).fdiv (2 ^ min (Int.toNat 8) 32)),IntKind.u8.wrap (IntKind.u32.wrap x)]=be 4 x:=by
 have e1:=Ch x 8 1 (by decide) rfl (by decide)
 have e2:=Ch x 16 2 (by decide) rfl (by decide)
 have e3:=Ch x 24 3 (by decide) rfl (by decide)
 rw [show ((8:Nat):Int)=8 from rfl] at e1
 rw [show ((16:Nat):Int)=16 from rfl] at e2
 rw [show ((24:Nat):Int)=24 from rfl] at e3
 have e0:IntKind.u8.wrap (IntKind.u32.wrap x)=x / 256 ^ 0 % 256:=by
  rw [<- cA true,<- cA true]
  simp only [wr]
  omega
 rw [e0,e1,e2,e3];rfl
theorem qad (a b c d e f g q:Int) (h0:0<=a) (h1:a<=65535):strOfNums [IntKind.u8.wrap (IntKind.i64.wrap (a.tdiv 256)),IntKind.u8.wrap (a.tmod 256),IntKind.u8.wrap b,IntKind.u8.wrap ((IntKind.u32.wrap c).fdiv (2 ^ min (Int.toNat 24) 32)),IntKind.u8.wrap ((IntKind.u32.wrap c).fdiv (2 ^ min (Int.toNat 16) 32)),IntKind.u8.wrap ((IntKind.u32.wrap c).fdiv (2 ^ min (Int.toNat 8) 32)),IntKind.u8.wrap (IntKind.u32.wrap c),IntKind.u8.wrap ((IntKind.u32.wrap d).fdiv (2 ^ min (Int.toNat 24) 32)),IntKind.u8.wrap ((IntKind.u32.wrap d).fdiv (2 ^ min (Int.toNat 16) 32)),IntKind.u8.wrap ((IntKind.u32.wrap d).fdiv (2 ^ min (Int.toNat 8) 32)),IntKind.u8.wrap (IntKind.u32.wrap d),IntKind.u8.wrap ((IntKind.u32.wrap e).fdiv (2 ^ min (Int.toNat 24) 32)),IntKind.u8.wrap ((IntKind.u32.wrap e).fdiv (2 ^ min (Int.toNat 16) 32)),IntKind.u8.wrap ((IntKind.u32.wrap e).fdiv (2 ^ min (Int.toNat 8) 32)),IntKind.u8.wrap (IntKind.u32.wrap e),IntKind.u8.wrap ((IntKind.u32.wrap f).fdiv (2 ^ min (Int.toNat 24) 32)),IntKind.u8.wrap ((IntKind.u32.wrap f).fdiv (2 ^ min (Int.toNat 16) 32)),IntKind.u8.wrap ((IntKind.u32.wrap f).fdiv (2 ^ min (Int.toNat 8) 32)),IntKind.u8.wrap (IntKind.u32.wrap f),IntKind.u8.wrap ((IntKind.u32.wrap g).fdiv (2 ^ min (Int.toNat 24) 32)),IntKind.u8.wrap ((IntKind.u32.wrap g).fdiv (2 ^ min (Int.toNat 16) 32)),IntKind.u8.wrap ((IntKind.u32.wrap g).fdiv (2 ^ min (Int.toNat 8) 32)),IntKind.u8.wrap (IntKind.u32.wrap g),IntKind.u8.wrap ((IntKind.u32.wrap q).fdiv (2 ^ min (Int.toNat 24) 32)),IntKind.u8.wrap ((IntKind.u32.wrap q).fdiv (2 ^ min (Int.toNat 16) 32)),IntKind.u8.wrap ((IntKind.u32.wrap q).fdiv (2 ^ min (Int.toNat 8) 32)),IntKind.u8.wrap (IntKind.u32.wrap q)]=CD a b c d e f g q:=by
 unfold CD
 rw [<- pq c,<- pq d,<- pq e,<- pq f,<- pq g,<- pq q]
 have e1:be 2 a++be 1 b=strOfNums [IntKind.u8.wrap (IntKind.i64.wrap (a.tdiv 256)),IntKind.u8.wrap (a.tmod 256),IntKind.u8.wrap b]:=by
  have t1:IntKind.u8.wrap (IntKind.i64.wrap (a.tdiv 256))=a / 256 ^ 1 % 256:=by
   rw [Int.tdiv_eq_ediv_of_nonneg h0]
   have:=aM (n:=a / 256) (by omega)
   unfold wI at this
   rw [this,<- cA true]
   simp only [wr]
   omega
  have t2:IntKind.u8.wrap (a.tmod 256)=a / 256 ^ 0 % 256:=by
   rw [Int.tmod_eq_emod_of_nonneg h0,<- cA true]
   simp only [wr]
   omega
  have t3:IntKind.u8.wrap b=b / 256 ^ 0 % 256:=by
   rw [<- cA true]
   simp only [wr]
   omega
  rw [t1,t2,t3]
  rfl
 rw [e1]
 simp only [<- qbe]
 rfl
theorem Xz (a b c d e f g q:Int):runG ΓN10 L0 prog f202 [.v (.agg #[I a,I b,I c,I d,I e,I f,I g,I q])] M0=bif !jB a b c d e f g q then some (.v (S ⟨#[]⟩),M0) else some (.v (S (strOfNums [IntKind.u8.wrap (IntKind.i64.wrap (a.tdiv 256)),IntKind.u8.wrap (a.tmod 256),IntKind.u8.wrap b,IntKind.u8.wrap ((IntKind.u32.wrap c).fdiv (2 ^ min (Int.toNat 24) 32)),IntKind.u8.wrap ((IntKind.u32.wrap c).fdiv (2 ^ min (Int.toNat 16) 32)),IntKind.u8.wrap ((IntKind.u32.wrap c).fdiv (2 ^ min (Int.toNat 8) 32)),IntKind.u8.wrap (IntKind.u32.wrap c),IntKind.u8.wrap ((IntKind.u32.wrap d).fdiv (2 ^ min (Int.toNat 24) 32)),IntKind.u8.wrap ((IntKind.u32.wrap d).fdiv (2 ^ min (Int.toNat 16) 32)),IntKind.u8.wrap ((IntKind.u32.wrap d).fdiv (2 ^ min (Int.toNat 8) 32)),IntKind.u8.wrap (IntKind.u32.wrap d),IntKind.u8.wrap ((IntKind.u32.wrap e).fdiv (2 ^ min (Int.toNat 24) 32)),IntKind.u8.wrap ((IntKind.u32.wrap e).fdiv (2 ^ min (Int.toNat 16) 32)),IntKind.u8.wrap ((IntKind.u32.wrap e).fdiv (2 ^ min (Int.toNat 8) 32)),IntKind.u8.wrap (IntKind.u32.wrap e),IntKind.u8.wrap ((IntKind.u32.wrap f).fdiv (2 ^ min (Int.toNat 24) 32)),IntKind.u8.wrap ((IntKind.u32.wrap f).fdiv (2 ^ min (Int.toNat 16) 32)),IntKind.u8.wrap ((IntKind.u32.wrap f).fdiv (2 ^ min (Int.toNat 8) 32)),IntKind.u8.wrap (IntKind.u32.wrap f),IntKind.u8.wrap ((IntKind.u32.wrap g).fdiv (2 ^ min (Int.toNat 24) 32)),IntKind.u8.wrap ((IntKind.u32.wrap g).fdiv (2 ^ min (Int.toNat 16) 32)),IntKind.u8.wrap ((IntKind.u32.wrap g).fdiv (2 ^ min (Int.toNat 8) 32)),IntKind.u8.wrap (IntKind.u32.wrap g),IntKind.u8.wrap ((IntKind.u32.wrap q).fdiv (2 ^ min (Int.toNat 24) 32)),IntKind.u8.wrap ((IntKind.u32.wrap q).fdiv (2 ^ min (Int.toNat 16) 32)),IntKind.u8.wrap ((IntKind.u32.wrap q).fdiv (2 ^ min (Int.toNat 8) 32)),IntKind.u8.wrap (IntKind.u32.wrap q)])),M0):=by kernel_rfl
def xX (vs:List Value):Option (Bool×Value) :=
 match vs with
 | [.agg ⟨[.int .i64 a,.int .i64 b,.int .i64 c,.int .i64 d,.int .i64 e,.int .i64 f,.int .i64 g,.int .i64 q]⟩]=>some (true,S (printT a b c d e f g q))
 | _=>none
theorem Oq:an 202 xX:=by
 intro vs r h
 unfold xX at h
 split at h
 ·rename_i a b c d e f g q
  obtain ⟨h1,rfl⟩:=aa h
  refine am (vs:=[.agg #[I a,I b,I c,I d,I e,I f,I g,I q]]) (Λ:=L0) (m':=M0) R2 func202 rfl (fun z _ _=>cq _ z) ?_
  exact (Xz a b c d e f g q).trans (by
   unfold printT
   cases hr:jB a b c d e f g q with
   | false=>rfl
   | true =>
    have h0:0<=a/\a<=65535:=by
     unfold jB at hr
     have:=of_decide_eq_true hr
     omega
    rw [qad a b c d e f g q h0.1 h0.2]
    rfl)
 ·cases h
def ΓN11:Orc:=ah 202 xX ΓN10
theorem qjY:ΓN11.Ok prog:=ac R2 Oq
def ΓNa:Orc:=ΓN11
theorem IL:ΓNa.Ok prog:=qjY
end Go.Proofs.YtainfdcfkgemhaaGreat
