/-
  What is known of this program: frames,streams,navs.
-/
import Derived.Test.YtainfdcfkgemhaaGreatYd
set_option maxRecDepth 100000
noncomputable section
open Go.Proofs.Tryz
namespace Go.Proofs.YtainfdcfkgemhaaGreat
open Go Go.Proofs Go.Sx
set_option linter.unusedVariables false
def ΓOp:Orc:={ call:=ΓO.call,rd:=ΓO.rd,eqv:=ΓO.eqv,unr:=8,wr:=sJ }
theorem RU:ΓOp.Ok prog:=⟨cw.call,cw.rd,cw.eqv⟩
theorem Wm (s:ByteArray):runG ΓOp L0 prog f246 [.v (S s)] M0=bif bv s then some (.v (S (fZ s)),M0) else none:=by kernel_rfl
def DJ (vs:List Value):Option (Bool×Value) :=
 match vs with
 | [.string s]=>some (bv s,S (fZ s))
 | _=>none
theorem qeB:am 246 DJ:=by
 intro vs r h
 unfold DJ at h
 split at h
 ·rename_i s
  obtain ⟨h1,rfl⟩:=ab h
  refine ak (vs:=[S s]) (Λ:=L0) (m':=M0) RU func246 rfl (fun z _ _=>bg (by kernel_rfl) z) ?_
  exact (Wm s).trans (by rw [h1];rfl)
 ·cases h
def ΓF1:Orc:=ah 246 DJ ΓOp
theorem OkF1:ΓF1.Ok prog:=af RU qeB
theorem VT (x:Int):runG ΓF1 L0 prog f200 [.v (bN x)] M0=some (.v (S (rQ x)),M0):=by kernel_rfl
def Dw (vs:List Value):Option (Bool×Value) :=
 match vs with
 | [.int .u16 x]=>some (true,S (rQ x))
 | _=>none
theorem qer:am 200 Dw:=by
 intro vs r h
 unfold Dw at h
 split at h
 ·rename_i x
  obtain ⟨h1,rfl⟩:=ab h
  refine ak (vs:=[bN x]) (Λ:=L0) (m':=M0) OkF1 func200 rfl (fun z _ _=>bg (by kernel_rfl) z) ?_
  exact (VT x).trans (rfl)
 ·cases h
def ΓF2:Orc:=ah 200 Dw ΓF1
theorem Sm:ΓF2.Ok prog:=af OkF1 qer
theorem Xj (k:Int) (p:ByteArray):runG ΓF2 L0 prog f245 [.v (.agg #[I k,S p])] M0=bif decide (k>=0) then (bif decide (k<=255) then some (.v (Bo (decide ((p.size:Int)<=64))),M0) else some (.v (Bo false),M0)) else some (.v (Bo false),M0):=by kernel_rfl
def gRight (vs:List Value):Option (Bool×Value) :=
 match vs with
 | [.agg ⟨[.int .i64 k,.string p]⟩]=>some (true,Bo (eh k p))
 | _=>none
theorem gRight_ok:am 245 gRight:=by
 intro vs r h
 unfold gRight at h
 split at h
 ·rename_i k p
  obtain ⟨h1,rfl⟩:=ab h
  refine ak (vs:=[.agg #[I k,S p]]) (Λ:=L0) (m':=M0) Sm func245 rfl (fun z _ _=>bg (by kernel_rfl) z) ?_
  exact (Xj k p).trans (by unfold eh;cases decide (k>=0)<;>cases decide (k<=255)<;>rfl)
 ·cases h
def ΓF3:Orc:=ah 245 gRight ΓF2
theorem Sl:ΓF3.Ok prog:=af Sm gRight_ok
theorem Xw (k:Int) (p:ByteArray):runG ΓF3 L0 prog f199 [.v (.agg #[I k,S p])] M0=bif decide (k>=0) then (bif decide (k<=255) then some (.v (Bo (decide ((p.size:Int)<=64))),M0) else some (.v (Bo false),M0)) else some (.v (Bo false),M0):=by kernel_rfl
def EC (vs:List Value):Option (Bool×Value) :=
 match vs with
 | [.agg ⟨[.int .i64 k,.string p]⟩]=>some (true,Bo (eh k p))
 | _=>none
theorem qfm:am 199 EC:=by
 intro vs r h
 unfold EC at h
 split at h
 ·rename_i k p
  obtain ⟨h1,rfl⟩:=ab h
  refine ak (vs:=[.agg #[I k,S p]]) (Λ:=L0) (m':=M0) Sl func199 rfl (fun z _ _=>bg (by kernel_rfl) z) ?_
  exact (Xw k p).trans (by unfold eh;cases decide (k>=0)<;>cases decide (k<=255)<;>rfl)
 ·cases h
def ΓF4:Orc:=ah 199 EC ΓF3
theorem qld:ΓF4.Ok prog:=af Sl qfm
def ΓF5:Orc:=ΓF4
theorem Sj:ΓF5.Ok prog:=qld
def hasP (s t:ByteArray):Bool:=decide (t.size<=s.size)&&(L (s.extract 0 t.size)==L t)
theorem YY (s t:ByteArray):runG ΓF5 L0 prog f309 [.v (S s),.v (S t)] M0=bif decide ((s.size:Int)>=(t.size:Int)) then (bif decide ((0:Int)<=0)&&(decide (0<=(t.size:Int))&&decide ((t.size:Int)<=(s.size:Int))) then some (.v (Bo ((s.extract (Int.toNat 0) (t.size:Int).toNat).toList==t.toList)),M0) else none) else some (.v (Bo false),M0):=by kernel_rfl
def FH (vs:List Value):Option (Bool×Value) :=
 match vs with
 | [.string s,.string t]=>some (true,Bo (hasP s t))
 | _=>none
theorem qgr:am 309 FH:=by
 intro vs r h
 unfold FH at h
 split at h
 ·rename_i s t
  obtain ⟨h1,rfl⟩:=ab h
  refine ak (vs:=[S s,S t]) (Λ:=L0) (m':=M0) Sj func309 rfl (fun z _ _=>bg (by kernel_rfl) z) ?_
  exact (YY s t).trans (by
   unfold hasP
   by_cases hc:t.size<=s.size
   ·rw [decide_eq_true (show (s.size:Int)>=(t.size:Int) by omega),decide_eq_true (show (0:Int)<=0 by omega),decide_eq_true (show 0<=(t.size:Int) by omega),decide_eq_true hc,HD]
    rfl
   ·rw [decide_eq_false (show ¬ (s.size:Int)>=(t.size:Int) by omega),decide_eq_false hc]
    rfl)
 ·cases h
def ΓF6:Orc:=ah 309 FH ΓF5
theorem Si:ΓF6.Ok prog:=af Sj qgr
theorem YZ (s t:ByteArray):runG ΓF6 L0 prog f250 [.v (S s),.v (S t)] M0=some (.v (Bo (hasP s t)),M0):=by kernel_rfl
def FI (vs:List Value):Option (Bool×Value) :=
 match vs with
 | [.string s,.string t]=>some (true,Bo (hasP s t))
 | _=>none
theorem qgq:am 250 FI:=by
 intro vs r h
 unfold FI at h
 split at h
 ·rename_i s t
  obtain ⟨h1,rfl⟩:=ab h
  refine ak (vs:=[S s,S t]) (Λ:=L0) (m':=M0) Si func250 rfl (fun z _ _=>bg (by kernel_rfl) z) ?_
  exact (YZ s t).trans (rfl)
 ·cases h
def ΓF7:Orc:=ah 250 FI ΓF6
theorem Sh:ΓF7.Ok prog:=af Si qgq
theorem ZJ (s:ByteArray):runG ΓF7 L0 prog f162 [.v (S s)] M0=bif Nat.ble s.size 281474976710656 then some (.v (S s),M0) else none:=by kernel_rfl
def Gl (vs:List Value):Option (Bool×Value) :=
 match vs with
 | [.string s]=>some (Nat.ble s.size 281474976710656,S s)
 | _=>none
theorem qg4:am 162 Gl:=by
 intro vs r h
 unfold Gl at h
 split at h
 ·rename_i s
  obtain ⟨h1,rfl⟩:=ab h
  refine ak (vs:=[S s]) (Λ:=L0) (m':=M0) Sh func162 rfl (fun z _ _=>bg (by kernel_rfl) z) ?_
  exact (ZJ s).trans (by rw [h1];rfl)
 ·cases h
def ΓF8:Orc:=ah 162 Gl ΓF7
theorem Sg:ΓF8.Ok prog:=af Sh qg4
theorem Wy (s:ByteArray):runG ΓF8 L0 prog f277 [.v (S s)] M0=bif decide ((0:Int)<=3)&&decide (3<(s.size:Int)) then some (.v (I (IntKind.i64.wrap (IntKind.i64.wrap (4+IntKind.i64.wrap (aa s 3))+2))),M0) else none:=by kernel_rfl
def DV (vs:List Value):Option (Bool×Value) :=
 match vs with
 | [.string s]=>some (decide (3<(s.size:Int)),I (bd s))
 | _=>none
theorem qeN:am 277 DV:=by
 intro vs r h
 unfold DV at h
 split at h
 ·rename_i s
  obtain ⟨h1,rfl⟩:=ab h
  refine ak (vs:=[S s]) (Λ:=L0) (m':=M0) Sg func277 rfl (fun z _ _=>bg (by kernel_rfl) z) ?_
  exact (Wy s).trans (by
   have h3:=d5 s 3
   rw [show ((3:Nat):Int)=3 from rfl] at h3
   have e:IntKind.i64.wrap (IntKind.i64.wrap (4+IntKind.i64.wrap (aa s 3))+2)=bd s:=by
    show wI (wI (4+wI (aa s 3))+2)=_
    rw [az (n:=aa s 3) (by omega),az (n:=4+aa s 3) (by omega),az (by omega)]
    unfold bd
    omega
   rw [e,show decide ((0:Int)<=3)=true from rfl,h1]
   rfl)
 ·cases h
def ΓF9:Orc:=ah 277 DV ΓF8
theorem qlc:ΓF9.Ok prog:=af Sg qeN
def ΓFap:Orc:=ΓF9
theorem Sd:ΓFap.Ok prog:=qlc
end Go.Proofs.YtainfdcfkgemhaaGreat
namespace Go.Proofs.YtainfdcfkgemhaaGreat
open Go Go.Proofs Go.Sx
theorem ua (a:UInt8) (n:Nat) (hn:n<256):((a.toNat:Int) != (n:Int))=(a != UInt8.ofNat n):=by
 have e:((a.toNat:Int)=(n:Int))↔a=UInt8.ofNat n:=by
  constructor
  ·intro h
   rw [<- UInt8.toNat_inj,UInt8.toNat_ofNat',Nat.mod_eq_of_lt hn]
   omega
  ·rintro rfl
   rw [UInt8.toNat_ofNat',Nat.mod_eq_of_lt hn]
 by_cases h:a=UInt8.ofNat n
 ·rw [bne_eq_false_iff_eq.2 (e.2 h),bne_eq_false_iff_eq.2 h]
 ·rw [bne_iff_ne.2 (fun q=>h (e.1 q)),bne_iff_ne.2 h]
theorem qdY (s:ByteArray):hasP s (mark.extract (Int.toNat 0) (if (2:Int)<(s.size:Int) then 2 else (s.size:Int)).toNat) =
  !((decide ((s.size:Int)>0)&&aa s 0 != 165)||(decide ((s.size:Int)>1)&&aa s 1 != 90)):=by
 have h0:=dR s 0
 have h1:=dR s 1
 rw [show ((0:Nat):Int)=0 from rfl] at h0
 rw [show ((1:Nat):Int)=1 from rfl] at h1
 have hl:=eG s
 unfold hasP
 rw [fO,fO]
 have hmk:L mark=[165,90]:=rfl
 rw [hmk,h0,h1]
 generalize hx:L s=l at *
 match l with
 | [] =>
  have hs:s.size=0:=by rw [<- hl];rfl
  rw [hs]
  rfl
 | [a] =>
  have hs:s.size=1:=by rw [<- hl];rfl
  rw [hs]
  have e:(mark.extract (Int.toNat 0) (if (2:Int)<((1:Nat):Int) then 2 else ((1:Nat):Int)).toNat).size=1:=rfl
  rw [e]
  have:=ua a 165 (by omega)
  simp only [List.getElem?_cons_zero,Option.map_some,Option.getD_some]
  rw [show ((165:Nat):Int)=165 from rfl] at this
  rw [this]
  simp [bne]
 | a::b::r =>
  have hs:2<=s.size:=by rw [<- hl];simp
  have e0:(if (2:Int)<(s.size:Int) then 2 else (s.size:Int)).toNat=2:=by split<;>omega
  rw [e0]
  have e:(mark.extract (Int.toNat 0) 2).size=2:=rfl
  rw [e]
  have t0:=ua a 165 (by omega)
  have t1:=ua b 90 (by omega)
  rw [show ((165:Nat):Int)=165 from rfl] at t0
  rw [show ((90:Nat):Int)=90 from rfl] at t1
  simp only [List.getElem?_cons_zero,List.getElem?_cons_succ,Option.map_some,Option.getD_some]
  rw [t0,t1,decide_eq_true (show (s.size:Int)>0 by omega),decide_eq_true (show (s.size:Int)>1 by omega),decide_eq_true hs]
  simp [bne]
theorem qbR (s:ByteArray):(!cW s)=(hasP s (mark.extract (Int.toNat 0) (if (2:Int)<(s.size:Int) then 2 else (s.size:Int)).toNat)&&(decide ((s.size:Int)<4)||decide (aa s 3<=64))):=by
 rw [qdY]
 unfold cW
 generalize (decide ((s.size:Int)>0)&&aa s 0 != 165)=x
 generalize (decide ((s.size:Int)>1)&&aa s 1 != 90)=y
 have:(decide ((s.size:Int)>3)&&decide (aa s 3>64))=!(decide ((s.size:Int)<4)||decide (aa s 3<=64)):=by
  by_cases h1:(s.size:Int)<4<;>by_cases h2:aa s 3<=64<;>simp [h1,h2]<;>omega
 rw [this]
 cases x<;>cases y<;>cases (decide ((s.size:Int)<4)||decide (aa s 3<=64))<;>rfl
theorem nl {s:ByteArray} (h:s.size<=9223372036854775807):bv s=true:=Nat.ble_eq_true_of_le h
theorem v5 {k:Int} {p:ByteArray} (h:eh k p=true):p.size<=64/\0<=k/\k<=255:=by
 unfold eh at h
 simp only [Bool.and_eq_true,decide_eq_true_eq] at h
 omega
end Go.Proofs.YtainfdcfkgemhaaGreat
namespace Go.Proofs.YtainfdcfkgemhaaGreat
open Go Go.Proofs Go.Sx
set_option linter.unusedVariables false
theorem Yx (s:ByteArray):runG ΓFap L0 prog f276 [.v (S s)] M0=bif decide ((0:Int)<=0)&&(decide ((0:Int)<=(if (2:Int)<(s.size:Int) then 2 else (s.size:Int)))&&decide ((if (2:Int)<(s.size:Int) then 2 else (s.size:Int))<=(mark.size:Int))) then
 (bif !hasP s (mark.extract (Int.toNat 0) (if (2:Int)<(s.size:Int) then 2 else (s.size:Int)).toNat) then some (.v (Bo false),M0) else
  (bif decide ((s.size:Int)<4) then some (.v (Bo true),M0) else (bif decide ((0:Int)<=3)&&decide (3<(s.size:Int)) then some (.v (Bo (decide (aa s 3<=64))),M0) else none))) else none:=by kernel_rfl
def Fm (vs:List Value):Option (Bool×Value) :=
 match vs with
 | [.string s]=>some (true,Bo (!cW s))
 | _=>none
theorem qf7:am 276 Fm:=by
 intro vs r h
 unfold Fm at h
 split at h
 ·rename_i s
  obtain ⟨h1,rfl⟩:=ab h
  refine ak (vs:=[S s]) (Λ:=L0) (m':=M0) Sd func276 rfl (fun z _ _=>bg (by kernel_rfl) z) ?_
  exact (Yx s).trans (by
   have hm:mark.size=2:=rfl
   have e1:(0:Int)<=(if (2:Int)<(s.size:Int) then 2 else (s.size:Int)):=by split<;>omega
   have e2:(if (2:Int)<(s.size:Int) then 2 else (s.size:Int))<=(mark.size:Int):=by rw [hm];split<;>omega
   rw [decide_eq_true e1,decide_eq_true e2,qbR s]
   generalize hasP s (mark.extract (Int.toNat 0) (if (2:Int)<(s.size:Int) then 2 else (s.size:Int)).toNat)=q
   by_cases h4:(s.size:Int)<4
   ·rw [decide_eq_true h4]
    cases q<;>rfl
   ·rw [decide_eq_false h4,decide_eq_true (show (3:Int)<(s.size:Int) by omega)]
    cases q<;>rfl)
 ·cases h
def ΓG1:Orc:=ah 276 Fm ΓFap
theorem OkG1:ΓG1.Ok prog:=af Sd qf7
theorem XT (k:Int) (p:ByteArray):runG ΓG1 L0 prog f179 [.v (.agg #[I k,S p])] M0=bif !eh k p then some (.v (S ⟨#[]⟩),M0) else
 (bif Nat.ble ((strOfNums [IntKind.u8.wrap k,IntKind.u8.wrap (p.size:Int)]).size+p.size) 9223372036854775807 then (bif Nat.ble (mark.size+(cQ k p).size) 9223372036854775807 then (bif bv (cQ k p) then (bif Nat.ble ((mark++cQ k p).size+(fZ (cQ k p)).size) 9223372036854775807 then some (.v (S ((mark++cQ k p)++fZ (cQ k p))),M0) else none) else none) else none) else none):=by kernel_rfl
def gPrint (vs:List Value):Option (Bool×Value) :=
 match vs with
 | [.agg ⟨[.int .i64 k,.string p]⟩]=>some (true,S (printB k p))
 | _=>none
theorem Of:am 179 gPrint:=by
 intro vs r h
 unfold gPrint at h
 split at h
 ·rename_i k p
  obtain ⟨h1,rfl⟩:=ab h
  refine ak (vs:=[.agg #[I k,S p]]) (Λ:=L0) (m':=M0) OkG1 func179 rfl (fun z _ _=>bg (by kernel_rfl) z) ?_
  exact (XT k p).trans (by
   unfold printB
   cases hr:eh k p with
   | false=>rfl
   | true =>
    obtain ⟨hp,_,_⟩:=v5 hr
    have hb:=HA k p
    have hm:mark.size=2:=rfl
    have h2:(fZ (cQ k p)).size=2:=A8 _
    have hma:(mark++cQ k p).size=2+(p.size+2):=by rw [ByteArray.size_append,hm,hb]
    rw [strOfNums_size,hma,h2,hm,hb,nl (by omega)]
    rw [show Nat.ble ([IntKind.u8.wrap k,IntKind.u8.wrap (p.size:Int)].length+p.size) 9223372036854775807=true from Nat.ble_eq_true_of_le (by simp only [List.length_cons,List.length_nil];omega),show Nat.ble (2+(p.size+2)) 9223372036854775807=true from Nat.ble_eq_true_of_le (by omega),show Nat.ble (2+(p.size+2)+2) 9223372036854775807=true from Nat.ble_eq_true_of_le (by omega)]
    rfl)
 ·cases h
def ΓG2:Orc:=ah 179 gPrint ΓG1
theorem OkG2:ΓG2.Ok prog:=af OkG1 Of
theorem XC (k:Int) (p:ByteArray):runG ΓG2 L0 prog f127 [.v (.agg #[I k,S p])] M0=bif !eh k p then some (.v (S ⟨#[]⟩),M0) else
 (bif Nat.ble ((strOfNums [IntKind.u8.wrap k,IntKind.u8.wrap (p.size:Int)]).size+p.size) 9223372036854775807 then (bif Nat.ble ((strOfNums [165,90]).size+(cQ k p).size) 9223372036854775807 then (bif d8 65535&&bv (cQ k p) then (bif Nat.ble (((strOfNums [165,90])++cQ k p).size+(fZ (cQ k p)).size) 9223372036854775807 then some (.v (S (((strOfNums [165,90])++cQ k p)++fZ (cQ k p))),M0) else none) else none) else none) else none):=by kernel_rfl
def EF (vs:List Value):Option (Bool×Value) :=
 match vs with
 | [.agg ⟨[.int .i64 k,.string p]⟩]=>some (true,S (printB k p))
 | _=>none
theorem qfp:am 127 EF:=by
 intro vs r h
 unfold EF at h
 split at h
 ·rename_i k p
  obtain ⟨h1,rfl⟩:=ab h
  refine ak (vs:=[.agg #[I k,S p]]) (Λ:=L0) (m':=M0) OkG2 func127 rfl (fun z _ _=>bg (by kernel_rfl) z) ?_
  exact (XC k p).trans (by
   unfold printB
   cases hr:eh k p with
   | false=>rfl
   | true =>
    obtain ⟨hp,_,_⟩:=v5 hr
    have hb:=HA k p
    have hm:(strOfNums [165,90]).size=2:=rfl
    have h2:(fZ (cQ k p)).size=2:=A8 _
    have hma:((strOfNums [165,90])++cQ k p).size=2+(p.size+2):=by rw [ByteArray.size_append,hm,hb]
    rw [strOfNums_size,hma,h2,hm,hb,nl (by omega)]
    rw [show Nat.ble ([IntKind.u8.wrap k,IntKind.u8.wrap (p.size:Int)].length+p.size) 9223372036854775807=true from Nat.ble_eq_true_of_le (by simp only [List.length_cons,List.length_nil];omega),show Nat.ble (2+(p.size+2)) 9223372036854775807=true from Nat.ble_eq_true_of_le (by omega),show Nat.ble (2+(p.size+2)+2) 9223372036854775807=true from Nat.ble_eq_true_of_le (by omega)]
    rfl)
 ·cases h
def ΓG3:Orc:=ah 127 EF ΓG2
theorem OkG3:ΓG3.Ok prog:=af OkG2 qfp
def ΓGa:Orc:=ΓG3
theorem Sa:ΓGa.Ok prog:=OkG3
end Go.Proofs.YtainfdcfkgemhaaGreat
namespace Go.Proofs.YtainfdcfkgemhaaGreat
open Go Go.Proofs Go.Sx
theorem PZ (c d:UInt8) (p:ByteArray) (hp:p.size=d.toNat):L (cQ (c.toNat:Int) p)=c::d::L p:=by
 unfold cQ
 rw [de,uH,hp,Az,Az,Nat.mod_eq_of_lt (dO c),Nat.mod_eq_of_lt (dO d)]
 simp only [List.map_cons,List.map_nil,Int.toNat_natCast,UInt8.ofNat_toNat,List.cons_append,List.nil_append]
theorem OB {s:ByteArray} (h1:cW s=false) (h2:fm s=false):∃ c d r,L s=165::90::c::d::r/\eZ s=(c.toNat:Int)/\aa s 3=(d.toNat:Int)/\d.toNat<=64/\bd s=((6+d.toNat:Nat):Int)/\d.toNat+2<=r.length:=by
 obtain ⟨h4,h5,h6⟩:=wO h2
 have hl:=eG s
 have a0:=dR s 0
 have a1:=dR s 1
 have a2:=dR s 2
 have a3:=dR s 3
 generalize hx:L s=l at *
 match l,hl with
 | [],hl=>simp at hl;omega
 | [_],hl=>simp at hl;omega
 | [_,_],hl=>simp at hl;omega
 | [_,_,_],hl=>simp at hl;omega
 | a::b::c::d::r,hl =>
  simp only [List.getElem?_cons_zero,List.getElem?_cons_succ,Option.map_some,Option.getD_some] at a0 a1 a2 a3
  unfold cW at h1
  rw [show (0:Int)=((0:Nat):Int) from rfl,show (1:Int)=((1:Nat):Int) from rfl,show (3:Int)=((3:Nat):Int) from rfl] at h1
  rw [a0,a1,a3] at h1
  have b0:=ua a 165 (by omega)
  have b1:=ua b 90 (by omega)
  rw [show ((165:Nat):Int)=165 from rfl] at b0
  rw [show ((90:Nat):Int)=90 from rfl] at b1
  rw [b0,b1] at h1
  simp only [Bool.or_eq_false_iff,Bool.and_eq_false_iff,decide_eq_false_iff_not,bne_eq_false_iff_eq] at h1
  obtain ⟨g0,g1,g3⟩:=h1
  have e0:a=165:=by
   rcases g0 with g0|g0
   ·omega
   ·exact g0
  have e1:b=90:=by
   rcases g1 with g1|g1
   ·omega
   ·exact g1
  subst e0 e1
  have hlen:bd s=((6+d.toNat:Nat):Int):=by
   unfold bd
   rw [show (3:Int)=((3:Nat):Int) from rfl,a3]
   omega
  refine ⟨c,d,r,rfl,?_,a3,by omega,hlen,?_⟩
  ·unfold eZ;exact a2
  ·rw [hlen] at h5
   simp only [List.length_cons] at hl
   omega
theorem B6 {s:ByteArray} {d:Nat} {x y z u:UInt8} {r:List UInt8} (hl:L s=x::y::z::u::r) (hn:bd s=((6+d:Nat):Int)):L (eX s)=r.take d:=by
 unfold eX
 rw [hn,fO,hl,show (((6+d:Nat):Int) - 2).toNat - 4=d by omega]
 rfl
theorem qbr {s:ByteArray} (h1:cW s=false) (h2:fm s=false):((fZ (s.extract 2 (bd s - 2).toNat)).toList==(s.extract (bd s - 2).toNat (bd s).toNat).toList)=okB s:=by
 obtain ⟨c,d,r,hl,hk,hd,hd64,hn,hr⟩:=OB h1 h2
 have hp:=B6 hl hn
 have hps:(eX s).size=d.toNat:=by
  rw [<- eG,hp,List.length_take]
  omega
 have e1:s.extract 2 (bd s - 2).toNat=cQ (eZ s) (eX s):=by
  rw [<- gM,hk,PZ c d _ hps,hp,fO,hl,hn,show (((6+d.toNat:Nat):Int) - 2).toNat - 2=d.toNat+2 by omega]
  rfl
 have e2:L (s.extract (bd s - 2).toNat (bd s).toNat)=(r.drop d.toNat).take 2:=by
  rw [fO,hl,hn,show (((6+d.toNat:Nat):Int) - 2).toNat=d.toNat+4 by omega,show (((6+d.toNat:Nat):Int)).toNat - (d.toNat+4)=2 by omega]
  rw [Nat.add_comm d.toNat 4,<- List.drop_drop]
  rfl
 have e3:L (s.extract 0 (bd s).toNat)=165::90::c::d::(r.take d.toNat++(r.drop d.toNat).take 2):=by
  rw [fO,hl,hn,show (((6+d.toNat:Nat):Int)).toNat - 0=(d.toNat+2)+4 by omega,<- List.take_add]
  rfl
 have e4:L (cn (eZ s) (eX s))=165::90::c::d::(r.take d.toNat++L (fZ (cQ (eZ s) (eX s)))):=by
  unfold cn
  rw [de,de,hk,PZ c d _ hps,hp]
  rfl
 rw [e1,HD,e2]
 unfold okB
 rw [P7,e3,e4,Bool.eq_iff_iff]
 simp only [beq_iff_eq,List.cons.injEq,true_and,List.append_cancel_left_eq]
theorem qd0 {s:ByteArray} (h1:cW s=false) (h2:fm s=false):eh (eZ s) (eX s)=true:=by
 obtain ⟨c,d,r,hl,hk,hd,hd64,hn,hr⟩:=OB h1 h2
 have hp:=B6 hl hn
 have hps:(eX s).size=d.toNat:=by
  rw [<- eG,hp,List.length_take]
  omega
 have:=dO c
 unfold eh
 rw [hk,hps,decide_eq_true (by omega),decide_eq_true (by omega),decide_eq_true (by omega)]
 rfl
def ir (s:ByteArray):Value:=.tuple #[.agg #[I (eV s),S (aN s)],I (bI s),I (aX s)]
theorem pG {s:ByteArray} {e:Int} (h:aX s=e) (h0:e≠0):ir s=.tuple #[.agg #[I 0,S ⟨#[]⟩],I 0,I e]:=by
 subst h
 unfold ir eV aN bI
 rw [show (aX s==0)=false from beq_eq_false_iff_ne.2 h0]
 rfl
theorem LZ {s:ByteArray} (h:aX s=0):ir s=.tuple #[.agg #[I (eZ s),S (eX s)],I (bd s),I 0]:=by
 unfold ir eV aN bI
 rw [h]
 rfl
def oV (v:Value):Option (SV×Mem):=some (.v v,M0)
def ja (e:Int):Option (SV×Mem):=oV (.tuple #[.agg #[I 0,S ⟨#[]⟩],I 0,I e])
def w2 (s:ByteArray):Int:=wI (bd s - 2)
def BQ (s:ByteArray):Option (SV×Mem) :=
 bif !!cW s then ja 3 else bif decide ((s.size:Int)<4) then ja 5 else bif decide (3<(s.size:Int)) then (bif decide ((s.size:Int)<bd s) then ja 5 else bif decide (3<(s.size:Int)) then
  (bif decide ((0:Int)<=2)&&(decide (2<=w2 s)&&decide (w2 s<=(s.size:Int))) then (bif bv (s.extract (Int.toNat 2) (w2 s).toNat) then (bif decide (0<=w2 s)&&(decide (w2 s<=bd s)&&decide (bd s<=(s.size:Int))) then
   (bif !((fZ (s.extract (Int.toNat 2) (w2 s).toNat)).toList==(s.extract (w2 s).toNat (bd s).toNat).toList) then ja 4 else
    (bif decide ((0:Int)<=2)&&decide (2<(s.size:Int)) then (bif decide ((0:Int)<=4)&&(decide (4<=w2 s)&&decide (w2 s<=(s.size:Int))) then (bif Nat.ble (s.extract (Int.toNat 4) (w2 s).toNat).size 281474976710656 then
     oV (.tuple #[.agg #[I (wI (aa s 2)),S (s.extract (Int.toNat 4) (w2 s).toNat)],I (bd s),I 0]) else none) else none) else none))
   else none) else none) else none) else none) else none
theorem Tu (s:ByteArray):w2 s=bd s - 2:=by
 have:=sL s
 unfold w2
 rw [az (by omega)]
theorem Nz (s:ByteArray):wI (aa s 2)=eZ s:=by
 have:=d5 s 2
 rw [show ((2:Nat):Int)=2 from rfl] at this
 unfold eZ
 rw [az (by omega)]
theorem qaO (s:ByteArray):BQ s=oV (ir s):=by
 unfold BQ
 rcases wh s with ⟨h1,h2⟩|⟨h1,h2,h3⟩|⟨h1,h2,h3,h4⟩|⟨h1,h2,h3,h4⟩
 ·rw [pG h1 (by decide),h2];rfl
 ·rw [pG h1 (by decide),h2]
  unfold fm at h3
  by_cases h5:(s.size:Int)<4
  ·rw [decide_eq_true h5];rfl
  ·rw [decide_eq_false h5,decide_eq_true (show 3<(s.size:Int) by omega)]
   rw [decide_eq_false h5,Bool.false_or] at h3
   rw [h3];rfl
 all_goals
  obtain ⟨g1,g2,g3⟩:=wO h3
  have hr:=sL s
  have he:=qbr h2 h3
  have hx:(s.extract 4 (bd s - 2).toNat).size<=281474976710656:=by rw [ByteArray.size_extract];omega
  have hy:(s.extract 2 (bd s - 2).toNat).size<=9223372036854775807:=by rw [ByteArray.size_extract];omega
  rw [Tu,show Int.toNat 2=2 from rfl,show Int.toNat 4=4 from rfl,he,h4,Nz,nl hy,Nat.ble_eq_true_of_le hx,h2,decide_eq_false (show ¬ (s.size:Int)<4 by omega),decide_eq_true (show 3<(s.size:Int) by omega),decide_eq_false (show ¬ (s.size:Int)<bd s by omega),
   decide_eq_true (show (2:Int)<=bd s - 2 by omega),decide_eq_true (show bd s - 2<=(s.size:Int) by omega),decide_eq_true (show 0<=bd s - 2 by omega),decide_eq_true (show bd s - 2<=bd s by omega),decide_eq_true (show bd s<=(s.size:Int) by omega),decide_eq_true (show 2<(s.size:Int) by omega),decide_eq_true (show (4:Int)<=bd s - 2 by omega)]
 ·rw [LZ h1];rfl
 ·rw [pG h1 (by decide)];rfl
def wN (s:ByteArray):Int:=wI (6+wI (aa s 3))
def wP (s:ByteArray):Int:=wI (wN s - 2)
def tT (s:ByteArray):Option (SV×Mem) :=
 bif decide ((s.size:Int)<4) then ja 5 else bif decide ((0:Int)<=3)&&decide (3<(s.size:Int)) then (bif decide ((s.size:Int)<wN s) then ja 5 else
  bif decide ((0:Int)<=3)&&decide (3<(s.size:Int)) then (bif decide ((0:Int)<=2)&&decide (2<(s.size:Int)) then (bif decide ((0:Int)<=4)&&(decide (4<=wP s)&&decide (wP s<=(s.size:Int))) then
   (bif decide ((0:Int)<=0)&&(decide (0<=wN s)&&decide (wN s<=(s.size:Int))) then
    (bif !((printB (wI (aa s 2)) (s.extract (Int.toNat 4) (wP s).toNat)).toList==(s.extract (Int.toNat 0) (wN s).toNat).toList) then ja 4 else
     oV (.tuple #[.agg #[I (wI (aa s 2)),S (s.extract (Int.toNat 4) (wP s).toNat)],I (wN s),I 0])) else none) else none) else none) else none) else none
def tX (s:ByteArray):Option (SV×Mem) :=
 bif decide ((s.size:Int)>3) then (bif decide ((0:Int)<=3)&&decide (3<(s.size:Int)) then (bif decide (aa s 3>64) then ja 3 else tT s) else none) else tT s
def tY (s:ByteArray):Option (SV×Mem) :=
 bif decide ((s.size:Int)>1) then (bif decide ((0:Int)<=1)&&decide (1<(s.size:Int)) then (bif aa s 1 != 90 then ja 3 else tX s) else none) else tX s
def tZ (s:ByteArray):Option (SV×Mem) :=
 bif decide ((s.size:Int)>0) then (bif decide ((0:Int)<=0)&&decide (0<(s.size:Int)) then (bif aa s 0 != 165 then ja 3 else tY s) else none) else tY s
theorem Kl (s:ByteArray):wN s=bd s:=by
 have:=d5 s 3
 rw [show ((3:Nat):Int)=3 from rfl] at this
 unfold wN bd
 rw [az (n:=aa s 3) (by omega),az (by omega)]
theorem KF {s:ByteArray} (h2:cW s=false):tT s=oV (ir s):=by
 have hr:=sL s
 have hw:wP s=bd s - 2:=by unfold wP;rw [Kl,az (by omega)]
 unfold tT
 rw [Kl,hw,Nz,show Int.toNat 4=4 from rfl,show Int.toNat 0=0 from rfl]
 rcases wh s with ⟨h1,h2'⟩|⟨h1,_,h3⟩|⟨h1,_,h3,h4⟩|⟨h1,_,h3,h4⟩
 ·rw [h2] at h2';cases h2'
 ·rw [pG h1 (by decide)]
  unfold fm at h3
  by_cases h5:(s.size:Int)<4
  ·rw [decide_eq_true h5];rfl
  ·rw [decide_eq_false h5,decide_eq_true (show 3<(s.size:Int) by omega)]
   rw [decide_eq_false h5,Bool.false_or] at h3
   rw [h3];rfl
 all_goals
  obtain ⟨g1,g2,g3⟩:=wO h3
  have hg:=qd0 h2 h3
  have he:((printB (eZ s) (s.extract 4 (bd s - 2).toNat)).toList==(s.extract 0 (bd s).toNat).toList)=okB s:=by
   rw [mN]
   unfold printB okB
   have:eh (eZ s) (s.extract 4 (bd s - 2).toNat)=true:=hg
   rw [this]
   rfl
  rw [he,h4,decide_eq_false (show ¬ (s.size:Int)<4 by omega),decide_eq_true (show 3<(s.size:Int) by omega),decide_eq_false (show ¬ (s.size:Int)<bd s by omega),
   decide_eq_true (show (2:Int)<(s.size:Int) by omega),decide_eq_true (show (4:Int)<=bd s - 2 by omega),decide_eq_true (show bd s - 2<=(s.size:Int) by omega),decide_eq_true (show 0<=bd s by omega),decide_eq_true (show bd s<=(s.size:Int) by omega)]
 ·rw [LZ h1];rfl
 ·rw [pG h1 (by decide)];rfl
theorem Ue (s:ByteArray):tZ s=oV (ir s):=by
 have hb:∀ {x:Bool},cW s=x->x=true->ja 3=oV (ir s):=by
  rintro x h rfl
  have:aX s=3:=by unfold aX;rw [h];rfl
  rw [pG this (by decide)]
  rfl
 have hX:(decide ((s.size:Int)>0)&&aa s 0 != 165)=false->(decide ((s.size:Int)>1)&&aa s 1 != 90)=false->tX s=oV (ir s):=by
  intro e0 e1
  have e2:cW s=(decide ((s.size:Int)>3)&&decide (aa s 3>64)):=by unfold cW;rw [e0,e1];rfl
  unfold tX
  by_cases h3:(s.size:Int)>3
  ·rw [decide_eq_true h3] at e2 ⊢
   by_cases h64:aa s 3>64
   ·rw [decide_eq_true h64] at e2 ⊢
    exact hb e2 rfl
   ·rw [decide_eq_false h64] at e2 ⊢
    exact KF e2
  ·rw [decide_eq_false h3] at e2 ⊢
   exact KF e2
 have hY:(decide ((s.size:Int)>0)&&aa s 0 != 165)=false->tY s=oV (ir s):=by
  intro e0
  unfold tY
  by_cases h1:(s.size:Int)>1
  ·have e3:decide ((s.size:Int)>1)=true:=decide_eq_true h1
   rw [e3]
   cases h:aa s 1 != 90 with
   | true=>exact hb (x:=cW s) rfl (by unfold cW;rw [e0,e3,h];rfl)
   | false=>exact hX e0 (by rw [e3,h];rfl)
  ·have e3:decide ((s.size:Int)>1)=false:=decide_eq_false h1
   rw [e3]
   exact hX e0 (by rw [e3];rfl)
 unfold tZ
 by_cases h1:(s.size:Int)>0
 ·have e3:decide ((s.size:Int)>0)=true:=decide_eq_true h1
  rw [e3]
  cases h:aa s 0 != 165 with
  | true=>exact hb (x:=cW s) rfl (by unfold cW;rw [e3,h];rfl)
  | false=>exact hY (by rw [e3,h];rfl)
 ·have e3:decide ((s.size:Int)>0)=false:=decide_eq_false h1
  rw [e3]
  exact hY (by rw [e3];rfl)
end Go.Proofs.YtainfdcfkgemhaaGreat
namespace Go.Proofs.YtainfdcfkgemhaaGreat
open Go Go.Proofs Go.Sx
set_option linter.unusedVariables false
theorem Xp (s:ByteArray):runG ΓGa L0 prog f209 [.v (S s)] M0=BQ s:=by kernel_rfl
def gRead (vs:List Value):Option (Bool×Value) :=
 match vs with
 | [.string s]=>some (true,ir s)
 | _=>none
theorem qff:am 209 gRead:=by
 intro vs r h
 unfold gRead at h
 split at h
 ·rename_i s
  obtain ⟨h1,rfl⟩:=ab h
  refine ak (vs:=[S s]) (Λ:=L0) (m':=M0) Sa func209 rfl (fun z _ _=>bg (by kernel_rfl) z) ?_
  exact (Xp s).trans (qaO s)
 ·cases h
def ΓH1:Orc:=ah 209 gRead ΓGa
theorem R9:ΓH1.Ok prog:=af Sa qff
theorem Xx (s:ByteArray):runG ΓH1 L0 prog f64 [.v (S s)] M0=tZ s:=by kernel_rfl
def xO (vs:List Value):Option (Bool×Value) :=
 match vs with
 | [.string s]=>some (true,ir s)
 | _=>none
theorem Ob:am 64 xO:=by
 intro vs r h
 unfold xO at h
 split at h
 ·rename_i s
  obtain ⟨h1,rfl⟩:=ab h
  refine ak (vs:=[S s]) (Λ:=L0) (m':=M0) R9 func64 rfl (fun z _ _=>bg (by kernel_rfl) z) ?_
  exact (Xx s).trans (Ue s)
 ·cases h
def ΓH2:Orc:=ah 64 xO ΓH1
theorem qk9:ΓH2.Ok prog:=af R9 Ob
def ΓHa:Orc:=ΓH2
theorem qk8:ΓHa.Ok prog:=qk9
end Go.Proofs.YtainfdcfkgemhaaGreat
namespace Go.Proofs.YtainfdcfkgemhaaGreat
open Go Go.Proofs Go.Sx
set_option linter.unusedVariables false
def MS (w:ByteArray) (a b:Int):Mem:=⟨[[.v (S w),.ptr 1 0],[.v (I a),.v (I b)]],[true,true],[]⟩
abbrev MU:Value:=.pointer none
def ΓJ1:Orc:=ΓHa
theorem OkJ1:ΓJ1.Ok prog:=qk8
def ΓJ2:Orc:=ΓJ1
theorem OkJ2:ΓJ2.Ok prog:=OkJ1
theorem Zy (r:ByteArray) (n:Int) (w:ByteArray) (a b:Int):runG ΓJ2 L0 prog f210 [.ptr 0 0,.v (S r),.v (I n)] (MS w a b)=bif decide (0<=n)&&(decide (n<=(r.size:Int))&&decide ((r.size:Int)<=(r.size:Int))) then some (.v (S (r.extract n.toNat r.size)),MS w a (au a b n)) else none:=by kernel_rfl
def F9 (xs:List SV) (m:Mem):Option (Bool×SV×Mem) :=
 match xs,m with
 | [.ptr 0 0,.v (.string r),.v (.int .i64 n)],⟨[[.v (.string w),.ptr 1 0],[.v (.int .i64 a),.v (.int .i64 b)]],[true,true],[]⟩=>some (decide (0<=n)&&(decide (n<=(r.size:Int))&&decide ((r.size:Int)<=(r.size:Int))),.v (S (r.extract n.toNat r.size)),MS w a (au a b n))
 | _,_=>none
theorem qgR:aQ 210 F9:=by
 intro xs m r m' h
 unfold F9 at h
 split at h
 ·rename_i r n w a b
  obtain ⟨h1,rfl,rfl⟩:=aw h
  refine aj (Λ:=L0) OkJ2 func210 rfl (fun z _ _=>bg (by kernel_rfl) z) ?_
  exact (Zy r n w a b).trans (by rw [h1];rfl)
 ·cases h
def ΓJ3:Orc:=aC 210 F9 ΓJ2
theorem R8:ΓJ3.Ok prog:=aA OkJ2 qgR
theorem Yj:runG ΓJ3 L0 prog f192 [] M0=some (.ptr 0 0,MS ⟨#[]⟩ 1000000 0):=by kernel_rfl
def xV (xs:List SV) (m:Mem):Option (Bool×SV×Mem) :=
 match xs,m with
 | [],⟨[],[],[]⟩=>some (true,.ptr 0 0,MS ⟨#[]⟩ 1000000 0)
 | _,_=>none
theorem Ol:aQ 192 xV:=by
 intro xs m r m' h
 unfold xV at h
 split at h
 ·obtain ⟨h1,rfl,rfl⟩:=aw h
  refine aj (Λ:=L0) R8 func192 rfl (fun z _ _=>bg (by kernel_rfl) z) ?_
  exact (Yj ).trans (rfl)
 ·cases h
def ΓJ4:Orc:=aC 192 xV ΓJ3
theorem qk6:ΓJ4.Ok prog:=aA R8 Ol
def ΓJa:Orc:=ΓJ4
theorem zR:ΓJa.Ok prog:=qk6
end Go.Proofs.YtainfdcfkgemhaaGreat
namespace Go.Proofs.YtainfdcfkgemhaaGreat
open Go Go.Proofs Go.Sx
set_option linter.unusedVariables false
def ksF:List CK:=[.num .i64,.str]
def lc (t:TypeId) (Q:List (List Dat)):RowS:=.live ⟨t,ksF,Q,true,false⟩
def MF (t:TypeId) (w:ByteArray) (a v:Int) (Q:List (List Dat)):Mem:=⟨[[.v (S w),.ptr 1 0],[.v (I a),.v (I v)]],[true,true],[lc t Q]⟩
def fr (s:ByteArray):List Dat:=[.n (eV s),.s (aN s)]
def pE (Q:List (List Dat)) (b:Nat):Bool:=decide ((Q.length+1)*b<=140737488355328/\Q.length+1<=9223372036854775807)
def mh:List Bool:=aB 53 [0,5,6]
def mJ:Code:=ch (f139.body.getD .skip) 0
theorem qcy:aF (f139.body.getD .skip)=[mJ]:=by kernel_rfl
theorem qcx:aF mJ=[]:=by kernel_rfl
def Ac (e:Ex) (st:St):Option (Ex×St):=some (e,ac 2 0 mh st)
def mY (w:ByteArray) (a v:Int) (Q:List (List Dat)) (r:ByteArray):St:=mk mh [.ptr 0 0,.row 0,.v (S r)] (MF 284 w a v Q)
theorem UN (k:Nat) (w:ByteArray) (a v:Int) (Q:List (List Dat)) (r:ByteArray):an ΓJa prog L0 (ac 2 0 mh) mJ (k+1) (mY w a v Q r) Ac =
 bif !(r.toList==(⟨#[]⟩:ByteArray).toList) then (bif aX r==5 then some (.exit 0,mY w a v Q r) else bif aX r==0 then
  (bif pE Q 24 then (bif decide (0<=bI r)&&(decide (bI r<=(r.size:Int))&&decide ((r.size:Int)<=(r.size:Int))) then an ΓJa prog L0 (ac 2 0 mh) mJ k (mY w a v (Q++[fr r]) (r.extract (bI r).toNat r.size)) Ac else none) else none) else
  (bif decide ((0:Int)<=1)&&(decide (1<=(r.size:Int))&&decide ((r.size:Int)<=(r.size:Int))) then an ΓJa prog L0 (ac 2 0 mh) mJ k (mY w a (au a v 1) Q (r.extract (Int.toNat 1) r.size)) Ac else none))
 else some (.exit 0,mY w a v Q r):=by kernel_rfl
def jR:Nat->ByteArray->List (List Dat)×ByteArray×Nat
 | 0,s=>([],s,0)
 | n+1,s=>if aX s=5 then ([],s,0) else if aX s=0 then (fr s::(jR n (s.extract (bI s).toNat s.size)).1,(jR n (s.extract (bI s).toNat s.size)).2) else
  ((jR n (s.extract 1 s.size)).1,(jR n (s.extract 1 s.size)).2.1,(jR n (s.extract 1 s.size)).2.2+1)
theorem gF {s:ByteArray} {n:Nat} (h:n<=s.size):(s.extract n s.size).size=s.size - n:=by
 rw [ByteArray.size_extract];omega
theorem vC:∀ (n m:Nat) (s:ByteArray),s.size<n->s.size<m->jR n s=jR m s
 | 0,_,_,h,_=>by omega
 | _+1,0,_,_,h=>by omega
 | n+1,m+1,s,h1,h2=>by
  unfold jR
  by_cases h5:aX s=5
  ·rw [if_pos h5,if_pos h5]
  rw [if_neg h5,if_neg h5]
  by_cases h0:aX s=0
  ·obtain ⟨g1,g2,_⟩:=lY h0
   rw [if_pos h0,if_pos h0,vC n m _ (by rw [gF g1];omega) (by rw [gF g1];omega)]
  ·have:=pF h5
   rw [if_neg h0,if_neg h0,vC n m _ (by rw [gF (by omega)];omega) (by rw [gF (by omega)];omega)]
def jQ (s:ByteArray):List (List Dat)×ByteArray×Nat:=jR (s.size+1) s
theorem Br (s:ByteArray):jQ s=if aX s=5 then ([],s,0) else if aX s=0 then (fr s::(jQ (s.extract (bI s).toNat s.size)).1,(jQ (s.extract (bI s).toNat s.size)).2) else
  ((jQ (s.extract 1 s.size)).1,(jQ (s.extract 1 s.size)).2.1,(jQ (s.extract 1 s.size)).2.2+1):=by
 unfold jQ
 rw [jR]
 by_cases h5:aX s=5
 ·rw [if_pos h5,if_pos h5]
 rw [if_neg h5,if_neg h5]
 by_cases h0:aX s=0
 ·obtain ⟨g1,g2,_⟩:=lY h0
  rw [if_pos h0,if_pos h0,vC s.size ((s.extract (bI s).toNat s.size).size+1) _ (by rw [gF g1];omega) (by omega)]
 ·have:=pF h5
  rw [if_neg h0,if_neg h0,vC s.size ((s.extract 1 s.size).size+1) _ (by rw [gF (by omega)];omega) (by omega)]
def dB (s:ByteArray):List (List Dat):=(jQ s).1
def sR (s:ByteArray):ByteArray:=(jQ s).2.1
def sD (s:ByteArray):Nat:=(jQ s).2.2
theorem pB {s:ByteArray} (h:aX s=5):dB s=[]/\sR s=s/\sD s=0:=by
 unfold dB sR sD
 rw [Br,if_pos h]
 exact ⟨rfl,rfl,rfl⟩
theorem pC {s:ByteArray} (h:aX s=0):dB s=fr s::dB (s.extract (bI s).toNat s.size)/\sR s=sR (s.extract (bI s).toNat s.size)/\sD s=sD (s.extract (bI s).toNat s.size):=by
 unfold dB sR sD
 rw [Br,if_neg (by omega),if_pos h]
 exact ⟨rfl,rfl,rfl⟩
theorem sc {s:ByteArray} (h5:aX s≠5) (h:aX s≠0):dB s=dB (s.extract 1 s.size)/\sR s=sR (s.extract 1 s.size)/\sD s=sD (s.extract 1 s.size)+1:=by
 unfold dB sR sD
 rw [Br,if_neg h5,if_neg h]
 exact ⟨rfl,rfl,rfl⟩
theorem r9 {Q:ByteArray->Prop} (h5:∀ s,aX s=5->Q s) (h0:∀ s,aX s=0->Q (s.extract (bI s).toNat s.size)->Q s) (h1:∀ s,aX s≠5->aX s≠0->Q (s.extract 1 s.size)->Q s):∀ s,Q s:=by
 have:∀ (n:Nat) (s:ByteArray),s.size<n->Q s:=by
  intro n
  induction n with
  | zero=>intro s h;omega
  | succ n ih =>
   intro s h
   by_cases e5:aX s=5
   ·exact h5 s e5
   by_cases e0:aX s=0
   ·obtain ⟨g1,g2,_⟩:=lY e0
    exact h0 s e0 (ih _ (by rw [gF g1];omega))
   ·have:=pF e5
    exact h1 s e5 e0 (ih _ (by rw [gF (by omega)];omega))
 exact fun s=>this (s.size+1) s (by omega)
theorem Vp:∀ s,aX (sR s)=5:=by
 refine r9 (fun s h=>?_) (fun s h ih=>?_) (fun s h h' ih=>?_)
 ·rw [(pB h).2.1];exact h
 ·rw [(pC h).2.1];exact ih
 ·rw [(sc h h').2.1];exact ih
theorem Lq (s:ByteArray):(sR s).size<70:=qaL (Vp s)
theorem Bs:∀ s,(dB s).length<=s.size:=by
 refine r9 (fun s h=>?_) (fun s h ih=>?_) (fun s h h' ih=>?_)
 ·rw [(pB h).1];exact Nat.zero_le _
 ·rw [(pC h).1,List.length_cons]
  obtain ⟨g1,g2,_⟩:=lY h
  have:=gF g1
  omega
 ·rw [(sc h h').1]
  have:=gF (s:=s) (n:=1) (pF h)
  omega
def sat (v d:Nat):Nat:=min (v+d) 1000000
theorem Qm {v n:Nat} (h:v<=1000000):au 1000000 (v:Int) (n:Int)=((sat v n:Nat):Int):=by
 have e:aR (n:Int) (1000000 - (v:Int))=((min n (1000000 - v):Nat):Int):=by
  unfold aR
  repeat' split
  all_goals omega
 unfold au sat
 rw [az (n:=1000000 - (v:Int)) (by omega),e,az (by omega)]
 omega
theorem vD (v d:Nat):sat v d<=1000000:=Nat.min_le_right _ _
theorem Vd (v d e:Nat):sat (sat v d) e=sat v (d+e):=by unfold sat;omega
theorem Lo {v:Nat} (h:v<=1000000):sat v 0=v:=by unfold sat;omega
theorem LM {Q:List (List Dat)} {b:Nat} (h:Q.length<1099511627776) (hb:b<=100):pE Q b=true:=by
 unfold pE
 have:(Q.length+1)*b<=1099511627776*100:=Nat.mul_le_mul (by omega) hb
 exact decide_eq_true (by omega)
theorem P6 (r:ByteArray):(!(r.toList==(⟨#[]⟩:ByteArray).toList))=decide (0<r.size):=by
 rw [mN]
 by_cases h:r=⟨#[]⟩
 ·subst h;rfl
 ·have h0:0<r.size:=by
   apply Classical.byContradiction
   intro hn
   refine h (gM.1 ?_)
   have:(L r).length=0:=by rw [eG];omega
   exact List.eq_nil_of_length_eq_zero this
  rw [decide_eq_true h0,Bool.eq_false_iff.2 (fun hc=>h ((ic _ _).1 hc))]
  rfl
theorem qhJ {α:Type} (E:Nat->Int->List (List Dat)->ByteArray->Option α) (F:Int->List (List Dat)->ByteArray->α)
  (hE:∀ k v Q r,E (k+1) v Q r=bif !(r.toList==(⟨#[]⟩:ByteArray).toList) then (bif aX r==5 then some (F v Q r) else bif aX r==0 then
   (bif pE Q 24 then (bif decide (0<=bI r)&&(decide (bI r<=(r.size:Int))&&decide ((r.size:Int)<=(r.size:Int))) then E k v (Q++[fr r]) (r.extract (bI r).toNat r.size) else none) else none) else
   (bif decide ((0:Int)<=1)&&(decide (1<=(r.size:Int))&&decide ((r.size:Int)<=(r.size:Int))) then E k (au 1000000 v 1) Q (r.extract (Int.toNat 1) r.size) else none)) else some (F v Q r)) :
  ∀ (r:ByteArray) (k v:Nat) (Q:List (List Dat)),r.size<k->v<=1000000->Q.length+r.size<1099511627776->E k (v:Int) Q r=some (F ((sat v (sD r):Nat):Int) (Q++dB r) (sR r)):=by
 refine r9 (fun s h k v Q hk hv hq=>?_) (fun s h ih k v Q hk hv hq=>?_) (fun s h h' ih k v Q hk hv hq=>?_)
 ·obtain ⟨e1,e2,e3⟩:=pB h
  cases k with
  | zero=>omega
  | succ k =>
   rw [hE,h,e1,e2,e3,Lo hv,List.append_nil]
   cases (!(s.toList==(⟨#[]⟩:ByteArray).toList))<;>rfl
 ·obtain ⟨g1,g2,g3,_⟩:=lY h
  obtain ⟨e1,e2,e3⟩:=pC h
  have hsz:=gF g1
  cases k with
  | zero=>omega
  | succ k =>
   rw [hE,P6,decide_eq_true (show 0<s.size by omega),show (aX s==5)=false from by rw [h];rfl,show (aX s==0)=true from by rw [h];rfl,LM (by omega) (by omega),decide_eq_true (show 0<=bI s by omega),decide_eq_true (show bI s<=(s.size:Int) by omega),decide_eq_true (Int.le_refl (s.size:Int))]
   simp only [cond_true,cond_false,Bool.and_self]
   rw [ih k v (Q++[fr s]) (by omega) hv (by simp only [List.length_append,List.length_cons,List.length_nil];omega),e1,e2,e3,List.append_assoc]
   rfl
 ·have hp:=pF h
  obtain ⟨e1,e2,e3⟩:=sc h h'
  have hsz:=gF (s:=s) (n:=1) hp
  cases k with
  | zero=>omega
  | succ k =>
   rw [hE,P6,decide_eq_true hp,show (aX s==5)=false from beq_eq_false_iff_ne.2 h,show (aX s==0)=false from beq_eq_false_iff_ne.2 h',decide_eq_true (show (1:Int)<=(s.size:Int) by omega),decide_eq_true (Int.le_refl (s.size:Int)),decide_eq_true (show (0:Int)<=1 by omega)]
   simp only [cond_true,cond_false,Bool.and_self]
   rw [show au 1000000 (v:Int) 1=((sat v 1:Nat):Int) from Qm (n:=1) hv,show Int.toNat 1=1 from rfl,ih k (sat v 1) Q (by omega) (vD _ _) (by omega),e1,e2,e3,Vd,Nat.add_comm 1]
end Go.Proofs.YtainfdcfkgemhaaGreat
namespace Go.Proofs.YtainfdcfkgemhaaGreat
open Go Go.Proofs Go.Sx
set_option linter.unusedVariables false
def JT (vals:List SV) (m:Mem):Option (Bool×Ex×St) :=
 match vals,m with
 | [.ptr 0 0,.row 0,.v (.string r)],⟨[[.v (.string w),.ptr 1 0],[.v (.int .i64 a),.v (.int .i64 v)]],[true,true],[.live ⟨284,[.num .i64,.str],Q,true,false⟩]⟩ =>
  some (a==1000000&&(jl 1000001 v&&Nat.ble (Q.length+r.size) 1099511627775),.exit 0,mY w a ((sat v.toNat (sD r):Nat):Int) (Q++dB r) (sR r))
 | _,_=>none
def ΛFeed:aV:=fun _ st=>cJ 2 0 mh JT st
theorem qdj (z:Base) (h1:z.L.length=2) (h2:z.U.length=0):aS ΛFeed prog z mJ:=by
 refine du (Λ:=L0) (kx:=fun _=>mh) zR mixed h1 h2 (fun b hb=>by rw [qcx] at hb;cases hb) (G:=JT) (fun _=>rfl) ?_
 intro vals m e st' h
 unfold JT at h
 split at h
 ·rename_i r w a v Q
  obtain ⟨hg,rfl,rfl⟩:=aw h
  simp only [Bool.and_eq_true,beq_iff_eq] at hg
  obtain ⟨rfl,hv,hq⟩:=hg
  obtain ⟨n,rfl,hn⟩:=tj hv
  have hq:=Nat.le_of_ble_eq_true hq
  exact ⟨r.size+1,qhJ (fun k v Q r=>an ΓJa prog L0 (ac 2 0 mh) mJ k (mY w 1000000 v Q r) Ac) (fun v Q r=>(.exit 0,mY w 1000000 v Q r)) (fun k v Q r=>UN k w 1000000 v Q r) r (r.size+1) n Q (by omega) (by omega) (by omega)⟩
 ·cases h
def jZ (w s:ByteArray) (a v:Int):Bool:=a==1000000&&(jl 1000001 v&&Nat.ble (w.size+s.size) 1099511627775)
theorem Za (w s:ByteArray) (a v:Int):runG ΓJa ΛFeed prog f139 [.ptr 0 0,.v (S s)] (MS w a v) =
 bif Nat.ble (w.size+s.size) 9223372036854775807 then (bif a==1000000&&(jl 1000001 v&&Nat.ble (([]:List (List Dat)).length+(w++s).size) 1099511627775) then
  (bif decide (0<=(if wI (((sR (w++s)).size:Int) - 1024)>0 then wI (((sR (w++s)).size:Int) - 1024) else 0))&&(decide ((if wI (((sR (w++s)).size:Int) - 1024)>0 then wI (((sR (w++s)).size:Int) - 1024) else 0)<=((sR (w++s)).size:Int))&&decide (((sR (w++s)).size:Int)<=((sR (w++s)).size:Int))) then
   (bif Nat.ble ((sR (w++s)).extract (if wI (((sR (w++s)).size:Int) - 1024)>0 then wI (((sR (w++s)).size:Int) - 1024) else 0).toNat (sR (w++s)).size).size 281474976710656 then
    some (.row 0,MF 284 ((sR (w++s)).extract (if wI (((sR (w++s)).size:Int) - 1024)>0 then wI (((sR (w++s)).size:Int) - 1024) else 0).toNat (sR (w++s)).size) a (au a ((sat v.toNat (sD (w++s)):Nat):Int) (if wI (((sR (w++s)).size:Int) - 1024)>0 then wI (((sR (w++s)).size:Int) - 1024) else 0)) ([]++dB (w++s))) else none) else none) else none) else none:=by kernel_rfl
theorem qhI {w s:ByteArray} {v:Int} (hv:jl 1000001 v=true) (hs:Nat.ble (w.size+s.size) 1099511627775=true):runG ΓJa ΛFeed prog f139 [.ptr 0 0,.v (S s)] (MS w 1000000 v) =
  some (.row 0,MF 284 (sR (w++s)) 1000000 ((sat v.toNat (sD (w++s)):Nat):Int) (dB (w++s))):=by
 refine (Za w s 1000000 v).trans ?_
 have hs':=Nat.le_of_ble_eq_true hs
 have hsz:(w++s).size=w.size+s.size:=ByteArray.size_append
 have hR:=Lq (w++s)
 have e0:(if wI (((sR (w++s)).size:Int) - 1024)>0 then wI (((sR (w++s)).size:Int) - 1024) else 0)=0:=by
  rw [az (by omega),if_neg (by omega)]
 obtain ⟨n,rfl,hn⟩:=tj hv
 rw [e0,hsz,show ([]:List (List Dat)).length+(w.size+s.size)=w.size+s.size from Nat.zero_add _,hs,hv,Nat.ble_eq_true_of_le (show w.size+s.size<=9223372036854775807 by omega),show ((0:Int)).toNat=0 from rfl,yG,
  Nat.ble_eq_true_of_le (show (sR (w++s)).size<=281474976710656 by omega),decide_eq_true (show (0:Int)<=((sR (w++s)).size:Int) by omega),decide_eq_true (Int.le_refl ((sR (w++s)).size:Int)),show au 1000000 ((sat ((n:Int)).toNat (sD (w++s)):Nat):Int) 0=((sat ((n:Int)).toNat (sD (w++s)):Nat):Int) from (Qm (n:=0) (vD _ _)).trans (by rw [Lo (vD _ _)])]
 rfl
def yd (xs:List SV) (m:Mem):Option (Bool×SV×Mem) :=
 match xs,m with
 | [.ptr 0 0,.v (.string s)],⟨[[.v (.string w),.ptr 1 0],[.v (.int .i64 a),.v (.int .i64 v)]],[true,true],[]⟩=>some (jZ w s a v,.row 0,MF 284 (sR (w++s)) 1000000 ((sat v.toNat (sD (w++s)):Nat):Int) (dB (w++s)))
 | [.v (.pointer none),.v (.string s)],⟨[],[],[]⟩=>some (true,.row 0,⟨[],[],[lc 284 []]⟩)
 | _,_=>none
theorem Us (z:Base):aS ΛFeed prog z mJ->∀ b∈aF (f139.body.getD .skip),aS ΛFeed prog z b:=fun h=>bR qcy h
theorem Y9 (s:ByteArray):runG ΓJa L0 prog f139 [.v MU,.v (S s)] M0=some (.row 0,⟨[],[],[lc 284 []]⟩):=by kernel_rfl
theorem qbF (s:ByteArray):bB prog 139 [.v MU,.v (S s)] M0 (.row 0) ⟨[],[],[lc 284 []]⟩ :=
 aj (c:=f139.body.getD .skip) (Λ:=L0) zR func139 rfl (fun z h1 h2 b hb st t h=>by cases h) (Y9 s)
theorem yc:aQ 139 yd:=by
 intro xs m r m' h
 unfold yd at h
 split at h
 ·rename_i s w a v
  obtain ⟨hg,rfl,rfl⟩:=aw h
  unfold jZ at hg
  simp only [Bool.and_eq_true,beq_iff_eq] at hg
  obtain ⟨rfl,hv,hs⟩:=hg
  refine aj (c:=f139.body.getD .skip) (Λ:=ΛFeed) zR func139 rfl (fun z h1 h2=>Us z (qdj z h1 h2)) (qhI hv hs)
 ·rename_i s
  obtain ⟨_,rfl,rfl⟩:=aw h
  exact qbF s
 ·cases h
def ΓM1:Orc:=aC 139 yd ΓJa
theorem IB:ΓM1.Ok prog:=aA zR yc
def mg:List Bool:=aB 37 [0,5,6]
def oA:Code:=ch (f62.body.getD .skip) 0
theorem qb7:aF (f62.body.getD .skip)=[oA]:=by kernel_rfl
theorem qb6:aF oA=[]:=by kernel_rfl
def Aa (e:Ex) (st:St):Option (Ex×St):=some (e,ac 0 0 mg st)
def mX (d:Int) (Q:List (List Dat)) (r:ByteArray):St:=mk mg [.v (S r),.row 0,.v (I d)] ⟨[],[],[lc 151 Q]⟩
theorem UB (k:Nat) (d:Int) (Q:List (List Dat)) (r:ByteArray):an ΓM1 prog L0 (ac 0 0 mg) oA (k+1) (mX d Q r) Aa =
 bif decide ((r.size:Int)>0) then (bif aX r==5 then some (.exit 0,mX d Q r) else bif aX r==0 then
  (bif pE Q 24 then (bif decide (0<=bI r)&&(decide (bI r<=(r.size:Int))&&decide ((r.size:Int)<=(r.size:Int))) then an ΓM1 prog L0 (ac 0 0 mg) oA k (mX d (Q++[fr r]) (r.extract (bI r).toNat r.size)) Aa else none) else none) else
  (bif decide ((0:Int)<=1)&&(decide (1<=(r.size:Int))&&decide ((r.size:Int)<=(r.size:Int))) then an ΓM1 prog L0 (ac 0 0 mg) oA k (mX (wI (d+1)) Q (r.extract (Int.toNat 1) r.size)) Aa else none))
 else some (.exit 0,mX d Q r):=by kernel_rfl
theorem Vc {α:Type} (E:Nat->Int->List (List Dat)->ByteArray->Option α) (F:Int->List (List Dat)->ByteArray->α)
  (hE:∀ k v Q r,E (k+1) v Q r=bif decide ((r.size:Int)>0) then (bif aX r==5 then some (F v Q r) else bif aX r==0 then
   (bif pE Q 24 then (bif decide (0<=bI r)&&(decide (bI r<=(r.size:Int))&&decide ((r.size:Int)<=(r.size:Int))) then E k v (Q++[fr r]) (r.extract (bI r).toNat r.size) else none) else none) else
   (bif decide ((0:Int)<=1)&&(decide (1<=(r.size:Int))&&decide ((r.size:Int)<=(r.size:Int))) then E k (wI (v+1)) Q (r.extract (Int.toNat 1) r.size) else none)) else some (F v Q r)) :
  ∀ (r:ByteArray) (k v:Nat) (Q:List (List Dat)),r.size<k->v+r.size<1099511627776->Q.length+r.size<1099511627776->E k (v:Int) Q r=some (F ((v+sD r:Nat):Int) (Q++dB r) (sR r)):=by
 refine r9 (fun s h k v Q hk hv hq=>?_) (fun s h ih k v Q hk hv hq=>?_) (fun s h h' ih k v Q hk hv hq=>?_)
 ·obtain ⟨e1,e2,e3⟩:=pB h
  cases k with
  | zero=>omega
  | succ k =>
   rw [hE,h,e1,e2,e3,Nat.add_zero,List.append_nil]
   cases decide ((s.size:Int)>0)<;>rfl
 ·obtain ⟨g1,g2,g3,_⟩:=lY h
  obtain ⟨e1,e2,e3⟩:=pC h
  have hsz:=gF g1
  cases k with
  | zero=>omega
  | succ k =>
   rw [hE,decide_eq_true (show (s.size:Int)>0 by omega),show (aX s==5)=false from by rw [h];rfl,show (aX s==0)=true from by rw [h];rfl,LM (by omega) (by omega),decide_eq_true (show 0<=bI s by omega),decide_eq_true (show bI s<=(s.size:Int) by omega),decide_eq_true (Int.le_refl (s.size:Int))]
   simp only [cond_true,cond_false,Bool.and_self]
   rw [ih k v (Q++[fr s]) (by omega) (by omega) (by simp only [List.length_append,List.length_cons,List.length_nil];omega),e1,e2,e3,List.append_assoc]
   rfl
 ·have hp:=pF h
  obtain ⟨e1,e2,e3⟩:=sc h h'
  have hsz:=gF (s:=s) (n:=1) hp
  cases k with
  | zero=>omega
  | succ k =>
   rw [hE,decide_eq_true (show (s.size:Int)>0 by omega),show (aX s==5)=false from beq_eq_false_iff_ne.2 h,show (aX s==0)=false from beq_eq_false_iff_ne.2 h',decide_eq_true (show (1:Int)<=(s.size:Int) by omega),decide_eq_true (Int.le_refl (s.size:Int)),decide_eq_true (show (0:Int)<=1 by omega)]
   simp only [cond_true,cond_false,Bool.and_self]
   rw [az (by omega),show ((v:Int)+1)=((v+1:Nat):Int) by omega,show Int.toNat 1=1 from rfl,ih k (v+1) Q (by omega) (by omega) (by omega),e1,e2,e3,show v+1+sD (s.extract 1 s.size)=v+(sD (s.extract 1 s.size)+1) by omega]
def Jv (vals:List SV) (m:Mem):Option (Bool×Ex×St) :=
 match vals,m with
 | [.v (.string r),.row 0,.v (.int .i64 d)],⟨[],[],[.live ⟨151,[.num .i64,.str],Q,true,false⟩]⟩ =>
  some (jl 1000001 d&&(Nat.ble r.size 1000000&&Nat.ble Q.length 1000000),.exit 0,mX ((d.toNat+sD r:Nat):Int) (Q++dB r) (sR r))
 | _,_=>none
def ΛScan:aV:=fun _ st=>cJ 0 0 mg Jv st
theorem qcZ (z:Base) (h1:z.L.length=0) (h2:z.U.length=0):aS ΛScan prog z oA:=by
 refine du (Λ:=L0) (kx:=fun _=>mg) IB mixed h1 h2 (fun b hb=>by rw [qb6] at hb;cases hb) (G:=Jv) (fun _=>rfl) ?_
 intro vals m e st' h
 unfold Jv at h
 split at h
 ·rename_i r d Q
  obtain ⟨hg,rfl,rfl⟩:=aw h
  simp only [Bool.and_eq_true] at hg
  obtain ⟨hv,hr,hq⟩:=hg
  obtain ⟨n,rfl,hn⟩:=tj hv
  have hr:=Nat.le_of_ble_eq_true hr
  have hq:=Nat.le_of_ble_eq_true hq
  exact ⟨r.size+1,Vc (fun k v Q r=>an ΓM1 prog L0 (ac 0 0 mg) oA k (mX v Q r) Aa) (fun v Q r=>(.exit 0,mX v Q r)) (fun k v Q r=>UB k v Q r) r (r.size+1) n Q (by omega) (by omega) (by omega)⟩
 ·cases h
theorem WK (s:ByteArray):runG ΓM1 ΛScan prog f62 [.v (S s)] M0 =
 bif jl 1000001 0&&(Nat.ble s.size 1000000&&Nat.ble ([]:List (List Dat)).length 1000000) then some (.tup [.one (.row 0),.one (.v (S (sR s))),.one (.v (I ((Int.toNat 0+sD s:Nat):Int)))],⟨[],[],[lc 151 ([]++dB s)]⟩) else none:=by kernel_rfl
def D4 (xs:List SV) (m:Mem):Option (Bool×SV×Mem) :=
 match xs,m with
 | [.v (.string s)],⟨[],[],[]⟩=>some (Nat.ble s.size 1000000,.tup [.one (.row 0),.one (.v (S (sR s))),.one (.v (I ((sD s:Nat):Int)))],⟨[],[],[lc 151 (dB s)]⟩)
 | _,_=>none
theorem N7:aQ 62 D4:=by
 intro xs m r m' h
 unfold D4 at h
 split at h
 ·rename_i s
  obtain ⟨hg,rfl,rfl⟩:=aw h
  refine aj (c:=f62.body.getD .skip) (Λ:=ΛScan) IB func62 rfl (fun z h1 h2=>bR qb7 (qcZ z h1 h2)) ((WK s).trans ?_)
  rw [hg,show Int.toNat 0+sD s=sD s from Nat.zero_add _]
  rfl
 ·cases h
def ΓM2:Orc:=aC 62 D4 ΓM1
theorem R3:ΓM2.Ok prog:=aA IB N7
end Go.Proofs.YtainfdcfkgemhaaGreat
namespace Go.Proofs.YtainfdcfkgemhaaGreat
open Go Go.Proofs Go.Sx
set_option linter.unusedVariables false
theorem Kr {x:Int} (h0:0<=x) (h1:x<=255):((UInt8.ofNat (IntKind.u8.wrap x).toNat).toNat:Int)=x:=by
 obtain ⟨n,rfl⟩:∃ n:Nat,x=(n:Int):=⟨x.toNat,by omega⟩
 rw [Az,Int.toNat_natCast,UInt8.toNat_ofNat']
 omega
theorem qaX (k:Int) (p:ByteArray):L (cn k p)=165::90::UInt8.ofNat (IntKind.u8.wrap k).toNat::UInt8.ofNat (IntKind.u8.wrap (p.size:Int)).toNat::(L p++L (fZ (cQ k p))):=by
 unfold cn
 rw [de,de]
 have:L (cQ k p)=UInt8.ofNat (IntKind.u8.wrap k).toNat::UInt8.ofNat (IntKind.u8.wrap (p.size:Int)).toNat::L p:=by
  unfold cQ
  rw [de,uH]
  rfl
 rw [this]
 rfl
theorem qaM {k:Int} {p:ByteArray} (h:eh k p=true) (t:ByteArray):aX (cn k p++t)=0/\eV (cn k p++t)=k/\aN (cn k p++t)=p/\bI (cn k p++t)=((cn k p).size:Int):=by
 obtain ⟨hp,hk0,hk1⟩:=v5 h
 have hsz:=Md k p
 have hall:(cn k p++t).size=(cn k p).size+t.size:=ByteArray.size_append
 have hl:=qaX k p
 have at0:aa (cn k p++t) 0=165:=by
  have:=dR (cn k p++t) 0
  rw [de,hl] at this
  exact this
 have at1:aa (cn k p++t) 1=90:=by
  have:=dR (cn k p++t) 1
  rw [de,hl] at this
  exact this
 have at2:aa (cn k p++t) 2=k:=by
  have:=dR (cn k p++t) 2
  rw [de,hl] at this
  exact this.trans (Kr hk0 hk1)
 have at3:aa (cn k p++t) 3=(p.size:Int):=by
  have:=dR (cn k p++t) 3
  rw [de,hl] at this
  exact this.trans (Kr (by omega) (by omega))
 have hn:bd (cn k p++t)=((6+p.size:Nat):Int):=by
  unfold bd
  rw [at3]
  omega
 have hbad:cW (cn k p++t)=false:=by
  unfold cW
  rw [at0,at1,at3]
  simp only [Bool.or_eq_false_iff,Bool.and_eq_false_iff,decide_eq_false_iff_not]
  refine ⟨.inr rfl,.inr rfl,.inr (by omega)⟩
 have hsh:fm (cn k p++t)=false:=by
  unfold fm
  rw [hn]
  simp only [Bool.or_eq_false_iff,decide_eq_false_iff_not]
  omega
 have hpo:eX (cn k p++t)=p:=by
  rw [<- gM]
  have:L (cn k p++t)=165::90::UInt8.ofNat (IntKind.u8.wrap k).toNat::UInt8.ofNat (IntKind.u8.wrap (p.size:Int)).toNat::((L p++L (fZ (cQ k p)))++L t):=by
   rw [de,hl]
   rfl
  rw [B6 (d:=p.size) this hn,List.append_assoc,List.take_append_of_le_length (by rw [eG];omega),List.take_of_length_le (by rw [eG];omega)]
 have hko:eZ (cn k p++t)=k:=at2
 have hok:okB (cn k p++t)=true:=by
  unfold okB
  rw [hko,hpo,hn,OX (by omega),show ((6+p.size:Nat):Int).toNat=(cn k p).size by omega,yG,ic]
 have hE:aX (cn k p++t)=0:=by
  unfold aX
  rw [hbad,hsh,hok]
  rfl
 obtain ⟨_,_,_,g1,g2,g3,_⟩:=lY hE
 exact ⟨hE,g1.trans hko,g2.trans hpo,by rw [g3,hn];omega⟩
theorem qaZ {k:Int} {p:ByteArray} (h:eh k p=true):printB k p=cn k p:=by unfold printB;rw [h];rfl
theorem qaY (k:Int) (p:ByteArray):(printB k p).size<=70:=by
 unfold printB
 cases h:eh k p with
 | false=>exact Nat.zero_le _
 | true =>
  have:=v5 h
  have:=Md k p
  show (cn k p).size<=70
  omega
end Go.Proofs.YtainfdcfkgemhaaGreat
namespace Go.Proofs.YtainfdcfkgemhaaGreat
open Go Go.Proofs Go.Sx
set_option linter.unusedVariables false
def I4 (a b c d e f g q:Int):Mem:=⟨[[.v (I a),.v (I b),.v (I c),.v (I d),.v (I e),.v (I f),.v (I g),.v (I q)]],[true],[]⟩
theorem zj (b X:Bool):(bif b then some (SV.v (Bo false),M0) else some (SV.v (Bo X),M0))=some (SV.v (Bo (!b&&X)),M0):=by cases b<;>rfl
theorem P3 (b X:Bool):(bif b then some (SV.v (Bo X),M0) else some (SV.v (Bo false),M0))=some (SV.v (Bo (b&&X)),M0):=by cases b<;>rfl
def j5 (a b c d e f g q:Int):Bool:=decide (0<=a/\a<=65535/\0<=b/\b<=255/\-2147483648<=c/\c<=2147483647/\-2147483648<=d/\d<=2147483647/\-2147483648<=e/\e<=2147483647/\-2147483648<=f/\f<=2147483647/\-2147483648<=g/\g<=2147483647/\-2147483648<=q/\q<=2147483647)
theorem Yf (a b c d e f g q:Int):runG ΓM2 L0 prog f181 [.ptr 0 0] (I4 a b c d e f g q)=some (.ag [.ptr 0 2,.ptr 0 3,.ptr 0 4,.ptr 0 5,.ptr 0 6,.ptr 0 7],I4 a b c d e f g q):=by kernel_rfl
def E5 (xs:List SV) (m:Mem):Option (Bool×SV×Mem) :=
 match xs,m with
 | [.ptr 0 0],⟨[[.v (.int .i64 a),.v (.int .i64 b),.v (.int .i64 c),.v (.int .i64 d),.v (.int .i64 e),.v (.int .i64 f),.v (.int .i64 g),.v (.int .i64 q)]],[true],[]⟩=>some (true,.ag [.ptr 0 2,.ptr 0 3,.ptr 0 4,.ptr 0 5,.ptr 0 6,.ptr 0 7],I4 a b c d e f g q)
 | _,_=>none
theorem qfQ:aQ 181 E5:=by
 intro xs m r m' h
 unfold E5 at h
 split at h
 ·rename_i a b c d e f g q
  obtain ⟨h1,rfl,rfl⟩:=aw h
  refine aj (Λ:=L0) R3 func181 rfl (fun z _ _=>bX _ z) ?_
  exact (Yf a b c d e f g q).trans (rfl)
 ·cases h
def ΓN1:Orc:=aC 181 E5 ΓM2
theorem OkN1:ΓN1.Ok prog:=aA R3 qfQ
theorem XH (a b c d e f g q:Int):runG ΓN1 L0 prog f267 [.v (.agg #[I a,I b,I c,I d,I e,I f,I g,I q])] M0=some (.row 0,⟨[],[],[.live ⟨2,[.num .i64],[[.n c],[.n d],[.n e],[.n f],[.n g],[.n q]],true,false⟩]⟩):=by kernel_rfl
def EK (xs:List SV) (m:Mem):Option (Bool×SV×Mem) :=
 match xs,m with
 | [.v (.agg ⟨[.int .i64 a,.int .i64 b,.int .i64 c,.int .i64 d,.int .i64 e,.int .i64 f,.int .i64 g,.int .i64 q]⟩)],⟨[],[],[]⟩=>some (true,.row 0,⟨[],[],[.live ⟨2,[.num .i64],[[.n c],[.n d],[.n e],[.n f],[.n g],[.n q]],true,false⟩]⟩)
 | _,_=>none
theorem qfu:aQ 267 EK:=by
 intro xs m r m' h
 unfold EK at h
 split at h
 ·rename_i a b c d e f g q
  obtain ⟨h1,rfl,rfl⟩:=aw h
  refine aj (Λ:=L0) OkN1 func267 rfl (fun z _ _=>bX _ z) ?_
  exact (XH a b c d e f g q).trans (rfl)
 ·cases h
def ΓN2:Orc:=aC 267 EK ΓN1
theorem RZ:ΓN2.Ok prog:=aA OkN1 qfu
theorem Ym (a b c d e f g q:Int):runG ΓN2 L0 prog f180 [.v (.agg #[I a,I b,I c,I d,I e,I f,I g,I q])] M0=bif decide (a<0) then some (.v (Bo false),M0) else (bif decide (a>65535) then some (.v (Bo false),M0) else (bif decide (b<0) then some (.v (Bo false),M0) else (bif decide (b>255) then some (.v (Bo false),M0) else (bif decide (c< -2147483648) then some (.v (Bo false),M0) else (bif decide (c>2147483647) then some (.v (Bo false),M0) else (bif decide (d< -2147483648) then some (.v (Bo false),M0) else (bif decide (d>2147483647) then some (.v (Bo false),M0) else (bif decide (e< -2147483648) then some (.v (Bo false),M0) else (bif decide (e>2147483647) then some (.v (Bo false),M0) else (bif decide (f< -2147483648) then some (.v (Bo false),M0) else (bif decide (f>2147483647) then some (.v (Bo false),M0) else (bif decide (g< -2147483648) then some (.v (Bo false),M0) else (bif decide (g>2147483647) then some (.v (Bo false),M0) else (bif decide (q< -2147483648) then some (.v (Bo false),M0) else (bif decide (q>2147483647) then some (.v (Bo false),M0) else (some (.v (Bo true),M0))))))))))))))))):=by kernel_rfl
def Fc (vs:List Value):Option (Bool×Value) :=
 match vs with
 | [.agg ⟨[.int .i64 a,.int .i64 b,.int .i64 c,.int .i64 d,.int .i64 e,.int .i64 f,.int .i64 g,.int .i64 q]⟩]=>some (true,Bo (j5 a b c d e f g q))
 | _=>none
theorem qfX:am 180 Fc:=by
 intro vs r h
 unfold Fc at h
 split at h
 ·rename_i a b c d e f g q
  obtain ⟨h1,rfl⟩:=ab h
  refine ak (vs:=[.agg #[I a,I b,I c,I d,I e,I f,I g,I q]]) (Λ:=L0) (m':=M0) RZ func180 rfl (fun z _ _=>bX _ z) ?_
  exact (Ym a b c d e f g q).trans (by
   simp only [zj]
   congr 4
   rw [Bool.eq_iff_iff]
   unfold j5
   simp only [Bool.and_true,Bool.and_eq_true,Bool.not_eq_true',decide_eq_false_iff_not,decide_eq_true_eq]
   omega)
 ·cases h
def ΓN3:Orc:=ah 180 Fc ΓN2
theorem RY:ΓN3.Ok prog:=af RZ qfX
theorem XI (a b c d e f g q:Int):runG ΓN3 L0 prog f266 [.v (.agg #[I a,I b,I c,I d,I e,I f,I g,I q])] M0=bif decide (c< -2147483648) then some (.v (Bo false),M0) else (bif decide (c>2147483647) then some (.v (Bo false),M0) else (bif decide (d< -2147483648) then some (.v (Bo false),M0) else (bif decide (d>2147483647) then some (.v (Bo false),M0) else (bif decide (e< -2147483648) then some (.v (Bo false),M0) else (bif decide (e>2147483647) then some (.v (Bo false),M0) else (bif decide (f< -2147483648) then some (.v (Bo false),M0) else (bif decide (f>2147483647) then some (.v (Bo false),M0) else (bif decide (g< -2147483648) then some (.v (Bo false),M0) else (bif decide (g>2147483647) then some (.v (Bo false),M0) else (bif decide (q< -2147483648) then some (.v (Bo false),M0) else (bif decide (q>2147483647) then some (.v (Bo false),M0) else (bif decide (a>=0) then (bif decide (a<=65535) then (bif decide (b>=0) then some (.v (Bo (decide (b<=255))),M0) else some (.v (Bo false),M0)) else some (.v (Bo false),M0)) else some (.v (Bo false),M0))))))))))))):=by kernel_rfl
def EL (vs:List Value):Option (Bool×Value) :=
 match vs with
 | [.agg ⟨[.int .i64 a,.int .i64 b,.int .i64 c,.int .i64 d,.int .i64 e,.int .i64 f,.int .i64 g,.int .i64 q]⟩]=>some (true,Bo (j5 a b c d e f g q))
 | _=>none
theorem qfv:am 266 EL:=by
 intro vs r h
 unfold EL at h
 split at h
 ·rename_i a b c d e f g q
  obtain ⟨h1,rfl⟩:=ab h
  refine ak (vs:=[.agg #[I a,I b,I c,I d,I e,I f,I g,I q]]) (Λ:=L0) (m':=M0) RY func266 rfl (fun z _ _=>bX _ z) ?_
  exact (XI a b c d e f g q).trans (by
   simp only [zj,P3]
   congr 4
   rw [Bool.eq_iff_iff]
   unfold j5
   simp only [Bool.and_eq_true,Bool.not_eq_true',decide_eq_false_iff_not,decide_eq_true_eq]
   omega)
 ·cases h
def ΓN4:Orc:=ah 266 EL ΓN3
theorem RX:ΓN4.Ok prog:=af RY qfv
def jE (x y:Int):Int:=IntKind.u64.wrap (IntKind.u64.wrap (if y>x then y else x) - IntKind.u64.wrap (if y<x then y else x))
theorem qai (x y:Int):runG ΓN4 L0 prog f279 [.v (I x),.v (I y)] M0=some (.v (gj (jE x y)),M0):=by kernel_rfl
def GL (vs:List Value):Option (Bool×Value) :=
 match vs with
 | [.int .i64 x,.int .i64 y]=>some (true,gj (jE x y))
 | _=>none
theorem qhr:am 279 GL:=by
 intro vs r h
 unfold GL at h
 split at h
 ·rename_i x y
  obtain ⟨h1,rfl⟩:=ab h
  refine ak (vs:=[I x,I y]) (Λ:=L0) (m':=M0) RX func279 rfl (fun z _ _=>bX _ z) ?_
  exact (qai x y).trans (rfl)
 ·cases h
def ΓN5:Orc:=ah 279 GL ΓN4
theorem qkR:ΓN5.Ok prog:=af RX qhr
def ΓN6:Orc:=ΓN5
theorem qkQ:ΓN6.Ok prog:=qkR
def ΓN7:Orc:=ΓN6
theorem RW:ΓN7.Ok prog:=qkQ
def kindI (x:Int):Int:=if x=0 then 16 else if x=1 then 17 else -1
theorem YG (x:Int):runG ΓN7 L0 prog f113 [.v (I x)] M0=bif decide (x<0) then some (.v (I (-1)),M0) else (bif decide (x>=2) then some (.v (I (-1)),M0) else some (.v (I (IntKind.i64.wrap (16+x))),M0)):=by kernel_rfl
def Ft (vs:List Value):Option (Bool×Value) :=
 match vs with
 | [.int .i64 x]=>some (true,I (kindI x))
 | _=>none
theorem qgc:am 113 Ft:=by
 intro vs r h
 unfold Ft at h
 split at h
 ·rename_i x
  obtain ⟨h1,rfl⟩:=ab h
  refine ak (vs:=[I x]) (Λ:=L0) (m':=M0) RW func113 rfl (fun z _ _=>bX _ z) ?_
  exact (YG x).trans (by
   unfold kindI
   by_cases h0:x=0
   ·subst h0;rfl
   by_cases h2:x=1
   ·subst h2;rfl
   rw [if_neg h0,if_neg h2]
   by_cases h3:x<0
   ·rw [decide_eq_true h3];rfl
   ·rw [decide_eq_false h3,decide_eq_true (show x>=2 by omega)];rfl)
 ·cases h
def ΓN8:Orc:=ah 113 Ft ΓN7
theorem qkP:ΓN8.Ok prog:=af RW qgc
def ΓN9:Orc:=ΓN8
theorem RV:ΓN9.Ok prog:=qkP
def Cj (a b c d e f g q:Int):ByteArray:=((((((be 2 (a)++be 1 (b))++be 4 (c))++be 4 (d))++be 4 (e))++be 4 (f))++be 4 (g))++be 4 (q)
def printT (a b c d e f g q:Int):ByteArray:=bif j5 a b c d e f g q then Cj a b c d e f g q else ⟨#[]⟩
theorem Yo (a b c d e f g q:Int):runG ΓN9 L0 prog f114 [.v (.agg #[I a,I b,I c,I d,I e,I f,I g,I q])] M0=bif !j5 a b c d e f g q then some (.v (S ⟨#[]⟩),M0) else (bif Nat.ble ((be 2 (IntKind.u64.wrap a)).size+(be 1 (IntKind.u64.wrap b)).size) 9223372036854775807 then (bif Nat.ble ((be 2 (IntKind.u64.wrap a)++be 1 (IntKind.u64.wrap b)).size+(be 4 (IntKind.u64.wrap c)).size) 9223372036854775807 then (bif Nat.ble (((be 2 (IntKind.u64.wrap a)++be 1 (IntKind.u64.wrap b))++be 4 (IntKind.u64.wrap c)).size+(be 4 (IntKind.u64.wrap d)).size) 9223372036854775807 then (bif Nat.ble ((((be 2 (IntKind.u64.wrap a)++be 1 (IntKind.u64.wrap b))++be 4 (IntKind.u64.wrap c))++be 4 (IntKind.u64.wrap d)).size+(be 4 (IntKind.u64.wrap e)).size) 9223372036854775807 then (bif Nat.ble (((((be 2 (IntKind.u64.wrap a)++be 1 (IntKind.u64.wrap b))++be 4 (IntKind.u64.wrap c))++be 4 (IntKind.u64.wrap d))++be 4 (IntKind.u64.wrap e)).size+(be 4 (IntKind.u64.wrap f)).size) 9223372036854775807 then (bif Nat.ble ((((((be 2 (IntKind.u64.wrap a)++be 1 (IntKind.u64.wrap b))++be 4 (IntKind.u64.wrap c))++be 4 (IntKind.u64.wrap d))++be 4 (IntKind.u64.wrap e))++be 4 (IntKind.u64.wrap f)).size+(be 4 (IntKind.u64.wrap g)).size) 9223372036854775807 then (bif Nat.ble (((((((be 2 (IntKind.u64.wrap a)++be 1 (IntKind.u64.wrap b))++be 4 (IntKind.u64.wrap c))++be 4 (IntKind.u64.wrap d))++be 4 (IntKind.u64.wrap e))++be 4 (IntKind.u64.wrap f))++be 4 (IntKind.u64.wrap g)).size+(be 4 (IntKind.u64.wrap q)).size) 9223372036854775807 then some (.v (S (((((((be 2 (IntKind.u64.wrap a)++be 1 (IntKind.u64.wrap b))++be 4 (IntKind.u64.wrap c))++be 4 (IntKind.u64.wrap d))++be 4 (IntKind.u64.wrap e))++be 4 (IntKind.u64.wrap f))++be 4 (IntKind.u64.wrap g))++be 4 (IntKind.u64.wrap q))),M0) else none) else none) else none) else none) else none) else none) else none):=by kernel_rfl
def Fd (vs:List Value):Option (Bool×Value) :=
 match vs with
 | [.agg ⟨[.int .i64 a,.int .i64 b,.int .i64 c,.int .i64 d,.int .i64 e,.int .i64 f,.int .i64 g,.int .i64 q]⟩]=>some (true,S (printT a b c d e f g q))
 | _=>none
theorem qfY:am 114 Fd:=by
 intro vs r h
 unfold Fd at h
 split at h
 ·rename_i a b c d e f g q
  obtain ⟨h1,rfl⟩:=ab h
  refine ak (vs:=[.agg #[I a,I b,I c,I d,I e,I f,I g,I q]]) (Λ:=L0) (m':=M0) RV func114 rfl (fun z _ _=>bX _ z) ?_
  exact (Yo a b c d e f g q).trans (by
   unfold printT
   cases j5 a b c d e f g q with
   | false=>rfl
   | true =>
    simp only [HF,qi8,zk,ByteArray.size_append,gh]
    rfl)
 ·cases h
def ΓN10:Orc:=ah 114 Fd ΓN9
theorem R0:ΓN10.Ok prog:=af RV qfY
theorem BR (x:Int) (j k:Nat) (h:(2:Int) ^ min (Int.toNat (8*k:Nat)) 32=256 ^ k) (hj:j=8*k) (hk:k<=3):IntKind.u8.wrap ((IntKind.u32.wrap x).fdiv (2 ^ min (Int.toNat (j:Nat)) 32))=x / 256 ^ k % 256:=by
 subst hj
 rw [h,Int.fdiv_eq_ediv_of_nonneg _ (Int.le_of_lt (Int.pow_pos (by decide))),<- cF true,<- cF true]
 simp only [wr]
 have:k=0\/k=1\/k=2\/k=3:=by omega
 rcases this with rfl|rfl|rfl|rfl<;>omega
theorem pH (x:Int):strOfNums [IntKind.u8.wrap ((IntKind.u32.wrap x).fdiv (2 ^ min (Int.toNat 24) 32)),IntKind.u8.wrap ((IntKind.u32.wrap x).fdiv (2 ^ min (Int.toNat 16) 32)),IntKind.u8.wrap ((IntKind.u32.wrap x).fdiv (2 ^ min (Int.toNat 8) 32)),IntKind.u8.wrap (IntKind.u32.wrap x)]=be 4 x:=by
 have e1:=BR x 8 1 (by decide) rfl (by decide)
 have e2:=BR x 16 2 (by decide) rfl (by decide)
 have e3:=BR x 24 3 (by decide) rfl (by decide)
 rw [show ((8:Nat):Int)=8 from rfl] at e1
 rw [show ((16:Nat):Int)=16 from rfl] at e2
 rw [show ((24:Nat):Int)=24 from rfl] at e3
 have e0:IntKind.u8.wrap (IntKind.u32.wrap x)=x / 256 ^ 0 % 256:=by
  rw [<- cF true,<- cF true]
  simp only [wr]
  omega
 rw [e0,e1,e2,e3];rfl
theorem qap (a b c d e f g q:Int) (h0:0<=a) (h1:a<=65535):strOfNums [IntKind.u8.wrap (IntKind.i64.wrap (a.tdiv 256)),IntKind.u8.wrap (a.tmod 256),IntKind.u8.wrap b,IntKind.u8.wrap ((IntKind.u32.wrap c).fdiv (2 ^ min (Int.toNat 24) 32)),IntKind.u8.wrap ((IntKind.u32.wrap c).fdiv (2 ^ min (Int.toNat 16) 32)),IntKind.u8.wrap ((IntKind.u32.wrap c).fdiv (2 ^ min (Int.toNat 8) 32)),IntKind.u8.wrap (IntKind.u32.wrap c),IntKind.u8.wrap ((IntKind.u32.wrap d).fdiv (2 ^ min (Int.toNat 24) 32)),IntKind.u8.wrap ((IntKind.u32.wrap d).fdiv (2 ^ min (Int.toNat 16) 32)),IntKind.u8.wrap ((IntKind.u32.wrap d).fdiv (2 ^ min (Int.toNat 8) 32)),IntKind.u8.wrap (IntKind.u32.wrap d),IntKind.u8.wrap ((IntKind.u32.wrap e).fdiv (2 ^ min (Int.toNat 24) 32)),IntKind.u8.wrap ((IntKind.u32.wrap e).fdiv (2 ^ min (Int.toNat 16) 32)),IntKind.u8.wrap ((IntKind.u32.wrap e).fdiv (2 ^ min (Int.toNat 8) 32)),IntKind.u8.wrap (IntKind.u32.wrap e),IntKind.u8.wrap ((IntKind.u32.wrap f).fdiv (2 ^ min (Int.toNat 24) 32)),IntKind.u8.wrap ((IntKind.u32.wrap f).fdiv (2 ^ min (Int.toNat 16) 32)),IntKind.u8.wrap ((IntKind.u32.wrap f).fdiv (2 ^ min (Int.toNat 8) 32)),IntKind.u8.wrap (IntKind.u32.wrap f),IntKind.u8.wrap ((IntKind.u32.wrap g).fdiv (2 ^ min (Int.toNat 24) 32)),IntKind.u8.wrap ((IntKind.u32.wrap g).fdiv (2 ^ min (Int.toNat 16) 32)),IntKind.u8.wrap ((IntKind.u32.wrap g).fdiv (2 ^ min (Int.toNat 8) 32)),IntKind.u8.wrap (IntKind.u32.wrap g),IntKind.u8.wrap ((IntKind.u32.wrap q).fdiv (2 ^ min (Int.toNat 24) 32)),IntKind.u8.wrap ((IntKind.u32.wrap q).fdiv (2 ^ min (Int.toNat 16) 32)),IntKind.u8.wrap ((IntKind.u32.wrap q).fdiv (2 ^ min (Int.toNat 8) 32)),IntKind.u8.wrap (IntKind.u32.wrap q)]=Cj a b c d e f g q:=by
 unfold Cj
 rw [<- pH c,<- pH d,<- pH e,<- pH f,<- pH g,<- pH q]
 have e1:be 2 a++be 1 b=strOfNums [IntKind.u8.wrap (IntKind.i64.wrap (a.tdiv 256)),IntKind.u8.wrap (a.tmod 256),IntKind.u8.wrap b]:=by
  have t1:IntKind.u8.wrap (IntKind.i64.wrap (a.tdiv 256))=a / 256 ^ 1 % 256:=by
   rw [Int.tdiv_eq_ediv_of_nonneg h0]
   have:=az (n:=a / 256) (by omega)
   unfold wI at this
   rw [this,<- cF true]
   simp only [wr]
   omega
  have t2:IntKind.u8.wrap (a.tmod 256)=a / 256 ^ 0 % 256:=by
   rw [Int.tmod_eq_emod_of_nonneg h0,<- cF true]
   simp only [wr]
   omega
  have t3:IntKind.u8.wrap b=b / 256 ^ 0 % 256:=by
   rw [<- cF true]
   simp only [wr]
   omega
  rw [t1,t2,t3]
  rfl
 rw [e1]
 simp only [<- qbA]
 rfl
theorem XJ (a b c d e f g q:Int):runG ΓN10 L0 prog f202 [.v (.agg #[I a,I b,I c,I d,I e,I f,I g,I q])] M0=bif !j5 a b c d e f g q then some (.v (S ⟨#[]⟩),M0) else some (.v (S (strOfNums [IntKind.u8.wrap (IntKind.i64.wrap (a.tdiv 256)),IntKind.u8.wrap (a.tmod 256),IntKind.u8.wrap b,IntKind.u8.wrap ((IntKind.u32.wrap c).fdiv (2 ^ min (Int.toNat 24) 32)),IntKind.u8.wrap ((IntKind.u32.wrap c).fdiv (2 ^ min (Int.toNat 16) 32)),IntKind.u8.wrap ((IntKind.u32.wrap c).fdiv (2 ^ min (Int.toNat 8) 32)),IntKind.u8.wrap (IntKind.u32.wrap c),IntKind.u8.wrap ((IntKind.u32.wrap d).fdiv (2 ^ min (Int.toNat 24) 32)),IntKind.u8.wrap ((IntKind.u32.wrap d).fdiv (2 ^ min (Int.toNat 16) 32)),IntKind.u8.wrap ((IntKind.u32.wrap d).fdiv (2 ^ min (Int.toNat 8) 32)),IntKind.u8.wrap (IntKind.u32.wrap d),IntKind.u8.wrap ((IntKind.u32.wrap e).fdiv (2 ^ min (Int.toNat 24) 32)),IntKind.u8.wrap ((IntKind.u32.wrap e).fdiv (2 ^ min (Int.toNat 16) 32)),IntKind.u8.wrap ((IntKind.u32.wrap e).fdiv (2 ^ min (Int.toNat 8) 32)),IntKind.u8.wrap (IntKind.u32.wrap e),IntKind.u8.wrap ((IntKind.u32.wrap f).fdiv (2 ^ min (Int.toNat 24) 32)),IntKind.u8.wrap ((IntKind.u32.wrap f).fdiv (2 ^ min (Int.toNat 16) 32)),IntKind.u8.wrap ((IntKind.u32.wrap f).fdiv (2 ^ min (Int.toNat 8) 32)),IntKind.u8.wrap (IntKind.u32.wrap f),IntKind.u8.wrap ((IntKind.u32.wrap g).fdiv (2 ^ min (Int.toNat 24) 32)),IntKind.u8.wrap ((IntKind.u32.wrap g).fdiv (2 ^ min (Int.toNat 16) 32)),IntKind.u8.wrap ((IntKind.u32.wrap g).fdiv (2 ^ min (Int.toNat 8) 32)),IntKind.u8.wrap (IntKind.u32.wrap g),IntKind.u8.wrap ((IntKind.u32.wrap q).fdiv (2 ^ min (Int.toNat 24) 32)),IntKind.u8.wrap ((IntKind.u32.wrap q).fdiv (2 ^ min (Int.toNat 16) 32)),IntKind.u8.wrap ((IntKind.u32.wrap q).fdiv (2 ^ min (Int.toNat 8) 32)),IntKind.u8.wrap (IntKind.u32.wrap q)])),M0):=by kernel_rfl
def EM (vs:List Value):Option (Bool×Value) :=
 match vs with
 | [.agg ⟨[.int .i64 a,.int .i64 b,.int .i64 c,.int .i64 d,.int .i64 e,.int .i64 f,.int .i64 g,.int .i64 q]⟩]=>some (true,S (printT a b c d e f g q))
 | _=>none
theorem qfw:am 202 EM:=by
 intro vs r h
 unfold EM at h
 split at h
 ·rename_i a b c d e f g q
  obtain ⟨h1,rfl⟩:=ab h
  refine ak (vs:=[.agg #[I a,I b,I c,I d,I e,I f,I g,I q]]) (Λ:=L0) (m':=M0) R0 func202 rfl (fun z _ _=>bX _ z) ?_
  exact (XJ a b c d e f g q).trans (by
   unfold printT
   cases hr:j5 a b c d e f g q with
   | false=>rfl
   | true =>
    have h0:0<=a/\a<=65535:=by
     unfold j5 at hr
     have:=of_decide_eq_true hr
     omega
    rw [qap a b c d e f g q h0.1 h0.2]
    rfl)
 ·cases h
def ΓN11:Orc:=ah 202 EM ΓN10
theorem qkS:ΓN11.Ok prog:=af R0 qfw
def ΓNa:Orc:=ΓN11
theorem IA:ΓNa.Ok prog:=qkS
end Go.Proofs.YtainfdcfkgemhaaGreat
