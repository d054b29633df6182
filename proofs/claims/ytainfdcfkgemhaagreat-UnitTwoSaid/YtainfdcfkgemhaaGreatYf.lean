/-
  What is known of this program: frames,streams,navs.
-/
import Derived.Test.YtainfdcfkgemhaaGreatYd
set_option maxRecDepth 100000
noncomputable section
namespace Go.Proofs.YtainfdcfkgemhaaGreat
open Go Go.Proofs Go.Sx
set_option linter.unusedVariables false
def ΓOp:Orc:={ call:=ΓO.call,rd:=ΓO.rd,eqv:=ΓO.eqv,unr:=8,wr:=qjC }
theorem qPl:ΓOp.Ok Tryz.prog:=⟨OkO.call,OkO.rd,OkO.eqv⟩
theorem qEB (s:ByteArray):runG ΓOp L0 Tryz.prog Tryz.f246 [.v (S s)] M0=bif szS s then some (.v (S (qn0 s)),M0) else none:=by kernel_rfl
def qLi (vs:List Value):Option (Bool×Value) :=
 match vs with
 | [.string s]=>some (szS s,S (qn0 s))
 | _=>none
theorem qAH:CtV 246 qLi:=by
 intro vs r h
 unfold qLi at h
 split at h
 ·rename_i s
  obtain ⟨h1,rfl⟩:=qac h
  refine qaA (vs:=[S s]) (Λ:=L0) (m':=M0) qPl Tryz.func246 rfl (fun z _ _=>qaq (by kernel_rfl) z) ?_
  exact (qEB s).trans (by rw [h1];rfl)
 ·cases h
def ΓF1:Orc:=qah 246 qLi ΓOp
theorem OkF1:ΓF1.Ok Tryz.prog:=qaa qPl qAH
theorem qEw (x:Int):runG ΓF1 L0 Tryz.prog Tryz.f200 [.v (U16 x)] M0=some (.v (S (qpw x)),M0):=by kernel_rfl
def qLg (vs:List Value):Option (Bool×Value) :=
 match vs with
 | [.int .u16 x]=>some (true,S (qpw x))
 | _=>none
theorem qAE:CtV 200 qLg:=by
 intro vs r h
 unfold qLg at h
 split at h
 ·rename_i x
  obtain ⟨h1,rfl⟩:=qac h
  refine qaA (vs:=[U16 x]) (Λ:=L0) (m':=M0) OkF1 Tryz.func200 rfl (fun z _ _=>qaq (by kernel_rfl) z) ?_
  exact (qEw x).trans (rfl)
 ·cases h
def ΓF2:Orc:=qah 200 qLg ΓF1
theorem qPJ:ΓF2.Ok Tryz.prog:=qaa OkF1 qAE
theorem quA (k:Int) (p:ByteArray):runG ΓF2 L0 Tryz.prog Tryz.f245 [.v (.agg #[I k,S p])] M0=bif decide (k≥0) then (bif decide (k≤255) then some (.v (Bo (decide ((p.size:Int)≤64))),M0) else some (.v (Bo false),M0)) else some (.v (Bo false),M0):=by kernel_rfl
def gRight (vs:List Value):Option (Bool×Value) :=
 match vs with
 | [.agg ⟨[.int .i64 k,.string p]⟩]=>some (true,Bo (qb9 k p))
 | _=>none
theorem gRight_ok:CtV 245 gRight:=by
 intro vs r h
 unfold gRight at h
 split at h
 ·rename_i k p
  obtain ⟨h1,rfl⟩:=qac h
  refine qaA (vs:=[.agg #[I k,S p]]) (Λ:=L0) (m':=M0) qPJ Tryz.func245 rfl (fun z _ _=>qaq (by kernel_rfl) z) ?_
  exact (quA k p).trans (by unfold qb9;cases decide (k≥0)<;>cases decide (k≤255)<;>rfl)
 ·cases h
def ΓF3:Orc:=qah 245 gRight ΓF2
theorem qPI:ΓF3.Ok Tryz.prog:=qaa qPJ gRight_ok
theorem qp1 (k:Int) (p:ByteArray):runG ΓF3 L0 Tryz.prog Tryz.f199 [.v (.agg #[I k,S p])] M0=bif decide (k≥0) then (bif decide (k≤255) then some (.v (Bo (decide ((p.size:Int)≤64))),M0) else some (.v (Bo false),M0)) else some (.v (Bo false),M0):=by kernel_rfl
def qlO (vs:List Value):Option (Bool×Value) :=
 match vs with
 | [.agg ⟨[.int .i64 k,.string p]⟩]=>some (true,Bo (qb9 k p))
 | _=>none
theorem qoQ:CtV 199 qlO:=by
 intro vs r h
 unfold qlO at h
 split at h
 ·rename_i k p
  obtain ⟨h1,rfl⟩:=qac h
  refine qaA (vs:=[.agg #[I k,S p]]) (Λ:=L0) (m':=M0) qPI Tryz.func199 rfl (fun z _ _=>qaq (by kernel_rfl) z) ?_
  exact (qp1 k p).trans (by unfold qb9;cases decide (k≥0)<;>cases decide (k≤255)<;>rfl)
 ·cases h
def ΓF4:Orc:=qah 199 qlO ΓF3
theorem OkF4:ΓF4.Ok Tryz.prog:=qaa qPI qoQ
def ΓF5:Orc:=ΓF4
theorem qPH:ΓF5.Ok Tryz.prog:=OkF4
def hasP (s t:ByteArray):Bool:=decide (t.size≤s.size)&&(L (s.extract 0 t.size)==L t)
theorem quR (s t:ByteArray):runG ΓF5 L0 Tryz.prog Tryz.f309 [.v (S s),.v (S t)] M0=bif decide ((s.size:Int)≥(t.size:Int)) then (bif decide ((0:Int)≤0)&&(decide (0≤(t.size:Int))&&decide ((t.size:Int)≤(s.size:Int))) then some (.v (Bo ((s.extract (Int.toNat 0) (t.size:Int).toNat).toList==t.toList)),M0) else none) else some (.v (Bo false),M0):=by kernel_rfl
def qr6 (vs:List Value):Option (Bool×Value) :=
 match vs with
 | [.string s,.string t]=>some (true,Bo (hasP s t))
 | _=>none
theorem qr5:CtV 309 qr6:=by
 intro vs r h
 unfold qr6 at h
 split at h
 ·rename_i s t
  obtain ⟨h1,rfl⟩:=qac h
  refine qaA (vs:=[S s,S t]) (Λ:=L0) (m':=M0) qPH Tryz.func309 rfl (fun z _ _=>qaq (by kernel_rfl) z) ?_
  exact (quR s t).trans (by
   unfold hasP
   by_cases hc:t.size≤s.size
   ·rw [decide_eq_true (show (s.size:Int)≥(t.size:Int) by omega),decide_eq_true (show (0:Int)≤0 by omega),decide_eq_true (show 0≤(t.size:Int) by omega),decide_eq_true hc,qCy]
    rfl
   ·rw [decide_eq_false (show ¬ (s.size:Int)≥(t.size:Int) by omega),decide_eq_false hc]
    rfl)
 ·cases h
def ΓF6:Orc:=qah 309 qr6 ΓF5
theorem qPG:ΓF6.Ok Tryz.prog:=qaa qPH qr5
theorem qzt (s t:ByteArray):runG ΓF6 L0 Tryz.prog Tryz.f250 [.v (S s),.v (S t)] M0=some (.v (Bo (hasP s t)),M0):=by kernel_rfl
def qBH (vs:List Value):Option (Bool×Value) :=
 match vs with
 | [.string s,.string t]=>some (true,Bo (hasP s t))
 | _=>none
theorem qwy:CtV 250 qBH:=by
 intro vs r h
 unfold qBH at h
 split at h
 ·rename_i s t
  obtain ⟨h1,rfl⟩:=qac h
  refine qaA (vs:=[S s,S t]) (Λ:=L0) (m':=M0) qPG Tryz.func250 rfl (fun z _ _=>qaq (by kernel_rfl) z) ?_
  exact (qzt s t).trans (rfl)
 ·cases h
def ΓF7:Orc:=qah 250 qBH ΓF6
theorem qPF:ΓF7.Ok Tryz.prog:=qaa qPG qwy
theorem qqk (s:ByteArray):runG ΓF7 L0 Tryz.prog Tryz.f162 [.v (S s)] M0=bif Nat.ble s.size 281474976710656 then some (.v (S s),M0) else none:=by kernel_rfl
def ql6 (vs:List Value):Option (Bool×Value) :=
 match vs with
 | [.string s]=>some (Nat.ble s.size 281474976710656,S s)
 | _=>none
theorem qoZ:CtV 162 ql6:=by
 intro vs r h
 unfold ql6 at h
 split at h
 ·rename_i s
  obtain ⟨h1,rfl⟩:=qac h
  refine qaA (vs:=[S s]) (Λ:=L0) (m':=M0) qPF Tryz.func162 rfl (fun z _ _=>qaq (by kernel_rfl) z) ?_
  exact (qqk s).trans (by rw [h1];rfl)
 ·cases h
def ΓF8:Orc:=qah 162 ql6 ΓF7
theorem qPE:ΓF8.Ok Tryz.prog:=qaa qPF qoZ
theorem qy5 (s:ByteArray):runG ΓF8 L0 Tryz.prog Tryz.f277 [.v (S s)] M0=bif decide ((0:Int)≤3)&&decide (3<(s.size:Int)) then some (.v (I (IntKind.i64.wrap (IntKind.i64.wrap (4+IntKind.i64.wrap (qan s 3))+2))),M0) else none:=by kernel_rfl
def qAN (vs:List Value):Option (Bool×Value) :=
 match vs with
 | [.string s]=>some (decide (3<(s.size:Int)),I (qbz s))
 | _=>none
theorem qwe:CtV 277 qAN:=by
 intro vs r h
 unfold qAN at h
 split at h
 ·rename_i s
  obtain ⟨h1,rfl⟩:=qac h
  refine qaA (vs:=[S s]) (Λ:=L0) (m':=M0) qPE Tryz.func277 rfl (fun z _ _=>qaq (by kernel_rfl) z) ?_
  exact (qy5 s).trans (by
   have h3:=qb6 s 3
   rw [show ((3:Nat):Int)=3 from rfl] at h3
   have e:IntKind.i64.wrap (IntKind.i64.wrap (4+IntKind.i64.wrap (qan s 3))+2)=qbz s:=by
    show wI (wI (4+wI (qan s 3))+2)=_
    rw [qaw (n:=qan s 3) (by omega),qaw (n:=4+qan s 3) (by omega),qaw (by omega)]
    unfold qbz
    omega
   rw [e,show decide ((0:Int)≤3)=true from rfl,h1]
   rfl)
 ·cases h
def ΓF9:Orc:=qah 277 qAN ΓF8
theorem OkF9:ΓF9.Ok Tryz.prog:=qaa qPE qwe
def ΓFap:Orc:=ΓF9
theorem qIs:ΓFap.Ok Tryz.prog:=OkF9
end Go.Proofs.YtainfdcfkgemhaaGreat
namespace Go.Proofs.YtainfdcfkgemhaaGreat
open Go Go.Proofs Go.Sx
theorem qgB (a:UInt8) (n:Nat) (hn:n<256):((a.toNat:Int) != (n:Int))=(a != UInt8.ofNat n):=by
 have e:((a.toNat:Int)=(n:Int))↔a=UInt8.ofNat n:=by
  constructor
  ·intro h
   rw [← UInt8.toNat_inj,UInt8.toNat_ofNat',Nat.mod_eq_of_lt hn]
   omega
  ·rintro rfl
   rw [UInt8.toNat_ofNat',Nat.mod_eq_of_lt hn]
 by_cases h:a=UInt8.ofNat n
 ·rw [bne_eq_false_iff_eq.2 (e.2 h),bne_eq_false_iff_eq.2 h]
 ·rw [bne_iff_ne.2 (fun q=>h (e.1 q)),bne_iff_ne.2 h]
theorem qAk (s:ByteArray):hasP s (mark.extract (Int.toNat 0) (if (2:Int)<(s.size:Int) then 2 else (s.size:Int)).toNat) =
  !((decide ((s.size:Int)>0)&&qan s 0 != 165)||(decide ((s.size:Int)>1)&&qan s 1 != 90)):=by
 have h0:=qbL s 0
 have h1:=qbL s 1
 rw [show ((0:Nat):Int)=0 from rfl] at h0
 rw [show ((1:Nat):Int)=1 from rfl] at h1
 have hl:=qgJ s
 unfold hasP
 rw [qkK,qkK]
 have hmk:L mark=[165,90]:=rfl
 rw [hmk,h0,h1]
 generalize hx:L s=l at *
 match l with
 | [] =>
  have hs:s.size=0:=by rw [← hl];rfl
  rw [hs]
  rfl
 | [a] =>
  have hs:s.size=1:=by rw [← hl];rfl
  rw [hs]
  have e:(mark.extract (Int.toNat 0) (if (2:Int)<((1:Nat):Int) then 2 else ((1:Nat):Int)).toNat).size=1:=rfl
  rw [e]
  have:=qgB a 165 (by omega)
  simp only [List.getElem?_cons_zero,Option.map_some,Option.getD_some]
  rw [show ((165:Nat):Int)=165 from rfl] at this
  rw [this]
  simp [bne]
 | a::b::r =>
  have hs:2≤s.size:=by rw [← hl];simp
  have e0:(if (2:Int)<(s.size:Int) then 2 else (s.size:Int)).toNat=2:=by split<;>omega
  rw [e0]
  have e:(mark.extract (Int.toNat 0) 2).size=2:=rfl
  rw [e]
  have t0:=qgB a 165 (by omega)
  have t1:=qgB b 90 (by omega)
  rw [show ((165:Nat):Int)=165 from rfl] at t0
  rw [show ((90:Nat):Int)=90 from rfl] at t1
  simp only [List.getElem?_cons_zero,List.getElem?_cons_succ,Option.map_some,Option.getD_some]
  rw [t0,t1,decide_eq_true (show (s.size:Int)>0 by omega),decide_eq_true (show (s.size:Int)>1 by omega),decide_eq_true hs]
  simp [bne]
theorem qzT (s:ByteArray):(!qfr s)=(hasP s (mark.extract (Int.toNat 0) (if (2:Int)<(s.size:Int) then 2 else (s.size:Int)).toNat)&&(decide ((s.size:Int)<4)||decide (qan s 3≤64))):=by
 rw [qAk]
 unfold qfr
 generalize (decide ((s.size:Int)>0)&&qan s 0 != 165)=x
 generalize (decide ((s.size:Int)>1)&&qan s 1 != 90)=y
 have:(decide ((s.size:Int)>3)&&decide (qan s 3>64))=!(decide ((s.size:Int)<4)||decide (qan s 3≤64)):=by
  by_cases h1:(s.size:Int)<4<;>by_cases h2:qan s 3≤64<;>simp [h1,h2]<;>omega
 rw [this]
 cases x<;>cases y<;>cases (decide ((s.size:Int)<4)||decide (qan s 3≤64))<;>rfl
theorem qfZ {s:ByteArray} (h:s.size≤9223372036854775807):szS s=true:=Nat.ble_eq_true_of_le h
theorem qeL {k:Int} {p:ByteArray} (h:qb9 k p=true):p.size≤64∧0≤k∧k≤255:=by
 unfold qb9 at h
 simp only [Bool.and_eq_true,decide_eq_true_eq] at h
 omega
end Go.Proofs.YtainfdcfkgemhaaGreat
namespace Go.Proofs.YtainfdcfkgemhaaGreat
open Go Go.Proofs Go.Sx
set_option linter.unusedVariables false
theorem qFn (s:ByteArray):runG ΓFap L0 Tryz.prog Tryz.f276 [.v (S s)] M0=bif decide ((0:Int)≤0)&&(decide ((0:Int)≤(if (2:Int)<(s.size:Int) then 2 else (s.size:Int)))&&decide ((if (2:Int)<(s.size:Int) then 2 else (s.size:Int))≤(mark.size:Int))) then
 (bif !hasP s (mark.extract (Int.toNat 0) (if (2:Int)<(s.size:Int) then 2 else (s.size:Int)).toNat) then some (.v (Bo false),M0) else
  (bif decide ((s.size:Int)<4) then some (.v (Bo true),M0) else (bif decide ((0:Int)≤3)&&decide (3<(s.size:Int)) then some (.v (Bo (decide (qan s 3≤64))),M0) else none))) else none:=by kernel_rfl
def qLY (vs:List Value):Option (Bool×Value) :=
 match vs with
 | [.string s]=>some (true,Bo (!qfr s))
 | _=>none
theorem qBz:CtV 276 qLY:=by
 intro vs r h
 unfold qLY at h
 split at h
 ·rename_i s
  obtain ⟨h1,rfl⟩:=qac h
  refine qaA (vs:=[S s]) (Λ:=L0) (m':=M0) qIs Tryz.func276 rfl (fun z _ _=>qaq (by kernel_rfl) z) ?_
  exact (qFn s).trans (by
   have hm:mark.size=2:=rfl
   have e1:(0:Int)≤(if (2:Int)<(s.size:Int) then 2 else (s.size:Int)):=by split<;>omega
   have e2:(if (2:Int)<(s.size:Int) then 2 else (s.size:Int))≤(mark.size:Int):=by rw [hm];split<;>omega
   rw [decide_eq_true e1,decide_eq_true e2,qzT s]
   generalize hasP s (mark.extract (Int.toNat 0) (if (2:Int)<(s.size:Int) then 2 else (s.size:Int)).toNat)=q
   by_cases h4:(s.size:Int)<4
   ·rw [decide_eq_true h4]
    cases q<;>rfl
   ·rw [decide_eq_false h4,decide_eq_true (show (3:Int)<(s.size:Int) by omega)]
    cases q<;>rfl)
 ·cases h
def ΓG1:Orc:=qah 276 qLY ΓFap
theorem OkG1:ΓG1.Ok Tryz.prog:=qaa qIs qBz
theorem quH (k:Int) (p:ByteArray):runG ΓG1 L0 Tryz.prog Tryz.f179 [.v (.agg #[I k,S p])] M0=bif !qb9 k p then some (.v (S ⟨#[]⟩),M0) else
 (bif Nat.ble ((strOfNums [IntKind.u8.wrap k,IntKind.u8.wrap (p.size:Int)]).size+p.size) 9223372036854775807 then (bif Nat.ble (mark.size+(qbW k p).size) 9223372036854775807 then (bif szS (qbW k p) then (bif Nat.ble ((mark++qbW k p).size+(qn0 (qbW k p)).size) 9223372036854775807 then some (.v (S ((mark++qbW k p)++qn0 (qbW k p))),M0) else none) else none) else none) else none):=by kernel_rfl
def gPrint (vs:List Value):Option (Bool×Value) :=
 match vs with
 | [.agg ⟨[.int .i64 k,.string p]⟩]=>some (true,S (printB k p))
 | _=>none
theorem qj5:CtV 179 gPrint:=by
 intro vs r h
 unfold gPrint at h
 split at h
 ·rename_i k p
  obtain ⟨h1,rfl⟩:=qac h
  refine qaA (vs:=[.agg #[I k,S p]]) (Λ:=L0) (m':=M0) OkG1 Tryz.func179 rfl (fun z _ _=>qaq (by kernel_rfl) z) ?_
  exact (quH k p).trans (by
   unfold printB
   cases hr:qb9 k p with
   | false=>rfl
   | true =>
    obtain ⟨hp,_,_⟩:=qeL hr
    have hb:=qeZ k p
    have hm:mark.size=2:=rfl
    have h2:(qn0 (qbW k p)).size=2:=qeB _
    have hma:(mark++qbW k p).size=2+(p.size+2):=by rw [ByteArray.size_append,hm,hb]
    rw [strOfNums_size,hma,h2,hm,hb,qfZ (by omega)]
    rw [show Nat.ble ([IntKind.u8.wrap k,IntKind.u8.wrap (p.size:Int)].length+p.size) 9223372036854775807=true from Nat.ble_eq_true_of_le (by simp only [List.length_cons,List.length_nil];omega),show Nat.ble (2+(p.size+2)) 9223372036854775807=true from Nat.ble_eq_true_of_le (by omega),show Nat.ble (2+(p.size+2)+2) 9223372036854775807=true from Nat.ble_eq_true_of_le (by omega)]
    rfl)
 ·cases h
def ΓG2:Orc:=qah 179 gPrint ΓG1
theorem OkG2:ΓG2.Ok Tryz.prog:=qaa OkG1 qj5
theorem qp2 (k:Int) (p:ByteArray):runG ΓG2 L0 Tryz.prog Tryz.f127 [.v (.agg #[I k,S p])] M0=bif !qb9 k p then some (.v (S ⟨#[]⟩),M0) else
 (bif Nat.ble ((strOfNums [IntKind.u8.wrap k,IntKind.u8.wrap (p.size:Int)]).size+p.size) 9223372036854775807 then (bif Nat.ble ((strOfNums [165,90]).size+(qbW k p).size) 9223372036854775807 then (bif qhg 65535&&szS (qbW k p) then (bif Nat.ble (((strOfNums [165,90])++qbW k p).size+(qn0 (qbW k p)).size) 9223372036854775807 then some (.v (S (((strOfNums [165,90])++qbW k p)++qn0 (qbW k p))),M0) else none) else none) else none) else none):=by kernel_rfl
def qiw (vs:List Value):Option (Bool×Value) :=
 match vs with
 | [.agg ⟨[.int .i64 k,.string p]⟩]=>some (true,S (printB k p))
 | _=>none
theorem qhh:CtV 127 qiw:=by
 intro vs r h
 unfold qiw at h
 split at h
 ·rename_i k p
  obtain ⟨h1,rfl⟩:=qac h
  refine qaA (vs:=[.agg #[I k,S p]]) (Λ:=L0) (m':=M0) OkG2 Tryz.func127 rfl (fun z _ _=>qaq (by kernel_rfl) z) ?_
  exact (qp2 k p).trans (by
   unfold printB
   cases hr:qb9 k p with
   | false=>rfl
   | true =>
    obtain ⟨hp,_,_⟩:=qeL hr
    have hb:=qeZ k p
    have hm:(strOfNums [165,90]).size=2:=rfl
    have h2:(qn0 (qbW k p)).size=2:=qeB _
    have hma:((strOfNums [165,90])++qbW k p).size=2+(p.size+2):=by rw [ByteArray.size_append,hm,hb]
    rw [strOfNums_size,hma,h2,hm,hb,qfZ (by omega)]
    rw [show Nat.ble ([IntKind.u8.wrap k,IntKind.u8.wrap (p.size:Int)].length+p.size) 9223372036854775807=true from Nat.ble_eq_true_of_le (by simp only [List.length_cons,List.length_nil];omega),show Nat.ble (2+(p.size+2)) 9223372036854775807=true from Nat.ble_eq_true_of_le (by omega),show Nat.ble (2+(p.size+2)+2) 9223372036854775807=true from Nat.ble_eq_true_of_le (by omega)]
    rfl)
 ·cases h
def ΓG3:Orc:=qah 127 qiw ΓG2
theorem OkG3:ΓG3.Ok Tryz.prog:=qaa OkG2 qhh
def ΓGa:Orc:=ΓG3
theorem qPA:ΓGa.Ok Tryz.prog:=OkG3
end Go.Proofs.YtainfdcfkgemhaaGreat
namespace Go.Proofs.YtainfdcfkgemhaaGreat
open Go Go.Proofs Go.Sx
theorem qhu (c d:UInt8) (p:ByteArray) (hp:p.size=d.toNat):L (qbW (c.toNat:Int) p)=c::d::L p:=by
 unfold qbW
 rw [qtm,qnU,hp,qDI,qDI,Nat.mod_eq_of_lt (qba c),Nat.mod_eq_of_lt (qba d)]
 simp only [List.map_cons,List.map_nil,Int.toNat_natCast,UInt8.ofNat_toNat,List.cons_append,List.nil_append]
theorem qhi {s:ByteArray} (h1:qfr s=false) (h2:qcm s=false):∃ c d r,L s=165::90::c::d::r∧kOf s=(c.toNat:Int)∧qan s 3=(d.toNat:Int)∧d.toNat≤64∧qbz s=((6+d.toNat:Nat):Int)∧d.toNat+2≤r.length:=by
 obtain ⟨h4,h5,h6⟩:=qem h2
 have hl:=qgJ s
 have a0:=qbL s 0
 have a1:=qbL s 1
 have a2:=qbL s 2
 have a3:=qbL s 3
 generalize hx:L s=l at *
 match l,hl with
 | [],hl=>simp at hl;omega
 | [_],hl=>simp at hl;omega
 | [_,_],hl=>simp at hl;omega
 | [_,_,_],hl=>simp at hl;omega
 | a::b::c::d::r,hl =>
  simp only [List.getElem?_cons_zero,List.getElem?_cons_succ,Option.map_some,Option.getD_some] at a0 a1 a2 a3
  unfold qfr at h1
  rw [show (0:Int)=((0:Nat):Int) from rfl,show (1:Int)=((1:Nat):Int) from rfl,show (3:Int)=((3:Nat):Int) from rfl] at h1
  rw [a0,a1,a3] at h1
  have b0:=qgB a 165 (by omega)
  have b1:=qgB b 90 (by omega)
  rw [show ((165:Nat):Int)=165 from rfl] at b0
  rw [show ((90:Nat):Int)=90 from rfl] at b1
  rw [b0,b1] at h1
  simp only [Bool.or_eq_false_iff,Bool.and_eq_false_iff,decide_eq_false_iff_not,bne_eq_false_iff_eq] at h1
  obtain ⟨g0,g1,g3⟩:=h1
  have e0:a=165:=by
   rcases g0 with g0|g0
   ·omega
   ·exact g0
  have e1:b=90:=by
   rcases g1 with g1|g1
   ·omega
   ·exact g1
  subst e0 e1
  have hlen:qbz s=((6+d.toNat:Nat):Int):=by
   unfold qbz
   rw [show (3:Int)=((3:Nat):Int) from rfl,a3]
   omega
  refine ⟨c,d,r,rfl,?_,a3,by omega,hlen,?_⟩
  ·unfold kOf;exact a2
  ·rw [hlen] at h5
   simp only [List.length_cons] at hl
   omega
theorem qm1 {s:ByteArray} {d:Nat} {x y z u:UInt8} {r:List UInt8} (hl:L s=x::y::z::u::r) (hn:qbz s=((6+d:Nat):Int)):L (pOf s)=r.take d:=by
 unfold pOf
 rw [hn,qkK,hl,show (((6+d:Nat):Int) - 2).toNat - 4=d by omega]
 rfl
theorem qKH {s:ByteArray} (h1:qfr s=false) (h2:qcm s=false):((qn0 (s.extract 2 (qbz s - 2).toNat)).toList==(s.extract (qbz s - 2).toNat (qbz s).toNat).toList)=okB s:=by
 obtain ⟨c,d,r,hl,hk,hd,hd64,hn,hr⟩:=qhi h1 h2
 have hp:=qm1 hl hn
 have hps:(pOf s).size=d.toNat:=by
  rw [← qgJ,hp,List.length_take]
  omega
 have e1:s.extract 2 (qbz s - 2).toNat=qbW (kOf s) (pOf s):=by
  rw [← qiW,hk,qhu c d _ hps,hp,qkK,hl,hn,show (((6+d.toNat:Nat):Int) - 2).toNat - 2=d.toNat+2 by omega]
  rfl
 have e2:L (s.extract (qbz s - 2).toNat (qbz s).toNat)=(r.drop d.toNat).take 2:=by
  rw [qkK,hl,hn,show (((6+d.toNat:Nat):Int) - 2).toNat=d.toNat+4 by omega,show (((6+d.toNat:Nat):Int)).toNat - (d.toNat+4)=2 by omega]
  rw [Nat.add_comm d.toNat 4,← List.drop_drop]
  rfl
 have e3:L (s.extract 0 (qbz s).toNat)=165::90::c::d::(r.take d.toNat++(r.drop d.toNat).take 2):=by
  rw [qkK,hl,hn,show (((6+d.toNat:Nat):Int)).toNat - 0=(d.toNat+2)+4 by omega,← List.take_add]
  rfl
 have e4:L (prt (kOf s) (pOf s))=165::90::c::d::(r.take d.toNat++L (qn0 (qbW (kOf s) (pOf s)))):=by
  unfold prt
  rw [qtm,qtm,hk,qhu c d _ hps,hp]
  rfl
 rw [e1,qCy,e2]
 unfold okB
 rw [qHJ,e3,e4,Bool.eq_iff_iff]
 simp only [beq_iff_eq,List.cons.injEq,true_and,List.append_cancel_left_eq]
theorem qoG {s:ByteArray} (h1:qfr s=false) (h2:qcm s=false):qb9 (kOf s) (pOf s)=true:=by
 obtain ⟨c,d,r,hl,hk,hd,hd64,hn,hr⟩:=qhi h1 h2
 have hp:=qm1 hl hn
 have hps:(pOf s).size=d.toNat:=by
  rw [← qgJ,hp,List.length_take]
  omega
 have:=qba c
 unfold qb9
 rw [hk,hps,decide_eq_true (by omega),decide_eq_true (by omega),decide_eq_true (by omega)]
 rfl
def rdV (s:ByteArray):Value:=.tuple #[.agg #[I (rdK s),S (rdP s)],I (rdN s),I (rdE s)]
theorem qeQ {s:ByteArray} {e:Int} (h:rdE s=e) (h0:e≠0):rdV s=.tuple #[.agg #[I 0,S ⟨#[]⟩],I 0,I e]:=by
 subst h
 unfold rdV rdK rdP rdN
 rw [show (rdE s==0)=false from beq_eq_false_iff_ne.2 h0]
 rfl
theorem qxW {s:ByteArray} (h:rdE s=0):rdV s=.tuple #[.agg #[I (kOf s),S (pOf s)],I (qbz s),I 0]:=by
 unfold rdV rdK rdP rdN
 rw [h]
 rfl
def oV (v:Value):Option (SV×Mem):=some (.v v,M0)
def qqC (e:Int):Option (SV×Mem):=oV (.tuple #[.agg #[I 0,S ⟨#[]⟩],I 0,I e])
def w2 (s:ByteArray):Int:=wI (qbz s - 2)
def qqz (s:ByteArray):Option (SV×Mem) :=
 bif !!qfr s then qqC 3 else bif decide ((s.size:Int)<4) then qqC 5 else bif decide (3<(s.size:Int)) then (bif decide ((s.size:Int)<qbz s) then qqC 5 else bif decide (3<(s.size:Int)) then
  (bif decide ((0:Int)≤2)&&(decide (2≤w2 s)&&decide (w2 s≤(s.size:Int))) then (bif szS (s.extract (Int.toNat 2) (w2 s).toNat) then (bif decide (0≤w2 s)&&(decide (w2 s≤qbz s)&&decide (qbz s≤(s.size:Int))) then
   (bif !((qn0 (s.extract (Int.toNat 2) (w2 s).toNat)).toList==(s.extract (w2 s).toNat (qbz s).toNat).toList) then qqC 4 else
    (bif decide ((0:Int)≤2)&&decide (2<(s.size:Int)) then (bif decide ((0:Int)≤4)&&(decide (4≤w2 s)&&decide (w2 s≤(s.size:Int))) then (bif Nat.ble (s.extract (Int.toNat 4) (w2 s).toNat).size 281474976710656 then
     oV (.tuple #[.agg #[I (wI (qan s 2)),S (s.extract (Int.toNat 4) (w2 s).toNat)],I (qbz s),I 0]) else none) else none) else none))
   else none) else none) else none) else none) else none
theorem qJu (s:ByteArray):w2 s=qbz s - 2:=by
 have:=qcC s
 unfold w2
 rw [qaw (by omega)]
theorem qOj (s:ByteArray):wI (qan s 2)=kOf s:=by
 have:=qb6 s 2
 rw [show ((2:Nat):Int)=2 from rfl] at this
 unfold kOf
 rw [qaw (by omega)]
theorem qqy (s:ByteArray):qqz s=oV (rdV s):=by
 unfold qqz
 rcases qej s with ⟨h1,h2⟩|⟨h1,h2,h3⟩|⟨h1,h2,h3,h4⟩|⟨h1,h2,h3,h4⟩
 ·rw [qeQ h1 (by decide),h2];rfl
 ·rw [qeQ h1 (by decide),h2]
  unfold qcm at h3
  by_cases h5:(s.size:Int)<4
  ·rw [decide_eq_true h5];rfl
  ·rw [decide_eq_false h5,decide_eq_true (show 3<(s.size:Int) by omega)]
   rw [decide_eq_false h5,Bool.false_or] at h3
   rw [h3];rfl
 all_goals
  obtain ⟨g1,g2,g3⟩:=qem h3
  have hr:=qcC s
  have he:=qKH h2 h3
  have hx:(s.extract 4 (qbz s - 2).toNat).size≤281474976710656:=by rw [ByteArray.size_extract];omega
  have hy:(s.extract 2 (qbz s - 2).toNat).size≤9223372036854775807:=by rw [ByteArray.size_extract];omega
  rw [qJu,show Int.toNat 2=2 from rfl,show Int.toNat 4=4 from rfl,he,h4,qOj,qfZ hy,Nat.ble_eq_true_of_le hx,h2,decide_eq_false (show ¬ (s.size:Int)<4 by omega),decide_eq_true (show 3<(s.size:Int) by omega),decide_eq_false (show ¬ (s.size:Int)<qbz s by omega),
   decide_eq_true (show (2:Int)≤qbz s - 2 by omega),decide_eq_true (show qbz s - 2≤(s.size:Int) by omega),decide_eq_true (show 0≤qbz s - 2 by omega),decide_eq_true (show qbz s - 2≤qbz s by omega),decide_eq_true (show qbz s≤(s.size:Int) by omega),decide_eq_true (show 2<(s.size:Int) by omega),decide_eq_true (show (4:Int)≤qbz s - 2 by omega)]
 ·rw [qxW h1];rfl
 ·rw [qeQ h1 (by decide)];rfl
def wN (s:ByteArray):Int:=wI (6+wI (qan s 3))
def wP (s:ByteArray):Int:=wI (wN s - 2)
def tT (s:ByteArray):Option (SV×Mem) :=
 bif decide ((s.size:Int)<4) then qqC 5 else bif decide ((0:Int)≤3)&&decide (3<(s.size:Int)) then (bif decide ((s.size:Int)<wN s) then qqC 5 else
  bif decide ((0:Int)≤3)&&decide (3<(s.size:Int)) then (bif decide ((0:Int)≤2)&&decide (2<(s.size:Int)) then (bif decide ((0:Int)≤4)&&(decide (4≤wP s)&&decide (wP s≤(s.size:Int))) then
   (bif decide ((0:Int)≤0)&&(decide (0≤wN s)&&decide (wN s≤(s.size:Int))) then
    (bif !((printB (wI (qan s 2)) (s.extract (Int.toNat 4) (wP s).toNat)).toList==(s.extract (Int.toNat 0) (wN s).toNat).toList) then qqC 4 else
     oV (.tuple #[.agg #[I (wI (qan s 2)),S (s.extract (Int.toNat 4) (wP s).toNat)],I (wN s),I 0])) else none) else none) else none) else none) else none
def tX (s:ByteArray):Option (SV×Mem) :=
 bif decide ((s.size:Int)>3) then (bif decide ((0:Int)≤3)&&decide (3<(s.size:Int)) then (bif decide (qan s 3>64) then qqC 3 else tT s) else none) else tT s
def tY (s:ByteArray):Option (SV×Mem) :=
 bif decide ((s.size:Int)>1) then (bif decide ((0:Int)≤1)&&decide (1<(s.size:Int)) then (bif qan s 1 != 90 then qqC 3 else tX s) else none) else tX s
def tZ (s:ByteArray):Option (SV×Mem) :=
 bif decide ((s.size:Int)>0) then (bif decide ((0:Int)≤0)&&decide (0<(s.size:Int)) then (bif qan s 0 != 165 then qqC 3 else tY s) else none) else tY s
theorem qDK (s:ByteArray):wN s=qbz s:=by
 have:=qb6 s 3
 rw [show ((3:Nat):Int)=3 from rfl] at this
 unfold wN qbz
 rw [qaw (n:=qan s 3) (by omega),qaw (by omega)]
theorem qD8 {s:ByteArray} (h2:qfr s=false):tT s=oV (rdV s):=by
 have hr:=qcC s
 have hw:wP s=qbz s - 2:=by unfold wP;rw [qDK,qaw (by omega)]
 unfold tT
 rw [qDK,hw,qOj,show Int.toNat 4=4 from rfl,show Int.toNat 0=0 from rfl]
 rcases qej s with ⟨h1,h2'⟩|⟨h1,_,h3⟩|⟨h1,_,h3,h4⟩|⟨h1,_,h3,h4⟩
 ·rw [h2] at h2';cases h2'
 ·rw [qeQ h1 (by decide)]
  unfold qcm at h3
  by_cases h5:(s.size:Int)<4
  ·rw [decide_eq_true h5];rfl
  ·rw [decide_eq_false h5,decide_eq_true (show 3<(s.size:Int) by omega)]
   rw [decide_eq_false h5,Bool.false_or] at h3
   rw [h3];rfl
 all_goals
  obtain ⟨g1,g2,g3⟩:=qem h3
  have hg:=qoG h2 h3
  have he:((printB (kOf s) (s.extract 4 (qbz s - 2).toNat)).toList==(s.extract 0 (qbz s).toNat).toList)=okB s:=by
   rw [qkA]
   unfold printB okB
   have:qb9 (kOf s) (s.extract 4 (qbz s - 2).toNat)=true:=hg
   rw [this]
   rfl
  rw [he,h4,decide_eq_false (show ¬ (s.size:Int)<4 by omega),decide_eq_true (show 3<(s.size:Int) by omega),decide_eq_false (show ¬ (s.size:Int)<qbz s by omega),
   decide_eq_true (show (2:Int)<(s.size:Int) by omega),decide_eq_true (show (4:Int)≤qbz s - 2 by omega),decide_eq_true (show qbz s - 2≤(s.size:Int) by omega),decide_eq_true (show 0≤qbz s by omega),decide_eq_true (show qbz s≤(s.size:Int) by omega)]
 ·rw [qxW h1];rfl
 ·rw [qeQ h1 (by decide)];rfl
theorem qJA (s:ByteArray):tZ s=oV (rdV s):=by
 have hb:∀ {x:Bool},qfr s=x→x=true→qqC 3=oV (rdV s):=by
  rintro x h rfl
  have:rdE s=3:=by unfold rdE;rw [h];rfl
  rw [qeQ this (by decide)]
  rfl
 have hX:(decide ((s.size:Int)>0)&&qan s 0 != 165)=false→(decide ((s.size:Int)>1)&&qan s 1 != 90)=false→tX s=oV (rdV s):=by
  intro e0 e1
  have e2:qfr s=(decide ((s.size:Int)>3)&&decide (qan s 3>64)):=by unfold qfr;rw [e0,e1];rfl
  unfold tX
  by_cases h3:(s.size:Int)>3
  ·rw [decide_eq_true h3] at e2 ⊢
   by_cases h64:qan s 3>64
   ·rw [decide_eq_true h64] at e2 ⊢
    exact hb e2 rfl
   ·rw [decide_eq_false h64] at e2 ⊢
    exact qD8 e2
  ·rw [decide_eq_false h3] at e2 ⊢
   exact qD8 e2
 have hY:(decide ((s.size:Int)>0)&&qan s 0 != 165)=false→tY s=oV (rdV s):=by
  intro e0
  unfold tY
  by_cases h1:(s.size:Int)>1
  ·have e3:decide ((s.size:Int)>1)=true:=decide_eq_true h1
   rw [e3]
   cases h:qan s 1 != 90 with
   | true=>exact hb (x:=qfr s) rfl (by unfold qfr;rw [e0,e3,h];rfl)
   | false=>exact hX e0 (by rw [e3,h];rfl)
  ·have e3:decide ((s.size:Int)>1)=false:=decide_eq_false h1
   rw [e3]
   exact hX e0 (by rw [e3];rfl)
 unfold tZ
 by_cases h1:(s.size:Int)>0
 ·have e3:decide ((s.size:Int)>0)=true:=decide_eq_true h1
  rw [e3]
  cases h:qan s 0 != 165 with
  | true=>exact hb (x:=qfr s) rfl (by unfold qfr;rw [e3,h];rfl)
  | false=>exact hY (by rw [e3,h];rfl)
 ·have e3:decide ((s.size:Int)>0)=false:=decide_eq_false h1
  rw [e3]
  exact hY (by rw [e3];rfl)
end Go.Proofs.YtainfdcfkgemhaaGreat
namespace Go.Proofs.YtainfdcfkgemhaaGreat
open Go Go.Proofs Go.Sx
set_option linter.unusedVariables false
theorem qze (s:ByteArray):runG ΓGa L0 Tryz.prog Tryz.f209 [.v (S s)] M0=qqz s:=by kernel_rfl
def gRead (vs:List Value):Option (Bool×Value) :=
 match vs with
 | [.string s]=>some (true,rdV s)
 | _=>none
theorem qwk:CtV 209 gRead:=by
 intro vs r h
 unfold gRead at h
 split at h
 ·rename_i s
  obtain ⟨h1,rfl⟩:=qac h
  refine qaA (vs:=[S s]) (Λ:=L0) (m':=M0) qPA Tryz.func209 rfl (fun z _ _=>qaq (by kernel_rfl) z) ?_
  exact (qze s).trans (qqy s)
 ·cases h
def ΓH1:Orc:=qah 209 gRead ΓGa
theorem qPz:ΓH1.Ok Tryz.prog:=qaa qPA qwk
theorem quD (s:ByteArray):runG ΓH1 L0 Tryz.prog Tryz.f64 [.v (S s)] M0=tZ s:=by kernel_rfl
def qrQ (vs:List Value):Option (Bool×Value) :=
 match vs with
 | [.string s]=>some (true,rdV s)
 | _=>none
theorem qrP:CtV 64 qrQ:=by
 intro vs r h
 unfold qrQ at h
 split at h
 ·rename_i s
  obtain ⟨h1,rfl⟩:=qac h
  refine qaA (vs:=[S s]) (Λ:=L0) (m':=M0) qPz Tryz.func64 rfl (fun z _ _=>qaq (by kernel_rfl) z) ?_
  exact (quD s).trans (qJA s)
 ·cases h
def ΓH2:Orc:=qah 64 qrQ ΓH1
theorem OkH2:ΓH2.Ok Tryz.prog:=qaa qPz qrP
def ΓHa:Orc:=ΓH2
theorem OkHa:ΓHa.Ok Tryz.prog:=OkH2
end Go.Proofs.YtainfdcfkgemhaaGreat
namespace Go.Proofs.YtainfdcfkgemhaaGreat
open Go Go.Proofs Go.Sx
set_option linter.unusedVariables false
def MS (w:ByteArray) (a b:Int):Mem:=⟨[[.v (S w),.ptr 1 0],[.v (I a),.v (I b)]],[true,true],[]⟩
abbrev qOd:Value:=.pointer none
def ΓJ1:Orc:=ΓHa
theorem OkJ1:ΓJ1.Ok Tryz.prog:=OkHa
def ΓJ2:Orc:=ΓJ1
theorem OkJ2:ΓJ2.Ok Tryz.prog:=OkJ1
theorem quX (r:ByteArray) (n:Int) (w:ByteArray) (a b:Int):runG ΓJ2 L0 Tryz.prog Tryz.f210 [.ptr 0 0,.v (S r),.v (I n)] (MS w a b)=bif decide (0≤n)&&(decide (n≤(r.size:Int))&&decide ((r.size:Int)≤(r.size:Int))) then some (.v (S (r.extract n.toNat r.size)),MS w a (qap a b n)) else none:=by kernel_rfl
def qBP (xs:List SV) (m:Mem):Option (Bool×SV×Mem) :=
 match xs,m with
 | [.ptr 0 0,.v (.string r),.v (.int .i64 n)],⟨[[.v (.string w),.ptr 1 0],[.v (.int .i64 a),.v (.int .i64 b)]],[true,true],[]⟩=>some (decide (0≤n)&&(decide (n≤(r.size:Int))&&decide ((r.size:Int)≤(r.size:Int))),.v (S (r.extract n.toNat r.size)),MS w a (qap a b n))
 | _,_=>none
theorem qwC:CtC 210 qBP:=by
 intro xs m r m' h
 unfold qBP at h
 split at h
 ·rename_i r n w a b
  obtain ⟨h1,rfl,rfl⟩:=qaf h
  refine qal (Λ:=L0) OkJ2 Tryz.func210 rfl (fun z _ _=>qaq (by kernel_rfl) z) ?_
  exact (quX r n w a b).trans (by rw [h1];rfl)
 ·cases h
def ΓJ3:Orc:=qau 210 qBP ΓJ2
theorem qPy:ΓJ3.Ok Tryz.prog:=qad OkJ2 qwC
theorem quK:runG ΓJ3 L0 Tryz.prog Tryz.f192 [] M0=some (.ptr 0 0,MS ⟨#[]⟩ 1000000 0):=by kernel_rfl
def qwq (xs:List SV) (m:Mem):Option (Bool×SV×Mem) :=
 match xs,m with
 | [],⟨[],[],[]⟩=>some (true,.ptr 0 0,MS ⟨#[]⟩ 1000000 0)
 | _,_=>none
theorem qns:CtC 192 qwq:=by
 intro xs m r m' h
 unfold qwq at h
 split at h
 ·obtain ⟨h1,rfl,rfl⟩:=qaf h
  refine qal (Λ:=L0) qPy Tryz.func192 rfl (fun z _ _=>qaq (by kernel_rfl) z) ?_
  exact (quK ).trans (rfl)
 ·cases h
def ΓJ4:Orc:=qau 192 qwq ΓJ3
theorem OkJ4:ΓJ4.Ok Tryz.prog:=qad qPy qns
def ΓJa:Orc:=ΓJ4
theorem qJj:ΓJa.Ok Tryz.prog:=OkJ4
end Go.Proofs.YtainfdcfkgemhaaGreat
namespace Go.Proofs.YtainfdcfkgemhaaGreat
open Go Go.Proofs Go.Sx
set_option linter.unusedVariables false
def ksF:List CK:=[.num .i64,.str]
def frT (t:TypeId) (Q:List (List Dat)):RowS:=.live ⟨t,ksF,Q,true,false⟩
def MF (t:TypeId) (w:ByteArray) (a v:Int) (Q:List (List Dat)):Mem:=⟨[[.v (S w),.ptr 1 0],[.v (I a),.v (I v)]],[true,true],[frT t Q]⟩
def fr (s:ByteArray):List Dat:=[.n (rdK s),.s (rdP s)]
def qC9 (Q:List (List Dat)) (b:Nat):Bool:=decide ((Q.length+1)*b≤140737488355328∧Q.length+1≤9223372036854775807)
def qjW:List Bool:=qam 53 [0,5,6]
def qct:Code:=qaH (Tryz.f139.body.getD .skip) 0
theorem qq9:qak (Tryz.f139.body.getD .skip)=[qct]:=by kernel_rfl
theorem qoz:qak qct=[]:=by kernel_rfl
def qxp (e:Ex) (st:St):Option (Ex×St):=some (e,qav 2 0 qjW st)
def qkM (w:ByteArray) (a v:Int) (Q:List (List Dat)) (r:ByteArray):St:=mk qjW [.ptr 0 0,.row 0,.v (S r)] (MF 284 w a v Q)
theorem qtW (k:Nat) (w:ByteArray) (a v:Int) (Q:List (List Dat)) (r:ByteArray):qaj ΓJa Tryz.prog L0 (qav 2 0 qjW) qct (k+1) (qkM w a v Q r) qxp =
 bif !(r.toList==(⟨#[]⟩:ByteArray).toList) then (bif rdE r==5 then some (.exit 0,qkM w a v Q r) else bif rdE r==0 then
  (bif qC9 Q 24 then (bif decide (0≤rdN r)&&(decide (rdN r≤(r.size:Int))&&decide ((r.size:Int)≤(r.size:Int))) then qaj ΓJa Tryz.prog L0 (qav 2 0 qjW) qct k (qkM w a v (Q++[fr r]) (r.extract (rdN r).toNat r.size)) qxp else none) else none) else
  (bif decide ((0:Int)≤1)&&(decide (1≤(r.size:Int))&&decide ((r.size:Int)≤(r.size:Int))) then qaj ΓJa Tryz.prog L0 (qav 2 0 qjW) qct k (qkM w a (qap a v 1) Q (r.extract (Int.toNat 1) r.size)) qxp else none))
 else some (.exit 0,qkM w a v Q r):=by kernel_rfl
def qtz:Nat→ByteArray→List (List Dat)×ByteArray×Nat
 | 0,s=>([],s,0)
 | n+1,s=>if rdE s=5 then ([],s,0) else if rdE s=0 then (fr s::(qtz n (s.extract (rdN s).toNat s.size)).1,(qtz n (s.extract (rdN s).toNat s.size)).2) else
  ((qtz n (s.extract 1 s.size)).1,(qtz n (s.extract 1 s.size)).2.1,(qtz n (s.extract 1 s.size)).2.2+1)
theorem qa6 {s:ByteArray} {n:Nat} (h:n≤s.size):(s.extract n s.size).size=s.size - n:=by
 rw [ByteArray.size_extract];omega
theorem qef:∀ (n m:Nat) (s:ByteArray),s.size<n→s.size<m→qtz n s=qtz m s
 | 0,_,_,h,_=>by omega
 | _+1,0,_,_,h=>by omega
 | n+1,m+1,s,h1,h2=>by
  unfold qtz
  by_cases h5:rdE s=5
  ·rw [if_pos h5,if_pos h5]
  rw [if_neg h5,if_neg h5]
  by_cases h0:rdE s=0
  ·obtain ⟨g1,g2,_⟩:=qld h0
   rw [if_pos h0,if_pos h0,qef n m _ (by rw [qa6 g1];omega) (by rw [qa6 g1];omega)]
  ·have:=qeP h5
   rw [if_neg h0,if_neg h0,qef n m _ (by rw [qa6 (by omega)];omega) (by rw [qa6 (by omega)];omega)]
def qgO (s:ByteArray):List (List Dat)×ByteArray×Nat:=qtz (s.size+1) s
theorem qhM (s:ByteArray):qgO s=if rdE s=5 then ([],s,0) else if rdE s=0 then (fr s::(qgO (s.extract (rdN s).toNat s.size)).1,(qgO (s.extract (rdN s).toNat s.size)).2) else
  ((qgO (s.extract 1 s.size)).1,(qgO (s.extract 1 s.size)).2.1,(qgO (s.extract 1 s.size)).2.2+1):=by
 unfold qgO
 rw [qtz]
 by_cases h5:rdE s=5
 ·rw [if_pos h5,if_pos h5]
 rw [if_neg h5,if_neg h5]
 by_cases h0:rdE s=0
 ·obtain ⟨g1,g2,_⟩:=qld h0
  rw [if_pos h0,if_pos h0,qef s.size ((s.extract (rdN s).toNat s.size).size+1) _ (by rw [qa6 g1];omega) (by omega)]
 ·have:=qeP h5
  rw [if_neg h0,if_neg h0,qef s.size ((s.extract 1 s.size).size+1) _ (by rw [qa6 (by omega)];omega) (by omega)]
def scF (s:ByteArray):List (List Dat):=(qgO s).1
def sR (s:ByteArray):ByteArray:=(qgO s).2.1
def sD (s:ByteArray):Nat:=(qgO s).2.2
theorem qpL {s:ByteArray} (h:rdE s=5):scF s=[]∧sR s=s∧sD s=0:=by
 unfold scF sR sD
 rw [qhM,if_pos h]
 exact ⟨rfl,rfl,rfl⟩
theorem qpN {s:ByteArray} (h:rdE s=0):scF s=fr s::scF (s.extract (rdN s).toNat s.size)∧sR s=sR (s.extract (rdN s).toNat s.size)∧sD s=sD (s.extract (rdN s).toNat s.size):=by
 unfold scF sR sD
 rw [qhM,if_neg (by omega),if_pos h]
 exact ⟨rfl,rfl,rfl⟩
theorem qpM {s:ByteArray} (h5:rdE s≠5) (h:rdE s≠0):scF s=scF (s.extract 1 s.size)∧sR s=sR (s.extract 1 s.size)∧sD s=sD (s.extract 1 s.size)+1:=by
 unfold scF sR sD
 rw [qhM,if_neg h5,if_neg h]
 exact ⟨rfl,rfl,rfl⟩
theorem qee {Q:ByteArray→Prop} (h5:∀ s,rdE s=5→Q s) (h0:∀ s,rdE s=0→Q (s.extract (rdN s).toNat s.size)→Q s) (h1:∀ s,rdE s≠5→rdE s≠0→Q (s.extract 1 s.size)→Q s):∀ s,Q s:=by
 have:∀ (n:Nat) (s:ByteArray),s.size<n→Q s:=by
  intro n
  induction n with
  | zero=>intro s h;omega
  | succ n ih =>
   intro s h
   by_cases e5:rdE s=5
   ·exact h5 s e5
   by_cases e0:rdE s=0
   ·obtain ⟨g1,g2,_⟩:=qld e0
    exact h0 s e0 (ih _ (by rw [qa6 g1];omega))
   ·have:=qeP e5
    exact h1 s e5 e0 (ih _ (by rw [qa6 (by omega)];omega))
 exact fun s=>this (s.size+1) s (by omega)
theorem qt3:∀ s,rdE (sR s)=5:=by
 refine qee (fun s h=>?_) (fun s h ih=>?_) (fun s h h' ih=>?_)
 ·rw [(qpL h).2.1];exact h
 ·rw [(qpN h).2.1];exact ih
 ·rw [(qpM h h').2.1];exact ih
theorem qpP (s:ByteArray):(sR s).size<70:=qvc (qt3 s)
theorem qpQ:∀ s,(scF s).length≤s.size:=by
 refine qee (fun s h=>?_) (fun s h ih=>?_) (fun s h h' ih=>?_)
 ·rw [(qpL h).1];exact Nat.zero_le _
 ·rw [(qpN h).1,List.length_cons]
  obtain ⟨g1,g2,_⟩:=qld h
  have:=qa6 g1
  omega
 ·rw [(qpM h h').1]
  have:=qa6 (s:=s) (n:=1) (qeP h)
  omega
def sat (v d:Nat):Nat:=min (v+d) 1000000
theorem qte {v n:Nat} (h:v≤1000000):qap 1000000 (v:Int) (n:Int)=((sat v n:Nat):Int):=by
 have e:qat (n:Int) (1000000 - (v:Int))=((min n (1000000 - v):Nat):Int):=by
  unfold qat
  repeat' split
  all_goals omega
 unfold qap sat
 rw [qaw (n:=1000000 - (v:Int)) (by omega),e,qaw (by omega)]
 omega
theorem qmO (v d:Nat):sat v d≤1000000:=Nat.min_le_right _ _
theorem qyV (v d e:Nat):sat (sat v d) e=sat v (d+e):=by unfold sat;omega
theorem qmN {v:Nat} (h:v≤1000000):sat v 0=v:=by unfold sat;omega
theorem qqv {Q:List (List Dat)} {b:Nat} (h:Q.length<1099511627776) (hb:b≤100):qC9 Q b=true:=by
 unfold qC9
 have:(Q.length+1)*b≤1099511627776*100:=Nat.mul_le_mul (by omega) hb
 exact decide_eq_true (by omega)
theorem qs8 (r:ByteArray):(!(r.toList==(⟨#[]⟩:ByteArray).toList))=decide (0<r.size):=by
 rw [qkA]
 by_cases h:r=⟨#[]⟩
 ·subst h;rfl
 ·have h0:0<r.size:=by
   apply Classical.byContradiction
   intro hn
   refine h (qiW.1 ?_)
   have:(L r).length=0:=by rw [qgJ];omega
   exact List.eq_nil_of_length_eq_zero this
  rw [decide_eq_true h0,Bool.eq_false_iff.2 (fun hc=>h ((qHI _ _).1 hc))]
  rfl
theorem qwO {α:Type} (E:Nat→Int→List (List Dat)→ByteArray→Option α) (F:Int→List (List Dat)→ByteArray→α)
  (hE:∀ k v Q r,E (k+1) v Q r=bif !(r.toList==(⟨#[]⟩:ByteArray).toList) then (bif rdE r==5 then some (F v Q r) else bif rdE r==0 then
   (bif qC9 Q 24 then (bif decide (0≤rdN r)&&(decide (rdN r≤(r.size:Int))&&decide ((r.size:Int)≤(r.size:Int))) then E k v (Q++[fr r]) (r.extract (rdN r).toNat r.size) else none) else none) else
   (bif decide ((0:Int)≤1)&&(decide (1≤(r.size:Int))&&decide ((r.size:Int)≤(r.size:Int))) then E k (qap 1000000 v 1) Q (r.extract (Int.toNat 1) r.size) else none)) else some (F v Q r)) :
  ∀ (r:ByteArray) (k v:Nat) (Q:List (List Dat)),r.size<k→v≤1000000→Q.length+r.size<1099511627776→E k (v:Int) Q r=some (F ((sat v (sD r):Nat):Int) (Q++scF r) (sR r)):=by
 refine qee (fun s h k v Q hk hv hq=>?_) (fun s h ih k v Q hk hv hq=>?_) (fun s h h' ih k v Q hk hv hq=>?_)
 ·obtain ⟨e1,e2,e3⟩:=qpL h
  cases k with
  | zero=>omega
  | succ k =>
   rw [hE,h,e1,e2,e3,qmN hv,List.append_nil]
   cases (!(s.toList==(⟨#[]⟩:ByteArray).toList))<;>rfl
 ·obtain ⟨g1,g2,g3,_⟩:=qld h
  obtain ⟨e1,e2,e3⟩:=qpN h
  have hsz:=qa6 g1
  cases k with
  | zero=>omega
  | succ k =>
   rw [hE,qs8,decide_eq_true (show 0<s.size by omega),show (rdE s==5)=false from by rw [h];rfl,show (rdE s==0)=true from by rw [h];rfl,qqv (by omega) (by omega),decide_eq_true (show 0≤rdN s by omega),decide_eq_true (show rdN s≤(s.size:Int) by omega),decide_eq_true (Int.le_refl (s.size:Int))]
   simp only [cond_true,cond_false,Bool.and_self]
   rw [ih k v (Q++[fr s]) (by omega) hv (by simp only [List.length_append,List.length_cons,List.length_nil];omega),e1,e2,e3,List.append_assoc]
   rfl
 ·have hp:=qeP h
  obtain ⟨e1,e2,e3⟩:=qpM h h'
  have hsz:=qa6 (s:=s) (n:=1) hp
  cases k with
  | zero=>omega
  | succ k =>
   rw [hE,qs8,decide_eq_true hp,show (rdE s==5)=false from beq_eq_false_iff_ne.2 h,show (rdE s==0)=false from beq_eq_false_iff_ne.2 h',decide_eq_true (show (1:Int)≤(s.size:Int) by omega),decide_eq_true (Int.le_refl (s.size:Int)),decide_eq_true (show (0:Int)≤1 by omega)]
   simp only [cond_true,cond_false,Bool.and_self]
   rw [show qap 1000000 (v:Int) 1=((sat v 1:Nat):Int) from qte (n:=1) hv,show Int.toNat 1=1 from rfl,ih k (sat v 1) Q (by omega) (qmO _ _) (by omega),e1,e2,e3,qyV,Nat.add_comm 1]
end Go.Proofs.YtainfdcfkgemhaaGreat
namespace Go.Proofs.YtainfdcfkgemhaaGreat
open Go Go.Proofs Go.Sx
set_option linter.unusedVariables false
def qC3 (vals:List SV) (m:Mem):Option (Bool×Ex×St) :=
 match vals,m with
 | [.ptr 0 0,.row 0,.v (.string r)],⟨[[.v (.string w),.ptr 1 0],[.v (.int .i64 a),.v (.int .i64 v)]],[true,true],[.live ⟨284,[.num .i64,.str],Q,true,false⟩]⟩ =>
  some (a==1000000&&(inN 1000001 v&&Nat.ble (Q.length+r.size) 1099511627775),.exit 0,qkM w a ((sat v.toNat (sD r):Nat):Int) (Q++scF r) (sR r))
 | _,_=>none
def ΛFeed:qao:=fun _ st=>qeb 2 0 qjW qC3 st
theorem qoD (z:Base) (h1:z.L.length=2) (h2:z.U.length=0):qas ΛFeed Tryz.prog z qct:=by
 refine qaF (Λ:=L0) (kx:=fun _=>qjW) qJj mixed h1 h2 (fun b hb=>by rw [qoz] at hb;cases hb) (G:=qC3) (fun _=>rfl) ?_
 intro vals m e st' h
 unfold qC3 at h
 split at h
 ·rename_i r w a v Q
  obtain ⟨hg,rfl,rfl⟩:=qaf h
  simp only [Bool.and_eq_true,beq_iff_eq] at hg
  obtain ⟨rfl,hv,hq⟩:=hg
  obtain ⟨n,rfl,hn⟩:=qgn hv
  have hq:=Nat.le_of_ble_eq_true hq
  exact ⟨r.size+1,qwO (fun k v Q r=>qaj ΓJa Tryz.prog L0 (qav 2 0 qjW) qct k (qkM w 1000000 v Q r) qxp) (fun v Q r=>(.exit 0,qkM w 1000000 v Q r)) (fun k v Q r=>qtW k w 1000000 v Q r) r (r.size+1) n Q (by omega) (by omega) (by omega)⟩
 ·cases h
def qdK (w s:ByteArray) (a v:Int):Bool:=a==1000000&&(inN 1000001 v&&Nat.ble (w.size+s.size) 1099511627775)
theorem qzw (w s:ByteArray) (a v:Int):runG ΓJa ΛFeed Tryz.prog Tryz.f139 [.ptr 0 0,.v (S s)] (MS w a v) =
 bif Nat.ble (w.size+s.size) 9223372036854775807 then (bif a==1000000&&(inN 1000001 v&&Nat.ble (([]:List (List Dat)).length+(w++s).size) 1099511627775) then
  (bif decide (0≤(if wI (((sR (w++s)).size:Int) - 1024)>0 then wI (((sR (w++s)).size:Int) - 1024) else 0))&&(decide ((if wI (((sR (w++s)).size:Int) - 1024)>0 then wI (((sR (w++s)).size:Int) - 1024) else 0)≤((sR (w++s)).size:Int))&&decide (((sR (w++s)).size:Int)≤((sR (w++s)).size:Int))) then
   (bif Nat.ble ((sR (w++s)).extract (if wI (((sR (w++s)).size:Int) - 1024)>0 then wI (((sR (w++s)).size:Int) - 1024) else 0).toNat (sR (w++s)).size).size 281474976710656 then
    some (.row 0,MF 284 ((sR (w++s)).extract (if wI (((sR (w++s)).size:Int) - 1024)>0 then wI (((sR (w++s)).size:Int) - 1024) else 0).toNat (sR (w++s)).size) a (qap a ((sat v.toNat (sD (w++s)):Nat):Int) (if wI (((sR (w++s)).size:Int) - 1024)>0 then wI (((sR (w++s)).size:Int) - 1024) else 0)) ([]++scF (w++s))) else none) else none) else none) else none:=by kernel_rfl
theorem qCe {w s:ByteArray} {v:Int} (hv:inN 1000001 v=true) (hs:Nat.ble (w.size+s.size) 1099511627775=true):runG ΓJa ΛFeed Tryz.prog Tryz.f139 [.ptr 0 0,.v (S s)] (MS w 1000000 v) =
  some (.row 0,MF 284 (sR (w++s)) 1000000 ((sat v.toNat (sD (w++s)):Nat):Int) (scF (w++s))):=by
 refine (qzw w s 1000000 v).trans ?_
 have hs':=Nat.le_of_ble_eq_true hs
 have hsz:(w++s).size=w.size+s.size:=ByteArray.size_append
 have hR:=qpP (w++s)
 have e0:(if wI (((sR (w++s)).size:Int) - 1024)>0 then wI (((sR (w++s)).size:Int) - 1024) else 0)=0:=by
  rw [qaw (by omega),if_neg (by omega)]
 obtain ⟨n,rfl,hn⟩:=qgn hv
 rw [e0,hsz,show ([]:List (List Dat)).length+(w.size+s.size)=w.size+s.size from Nat.zero_add _,hs,hv,Nat.ble_eq_true_of_le (show w.size+s.size≤9223372036854775807 by omega),show ((0:Int)).toNat=0 from rfl,qCg,
  Nat.ble_eq_true_of_le (show (sR (w++s)).size≤281474976710656 by omega),decide_eq_true (show (0:Int)≤((sR (w++s)).size:Int) by omega),decide_eq_true (Int.le_refl ((sR (w++s)).size:Int)),show qap 1000000 ((sat ((n:Int)).toNat (sD (w++s)):Nat):Int) 0=((sat ((n:Int)).toNat (sD (w++s)):Nat):Int) from (qte (n:=0) (qmO _ _)).trans (by rw [qmN (qmO _ _)])]
 rfl
def qwA (xs:List SV) (m:Mem):Option (Bool×SV×Mem) :=
 match xs,m with
 | [.ptr 0 0,.v (.string s)],⟨[[.v (.string w),.ptr 1 0],[.v (.int .i64 a),.v (.int .i64 v)]],[true,true],[]⟩=>some (qdK w s a v,.row 0,MF 284 (sR (w++s)) 1000000 ((sat v.toNat (sD (w++s)):Nat):Int) (scF (w++s)))
 | [.v (.pointer none),.v (.string s)],⟨[],[],[]⟩=>some (true,.row 0,⟨[],[],[frT 284 []]⟩)
 | _,_=>none
theorem qtS (z:Base):qas ΛFeed Tryz.prog z qct→∀ b∈qak (Tryz.f139.body.getD .skip),qas ΛFeed Tryz.prog z b:=fun h=>qax qq9 h
theorem qk9 (s:ByteArray):runG ΓJa L0 Tryz.prog Tryz.f139 [.v qOd,.v (S s)] M0=some (.row 0,⟨[],[],[frT 284 []]⟩):=by kernel_rfl
theorem qzR (s:ByteArray):qaB Tryz.prog 139 [.v qOd,.v (S s)] M0 (.row 0) ⟨[],[],[frT 284 []]⟩ :=
 qal (c:=Tryz.f139.body.getD .skip) (Λ:=L0) qJj Tryz.func139 rfl (fun z h1 h2 b hb st t h=>by cases h) (qk9 s)
theorem qfM:CtC 139 qwA:=by
 intro xs m r m' h
 unfold qwA at h
 split at h
 ·rename_i s w a v
  obtain ⟨hg,rfl,rfl⟩:=qaf h
  unfold qdK at hg
  simp only [Bool.and_eq_true,beq_iff_eq] at hg
  obtain ⟨rfl,hv,hs⟩:=hg
  refine qal (c:=Tryz.f139.body.getD .skip) (Λ:=ΛFeed) qJj Tryz.func139 rfl (fun z h1 h2=>qtS z (qoD z h1 h2)) (qCe hv hs)
 ·rename_i s
  obtain ⟨_,rfl,rfl⟩:=qaf h
  exact qzR s
 ·cases h
def ΓM1:Orc:=qau 139 qwA ΓJa
theorem qNy:ΓM1.Ok Tryz.prog:=qad qJj qfM
def qjV:List Bool:=qam 37 [0,5,6]
def qcX:Code:=qaH (Tryz.f62.body.getD .skip) 0
theorem qq6:qak (Tryz.f62.body.getD .skip)=[qcX]:=by kernel_rfl
theorem qoy:qak qcX=[]:=by kernel_rfl
def qxo (e:Ex) (st:St):Option (Ex×St):=some (e,qav 0 0 qjV st)
def qkL (d:Int) (Q:List (List Dat)) (r:ByteArray):St:=mk qjV [.v (S r),.row 0,.v (I d)] ⟨[],[],[frT 151 Q]⟩
theorem qtV (k:Nat) (d:Int) (Q:List (List Dat)) (r:ByteArray):qaj ΓM1 Tryz.prog L0 (qav 0 0 qjV) qcX (k+1) (qkL d Q r) qxo =
 bif decide ((r.size:Int)>0) then (bif rdE r==5 then some (.exit 0,qkL d Q r) else bif rdE r==0 then
  (bif qC9 Q 24 then (bif decide (0≤rdN r)&&(decide (rdN r≤(r.size:Int))&&decide ((r.size:Int)≤(r.size:Int))) then qaj ΓM1 Tryz.prog L0 (qav 0 0 qjV) qcX k (qkL d (Q++[fr r]) (r.extract (rdN r).toNat r.size)) qxo else none) else none) else
  (bif decide ((0:Int)≤1)&&(decide (1≤(r.size:Int))&&decide ((r.size:Int)≤(r.size:Int))) then qaj ΓM1 Tryz.prog L0 (qav 0 0 qjV) qcX k (qkL (wI (d+1)) Q (r.extract (Int.toNat 1) r.size)) qxo else none))
 else some (.exit 0,qkL d Q r):=by kernel_rfl
theorem qt1 {α:Type} (E:Nat→Int→List (List Dat)→ByteArray→Option α) (F:Int→List (List Dat)→ByteArray→α)
  (hE:∀ k v Q r,E (k+1) v Q r=bif decide ((r.size:Int)>0) then (bif rdE r==5 then some (F v Q r) else bif rdE r==0 then
   (bif qC9 Q 24 then (bif decide (0≤rdN r)&&(decide (rdN r≤(r.size:Int))&&decide ((r.size:Int)≤(r.size:Int))) then E k v (Q++[fr r]) (r.extract (rdN r).toNat r.size) else none) else none) else
   (bif decide ((0:Int)≤1)&&(decide (1≤(r.size:Int))&&decide ((r.size:Int)≤(r.size:Int))) then E k (wI (v+1)) Q (r.extract (Int.toNat 1) r.size) else none)) else some (F v Q r)) :
  ∀ (r:ByteArray) (k v:Nat) (Q:List (List Dat)),r.size<k→v+r.size<1099511627776→Q.length+r.size<1099511627776→E k (v:Int) Q r=some (F ((v+sD r:Nat):Int) (Q++scF r) (sR r)):=by
 refine qee (fun s h k v Q hk hv hq=>?_) (fun s h ih k v Q hk hv hq=>?_) (fun s h h' ih k v Q hk hv hq=>?_)
 ·obtain ⟨e1,e2,e3⟩:=qpL h
  cases k with
  | zero=>omega
  | succ k =>
   rw [hE,h,e1,e2,e3,Nat.add_zero,List.append_nil]
   cases decide ((s.size:Int)>0)<;>rfl
 ·obtain ⟨g1,g2,g3,_⟩:=qld h
  obtain ⟨e1,e2,e3⟩:=qpN h
  have hsz:=qa6 g1
  cases k with
  | zero=>omega
  | succ k =>
   rw [hE,decide_eq_true (show (s.size:Int)>0 by omega),show (rdE s==5)=false from by rw [h];rfl,show (rdE s==0)=true from by rw [h];rfl,qqv (by omega) (by omega),decide_eq_true (show 0≤rdN s by omega),decide_eq_true (show rdN s≤(s.size:Int) by omega),decide_eq_true (Int.le_refl (s.size:Int))]
   simp only [cond_true,cond_false,Bool.and_self]
   rw [ih k v (Q++[fr s]) (by omega) (by omega) (by simp only [List.length_append,List.length_cons,List.length_nil];omega),e1,e2,e3,List.append_assoc]
   rfl
 ·have hp:=qeP h
  obtain ⟨e1,e2,e3⟩:=qpM h h'
  have hsz:=qa6 (s:=s) (n:=1) hp
  cases k with
  | zero=>omega
  | succ k =>
   rw [hE,decide_eq_true (show (s.size:Int)>0 by omega),show (rdE s==5)=false from beq_eq_false_iff_ne.2 h,show (rdE s==0)=false from beq_eq_false_iff_ne.2 h',decide_eq_true (show (1:Int)≤(s.size:Int) by omega),decide_eq_true (Int.le_refl (s.size:Int)),decide_eq_true (show (0:Int)≤1 by omega)]
   simp only [cond_true,cond_false,Bool.and_self]
   rw [qaw (by omega),show ((v:Int)+1)=((v+1:Nat):Int) by omega,show Int.toNat 1=1 from rfl,ih k (v+1) Q (by omega) (by omega) (by omega),e1,e2,e3,show v+1+sD (s.extract 1 s.size)=v+(sD (s.extract 1 s.size)+1) by omega]
def qC2 (vals:List SV) (m:Mem):Option (Bool×Ex×St) :=
 match vals,m with
 | [.v (.string r),.row 0,.v (.int .i64 d)],⟨[],[],[.live ⟨151,[.num .i64,.str],Q,true,false⟩]⟩ =>
  some (inN 1000001 d&&(Nat.ble r.size 1000000&&Nat.ble Q.length 1000000),.exit 0,qkL ((d.toNat+sD r:Nat):Int) (Q++scF r) (sR r))
 | _,_=>none
def ΛScan:qao:=fun _ st=>qeb 0 0 qjV qC2 st
theorem qoC (z:Base) (h1:z.L.length=0) (h2:z.U.length=0):qas ΛScan Tryz.prog z qcX:=by
 refine qaF (Λ:=L0) (kx:=fun _=>qjV) qNy mixed h1 h2 (fun b hb=>by rw [qoy] at hb;cases hb) (G:=qC2) (fun _=>rfl) ?_
 intro vals m e st' h
 unfold qC2 at h
 split at h
 ·rename_i r d Q
  obtain ⟨hg,rfl,rfl⟩:=qaf h
  simp only [Bool.and_eq_true] at hg
  obtain ⟨hv,hr,hq⟩:=hg
  obtain ⟨n,rfl,hn⟩:=qgn hv
  have hr:=Nat.le_of_ble_eq_true hr
  have hq:=Nat.le_of_ble_eq_true hq
  exact ⟨r.size+1,qt1 (fun k v Q r=>qaj ΓM1 Tryz.prog L0 (qav 0 0 qjV) qcX k (qkL v Q r) qxo) (fun v Q r=>(.exit 0,qkL v Q r)) (fun k v Q r=>qtV k v Q r) r (r.size+1) n Q (by omega) (by omega) (by omega)⟩
 ·cases h
theorem qy8 (s:ByteArray):runG ΓM1 ΛScan Tryz.prog Tryz.f62 [.v (S s)] M0 =
 bif inN 1000001 0&&(Nat.ble s.size 1000000&&Nat.ble ([]:List (List Dat)).length 1000000) then some (.tup [.one (.row 0),.one (.v (S (sR s))),.one (.v (I ((Int.toNat 0+sD s:Nat):Int)))],⟨[],[],[frT 151 ([]++scF s)]⟩) else none:=by kernel_rfl
def qAU (xs:List SV) (m:Mem):Option (Bool×SV×Mem) :=
 match xs,m with
 | [.v (.string s)],⟨[],[],[]⟩=>some (Nat.ble s.size 1000000,.tup [.one (.row 0),.one (.v (S (sR s))),.one (.v (I ((sD s:Nat):Int)))],⟨[],[],[frT 151 (scF s)]⟩)
 | _,_=>none
theorem qwf:CtC 62 qAU:=by
 intro xs m r m' h
 unfold qAU at h
 split at h
 ·rename_i s
  obtain ⟨hg,rfl,rfl⟩:=qaf h
  refine qal (c:=Tryz.f62.body.getD .skip) (Λ:=ΛScan) qNy Tryz.func62 rfl (fun z h1 h2=>qax qq6 (qoC z h1 h2)) ((qy8 s).trans ?_)
  rw [hg,show Int.toNat 0+sD s=sD s from Nat.zero_add _]
  rfl
 ·cases h
def ΓM2:Orc:=qau 62 qAU ΓM1
theorem qPt:ΓM2.Ok Tryz.prog:=qad qNy qwf
end Go.Proofs.YtainfdcfkgemhaaGreat
namespace Go.Proofs.YtainfdcfkgemhaaGreat
open Go Go.Proofs Go.Sx
set_option linter.unusedVariables false
theorem qdR (k:Int) (p:ByteArray):(printB k p).size≤70:=by
 unfold printB
 cases h:qb9 k p with
 | false=>exact Nat.zero_le _
 | true =>
  have:=qeL h
  have:=qvd k p
  show (prt k p).size≤70
  omega
end Go.Proofs.YtainfdcfkgemhaaGreat
namespace Go.Proofs.YtainfdcfkgemhaaGreat
open Go Go.Proofs Go.Sx
set_option linter.unusedVariables false
def qN7 (a b c d e f g q:Int):Mem:=⟨[[.v (I a),.v (I b),.v (I c),.v (I d),.v (I e),.v (I f),.v (I g),.v (I q)]],[true],[]⟩
theorem qw9 (b X:Bool):(bif b then some (SV.v (Bo false),M0) else some (SV.v (Bo X),M0))=some (SV.v (Bo (!b&&X)),M0):=by cases b<;>rfl
theorem qMC (b X:Bool):(bif b then some (SV.v (Bo X),M0) else some (SV.v (Bo false),M0))=some (SV.v (Bo (b&&X)),M0):=by cases b<;>rfl
def qtB (a b c d e f g q:Int):Bool:=decide (0≤a∧a≤65535∧0≤b∧b≤255∧-2147483648≤c∧c≤2147483647∧-2147483648≤d∧d≤2147483647∧-2147483648≤e∧e≤2147483647∧-2147483648≤f∧f≤2147483647∧-2147483648≤g∧g≤2147483647∧-2147483648≤q∧q≤2147483647)
theorem qk6 (a b c d e f g q:Int):runG ΓM2 L0 Tryz.prog Tryz.f181 [.ptr 0 0] (qN7 a b c d e f g q)=some (.ag [.ptr 0 2,.ptr 0 3,.ptr 0 4,.ptr 0 5,.ptr 0 6,.ptr 0 7],qN7 a b c d e f g q):=by kernel_rfl
def qiB (xs:List SV) (m:Mem):Option (Bool×SV×Mem) :=
 match xs,m with
 | [.ptr 0 0],⟨[[.v (.int .i64 a),.v (.int .i64 b),.v (.int .i64 c),.v (.int .i64 d),.v (.int .i64 e),.v (.int .i64 f),.v (.int .i64 g),.v (.int .i64 q)]],[true],[]⟩=>some (true,.ag [.ptr 0 2,.ptr 0 3,.ptr 0 4,.ptr 0 5,.ptr 0 6,.ptr 0 7],qN7 a b c d e f g q)
 | _,_=>none
theorem qlU:CtC 181 qiB:=by
 intro xs m r m' h
 unfold qiB at h
 split at h
 ·rename_i a b c d e f g q
  obtain ⟨h1,rfl,rfl⟩:=qaf h
  refine qal (Λ:=L0) qPt Tryz.func181 rfl (fun z _ _=>qdV _ z) ?_
  exact (qk6 a b c d e f g q).trans (rfl)
 ·cases h
def ΓN1:Orc:=qau 181 qiB ΓM2
theorem OkN1:ΓN1.Ok Tryz.prog:=qad qPt qlU
theorem qjm (a b c d e f g q:Int):runG ΓN1 L0 Tryz.prog Tryz.f267 [.v (.agg #[I a,I b,I c,I d,I e,I f,I g,I q])] M0=some (.row 0,⟨[],[],[.live ⟨2,[.num .i64],[[.n c],[.n d],[.n e],[.n f],[.n g],[.n q]],true,false⟩]⟩):=by kernel_rfl
def qgr (xs:List SV) (m:Mem):Option (Bool×SV×Mem) :=
 match xs,m with
 | [.v (.agg ⟨[.int .i64 a,.int .i64 b,.int .i64 c,.int .i64 d,.int .i64 e,.int .i64 f,.int .i64 g,.int .i64 q]⟩)],⟨[],[],[]⟩=>some (true,.row 0,⟨[],[],[.live ⟨2,[.num .i64],[[.n c],[.n d],[.n e],[.n f],[.n g],[.n q]],true,false⟩]⟩)
 | _,_=>none
theorem qj4:CtC 267 qgr:=by
 intro xs m r m' h
 unfold qgr at h
 split at h
 ·rename_i a b c d e f g q
  obtain ⟨h1,rfl,rfl⟩:=qaf h
  refine qal (Λ:=L0) OkN1 Tryz.func267 rfl (fun z _ _=>qdV _ z) ?_
  exact (qjm a b c d e f g q).trans (rfl)
 ·cases h
def ΓN2:Orc:=qau 267 qgr ΓN1
theorem qPq:ΓN2.Ok Tryz.prog:=qad OkN1 qj4
theorem qp5 (a b c d e f g q:Int):runG ΓN2 L0 Tryz.prog Tryz.f180 [.v (.agg #[I a,I b,I c,I d,I e,I f,I g,I q])] M0=bif decide (a<0) then some (.v (Bo false),M0) else (bif decide (a>65535) then some (.v (Bo false),M0) else (bif decide (b<0) then some (.v (Bo false),M0) else (bif decide (b>255) then some (.v (Bo false),M0) else (bif decide (c< -2147483648) then some (.v (Bo false),M0) else (bif decide (c>2147483647) then some (.v (Bo false),M0) else (bif decide (d< -2147483648) then some (.v (Bo false),M0) else (bif decide (d>2147483647) then some (.v (Bo false),M0) else (bif decide (e< -2147483648) then some (.v (Bo false),M0) else (bif decide (e>2147483647) then some (.v (Bo false),M0) else (bif decide (f< -2147483648) then some (.v (Bo false),M0) else (bif decide (f>2147483647) then some (.v (Bo false),M0) else (bif decide (g< -2147483648) then some (.v (Bo false),M0) else (bif decide (g>2147483647) then some (.v (Bo false),M0) else (bif decide (q< -2147483648) then some (.v (Bo false),M0) else (bif decide (q>2147483647) then some (.v (Bo false),M0) else (some (.v (Bo true),M0))))))))))))))))):=by kernel_rfl
def qlW (vs:List Value):Option (Bool×Value) :=
 match vs with
 | [.agg ⟨[.int .i64 a,.int .i64 b,.int .i64 c,.int .i64 d,.int .i64 e,.int .i64 f,.int .i64 g,.int .i64 q]⟩]=>some (true,Bo (qtB a b c d e f g q))
 | _=>none
theorem qoT:CtV 180 qlW:=by
 intro vs r h
 unfold qlW at h
 split at h
 ·rename_i a b c d e f g q
  obtain ⟨h1,rfl⟩:=qac h
  refine qaA (vs:=[.agg #[I a,I b,I c,I d,I e,I f,I g,I q]]) (Λ:=L0) (m':=M0) qPq Tryz.func180 rfl (fun z _ _=>qdV _ z) ?_
  exact (qp5 a b c d e f g q).trans (by
   simp only [qw9]
   congr 4
   rw [Bool.eq_iff_iff]
   unfold qtB
   simp only [Bool.and_true,Bool.and_eq_true,Bool.not_eq_true',decide_eq_false_iff_not,decide_eq_true_eq]
   omega)
 ·cases h
def ΓN3:Orc:=qah 180 qlW ΓN2
theorem qPp:ΓN3.Ok Tryz.prog:=qaa qPq qoT
theorem qod (a b c d e f g q:Int):runG ΓN3 L0 Tryz.prog Tryz.f266 [.v (.agg #[I a,I b,I c,I d,I e,I f,I g,I q])] M0=bif decide (c< -2147483648) then some (.v (Bo false),M0) else (bif decide (c>2147483647) then some (.v (Bo false),M0) else (bif decide (d< -2147483648) then some (.v (Bo false),M0) else (bif decide (d>2147483647) then some (.v (Bo false),M0) else (bif decide (e< -2147483648) then some (.v (Bo false),M0) else (bif decide (e>2147483647) then some (.v (Bo false),M0) else (bif decide (f< -2147483648) then some (.v (Bo false),M0) else (bif decide (f>2147483647) then some (.v (Bo false),M0) else (bif decide (g< -2147483648) then some (.v (Bo false),M0) else (bif decide (g>2147483647) then some (.v (Bo false),M0) else (bif decide (q< -2147483648) then some (.v (Bo false),M0) else (bif decide (q>2147483647) then some (.v (Bo false),M0) else (bif decide (a≥0) then (bif decide (a≤65535) then (bif decide (b≥0) then some (.v (Bo (decide (b≤255))),M0) else some (.v (Bo false),M0)) else some (.v (Bo false),M0)) else some (.v (Bo false),M0))))))))))))):=by kernel_rfl
def qiy (vs:List Value):Option (Bool×Value) :=
 match vs with
 | [.agg ⟨[.int .i64 a,.int .i64 b,.int .i64 c,.int .i64 d,.int .i64 e,.int .i64 f,.int .i64 g,.int .i64 q]⟩]=>some (true,Bo (qtB a b c d e f g q))
 | _=>none
theorem qlQ:CtV 266 qiy:=by
 intro vs r h
 unfold qiy at h
 split at h
 ·rename_i a b c d e f g q
  obtain ⟨h1,rfl⟩:=qac h
  refine qaA (vs:=[.agg #[I a,I b,I c,I d,I e,I f,I g,I q]]) (Λ:=L0) (m':=M0) qPp Tryz.func266 rfl (fun z _ _=>qdV _ z) ?_
  exact (qod a b c d e f g q).trans (by
   simp only [qw9,qMC]
   congr 4
   rw [Bool.eq_iff_iff]
   unfold qtB
   simp only [Bool.and_eq_true,Bool.not_eq_true',decide_eq_false_iff_not,decide_eq_true_eq]
   omega)
 ·cases h
def ΓN4:Orc:=qah 266 qiy ΓN3
theorem qPo:ΓN4.Ok Tryz.prog:=qaa qPp qlQ
def qde (x y:Int):Int:=IntKind.u64.wrap (IntKind.u64.wrap (if y>x then y else x) - IntKind.u64.wrap (if y<x then y else x))
theorem qu5 (x y:Int):runG ΓN4 L0 Tryz.prog Tryz.f279 [.v (I x),.v (I y)] M0=some (.v (U64 (qde x y)),M0):=by kernel_rfl
def qsE (vs:List Value):Option (Bool×Value) :=
 match vs with
 | [.int .i64 x,.int .i64 y]=>some (true,U64 (qde x y))
 | _=>none
theorem qsD:CtV 279 qsE:=by
 intro vs r h
 unfold qsE at h
 split at h
 ·rename_i x y
  obtain ⟨h1,rfl⟩:=qac h
  refine qaA (vs:=[I x,I y]) (Λ:=L0) (m':=M0) qPo Tryz.func279 rfl (fun z _ _=>qdV _ z) ?_
  exact (qu5 x y).trans (rfl)
 ·cases h
def ΓN5:Orc:=qah 279 qsE ΓN4
theorem OkN5:ΓN5.Ok Tryz.prog:=qaa qPo qsD
def ΓN6:Orc:=ΓN5
theorem OkN6:ΓN6.Ok Tryz.prog:=OkN5
def ΓN7:Orc:=ΓN6
theorem qPn:ΓN7.Ok Tryz.prog:=OkN6
def kindI (x:Int):Int:=if x=0 then 16 else if x=1 then 17 else -1
theorem qzr (x:Int):runG ΓN7 L0 Tryz.prog Tryz.f113 [.v (I x)] M0=bif decide (x<0) then some (.v (I (-1)),M0) else (bif decide (x≥2) then some (.v (I (-1)),M0) else some (.v (I (IntKind.i64.wrap (16+x))),M0)):=by kernel_rfl
def qBB (vs:List Value):Option (Bool×Value) :=
 match vs with
 | [.int .i64 x]=>some (true,I (kindI x))
 | _=>none
theorem qww:CtV 113 qBB:=by
 intro vs r h
 unfold qBB at h
 split at h
 ·rename_i x
  obtain ⟨h1,rfl⟩:=qac h
  refine qaA (vs:=[I x]) (Λ:=L0) (m':=M0) qPn Tryz.func113 rfl (fun z _ _=>qdV _ z) ?_
  exact (qzr x).trans (by
   unfold kindI
   by_cases h0:x=0
   ·subst h0;rfl
   by_cases h2:x=1
   ·subst h2;rfl
   rw [if_neg h0,if_neg h2]
   by_cases h3:x<0
   ·rw [decide_eq_true h3];rfl
   ·rw [decide_eq_false h3,decide_eq_true (show x≥2 by omega)];rfl)
 ·cases h
def ΓN8:Orc:=qah 113 qBB ΓN7
theorem OkN8:ΓN8.Ok Tryz.prog:=qaa qPn qww
def ΓN9:Orc:=ΓN8
theorem qPm:ΓN9.Ok Tryz.prog:=OkN8
def qKM (a b c d e f g q:Int):ByteArray:=((((((be 2 (a)++be 1 (b))++be 4 (c))++be 4 (d))++be 4 (e))++be 4 (f))++be 4 (g))++be 4 (q)
def printT (a b c d e f g q:Int):ByteArray:=bif qtB a b c d e f g q then qKM a b c d e f g q else ⟨#[]⟩
theorem qp6 (a b c d e f g q:Int):runG ΓN9 L0 Tryz.prog Tryz.f114 [.v (.agg #[I a,I b,I c,I d,I e,I f,I g,I q])] M0=bif !qtB a b c d e f g q then some (.v (S ⟨#[]⟩),M0) else (bif Nat.ble ((be 2 (IntKind.u64.wrap a)).size+(be 1 (IntKind.u64.wrap b)).size) 9223372036854775807 then (bif Nat.ble ((be 2 (IntKind.u64.wrap a)++be 1 (IntKind.u64.wrap b)).size+(be 4 (IntKind.u64.wrap c)).size) 9223372036854775807 then (bif Nat.ble (((be 2 (IntKind.u64.wrap a)++be 1 (IntKind.u64.wrap b))++be 4 (IntKind.u64.wrap c)).size+(be 4 (IntKind.u64.wrap d)).size) 9223372036854775807 then (bif Nat.ble ((((be 2 (IntKind.u64.wrap a)++be 1 (IntKind.u64.wrap b))++be 4 (IntKind.u64.wrap c))++be 4 (IntKind.u64.wrap d)).size+(be 4 (IntKind.u64.wrap e)).size) 9223372036854775807 then (bif Nat.ble (((((be 2 (IntKind.u64.wrap a)++be 1 (IntKind.u64.wrap b))++be 4 (IntKind.u64.wrap c))++be 4 (IntKind.u64.wrap d))++be 4 (IntKind.u64.wrap e)).size+(be 4 (IntKind.u64.wrap f)).size) 9223372036854775807 then (bif Nat.ble ((((((be 2 (IntKind.u64.wrap a)++be 1 (IntKind.u64.wrap b))++be 4 (IntKind.u64.wrap c))++be 4 (IntKind.u64.wrap d))++be 4 (IntKind.u64.wrap e))++be 4 (IntKind.u64.wrap f)).size+(be 4 (IntKind.u64.wrap g)).size) 9223372036854775807 then (bif Nat.ble (((((((be 2 (IntKind.u64.wrap a)++be 1 (IntKind.u64.wrap b))++be 4 (IntKind.u64.wrap c))++be 4 (IntKind.u64.wrap d))++be 4 (IntKind.u64.wrap e))++be 4 (IntKind.u64.wrap f))++be 4 (IntKind.u64.wrap g)).size+(be 4 (IntKind.u64.wrap q)).size) 9223372036854775807 then some (.v (S (((((((be 2 (IntKind.u64.wrap a)++be 1 (IntKind.u64.wrap b))++be 4 (IntKind.u64.wrap c))++be 4 (IntKind.u64.wrap d))++be 4 (IntKind.u64.wrap e))++be 4 (IntKind.u64.wrap f))++be 4 (IntKind.u64.wrap g))++be 4 (IntKind.u64.wrap q))),M0) else none) else none) else none) else none) else none) else none) else none):=by kernel_rfl
def qlX (vs:List Value):Option (Bool×Value) :=
 match vs with
 | [.agg ⟨[.int .i64 a,.int .i64 b,.int .i64 c,.int .i64 d,.int .i64 e,.int .i64 f,.int .i64 g,.int .i64 q]⟩]=>some (true,S (printT a b c d e f g q))
 | _=>none
theorem qoU:CtV 114 qlX:=by
 intro vs r h
 unfold qlX at h
 split at h
 ·rename_i a b c d e f g q
  obtain ⟨h1,rfl⟩:=qac h
  refine qaA (vs:=[.agg #[I a,I b,I c,I d,I e,I f,I g,I q]]) (Λ:=L0) (m':=M0) qPm Tryz.func114 rfl (fun z _ _=>qdV _ z) ?_
  exact (qp6 a b c d e f g q).trans (by
   unfold printT
   cases qtB a b c d e f g q with
   | false=>rfl
   | true =>
    simp only [qiP,qxa,qfO,ByteArray.size_append,qiQ]
    rfl)
 ·cases h
def ΓN10:Orc:=qah 114 qlX ΓN9
theorem qIp:ΓN10.Ok Tryz.prog:=qaa qPm qoU
theorem qKC (x:Int) (j k:Nat) (h:(2:Int) ^ min (Int.toNat (8*k:Nat)) 32=256 ^ k) (hj:j=8*k) (hk:k≤3):IntKind.u8.wrap ((IntKind.u32.wrap x).fdiv (2 ^ min (Int.toNat (j:Nat)) 32))=x / 256 ^ k % 256:=by
 subst hj
 rw [h,Int.fdiv_eq_ediv_of_nonneg _ (Int.le_of_lt (Int.pow_pos (by decide))),← qbr true,← qbr true]
 simp only [wr]
 have:k=0∨k=1∨k=2∨k=3:=by omega
 rcases this with rfl|rfl|rfl|rfl<;>omega
theorem qDa (x:Int):strOfNums [IntKind.u8.wrap ((IntKind.u32.wrap x).fdiv (2 ^ min (Int.toNat 24) 32)),IntKind.u8.wrap ((IntKind.u32.wrap x).fdiv (2 ^ min (Int.toNat 16) 32)),IntKind.u8.wrap ((IntKind.u32.wrap x).fdiv (2 ^ min (Int.toNat 8) 32)),IntKind.u8.wrap (IntKind.u32.wrap x)]=be 4 x:=by
 have e1:=qKC x 8 1 (by decide) rfl (by decide)
 have e2:=qKC x 16 2 (by decide) rfl (by decide)
 have e3:=qKC x 24 3 (by decide) rfl (by decide)
 rw [show ((8:Nat):Int)=8 from rfl] at e1
 rw [show ((16:Nat):Int)=16 from rfl] at e2
 rw [show ((24:Nat):Int)=24 from rfl] at e3
 have e0:IntKind.u8.wrap (IntKind.u32.wrap x)=x / 256 ^ 0 % 256:=by
  rw [← qbr true,← qbr true]
  simp only [wr]
  omega
 rw [e0,e1,e2,e3];rfl
theorem qqr (a b c d e f g q:Int) (h0:0≤a) (h1:a≤65535):strOfNums [IntKind.u8.wrap (IntKind.i64.wrap (a.tdiv 256)),IntKind.u8.wrap (a.tmod 256),IntKind.u8.wrap b,IntKind.u8.wrap ((IntKind.u32.wrap c).fdiv (2 ^ min (Int.toNat 24) 32)),IntKind.u8.wrap ((IntKind.u32.wrap c).fdiv (2 ^ min (Int.toNat 16) 32)),IntKind.u8.wrap ((IntKind.u32.wrap c).fdiv (2 ^ min (Int.toNat 8) 32)),IntKind.u8.wrap (IntKind.u32.wrap c),IntKind.u8.wrap ((IntKind.u32.wrap d).fdiv (2 ^ min (Int.toNat 24) 32)),IntKind.u8.wrap ((IntKind.u32.wrap d).fdiv (2 ^ min (Int.toNat 16) 32)),IntKind.u8.wrap ((IntKind.u32.wrap d).fdiv (2 ^ min (Int.toNat 8) 32)),IntKind.u8.wrap (IntKind.u32.wrap d),IntKind.u8.wrap ((IntKind.u32.wrap e).fdiv (2 ^ min (Int.toNat 24) 32)),IntKind.u8.wrap ((IntKind.u32.wrap e).fdiv (2 ^ min (Int.toNat 16) 32)),IntKind.u8.wrap ((IntKind.u32.wrap e).fdiv (2 ^ min (Int.toNat 8) 32)),IntKind.u8.wrap (IntKind.u32.wrap e),IntKind.u8.wrap ((IntKind.u32.wrap f).fdiv (2 ^ min (Int.toNat 24) 32)),IntKind.u8.wrap ((IntKind.u32.wrap f).fdiv (2 ^ min (Int.toNat 16) 32)),IntKind.u8.wrap ((IntKind.u32.wrap f).fdiv (2 ^ min (Int.toNat 8) 32)),IntKind.u8.wrap (IntKind.u32.wrap f),IntKind.u8.wrap ((IntKind.u32.wrap g).fdiv (2 ^ min (Int.toNat 24) 32)),IntKind.u8.wrap ((IntKind.u32.wrap g).fdiv (2 ^ min (Int.toNat 16) 32)),IntKind.u8.wrap ((IntKind.u32.wrap g).fdiv (2 ^ min (Int.toNat 8) 32)),IntKind.u8.wrap (IntKind.u32.wrap g),IntKind.u8.wrap ((IntKind.u32.wrap q).fdiv (2 ^ min (Int.toNat 24) 32)),IntKind.u8.wrap ((IntKind.u32.wrap q).fdiv (2 ^ min (Int.toNat 16) 32)),IntKind.u8.wrap ((IntKind.u32.wrap q).fdiv (2 ^ min (Int.toNat 8) 32)),IntKind.u8.wrap (IntKind.u32.wrap q)]=qKM a b c d e f g q:=by
 unfold qKM
 rw [← qDa c,← qDa d,← qDa e,← qDa f,← qDa g,← qDa q]
 have e1:be 2 a++be 1 b=strOfNums [IntKind.u8.wrap (IntKind.i64.wrap (a.tdiv 256)),IntKind.u8.wrap (a.tmod 256),IntKind.u8.wrap b]:=by
  have t1:IntKind.u8.wrap (IntKind.i64.wrap (a.tdiv 256))=a / 256 ^ 1 % 256:=by
   rw [Int.tdiv_eq_ediv_of_nonneg h0]
   have:=qaw (n:=a / 256) (by omega)
   unfold wI at this
   rw [this,← qbr true]
   simp only [wr]
   omega
  have t2:IntKind.u8.wrap (a.tmod 256)=a / 256 ^ 0 % 256:=by
   rw [Int.tmod_eq_emod_of_nonneg h0,← qbr true]
   simp only [wr]
   omega
  have t3:IntKind.u8.wrap b=b / 256 ^ 0 % 256:=by
   rw [← qbr true]
   simp only [wr]
   omega
  rw [t1,t2,t3]
  rfl
 rw [e1]
 simp only [← qvq]
 rfl
theorem qoe (a b c d e f g q:Int):runG ΓN10 L0 Tryz.prog Tryz.f202 [.v (.agg #[I a,I b,I c,I d,I e,I f,I g,I q])] M0=bif !qtB a b c d e f g q then some (.v (S ⟨#[]⟩),M0) else some (.v (S (strOfNums [IntKind.u8.wrap (IntKind.i64.wrap (a.tdiv 256)),IntKind.u8.wrap (a.tmod 256),IntKind.u8.wrap b,IntKind.u8.wrap ((IntKind.u32.wrap c).fdiv (2 ^ min (Int.toNat 24) 32)),IntKind.u8.wrap ((IntKind.u32.wrap c).fdiv (2 ^ min (Int.toNat 16) 32)),IntKind.u8.wrap ((IntKind.u32.wrap c).fdiv (2 ^ min (Int.toNat 8) 32)),IntKind.u8.wrap (IntKind.u32.wrap c),IntKind.u8.wrap ((IntKind.u32.wrap d).fdiv (2 ^ min (Int.toNat 24) 32)),IntKind.u8.wrap ((IntKind.u32.wrap d).fdiv (2 ^ min (Int.toNat 16) 32)),IntKind.u8.wrap ((IntKind.u32.wrap d).fdiv (2 ^ min (Int.toNat 8) 32)),IntKind.u8.wrap (IntKind.u32.wrap d),IntKind.u8.wrap ((IntKind.u32.wrap e).fdiv (2 ^ min (Int.toNat 24) 32)),IntKind.u8.wrap ((IntKind.u32.wrap e).fdiv (2 ^ min (Int.toNat 16) 32)),IntKind.u8.wrap ((IntKind.u32.wrap e).fdiv (2 ^ min (Int.toNat 8) 32)),IntKind.u8.wrap (IntKind.u32.wrap e),IntKind.u8.wrap ((IntKind.u32.wrap f).fdiv (2 ^ min (Int.toNat 24) 32)),IntKind.u8.wrap ((IntKind.u32.wrap f).fdiv (2 ^ min (Int.toNat 16) 32)),IntKind.u8.wrap ((IntKind.u32.wrap f).fdiv (2 ^ min (Int.toNat 8) 32)),IntKind.u8.wrap (IntKind.u32.wrap f),IntKind.u8.wrap ((IntKind.u32.wrap g).fdiv (2 ^ min (Int.toNat 24) 32)),IntKind.u8.wrap ((IntKind.u32.wrap g).fdiv (2 ^ min (Int.toNat 16) 32)),IntKind.u8.wrap ((IntKind.u32.wrap g).fdiv (2 ^ min (Int.toNat 8) 32)),IntKind.u8.wrap (IntKind.u32.wrap g),IntKind.u8.wrap ((IntKind.u32.wrap q).fdiv (2 ^ min (Int.toNat 24) 32)),IntKind.u8.wrap ((IntKind.u32.wrap q).fdiv (2 ^ min (Int.toNat 16) 32)),IntKind.u8.wrap ((IntKind.u32.wrap q).fdiv (2 ^ min (Int.toNat 8) 32)),IntKind.u8.wrap (IntKind.u32.wrap q)])),M0):=by kernel_rfl
def qfL (vs:List Value):Option (Bool×Value) :=
 match vs with
 | [.agg ⟨[.int .i64 a,.int .i64 b,.int .i64 c,.int .i64 d,.int .i64 e,.int .i64 f,.int .i64 g,.int .i64 q]⟩]=>some (true,S (printT a b c d e f g q))
 | _=>none
theorem qgs:CtV 202 qfL:=by
 intro vs r h
 unfold qfL at h
 split at h
 ·rename_i a b c d e f g q
  obtain ⟨h1,rfl⟩:=qac h
  refine qaA (vs:=[.agg #[I a,I b,I c,I d,I e,I f,I g,I q]]) (Λ:=L0) (m':=M0) qIp Tryz.func202 rfl (fun z _ _=>qdV _ z) ?_
  exact (qoe a b c d e f g q).trans (by
   unfold printT
   cases hr:qtB a b c d e f g q with
   | false=>rfl
   | true =>
    have h0:0≤a∧a≤65535:=by
     unfold qtB at hr
     have:=of_decide_eq_true hr
     omega
    rw [qqr a b c d e f g q h0.1 h0.2]
    rfl)
 ·cases h
def ΓN11:Orc:=qah 202 qfL ΓN10
theorem qNx:ΓN11.Ok Tryz.prog:=qaa qIp qgs
def ΓNa:Orc:=ΓN11
theorem qNw:ΓNa.Ok Tryz.prog:=qNx
end Go.Proofs.YtainfdcfkgemhaaGreat
