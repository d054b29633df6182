/-
  What is known of this program: frames,streams,navs.
-/
import Derived.Test.YtagaiddomhpdmaaGreatYd
set_option maxRecDepth 100000
namespace Go.Proofs.YtagaiddomhpdmaaGreat
open Go Go.Proofs Go.Sx
set_option linter.unusedVariables false
noncomputable def ΓOp:Orc:={ call:=ΓO.call,rd:=ΓO.rd,eqv:=ΓO.eqv,unr:=8,wr:=makers }
theorem OkOp:ΓOp.Ok Tryz.prog:=⟨OkO.call,OkO.rd,OkO.eqv⟩
theorem runSum (s:ByteArray):runG ΓOp L0 Tryz.prog Tryz.f183 [.v (S s)] M0=bif szS s then some (.v (S (sumT s)),M0) else none:=by kernel_rfl
def gSum (vs:List Value):Option (Bool×Value) :=
  match vs with
  | [.string s]=>some (szS s,S (sumT s))
  | _=>none
theorem gSum_ok:CtV 183 gSum:=by
  intro vs r h
  unfold gSum at h
  split at h
  · rename_i s
    obtain ⟨h1,rfl⟩:=some_t h
    refine runV (vs:=[S s]) (Λ:=L0) (m':=M0) OkOp Tryz.func183 rfl (fun z _ _=>noLoops (by kernel_rfl) z) ?_
    exact (runSum s).trans (by rw [h1];rfl)
  · cases h
noncomputable def ΓF1:Orc:=addVal 183 gSum ΓOp
theorem OkF1:ΓF1.Ok Tryz.prog:=addVal_ok OkOp gSum_ok
theorem runTwo (x:Int):runG ΓF1 L0 Tryz.prog Tryz.f94 [.v (U16 x)] M0=some (.v (S (two16 x)),M0):=by kernel_rfl
def gTwo (vs:List Value):Option (Bool×Value) :=
  match vs with
  | [.int .u16 x]=>some (true,S (two16 x))
  | _=>none
theorem gTwo_ok:CtV 94 gTwo:=by
  intro vs r h
  unfold gTwo at h
  split at h
  · rename_i x
    obtain ⟨h1,rfl⟩:=some_t h
    refine runV (vs:=[U16 x]) (Λ:=L0) (m':=M0) OkF1 Tryz.func94 rfl (fun z _ _=>noLoops (by kernel_rfl) z) ?_
    exact (runTwo x).trans (rfl)
  · cases h
noncomputable def ΓF2:Orc:=addVal 94 gTwo ΓF1
theorem OkF2:ΓF2.Ok Tryz.prog:=addVal_ok OkF1 gTwo_ok
theorem runRight (k:Int) (p:ByteArray):runG ΓF2 L0 Tryz.prog Tryz.f182 [.v (.agg #[I k,S p])] M0=bif decide (k≥0) then (bif decide (k≤255) then some (.v (Bo (decide ((p.size:Int)≤64))),M0) else some (.v (Bo false),M0)) else some (.v (Bo false),M0):=by kernel_rfl
def gRight (vs:List Value):Option (Bool×Value) :=
  match vs with
  | [.agg ⟨[.int .i64 k,.string p]⟩]=>some (true,Bo (rightB k p))
  | _=>none
theorem gRight_ok:CtV 182 gRight:=by
  intro vs r h
  unfold gRight at h
  split at h
  · rename_i k p
    obtain ⟨h1,rfl⟩:=some_t h
    refine runV (vs:=[.agg #[I k,S p]]) (Λ:=L0) (m':=M0) OkF2 Tryz.func182 rfl (fun z _ _=>noLoops (by kernel_rfl) z) ?_
    exact (runRight k p).trans (by unfold rightB;cases decide (k≥0)<;>cases decide (k≤255)<;>rfl)
  · cases h
noncomputable def ΓF3:Orc:=addVal 182 gRight ΓF2
theorem OkF3:ΓF3.Ok Tryz.prog:=addVal_ok OkF2 gRight_ok
theorem runRRight (k:Int) (p:ByteArray):runG ΓF3 L0 Tryz.prog Tryz.f93 [.v (.agg #[I k,S p])] M0=bif decide (k≥0) then (bif decide (k≤255) then some (.v (Bo (decide ((p.size:Int)≤64))),M0) else some (.v (Bo false),M0)) else some (.v (Bo false),M0):=by kernel_rfl
def gRRight (vs:List Value):Option (Bool×Value) :=
  match vs with
  | [.agg ⟨[.int .i64 k,.string p]⟩]=>some (true,Bo (rightB k p))
  | _=>none
theorem gRRight_ok:CtV 93 gRRight:=by
  intro vs r h
  unfold gRRight at h
  split at h
  · rename_i k p
    obtain ⟨h1,rfl⟩:=some_t h
    refine runV (vs:=[.agg #[I k,S p]]) (Λ:=L0) (m':=M0) OkF3 Tryz.func93 rfl (fun z _ _=>noLoops (by kernel_rfl) z) ?_
    exact (runRRight k p).trans (by unfold rightB;cases decide (k≥0)<;>cases decide (k≤255)<;>rfl)
  · cases h
noncomputable def ΓF4:Orc:=addVal 93 gRRight ΓF3
theorem OkF4:ΓF4.Ok Tryz.prog:=addVal_ok OkF3 gRRight_ok
noncomputable def ΓF5:Orc:=ΓF4
theorem OkF5:ΓF5.Ok Tryz.prog:=OkF4
def hasP (s t:ByteArray):Bool:=decide (t.size≤s.size)&&(L (s.extract 0 t.size)==L t)
theorem runHasP0 (s t:ByteArray):runG ΓF5 L0 Tryz.prog Tryz.f240 [.v (S s),.v (S t)] M0=bif decide ((s.size:Int)≥(t.size:Int)) then (bif decide ((0:Int)≤0)&&(decide (0≤(t.size:Int))&&decide ((t.size:Int)≤(s.size:Int))) then some (.v (Bo ((s.extract (Int.toNat 0) (t.size:Int).toNat).toList==t.toList)),M0) else none) else some (.v (Bo false),M0):=by kernel_rfl
def gHasP0 (vs:List Value):Option (Bool×Value) :=
  match vs with
  | [.string s,.string t]=>some (true,Bo (hasP s t))
  | _=>none
theorem gHasP0_ok:CtV 240 gHasP0:=by
  intro vs r h
  unfold gHasP0 at h
  split at h
  · rename_i s t
    obtain ⟨h1,rfl⟩:=some_t h
    refine runV (vs:=[S s,S t]) (Λ:=L0) (m':=M0) OkF5 Tryz.func240 rfl (fun z _ _=>noLoops (by kernel_rfl) z) ?_
    exact (runHasP0 s t).trans (by
      unfold hasP
      by_cases hc:t.size≤s.size
      · rw [decide_eq_true (show (s.size:Int)≥(t.size:Int) by omega),decide_eq_true (show (0:Int)≤0 by omega),decide_eq_true (show 0≤(t.size:Int) by omega),decide_eq_true hc,beq_T]
        rfl
      · rw [decide_eq_false (show ¬ (s.size:Int)≥(t.size:Int) by omega),decide_eq_false hc]
        rfl)
  · cases h
noncomputable def ΓF6:Orc:=addVal 240 gHasP0 ΓF5
theorem OkF6:ΓF6.Ok Tryz.prog:=addVal_ok OkF5 gHasP0_ok
theorem runHasP (s t:ByteArray):runG ΓF6 L0 Tryz.prog Tryz.f187 [.v (S s),.v (S t)] M0=some (.v (Bo (hasP s t)),M0):=by kernel_rfl
def gHasP (vs:List Value):Option (Bool×Value) :=
  match vs with
  | [.string s,.string t]=>some (true,Bo (hasP s t))
  | _=>none
theorem gHasP_ok:CtV 187 gHasP:=by
  intro vs r h
  unfold gHasP at h
  split at h
  · rename_i s t
    obtain ⟨h1,rfl⟩:=some_t h
    refine runV (vs:=[S s,S t]) (Λ:=L0) (m':=M0) OkF6 Tryz.func187 rfl (fun z _ _=>noLoops (by kernel_rfl) z) ?_
    exact (runHasP s t).trans (rfl)
  · cases h
noncomputable def ΓF7:Orc:=addVal 187 gHasP ΓF6
theorem OkF7:ΓF7.Ok Tryz.prog:=addVal_ok OkF6 gHasP_ok
theorem runClone1 (s:ByteArray):runG ΓF7 L0 Tryz.prog Tryz.f161 [.v (S s)] M0=bif Nat.ble s.size 281474976710656 then some (.v (S s),M0) else none:=by kernel_rfl
def gClone1 (vs:List Value):Option (Bool×Value) :=
  match vs with
  | [.string s]=>some (Nat.ble s.size 281474976710656,S s)
  | _=>none
theorem gClone1_ok:CtV 161 gClone1:=by
  intro vs r h
  unfold gClone1 at h
  split at h
  · rename_i s
    obtain ⟨h1,rfl⟩:=some_t h
    refine runV (vs:=[S s]) (Λ:=L0) (m':=M0) OkF7 Tryz.func161 rfl (fun z _ _=>noLoops (by kernel_rfl) z) ?_
    exact (runClone1 s).trans (by rw [h1];rfl)
  · cases h
noncomputable def ΓF8:Orc:=addVal 161 gClone1 ΓF7
theorem OkF8:ΓF8.Ok Tryz.prog:=addVal_ok OkF7 gClone1_ok
theorem runSize (s:ByteArray):runG ΓF8 L0 Tryz.prog Tryz.f212 [.v (S s)] M0=bif decide ((0:Int)≤3)&&decide (3<(s.size:Int)) then some (.v (I (IntKind.i64.wrap (IntKind.i64.wrap (4+IntKind.i64.wrap (strAt s 3))+2))),M0) else none:=by kernel_rfl
def gSize (vs:List Value):Option (Bool×Value) :=
  match vs with
  | [.string s]=>some (decide (3<(s.size:Int)),I (lenN s))
  | _=>none
theorem gSize_ok:CtV 212 gSize:=by
  intro vs r h
  unfold gSize at h
  split at h
  · rename_i s
    obtain ⟨h1,rfl⟩:=some_t h
    refine runV (vs:=[S s]) (Λ:=L0) (m':=M0) OkF8 Tryz.func212 rfl (fun z _ _=>noLoops (by kernel_rfl) z) ?_
    exact (runSize s).trans (by
      have h3:=strAt_range s 3
      rw [show ((3:Nat):Int)=3 from rfl] at h3
      have e:IntKind.i64.wrap (IntKind.i64.wrap (4+IntKind.i64.wrap (strAt s 3))+2)=lenN s:=by
        show wI (wI (4+wI (strAt s 3))+2)=_
        rw [wI_id (n:=strAt s 3) (by omega),wI_id (n:=4+strAt s 3) (by omega),wI_id (by omega)]
        unfold lenN
        omega
      rw [e,show decide ((0:Int)≤3)=true from rfl,h1]
      rfl)
  · cases h
noncomputable def ΓF9:Orc:=addVal 212 gSize ΓF8
theorem OkF9:ΓF9.Ok Tryz.prog:=addVal_ok OkF8 gSize_ok
noncomputable def ΓFap:Orc:=ΓF9
theorem OkFap:ΓFap.Ok Tryz.prog:=OkF9
end Go.Proofs.YtagaiddomhpdmaaGreat
namespace Go.Proofs.YtagaiddomhpdmaaGreat
open Go Go.Proofs Go.Sx
theorem byte_eq (a:UInt8) (n:Nat) (hn:n<256):((a.toNat:Int) != (n:Int))=(a != UInt8.ofNat n):=by
  have e:((a.toNat:Int)=(n:Int))↔a=UInt8.ofNat n:=by
    constructor
    · intro h
      rw [← UInt8.toNat_inj,UInt8.toNat_ofNat',Nat.mod_eq_of_lt hn]
      omega
    · rintro rfl
      rw [UInt8.toNat_ofNat',Nat.mod_eq_of_lt hn]
  by_cases h:a=UInt8.ofNat n
  · rw [bne_eq_false_iff_eq.2 (e.2 h),bne_eq_false_iff_eq.2 h]
  · rw [bne_iff_ne.2 (fun q=>h (e.1 q)),bne_iff_ne.2 h]
theorem hasMark (s:ByteArray):hasP s (mark.extract (Int.toNat 0) (if (2:Int)<(s.size:Int) then 2 else (s.size:Int)).toNat) =
    !((decide ((s.size:Int)>0)&&strAt s 0 != 165)||(decide ((s.size:Int)>1)&&strAt s 1 != 90)):=by
  have h0:=strAt_L s 0
  have h1:=strAt_L s 1
  rw [show ((0:Nat):Int)=0 from rfl] at h0
  rw [show ((1:Nat):Int)=1 from rfl] at h1
  have hl:=L_len s
  unfold hasP
  rw [L_ext,L_ext]
  have hmk:L mark=[165,90]:=rfl
  rw [hmk,h0,h1]
  generalize hx:L s=l at *
  match l with
  | [] =>
    have hs:s.size=0:=by rw [← hl];rfl
    rw [hs]
    rfl
  | [a] =>
    have hs:s.size=1:=by rw [← hl];rfl
    rw [hs]
    have e:(mark.extract (Int.toNat 0) (if (2:Int)<((1:Nat):Int) then 2 else ((1:Nat):Int)).toNat).size=1:=rfl
    rw [e]
    have:=byte_eq a 165 (by omega)
    simp only [List.getElem?_cons_zero,Option.map_some,Option.getD_some]
    rw [show ((165:Nat):Int)=165 from rfl] at this
    rw [this]
    simp [bne]
  | a::b::r =>
    have hs:2≤s.size:=by rw [← hl];simp
    have e0:(if (2:Int)<(s.size:Int) then 2 else (s.size:Int)).toNat=2:=by split<;>omega
    rw [e0]
    have e:(mark.extract (Int.toNat 0) 2).size=2:=rfl
    rw [e]
    have t0:=byte_eq a 165 (by omega)
    have t1:=byte_eq b 90 (by omega)
    rw [show ((165:Nat):Int)=165 from rfl] at t0
    rw [show ((90:Nat):Int)=90 from rfl] at t1
    simp only [List.getElem?_cons_zero,List.getElem?_cons_succ,Option.map_some,Option.getD_some]
    rw [t0,t1,decide_eq_true (show (s.size:Int)>0 by omega),decide_eq_true (show (s.size:Int)>1 by omega),decide_eq_true hs]
    simp [bne]
theorem may_eqp (s:ByteArray):(!badT s)=(hasP s (mark.extract (Int.toNat 0) (if (2:Int)<(s.size:Int) then 2 else (s.size:Int)).toNat)&&(decide ((s.size:Int)<4)||decide (strAt s 3≤64))):=by
  rw [hasMark]
  unfold badT
  generalize (decide ((s.size:Int)>0)&&strAt s 0 != 165)=x
  generalize (decide ((s.size:Int)>1)&&strAt s 1 != 90)=y
  have:(decide ((s.size:Int)>3)&&decide (strAt s 3>64))=!(decide ((s.size:Int)<4)||decide (strAt s 3≤64)):=by
    by_cases h1:(s.size:Int)<4<;>by_cases h2:strAt s 3≤64<;>simp [h1,h2]<;>omega
  rw [this]
  cases x<;>cases y<;>cases (decide ((s.size:Int)<4)||decide (strAt s 3≤64))<;>rfl
theorem szS_of {s:ByteArray} (h:s.size≤9223372036854775807):szS s=true:=Nat.ble_eq_true_of_le h
theorem right_size {k:Int} {p:ByteArray} (h:rightB k p=true):p.size≤64∧0≤k∧k≤255:=by
  unfold rightB at h
  simp only [Bool.and_eq_true,decide_eq_true_eq] at h
  omega
end Go.Proofs.YtagaiddomhpdmaaGreat
namespace Go.Proofs.YtagaiddomhpdmaaGreat
open Go Go.Proofs Go.Sx
set_option linter.unusedVariables false
theorem runMay (s:ByteArray):runG ΓFap L0 Tryz.prog Tryz.f211 [.v (S s)] M0=bif decide ((0:Int)≤0)&&(decide ((0:Int)≤(if (2:Int)<(s.size:Int) then 2 else (s.size:Int)))&&decide ((if (2:Int)<(s.size:Int) then 2 else (s.size:Int))≤(mark.size:Int))) then
      (bif !hasP s (mark.extract (Int.toNat 0) (if (2:Int)<(s.size:Int) then 2 else (s.size:Int)).toNat) then some (.v (Bo false),M0) else
        (bif decide ((s.size:Int)<4) then some (.v (Bo true),M0) else (bif decide ((0:Int)≤3)&&decide (3<(s.size:Int)) then some (.v (Bo (decide (strAt s 3≤64))),M0) else none))) else none:=by kernel_rfl
def gMay (vs:List Value):Option (Bool×Value) :=
  match vs with
  | [.string s]=>some (true,Bo (!badT s))
  | _=>none
theorem gMay_ok:CtV 211 gMay:=by
  intro vs r h
  unfold gMay at h
  split at h
  · rename_i s
    obtain ⟨h1,rfl⟩:=some_t h
    refine runV (vs:=[S s]) (Λ:=L0) (m':=M0) OkFap Tryz.func211 rfl (fun z _ _=>noLoops (by kernel_rfl) z) ?_
    exact (runMay s).trans (by
      have hm:mark.size=2:=rfl
      have e1:(0:Int)≤(if (2:Int)<(s.size:Int) then 2 else (s.size:Int)):=by split<;>omega
      have e2:(if (2:Int)<(s.size:Int) then 2 else (s.size:Int))≤(mark.size:Int):=by rw [hm];split<;>omega
      rw [decide_eq_true e1,decide_eq_true e2,may_eqp s]
      generalize hasP s (mark.extract (Int.toNat 0) (if (2:Int)<(s.size:Int) then 2 else (s.size:Int)).toNat)=q
      by_cases h4:(s.size:Int)<4
      · rw [decide_eq_true h4]
        cases q<;>rfl
      · rw [decide_eq_false h4,decide_eq_true (show (3:Int)<(s.size:Int) by omega)]
        cases q<;>rfl)
  · cases h
noncomputable def ΓG1:Orc:=addVal 211 gMay ΓFap
theorem OkG1:ΓG1.Ok Tryz.prog:=addVal_ok OkFap gMay_ok
theorem runPrint (k:Int) (p:ByteArray):runG ΓG1 L0 Tryz.prog Tryz.f128 [.v (.agg #[I k,S p])] M0=bif !rightB k p then some (.v (S ⟨#[]⟩),M0) else
      (bif Nat.ble ((strOfNums [IntKind.u8.wrap k,IntKind.u8.wrap (p.size:Int)]).size+p.size) 9223372036854775807 then (bif Nat.ble (mark.size+(bodyT k p).size) 9223372036854775807 then (bif szS (bodyT k p) then (bif Nat.ble ((mark++bodyT k p).size+(sumT (bodyT k p)).size) 9223372036854775807 then some (.v (S ((mark++bodyT k p)++sumT (bodyT k p))),M0) else none) else none) else none) else none):=by kernel_rfl
def gPrint (vs:List Value):Option (Bool×Value) :=
  match vs with
  | [.agg ⟨[.int .i64 k,.string p]⟩]=>some (true,S (printB k p))
  | _=>none
theorem gPrint_ok:CtV 128 gPrint:=by
  intro vs r h
  unfold gPrint at h
  split at h
  · rename_i k p
    obtain ⟨h1,rfl⟩:=some_t h
    refine runV (vs:=[.agg #[I k,S p]]) (Λ:=L0) (m':=M0) OkG1 Tryz.func128 rfl (fun z _ _=>noLoops (by kernel_rfl) z) ?_
    exact (runPrint k p).trans (by
      unfold printB
      cases hr:rightB k p with
      | false=>rfl
      | true =>
        obtain ⟨hp,_,_⟩:=right_size hr
        have hb:=bodyT_size k p
        have hm:mark.size=2:=rfl
        have h2:(sumT (bodyT k p)).size=2:=two16_size _
        have hma:(mark++bodyT k p).size=2+(p.size+2):=by rw [ByteArray.size_append,hm,hb]
        rw [strOfNums_size,hma,h2,hm,hb,szS_of (by omega)]
        rw [show Nat.ble ([IntKind.u8.wrap k,IntKind.u8.wrap (p.size:Int)].length+p.size) 9223372036854775807=true from Nat.ble_eq_true_of_le (by simp only [List.length_cons,List.length_nil];omega),show Nat.ble (2+(p.size+2)) 9223372036854775807=true from Nat.ble_eq_true_of_le (by omega),show Nat.ble (2+(p.size+2)+2) 9223372036854775807=true from Nat.ble_eq_true_of_le (by omega)]
        rfl)
  · cases h
noncomputable def ΓG2:Orc:=addVal 128 gPrint ΓG1
theorem OkG2:ΓG2.Ok Tryz.prog:=addVal_ok OkG1 gPrint_ok
theorem runRPrint (k:Int) (p:ByteArray):runG ΓG2 L0 Tryz.prog Tryz.f55 [.v (.agg #[I k,S p])] M0=bif !rightB k p then some (.v (S ⟨#[]⟩),M0) else
      (bif Nat.ble ((strOfNums [IntKind.u8.wrap k,IntKind.u8.wrap (p.size:Int)]).size+p.size) 9223372036854775807 then (bif Nat.ble ((strOfNums [165,90]).size+(bodyT k p).size) 9223372036854775807 then (bif in16 65535&&szS (bodyT k p) then (bif Nat.ble (((strOfNums [165,90])++bodyT k p).size+(sumT (bodyT k p)).size) 9223372036854775807 then some (.v (S (((strOfNums [165,90])++bodyT k p)++sumT (bodyT k p))),M0) else none) else none) else none) else none):=by kernel_rfl
def gRPrint (vs:List Value):Option (Bool×Value) :=
  match vs with
  | [.agg ⟨[.int .i64 k,.string p]⟩]=>some (true,S (printB k p))
  | _=>none
theorem gRPrint_ok:CtV 55 gRPrint:=by
  intro vs r h
  unfold gRPrint at h
  split at h
  · rename_i k p
    obtain ⟨h1,rfl⟩:=some_t h
    refine runV (vs:=[.agg #[I k,S p]]) (Λ:=L0) (m':=M0) OkG2 Tryz.func55 rfl (fun z _ _=>noLoops (by kernel_rfl) z) ?_
    exact (runRPrint k p).trans (by
      unfold printB
      cases hr:rightB k p with
      | false=>rfl
      | true =>
        obtain ⟨hp,_,_⟩:=right_size hr
        have hb:=bodyT_size k p
        have hm:(strOfNums [165,90]).size=2:=rfl
        have h2:(sumT (bodyT k p)).size=2:=two16_size _
        have hma:((strOfNums [165,90])++bodyT k p).size=2+(p.size+2):=by rw [ByteArray.size_append,hm,hb]
        rw [strOfNums_size,hma,h2,hm,hb,szS_of (by omega)]
        rw [show Nat.ble ([IntKind.u8.wrap k,IntKind.u8.wrap (p.size:Int)].length+p.size) 9223372036854775807=true from Nat.ble_eq_true_of_le (by simp only [List.length_cons,List.length_nil];omega),show Nat.ble (2+(p.size+2)) 9223372036854775807=true from Nat.ble_eq_true_of_le (by omega),show Nat.ble (2+(p.size+2)+2) 9223372036854775807=true from Nat.ble_eq_true_of_le (by omega)]
        rfl)
  · cases h
noncomputable def ΓG3:Orc:=addVal 55 gRPrint ΓG2
theorem OkG3:ΓG3.Ok Tryz.prog:=addVal_ok OkG2 gRPrint_ok
noncomputable def ΓGa:Orc:=ΓG3
theorem OkGa:ΓGa.Ok Tryz.prog:=OkG3
end Go.Proofs.YtagaiddomhpdmaaGreat
namespace Go.Proofs.YtagaiddomhpdmaaGreat
open Go Go.Proofs Go.Sx
theorem body_bytes (c d:UInt8) (p:ByteArray) (hp:p.size=d.toNat):L (bodyT (c.toNat:Int) p)=c::d::L p:=by
  unfold bodyT
  rw [L_app,L_nums,hp,wrap8,wrap8,Nat.mod_eq_of_lt (byte_lt c),Nat.mod_eq_of_lt (byte_lt d)]
  simp only [List.map_cons,List.map_nil,Int.toNat_natCast,UInt8.ofNat_toNat,List.cons_append,List.nil_append]
theorem frame_list {s:ByteArray} (h1:badT s=false) (h2:shortB s=false):∃ c d r,L s=165::90::c::d::r∧kOf s=(c.toNat:Int)∧strAt s 3=(d.toNat:Int)∧d.toNat≤64∧lenN s=((6+d.toNat:Nat):Int)∧d.toNat+2≤r.length:=by
  obtain ⟨h4,h5,h6⟩:=not_short h2
  have hl:=L_len s
  have a0:=strAt_L s 0
  have a1:=strAt_L s 1
  have a2:=strAt_L s 2
  have a3:=strAt_L s 3
  generalize hx:L s=l at *
  match l,hl with
  | [],hl=>simp at hl;omega
  | [_],hl=>simp at hl;omega
  | [_,_],hl=>simp at hl;omega
  | [_,_,_],hl=>simp at hl;omega
  | a::b::c::d::r,hl =>
    simp only [List.getElem?_cons_zero,List.getElem?_cons_succ,Option.map_some,Option.getD_some] at a0 a1 a2 a3
    unfold badT at h1
    rw [show (0:Int)=((0:Nat):Int) from rfl,show (1:Int)=((1:Nat):Int) from rfl,show (3:Int)=((3:Nat):Int) from rfl] at h1
    rw [a0,a1,a3] at h1
    have b0:=byte_eq a 165 (by omega)
    have b1:=byte_eq b 90 (by omega)
    rw [show ((165:Nat):Int)=165 from rfl] at b0
    rw [show ((90:Nat):Int)=90 from rfl] at b1
    rw [b0,b1] at h1
    simp only [Bool.or_eq_false_iff,Bool.and_eq_false_iff,decide_eq_false_iff_not,bne_eq_false_iff_eq] at h1
    obtain ⟨g0,g1,g3⟩:=h1
    have e0:a=165:=by
      rcases g0 with g0|g0
      · omega
      · exact g0
    have e1:b=90:=by
      rcases g1 with g1|g1
      · omega
      · exact g1
    subst e0 e1
    have hlen:lenN s=((6+d.toNat:Nat):Int):=by
      unfold lenN
      rw [show (3:Int)=((3:Nat):Int) from rfl,a3]
      omega
    refine ⟨c,d,r,rfl,?_,a3,by omega,hlen,?_⟩
    · unfold kOf;exact a2
    · rw [hlen] at h5
      simp only [List.length_cons] at hl
      omega
theorem pOf_list {s:ByteArray} {d:Nat} {x y z u:UInt8} {r:List UInt8} (hl:L s=x::y::z::u::r) (hn:lenN s=((6+d:Nat):Int)):L (pOf s)=r.take d:=by
  unfold pOf
  rw [hn,L_ext,hl,show (((6+d:Nat):Int) - 2).toNat - 4=d by omega]
  rfl
theorem ok_eq {s:ByteArray} (h1:badT s=false) (h2:shortB s=false):((sumT (s.extract 2 (lenN s - 2).toNat)).toList==(s.extract (lenN s - 2).toNat (lenN s).toNat).toList)=okB s:=by
  obtain ⟨c,d,r,hl,hk,hd,hd64,hn,hr⟩:=frame_list h1 h2
  have hp:=pOf_list hl hn
  have hps:(pOf s).size=d.toNat:=by
    rw [← L_len,hp,List.length_take]
    omega
  have e1:s.extract 2 (lenN s - 2).toNat=bodyT (kOf s) (pOf s):=by
    rw [← L_inj,hk,body_bytes c d _ hps,hp,L_ext,hl,hn,show (((6+d.toNat:Nat):Int) - 2).toNat - 2=d.toNat+2 by omega]
    rfl
  have e2:L (s.extract (lenN s - 2).toNat (lenN s).toNat)=(r.drop d.toNat).take 2:=by
    rw [L_ext,hl,hn,show (((6+d.toNat:Nat):Int) - 2).toNat=d.toNat+4 by omega,show (((6+d.toNat:Nat):Int)).toNat - (d.toNat+4)=2 by omega]
    rw [Nat.add_comm d.toNat 4,← List.drop_drop]
    rfl
  have e3:L (s.extract 0 (lenN s).toNat)=165::90::c::d::(r.take d.toNat++(r.drop d.toNat).take 2):=by
    rw [L_ext,hl,hn,show (((6+d.toNat:Nat):Int)).toNat - 0=(d.toNat+2)+4 by omega,← List.take_add]
    rfl
  have e4:L (prt (kOf s) (pOf s))=165::90::c::d::(r.take d.toNat++L (sumT (bodyT (kOf s) (pOf s)))):=by
    unfold prt
    rw [L_app,L_app,hk,body_bytes c d _ hps,hp]
    rfl
  rw [e1,beq_T,e2]
  unfold okB
  rw [beq_L,e3,e4,Bool.eq_iff_iff]
  simp only [beq_iff_eq,List.cons.injEq,true_and,List.append_cancel_left_eq]
theorem good_right {s:ByteArray} (h1:badT s=false) (h2:shortB s=false):rightB (kOf s) (pOf s)=true:=by
  obtain ⟨c,d,r,hl,hk,hd,hd64,hn,hr⟩:=frame_list h1 h2
  have hp:=pOf_list hl hn
  have hps:(pOf s).size=d.toNat:=by
    rw [← L_len,hp,List.length_take]
    omega
  have:=byte_lt c
  unfold rightB
  rw [hk,hps,decide_eq_true (by omega),decide_eq_true (by omega),decide_eq_true (by omega)]
  rfl
def rdV (s:ByteArray):Value:=.tuple #[.agg #[I (rdK s),S (rdP s)],I (rdN s),I (rdE s)]
theorem rdV_err {s:ByteArray} {e:Int} (h:rdE s=e) (h0:e≠0):rdV s=.tuple #[.agg #[I 0,S ⟨#[]⟩],I 0,I e]:=by
  subst h
  unfold rdV rdK rdP rdN
  rw [show (rdE s==0)=false from beq_eq_false_iff_ne.2 h0]
  rfl
theorem rdV_ok {s:ByteArray} (h:rdE s=0):rdV s=.tuple #[.agg #[I (kOf s),S (pOf s)],I (lenN s),I 0]:=by
  unfold rdV rdK rdP rdN
  rw [h]
  rfl
def oV (v:Value):Option (SV×Mem):=some (.v v,M0)
def rErr (e:Int):Option (SV×Mem):=oV (.tuple #[.agg #[I 0,S ⟨#[]⟩],I 0,I e])
def w2 (s:ByteArray):Int:=wI (lenN s - 2)
def rdTree (s:ByteArray):Option (SV×Mem) :=
  bif !!badT s then rErr 3 else bif decide ((s.size:Int)<4) then rErr 5 else bif decide (3<(s.size:Int)) then (bif decide ((s.size:Int)<lenN s) then rErr 5 else bif decide (3<(s.size:Int)) then
    (bif decide ((0:Int)≤2)&&(decide (2≤w2 s)&&decide (w2 s≤(s.size:Int))) then (bif szS (s.extract (Int.toNat 2) (w2 s).toNat) then (bif decide (0≤w2 s)&&(decide (w2 s≤lenN s)&&decide (lenN s≤(s.size:Int))) then
      (bif !((sumT (s.extract (Int.toNat 2) (w2 s).toNat)).toList==(s.extract (w2 s).toNat (lenN s).toNat).toList) then rErr 4 else
        (bif decide ((0:Int)≤2)&&decide (2<(s.size:Int)) then (bif decide ((0:Int)≤4)&&(decide (4≤w2 s)&&decide (w2 s≤(s.size:Int))) then (bif Nat.ble (s.extract (Int.toNat 4) (w2 s).toNat).size 281474976710656 then
          oV (.tuple #[.agg #[I (wI (strAt s 2)),S (s.extract (Int.toNat 4) (w2 s).toNat)],I (lenN s),I 0]) else none) else none) else none))
      else none) else none) else none) else none) else none
theorem w2_eq (s:ByteArray):w2 s=lenN s - 2:=by
  have:=lenN_range s
  unfold w2
  rw [wI_id (by omega)]
theorem k_eq (s:ByteArray):wI (strAt s 2)=kOf s:=by
  have:=strAt_range s 2
  rw [show ((2:Nat):Int)=2 from rfl] at this
  unfold kOf
  rw [wI_id (by omega)]
theorem rdTree_eq (s:ByteArray):rdTree s=oV (rdV s):=by
  unfold rdTree
  rcases rdE_cases s with ⟨h1,h2⟩|⟨h1,h2,h3⟩|⟨h1,h2,h3,h4⟩|⟨h1,h2,h3,h4⟩
  · rw [rdV_err h1 (by decide),h2];rfl
  · rw [rdV_err h1 (by decide),h2]
    unfold shortB at h3
    by_cases h5:(s.size:Int)<4
    · rw [decide_eq_true h5];rfl
    · rw [decide_eq_false h5,decide_eq_true (show 3<(s.size:Int) by omega)]
      rw [decide_eq_false h5,Bool.false_or] at h3
      rw [h3];rfl
  all_goals
    obtain ⟨g1,g2,g3⟩:=not_short h3
    have hr:=lenN_range s
    have he:=ok_eq h2 h3
    have hx:(s.extract 4 (lenN s - 2).toNat).size≤281474976710656:=by rw [ByteArray.size_extract];omega
    have hy:(s.extract 2 (lenN s - 2).toNat).size≤9223372036854775807:=by rw [ByteArray.size_extract];omega
    rw [w2_eq,show Int.toNat 2=2 from rfl,show Int.toNat 4=4 from rfl,he,h4,k_eq,szS_of hy,Nat.ble_eq_true_of_le hx,h2,decide_eq_false (show ¬ (s.size:Int)<4 by omega),decide_eq_true (show 3<(s.size:Int) by omega),decide_eq_false (show ¬ (s.size:Int)<lenN s by omega),
      decide_eq_true (show (2:Int)≤lenN s - 2 by omega),decide_eq_true (show lenN s - 2≤(s.size:Int) by omega),decide_eq_true (show 0≤lenN s - 2 by omega),decide_eq_true (show lenN s - 2≤lenN s by omega),decide_eq_true (show lenN s≤(s.size:Int) by omega),decide_eq_true (show 2<(s.size:Int) by omega),decide_eq_true (show (4:Int)≤lenN s - 2 by omega)]
  · rw [rdV_ok h1];rfl
  · rw [rdV_err h1 (by decide)];rfl
def wN (s:ByteArray):Int:=wI (6+wI (strAt s 3))
def wP (s:ByteArray):Int:=wI (wN s - 2)
def tT (s:ByteArray):Option (SV×Mem) :=
  bif decide ((s.size:Int)<4) then rErr 5 else bif decide ((0:Int)≤3)&&decide (3<(s.size:Int)) then (bif decide ((s.size:Int)<wN s) then rErr 5 else
    bif decide ((0:Int)≤3)&&decide (3<(s.size:Int)) then (bif decide ((0:Int)≤2)&&decide (2<(s.size:Int)) then (bif decide ((0:Int)≤4)&&(decide (4≤wP s)&&decide (wP s≤(s.size:Int))) then
      (bif decide ((0:Int)≤0)&&(decide (0≤wN s)&&decide (wN s≤(s.size:Int))) then
        (bif !((printB (wI (strAt s 2)) (s.extract (Int.toNat 4) (wP s).toNat)).toList==(s.extract (Int.toNat 0) (wN s).toNat).toList) then rErr 4 else
          oV (.tuple #[.agg #[I (wI (strAt s 2)),S (s.extract (Int.toNat 4) (wP s).toNat)],I (wN s),I 0])) else none) else none) else none) else none) else none
def tX (s:ByteArray):Option (SV×Mem) :=
  bif decide ((s.size:Int)>3) then (bif decide ((0:Int)≤3)&&decide (3<(s.size:Int)) then (bif decide (strAt s 3>64) then rErr 3 else tT s) else none) else tT s
def tY (s:ByteArray):Option (SV×Mem) :=
  bif decide ((s.size:Int)>1) then (bif decide ((0:Int)≤1)&&decide (1<(s.size:Int)) then (bif strAt s 1 != 90 then rErr 3 else tX s) else none) else tX s
def tZ (s:ByteArray):Option (SV×Mem) :=
  bif decide ((s.size:Int)>0) then (bif decide ((0:Int)≤0)&&decide (0<(s.size:Int)) then (bif strAt s 0 != 165 then rErr 3 else tY s) else none) else tY s
theorem wN_eq (s:ByteArray):wN s=lenN s:=by
  have:=strAt_range s 3
  rw [show ((3:Nat):Int)=3 from rfl] at this
  unfold wN lenN
  rw [wI_id (n:=strAt s 3) (by omega),wI_id (by omega)]
theorem tT_eq {s:ByteArray} (h2:badT s=false):tT s=oV (rdV s):=by
  have hr:=lenN_range s
  have hw:wP s=lenN s - 2:=by unfold wP;rw [wN_eq,wI_id (by omega)]
  unfold tT
  rw [wN_eq,hw,k_eq,show Int.toNat 4=4 from rfl,show Int.toNat 0=0 from rfl]
  rcases rdE_cases s with ⟨h1,h2'⟩|⟨h1,_,h3⟩|⟨h1,_,h3,h4⟩|⟨h1,_,h3,h4⟩
  · rw [h2] at h2';cases h2'
  · rw [rdV_err h1 (by decide)]
    unfold shortB at h3
    by_cases h5:(s.size:Int)<4
    · rw [decide_eq_true h5];rfl
    · rw [decide_eq_false h5,decide_eq_true (show 3<(s.size:Int) by omega)]
      rw [decide_eq_false h5,Bool.false_or] at h3
      rw [h3];rfl
  all_goals
    obtain ⟨g1,g2,g3⟩:=not_short h3
    have hg:=good_right h2 h3
    have he:((printB (kOf s) (s.extract 4 (lenN s - 2).toNat)).toList==(s.extract 0 (lenN s).toNat).toList)=okB s:=by
      rw [beq_TS]
      unfold printB okB
      have:rightB (kOf s) (s.extract 4 (lenN s - 2).toNat)=true:=hg
      rw [this]
      rfl
    rw [he,h4,decide_eq_false (show ¬ (s.size:Int)<4 by omega),decide_eq_true (show 3<(s.size:Int) by omega),decide_eq_false (show ¬ (s.size:Int)<lenN s by omega),
      decide_eq_true (show (2:Int)<(s.size:Int) by omega),decide_eq_true (show (4:Int)≤lenN s - 2 by omega),decide_eq_true (show lenN s - 2≤(s.size:Int) by omega),decide_eq_true (show 0≤lenN s by omega),decide_eq_true (show lenN s≤(s.size:Int) by omega)]
  · rw [rdV_ok h1];rfl
  · rw [rdV_err h1 (by decide)];rfl
theorem tZ_eq (s:ByteArray):tZ s=oV (rdV s):=by
  have hb:∀ {x:Bool},badT s=x→x=true→rErr 3=oV (rdV s):=by
    rintro x h rfl
    have:rdE s=3:=by unfold rdE;rw [h];rfl
    rw [rdV_err this (by decide)]
    rfl
  have hX:(decide ((s.size:Int)>0)&&strAt s 0 != 165)=false→(decide ((s.size:Int)>1)&&strAt s 1 != 90)=false→tX s=oV (rdV s):=by
    intro e0 e1
    have e2:badT s=(decide ((s.size:Int)>3)&&decide (strAt s 3>64)):=by unfold badT;rw [e0,e1];rfl
    unfold tX
    by_cases h3:(s.size:Int)>3
    · rw [decide_eq_true h3] at e2 ⊢
      by_cases h64:strAt s 3>64
      · rw [decide_eq_true h64] at e2 ⊢
        exact hb e2 rfl
      · rw [decide_eq_false h64] at e2 ⊢
        exact tT_eq e2
    · rw [decide_eq_false h3] at e2 ⊢
      exact tT_eq e2
  have hY:(decide ((s.size:Int)>0)&&strAt s 0 != 165)=false→tY s=oV (rdV s):=by
    intro e0
    unfold tY
    by_cases h1:(s.size:Int)>1
    · have e3:decide ((s.size:Int)>1)=true:=decide_eq_true h1
      rw [e3]
      cases h:strAt s 1 != 90 with
      | true=>exact hb (x:=badT s) rfl (by unfold badT;rw [e0,e3,h];rfl)
      | false=>exact hX e0 (by rw [e3,h];rfl)
    · have e3:decide ((s.size:Int)>1)=false:=decide_eq_false h1
      rw [e3]
      exact hX e0 (by rw [e3];rfl)
  unfold tZ
  by_cases h1:(s.size:Int)>0
  · have e3:decide ((s.size:Int)>0)=true:=decide_eq_true h1
    rw [e3]
    cases h:strAt s 0 != 165 with
    | true=>exact hb (x:=badT s) rfl (by unfold badT;rw [e3,h];rfl)
    | false=>exact hY (by rw [e3,h];rfl)
  · have e3:decide ((s.size:Int)>0)=false:=decide_eq_false h1
    rw [e3]
    exact hY (by rw [e3];rfl)
end Go.Proofs.YtagaiddomhpdmaaGreat
namespace Go.Proofs.YtagaiddomhpdmaaGreat
open Go Go.Proofs Go.Sx
set_option linter.unusedVariables false
theorem runRead (s:ByteArray):runG ΓGa L0 Tryz.prog Tryz.f159 [.v (S s)] M0=rdTree s:=by kernel_rfl
def gRead (vs:List Value):Option (Bool×Value) :=
  match vs with
  | [.string s]=>some (true,rdV s)
  | _=>none
theorem gRead_ok:CtV 159 gRead:=by
  intro vs r h
  unfold gRead at h
  split at h
  · rename_i s
    obtain ⟨h1,rfl⟩:=some_t h
    refine runV (vs:=[S s]) (Λ:=L0) (m':=M0) OkGa Tryz.func159 rfl (fun z _ _=>noLoops (by kernel_rfl) z) ?_
    exact (runRead s).trans (rdTree_eq s)
  · cases h
noncomputable def ΓH1:Orc:=addVal 159 gRead ΓGa
theorem OkH1:ΓH1.Ok Tryz.prog:=addVal_ok OkGa gRead_ok
theorem runRRead (s:ByteArray):runG ΓH1 L0 Tryz.prog Tryz.f52 [.v (S s)] M0=tZ s:=by kernel_rfl
def gRRead (vs:List Value):Option (Bool×Value) :=
  match vs with
  | [.string s]=>some (true,rdV s)
  | _=>none
theorem gRRead_ok:CtV 52 gRRead:=by
  intro vs r h
  unfold gRRead at h
  split at h
  · rename_i s
    obtain ⟨h1,rfl⟩:=some_t h
    refine runV (vs:=[S s]) (Λ:=L0) (m':=M0) OkH1 Tryz.func52 rfl (fun z _ _=>noLoops (by kernel_rfl) z) ?_
    exact (runRRead s).trans (tZ_eq s)
  · cases h
noncomputable def ΓH2:Orc:=addVal 52 gRRead ΓH1
theorem OkH2:ΓH2.Ok Tryz.prog:=addVal_ok OkH1 gRRead_ok
noncomputable def ΓHa:Orc:=ΓH2
theorem OkHa:ΓHa.Ok Tryz.prog:=OkH2
end Go.Proofs.YtagaiddomhpdmaaGreat
namespace Go.Proofs.YtagaiddomhpdmaaGreat
open Go Go.Proofs Go.Sx
set_option linter.unusedVariables false
def MS (w:ByteArray) (a b:Int):Mem:=⟨[[.v (S w),.ptr 1 0],[.v (I a),.v (I b)]],[true,true],[]⟩
abbrev nilV:Value:=.pointer none
noncomputable def ΓJ1:Orc:=ΓHa
theorem OkJ1:ΓJ1.Ok Tryz.prog:=OkHa
noncomputable def ΓJ2:Orc:=ΓJ1
theorem OkJ2:ΓJ2.Ok Tryz.prog:=OkJ1
theorem runDrop0 (r:ByteArray) (n:Int) (w:ByteArray) (a b:Int):runG ΓJ2 L0 Tryz.prog Tryz.f160 [.ptr 0 0,.v (S r),.v (I n)] (MS w a b)=bif decide (0≤n)&&(decide (n≤(r.size:Int))&&decide ((r.size:Int)≤(r.size:Int))) then some (.v (S (r.extract n.toNat r.size)),MS w a (addN' a b n)) else none:=by kernel_rfl
def gDrop (xs:List SV) (m:Mem):Option (Bool×SV×Mem) :=
  match xs,m with
  | [.ptr 0 0,.v (.string r),.v (.int .i64 n)],⟨[[.v (.string w),.ptr 1 0],[.v (.int .i64 a),.v (.int .i64 b)]],[true,true],[]⟩=>some (decide (0≤n)&&(decide (n≤(r.size:Int))&&decide ((r.size:Int)≤(r.size:Int))),.v (S (r.extract n.toNat r.size)),MS w a (addN' a b n))
  | _,_=>none
theorem gDrop_ok:CtC 160 gDrop:=by
  intro xs m r m' h
  unfold gDrop at h
  split at h
  · rename_i r n w a b
    obtain ⟨h1,rfl,rfl⟩:=some_t2 h
    refine runOk (Λ:=L0) OkJ2 Tryz.func160 rfl (fun z _ _=>noLoops (by kernel_rfl) z) ?_
    exact (runDrop0 r n w a b).trans (by rw [h1];rfl)
  · cases h
noncomputable def ΓJ3:Orc:=addCl 160 gDrop ΓJ2
theorem OkJ3:ΓJ3.Ok Tryz.prog:=addCl_ok OkJ2 gDrop_ok
theorem runNewS0:runG ΓJ3 L0 Tryz.prog Tryz.f142 [] M0=some (.ptr 0 0,MS ⟨#[]⟩ 1000000 0):=by kernel_rfl
def gNewS (xs:List SV) (m:Mem):Option (Bool×SV×Mem) :=
  match xs,m with
  | [],⟨[],[],[]⟩=>some (true,.ptr 0 0,MS ⟨#[]⟩ 1000000 0)
  | _,_=>none
theorem gNewS_ok:CtC 142 gNewS:=by
  intro xs m r m' h
  unfold gNewS at h
  split at h
  · obtain ⟨h1,rfl,rfl⟩:=some_t2 h
    refine runOk (Λ:=L0) OkJ3 Tryz.func142 rfl (fun z _ _=>noLoops (by kernel_rfl) z) ?_
    exact (runNewS0 ).trans (rfl)
  · cases h
noncomputable def ΓJ4:Orc:=addCl 142 gNewS ΓJ3
theorem OkJ4:ΓJ4.Ok Tryz.prog:=addCl_ok OkJ3 gNewS_ok
noncomputable def ΓJa:Orc:=ΓJ4
theorem OkJa:ΓJa.Ok Tryz.prog:=OkJ4
end Go.Proofs.YtagaiddomhpdmaaGreat
namespace Go.Proofs.YtagaiddomhpdmaaGreat
open Go Go.Proofs Go.Sx
set_option linter.unusedVariables false
def ksF:List CK:=[.num .i64,.str]
def frT (t:TypeId) (Q:List (List Dat)):RowS:=.live ⟨t,ksF,Q,true,false⟩
def MF (t:TypeId) (w:ByteArray) (a v:Int) (Q:List (List Dat)):Mem:=⟨[[.v (S w),.ptr 1 0],[.v (I a),.v (I v)]],[true,true],[frT t Q]⟩
def fr (s:ByteArray):List Dat:=[.n (rdK s),.s (rdP s)]
def room (Q:List (List Dat)) (b:Nat):Bool:=decide ((Q.length+1)*b≤140737488355328∧Q.length+1≤9223372036854775807)
def kFeed:List Bool:=maskOf 53 [0,5,6]
noncomputable def bodyFeed:Code:=loopAt (Tryz.f104.body.getD .skip) 0
theorem loopsFeed:loopsOf (Tryz.f104.body.getD .skip)=[bodyFeed]:=by kernel_rfl
theorem loopsFeed0:loopsOf bodyFeed=[]:=by kernel_rfl
def EFeed (e:Ex) (st:St):Option (Ex×St):=some (e,cutC 2 0 kFeed st)
def HFeed (w:ByteArray) (a v:Int) (Q:List (List Dat)) (r:ByteArray):St:=mk kFeed [.ptr 0 0,.row 0,.v (S r)] (MF 230 w a v Q)
theorem stepFeed (k:Nat) (w:ByteArray) (a v:Int) (Q:List (List Dat)) (r:ByteArray):evLoop ΓJa Tryz.prog L0 (cutC 2 0 kFeed) bodyFeed (k+1) (HFeed w a v Q r) EFeed =
    bif !(r.toList==(⟨#[]⟩:ByteArray).toList) then (bif rdE r==5 then some (.exit 0,HFeed w a v Q r) else bif rdE r==0 then
      (bif room Q 24 then (bif decide (0≤rdN r)&&(decide (rdN r≤(r.size:Int))&&decide ((r.size:Int)≤(r.size:Int))) then evLoop ΓJa Tryz.prog L0 (cutC 2 0 kFeed) bodyFeed k (HFeed w a v (Q++[fr r]) (r.extract (rdN r).toNat r.size)) EFeed else none) else none) else
      (bif decide ((0:Int)≤1)&&(decide (1≤(r.size:Int))&&decide ((r.size:Int)≤(r.size:Int))) then evLoop ΓJa Tryz.prog L0 (cutC 2 0 kFeed) bodyFeed k (HFeed w a (addN' a v 1) Q (r.extract (Int.toNat 1) r.size)) EFeed else none))
    else some (.exit 0,HFeed w a v Q r):=by kernel_rfl
def scan:Nat→ByteArray→List (List Dat)×ByteArray×Nat
  | 0,s=>([],s,0)
  | n+1,s=>if rdE s=5 then ([],s,0) else if rdE s=0 then (fr s::(scan n (s.extract (rdN s).toNat s.size)).1,(scan n (s.extract (rdN s).toNat s.size)).2) else
    ((scan n (s.extract 1 s.size)).1,(scan n (s.extract 1 s.size)).2.1,(scan n (s.extract 1 s.size)).2.2+1)
theorem ext_size {s:ByteArray} {n:Nat} (h:n≤s.size):(s.extract n s.size).size=s.size - n:=by
  rw [ByteArray.size_extract];omega
theorem scan_fuel:∀ (n m:Nat) (s:ByteArray),s.size<n→s.size<m→scan n s=scan m s
  | 0,_,_,h,_=>by omega
  | _+1,0,_,_,h=>by omega
  | n+1,m+1,s,h1,h2=>by
    unfold scan
    by_cases h5:rdE s=5
    · rw [if_pos h5,if_pos h5]
    rw [if_neg h5,if_neg h5]
    by_cases h0:rdE s=0
    · obtain ⟨g1,g2,_⟩:=rd_ok h0
      rw [if_pos h0,if_pos h0,scan_fuel n m _ (by rw [ext_size g1];omega) (by rw [ext_size g1];omega)]
    · have:=rd_some h5
      rw [if_neg h0,if_neg h0,scan_fuel n m _ (by rw [ext_size (by omega)];omega) (by rw [ext_size (by omega)];omega)]
def scanA (s:ByteArray):List (List Dat)×ByteArray×Nat:=scan (s.size+1) s
theorem scanA_eq (s:ByteArray):scanA s=if rdE s=5 then ([],s,0) else if rdE s=0 then (fr s::(scanA (s.extract (rdN s).toNat s.size)).1,(scanA (s.extract (rdN s).toNat s.size)).2) else
    ((scanA (s.extract 1 s.size)).1,(scanA (s.extract 1 s.size)).2.1,(scanA (s.extract 1 s.size)).2.2+1):=by
  unfold scanA
  rw [scan]
  by_cases h5:rdE s=5
  · rw [if_pos h5,if_pos h5]
  rw [if_neg h5,if_neg h5]
  by_cases h0:rdE s=0
  · obtain ⟨g1,g2,_⟩:=rd_ok h0
    rw [if_pos h0,if_pos h0,scan_fuel s.size ((s.extract (rdN s).toNat s.size).size+1) _ (by rw [ext_size g1];omega) (by omega)]
  · have:=rd_some h5
    rw [if_neg h0,if_neg h0,scan_fuel s.size ((s.extract 1 s.size).size+1) _ (by rw [ext_size (by omega)];omega) (by omega)]
def scF (s:ByteArray):List (List Dat):=(scanA s).1
def sR (s:ByteArray):ByteArray:=(scanA s).2.1
def sD (s:ByteArray):Nat:=(scanA s).2.2
theorem scan5 {s:ByteArray} (h:rdE s=5):scF s=[]∧sR s=s∧sD s=0:=by
  unfold scF sR sD
  rw [scanA_eq,if_pos h]
  exact ⟨rfl,rfl,rfl⟩
theorem scan0 {s:ByteArray} (h:rdE s=0):scF s=fr s::scF (s.extract (rdN s).toNat s.size)∧sR s=sR (s.extract (rdN s).toNat s.size)∧sD s=sD (s.extract (rdN s).toNat s.size):=by
  unfold scF sR sD
  rw [scanA_eq,if_neg (by omega),if_pos h]
  exact ⟨rfl,rfl,rfl⟩
theorem scan1 {s:ByteArray} (h5:rdE s≠5) (h:rdE s≠0):scF s=scF (s.extract 1 s.size)∧sR s=sR (s.extract 1 s.size)∧sD s=sD (s.extract 1 s.size)+1:=by
  unfold scF sR sD
  rw [scanA_eq,if_neg h5,if_neg h]
  exact ⟨rfl,rfl,rfl⟩
theorem scan_ind {Q:ByteArray→Prop} (h5:∀ s,rdE s=5→Q s) (h0:∀ s,rdE s=0→Q (s.extract (rdN s).toNat s.size)→Q s) (h1:∀ s,rdE s≠5→rdE s≠0→Q (s.extract 1 s.size)→Q s):∀ s,Q s:=by
  have:∀ (n:Nat) (s:ByteArray),s.size<n→Q s:=by
    intro n
    induction n with
    | zero=>intro s h;omega
    | succ n ih =>
      intro s h
      by_cases e5:rdE s=5
      · exact h5 s e5
      by_cases e0:rdE s=0
      · obtain ⟨g1,g2,_⟩:=rd_ok e0
        exact h0 s e0 (ih _ (by rw [ext_size g1];omega))
      · have:=rd_some e5
        exact h1 s e5 e0 (ih _ (by rw [ext_size (by omega)];omega))
  exact fun s=>this (s.size+1) s (by omega)
theorem sR_short:∀ s,rdE (sR s)=5:=by
  refine scan_ind (fun s h=>?_) (fun s h ih=>?_) (fun s h h' ih=>?_)
  · rw [(scan5 h).2.1];exact h
  · rw [(scan0 h).2.1];exact ih
  · rw [(scan1 h h').2.1];exact ih
theorem sR_size (s:ByteArray):(sR s).size<70:=rd_short (sR_short s)
theorem sF_len:∀ s,(scF s).length≤s.size:=by
  refine scan_ind (fun s h=>?_) (fun s h ih=>?_) (fun s h h' ih=>?_)
  · rw [(scan5 h).1];exact Nat.zero_le _
  · rw [(scan0 h).1,List.length_cons]
    obtain ⟨g1,g2,_⟩:=rd_ok h
    have:=ext_size g1
    omega
  · rw [(scan1 h h').1]
    have:=ext_size (s:=s) (n:=1) (rd_some h)
    omega
def sat (v d:Nat):Nat:=min (v+d) 1000000
theorem add_sat {v n:Nat} (h:v≤1000000):addN' 1000000 (v:Int) (n:Int)=((sat v n:Nat):Int):=by
  have e:clampI (n:Int) (1000000 - (v:Int))=((min n (1000000 - v):Nat):Int):=by
    unfold clampI
    repeat' split
    all_goals omega
  unfold addN' sat
  rw [wI_id (n:=1000000 - (v:Int)) (by omega),e,wI_id (by omega)]
  omega
theorem sat_le (v d:Nat):sat v d≤1000000:=Nat.min_le_right _ _
theorem sat_add (v d e:Nat):sat (sat v d) e=sat v (d+e):=by unfold sat;omega
theorem sat_zero {v:Nat} (h:v≤1000000):sat v 0=v:=by unfold sat;omega
theorem room_of {Q:List (List Dat)} {b:Nat} (h:Q.length<1099511627776) (hb:b≤100):room Q b=true:=by
  unfold room
  have:(Q.length+1)*b≤1099511627776*100:=Nat.mul_le_mul (by omega) hb
  exact decide_eq_true (by omega)
theorem beq_nil (r:ByteArray):(!(r.toList==(⟨#[]⟩:ByteArray).toList))=decide (0<r.size):=by
  rw [beq_TS]
  by_cases h:r=⟨#[]⟩
  · subst h;rfl
  · have h0:0<r.size:=by
      apply Classical.byContradiction
      intro hn
      refine h (L_inj.1 ?_)
      have:(L r).length=0:=by rw [L_len];omega
      exact List.eq_nil_of_length_eq_zero this
    rw [decide_eq_true h0,Bool.eq_false_iff.2 (fun hc=>h ((beq_S _ _).1 hc))]
    rfl
theorem feedLoop {α:Type} (E:Nat→Int→List (List Dat)→ByteArray→Option α) (F:Int→List (List Dat)→ByteArray→α)
    (hE:∀ k v Q r,E (k+1) v Q r=bif !(r.toList==(⟨#[]⟩:ByteArray).toList) then (bif rdE r==5 then some (F v Q r) else bif rdE r==0 then
      (bif room Q 24 then (bif decide (0≤rdN r)&&(decide (rdN r≤(r.size:Int))&&decide ((r.size:Int)≤(r.size:Int))) then E k v (Q++[fr r]) (r.extract (rdN r).toNat r.size) else none) else none) else
      (bif decide ((0:Int)≤1)&&(decide (1≤(r.size:Int))&&decide ((r.size:Int)≤(r.size:Int))) then E k (addN' 1000000 v 1) Q (r.extract (Int.toNat 1) r.size) else none)) else some (F v Q r)) :
    ∀ (r:ByteArray) (k v:Nat) (Q:List (List Dat)),r.size<k→v≤1000000→Q.length+r.size<1099511627776→E k (v:Int) Q r=some (F ((sat v (sD r):Nat):Int) (Q++scF r) (sR r)):=by
  refine scan_ind (fun s h k v Q hk hv hq=>?_) (fun s h ih k v Q hk hv hq=>?_) (fun s h h' ih k v Q hk hv hq=>?_)
  · obtain ⟨e1,e2,e3⟩:=scan5 h
    cases k with
    | zero=>omega
    | succ k =>
      rw [hE,h,e1,e2,e3,sat_zero hv,List.append_nil]
      cases (!(s.toList==(⟨#[]⟩:ByteArray).toList))<;>rfl
  · obtain ⟨g1,g2,g3,_⟩:=rd_ok h
    obtain ⟨e1,e2,e3⟩:=scan0 h
    have hsz:=ext_size g1
    cases k with
    | zero=>omega
    | succ k =>
      rw [hE,beq_nil,decide_eq_true (show 0<s.size by omega),show (rdE s==5)=false from by rw [h];rfl,show (rdE s==0)=true from by rw [h];rfl,room_of (by omega) (by omega),decide_eq_true (show 0≤rdN s by omega),decide_eq_true (show rdN s≤(s.size:Int) by omega),decide_eq_true (Int.le_refl (s.size:Int))]
      simp only [cond_true,cond_false,Bool.and_self]
      rw [ih k v (Q++[fr s]) (by omega) hv (by simp only [List.length_append,List.length_cons,List.length_nil];omega),e1,e2,e3,List.append_assoc]
      rfl
  · have hp:=rd_some h
    obtain ⟨e1,e2,e3⟩:=scan1 h h'
    have hsz:=ext_size (s:=s) (n:=1) hp
    cases k with
    | zero=>omega
    | succ k =>
      rw [hE,beq_nil,decide_eq_true hp,show (rdE s==5)=false from beq_eq_false_iff_ne.2 h,show (rdE s==0)=false from beq_eq_false_iff_ne.2 h',decide_eq_true (show (1:Int)≤(s.size:Int) by omega),decide_eq_true (Int.le_refl (s.size:Int)),decide_eq_true (show (0:Int)≤1 by omega)]
      simp only [cond_true,cond_false,Bool.and_self]
      rw [show addN' 1000000 (v:Int) 1=((sat v 1:Nat):Int) from add_sat (n:=1) hv,show Int.toNat 1=1 from rfl,ih k (sat v 1) Q (by omega) (sat_le _ _) (by omega),e1,e2,e3,sat_add,Nat.add_comm 1]
end Go.Proofs.YtagaiddomhpdmaaGreat
namespace Go.Proofs.YtagaiddomhpdmaaGreat
open Go Go.Proofs Go.Sx
set_option linter.unusedVariables false
def GFeed (vals:List SV) (m:Mem):Option (Bool×Ex×St) :=
  match vals,m with
  | [.ptr 0 0,.row 0,.v (.string r)],⟨[[.v (.string w),.ptr 1 0],[.v (.int .i64 a),.v (.int .i64 v)]],[true,true],[.live ⟨230,[.num .i64,.str],Q,true,false⟩]⟩ =>
    some (a==1000000&&(inN 1000001 v&&Nat.ble (Q.length+r.size) 1099511627775),.exit 0,HFeed w a ((sat v.toNat (sD r):Nat):Int) (Q++scF r) (sR r))
  | _,_=>none
noncomputable def ΛFeed:LoopOrc:=fun _ st=>viaC 2 0 kFeed GFeed st
theorem loopOkFeed (z:Base) (h1:z.L.length=2) (h2:z.U.length=0):LoopOk ΛFeed Tryz.prog z bodyFeed:=by
  refine loop_okC (Λ:=L0) (kx:=fun _=>kFeed) OkJa mixed h1 h2 (fun b hb=>by rw [loopsFeed0] at hb;cases hb) (G:=GFeed) (fun _=>rfl) ?_
  intro vals m e st' h
  unfold GFeed at h
  split at h
  · rename_i r w a v Q
    obtain ⟨hg,rfl,rfl⟩:=some_t2 h
    simp only [Bool.and_eq_true,beq_iff_eq] at hg
    obtain ⟨rfl,hv,hq⟩:=hg
    obtain ⟨n,rfl,hn⟩:=inN_nat hv
    have hq:=Nat.le_of_ble_eq_true hq
    exact ⟨r.size+1,feedLoop (fun k v Q r=>evLoop ΓJa Tryz.prog L0 (cutC 2 0 kFeed) bodyFeed k (HFeed w 1000000 v Q r) EFeed) (fun v Q r=>(.exit 0,HFeed w 1000000 v Q r)) (fun k v Q r=>stepFeed k w 1000000 v Q r) r (r.size+1) n Q (by omega) (by omega) (by omega)⟩
  · cases h
def okFeed (w s:ByteArray) (a v:Int):Bool:=a==1000000&&(inN 1000001 v&&Nat.ble (w.size+s.size) 1099511627775)
theorem runFeed (w s:ByteArray) (a v:Int):runG ΓJa ΛFeed Tryz.prog Tryz.f104 [.ptr 0 0,.v (S s)] (MS w a v) =
    bif Nat.ble (w.size+s.size) 9223372036854775807 then (bif a==1000000&&(inN 1000001 v&&Nat.ble (([]:List (List Dat)).length+(w++s).size) 1099511627775) then
      (bif decide (0≤(if wI (((sR (w++s)).size:Int) - 1024)>0 then wI (((sR (w++s)).size:Int) - 1024) else 0))&&(decide ((if wI (((sR (w++s)).size:Int) - 1024)>0 then wI (((sR (w++s)).size:Int) - 1024) else 0)≤((sR (w++s)).size:Int))&&decide (((sR (w++s)).size:Int)≤((sR (w++s)).size:Int))) then
        (bif Nat.ble ((sR (w++s)).extract (if wI (((sR (w++s)).size:Int) - 1024)>0 then wI (((sR (w++s)).size:Int) - 1024) else 0).toNat (sR (w++s)).size).size 281474976710656 then
          some (.row 0,MF 230 ((sR (w++s)).extract (if wI (((sR (w++s)).size:Int) - 1024)>0 then wI (((sR (w++s)).size:Int) - 1024) else 0).toNat (sR (w++s)).size) a (addN' a ((sat v.toNat (sD (w++s)):Nat):Int) (if wI (((sR (w++s)).size:Int) - 1024)>0 then wI (((sR (w++s)).size:Int) - 1024) else 0)) ([]++scF (w++s))) else none) else none) else none) else none:=by kernel_rfl
theorem feed_is {w s:ByteArray} {v:Int} (hv:inN 1000001 v=true) (hs:Nat.ble (w.size+s.size) 1099511627775=true):runG ΓJa ΛFeed Tryz.prog Tryz.f104 [.ptr 0 0,.v (S s)] (MS w 1000000 v) =
    some (.row 0,MF 230 (sR (w++s)) 1000000 ((sat v.toNat (sD (w++s)):Nat):Int) (scF (w++s))):=by
  refine (runFeed w s 1000000 v).trans ?_
  have hs':=Nat.le_of_ble_eq_true hs
  have hsz:(w++s).size=w.size+s.size:=ByteArray.size_append
  have hR:=sR_size (w++s)
  have e0:(if wI (((sR (w++s)).size:Int) - 1024)>0 then wI (((sR (w++s)).size:Int) - 1024) else 0)=0:=by
    rw [wI_id (by omega),if_neg (by omega)]
  obtain ⟨n,rfl,hn⟩:=inN_nat hv
  rw [e0,hsz,show ([]:List (List Dat)).length+(w.size+s.size)=w.size+s.size from Nat.zero_add _,hs,hv,Nat.ble_eq_true_of_le (show w.size+s.size≤9223372036854775807 by omega),show ((0:Int)).toNat=0 from rfl,ext_all,
    Nat.ble_eq_true_of_le (show (sR (w++s)).size≤281474976710656 by omega),decide_eq_true (show (0:Int)≤((sR (w++s)).size:Int) by omega),decide_eq_true (Int.le_refl ((sR (w++s)).size:Int)),show addN' 1000000 ((sat ((n:Int)).toNat (sD (w++s)):Nat):Int) 0=((sat ((n:Int)).toNat (sD (w++s)):Nat):Int) from (add_sat (n:=0) (sat_le _ _)).trans (by rw [sat_zero (sat_le _ _)])]
  rfl
def gFeed (xs:List SV) (m:Mem):Option (Bool×SV×Mem) :=
  match xs,m with
  | [.ptr 0 0,.v (.string s)],⟨[[.v (.string w),.ptr 1 0],[.v (.int .i64 a),.v (.int .i64 v)]],[true,true],[]⟩=>some (okFeed w s a v,.row 0,MF 230 (sR (w++s)) 1000000 ((sat v.toNat (sD (w++s)):Nat):Int) (scF (w++s)))
  | [.v (.pointer none),.v (.string s)],⟨[],[],[]⟩=>some (true,.row 0,⟨[],[],[frT 230 []]⟩)
  | _,_=>none
theorem stopFeed (z:Base):LoopOk ΛFeed Tryz.prog z bodyFeed→∀ b∈loopsOf (Tryz.f104.body.getD .skip),LoopOk ΛFeed Tryz.prog z b:=fun h=>oneLoop loopsFeed h
theorem runFeedNil' (s:ByteArray):runG ΓJa L0 Tryz.prog Tryz.f104 [.v nilV,.v (S s)] M0=some (.row 0,⟨[],[],[frT 230 []]⟩):=by kernel_rfl
theorem nilFeed (s:ByteArray):CallOk Tryz.prog 104 [.v nilV,.v (S s)] M0 (.row 0) ⟨[],[],[frT 230 []]⟩ :=
  runOk (c:=Tryz.f104.body.getD .skip) (Λ:=L0) OkJa Tryz.func104 rfl (fun z h1 h2 b hb st t h=>by cases h) (runFeedNil' s)
theorem gFeed_ok:CtC 104 gFeed:=by
  intro xs m r m' h
  unfold gFeed at h
  split at h
  · rename_i s w a v
    obtain ⟨hg,rfl,rfl⟩:=some_t2 h
    unfold okFeed at hg
    simp only [Bool.and_eq_true,beq_iff_eq] at hg
    obtain ⟨rfl,hv,hs⟩:=hg
    refine runOk (c:=Tryz.f104.body.getD .skip) (Λ:=ΛFeed) OkJa Tryz.func104 rfl (fun z h1 h2=>stopFeed z (loopOkFeed z h1 h2)) (feed_is hv hs)
  · rename_i s
    obtain ⟨_,rfl,rfl⟩:=some_t2 h
    exact nilFeed s
  · cases h
noncomputable def ΓM1:Orc:=addCl 104 gFeed ΓJa
theorem OkM1:ΓM1.Ok Tryz.prog:=addCl_ok OkJa gFeed_ok
def kScan:List Bool:=maskOf 37 [0,5,6]
noncomputable def bodyScan:Code:=loopAt (Tryz.f50.body.getD .skip) 0
theorem loopsScan:loopsOf (Tryz.f50.body.getD .skip)=[bodyScan]:=by kernel_rfl
theorem loopsScan0:loopsOf bodyScan=[]:=by kernel_rfl
def EScan (e:Ex) (st:St):Option (Ex×St):=some (e,cutC 0 0 kScan st)
def HScan (d:Int) (Q:List (List Dat)) (r:ByteArray):St:=mk kScan [.v (S r),.row 0,.v (I d)] ⟨[],[],[frT 124 Q]⟩
theorem stepScan (k:Nat) (d:Int) (Q:List (List Dat)) (r:ByteArray):evLoop ΓM1 Tryz.prog L0 (cutC 0 0 kScan) bodyScan (k+1) (HScan d Q r) EScan =
    bif decide ((r.size:Int)>0) then (bif rdE r==5 then some (.exit 0,HScan d Q r) else bif rdE r==0 then
      (bif room Q 24 then (bif decide (0≤rdN r)&&(decide (rdN r≤(r.size:Int))&&decide ((r.size:Int)≤(r.size:Int))) then evLoop ΓM1 Tryz.prog L0 (cutC 0 0 kScan) bodyScan k (HScan d (Q++[fr r]) (r.extract (rdN r).toNat r.size)) EScan else none) else none) else
      (bif decide ((0:Int)≤1)&&(decide (1≤(r.size:Int))&&decide ((r.size:Int)≤(r.size:Int))) then evLoop ΓM1 Tryz.prog L0 (cutC 0 0 kScan) bodyScan k (HScan (wI (d+1)) Q (r.extract (Int.toNat 1) r.size)) EScan else none))
    else some (.exit 0,HScan d Q r):=by kernel_rfl
theorem scanLoop {α:Type} (E:Nat→Int→List (List Dat)→ByteArray→Option α) (F:Int→List (List Dat)→ByteArray→α)
    (hE:∀ k v Q r,E (k+1) v Q r=bif decide ((r.size:Int)>0) then (bif rdE r==5 then some (F v Q r) else bif rdE r==0 then
      (bif room Q 24 then (bif decide (0≤rdN r)&&(decide (rdN r≤(r.size:Int))&&decide ((r.size:Int)≤(r.size:Int))) then E k v (Q++[fr r]) (r.extract (rdN r).toNat r.size) else none) else none) else
      (bif decide ((0:Int)≤1)&&(decide (1≤(r.size:Int))&&decide ((r.size:Int)≤(r.size:Int))) then E k (wI (v+1)) Q (r.extract (Int.toNat 1) r.size) else none)) else some (F v Q r)) :
    ∀ (r:ByteArray) (k v:Nat) (Q:List (List Dat)),r.size<k→v+r.size<1099511627776→Q.length+r.size<1099511627776→E k (v:Int) Q r=some (F ((v+sD r:Nat):Int) (Q++scF r) (sR r)):=by
  refine scan_ind (fun s h k v Q hk hv hq=>?_) (fun s h ih k v Q hk hv hq=>?_) (fun s h h' ih k v Q hk hv hq=>?_)
  · obtain ⟨e1,e2,e3⟩:=scan5 h
    cases k with
    | zero=>omega
    | succ k =>
      rw [hE,h,e1,e2,e3,Nat.add_zero,List.append_nil]
      cases decide ((s.size:Int)>0)<;>rfl
  · obtain ⟨g1,g2,g3,_⟩:=rd_ok h
    obtain ⟨e1,e2,e3⟩:=scan0 h
    have hsz:=ext_size g1
    cases k with
    | zero=>omega
    | succ k =>
      rw [hE,decide_eq_true (show (s.size:Int)>0 by omega),show (rdE s==5)=false from by rw [h];rfl,show (rdE s==0)=true from by rw [h];rfl,room_of (by omega) (by omega),decide_eq_true (show 0≤rdN s by omega),decide_eq_true (show rdN s≤(s.size:Int) by omega),decide_eq_true (Int.le_refl (s.size:Int))]
      simp only [cond_true,cond_false,Bool.and_self]
      rw [ih k v (Q++[fr s]) (by omega) (by omega) (by simp only [List.length_append,List.length_cons,List.length_nil];omega),e1,e2,e3,List.append_assoc]
      rfl
  · have hp:=rd_some h
    obtain ⟨e1,e2,e3⟩:=scan1 h h'
    have hsz:=ext_size (s:=s) (n:=1) hp
    cases k with
    | zero=>omega
    | succ k =>
      rw [hE,decide_eq_true (show (s.size:Int)>0 by omega),show (rdE s==5)=false from beq_eq_false_iff_ne.2 h,show (rdE s==0)=false from beq_eq_false_iff_ne.2 h',decide_eq_true (show (1:Int)≤(s.size:Int) by omega),decide_eq_true (Int.le_refl (s.size:Int)),decide_eq_true (show (0:Int)≤1 by omega)]
      simp only [cond_true,cond_false,Bool.and_self]
      rw [wI_id (by omega),show ((v:Int)+1)=((v+1:Nat):Int) by omega,show Int.toNat 1=1 from rfl,ih k (v+1) Q (by omega) (by omega) (by omega),e1,e2,e3,show v+1+sD (s.extract 1 s.size)=v+(sD (s.extract 1 s.size)+1) by omega]
def GScan (vals:List SV) (m:Mem):Option (Bool×Ex×St) :=
  match vals,m with
  | [.v (.string r),.row 0,.v (.int .i64 d)],⟨[],[],[.live ⟨124,[.num .i64,.str],Q,true,false⟩]⟩ =>
    some (inN 1000001 d&&(Nat.ble r.size 1000000&&Nat.ble Q.length 1000000),.exit 0,HScan ((d.toNat+sD r:Nat):Int) (Q++scF r) (sR r))
  | _,_=>none
noncomputable def ΛScan:LoopOrc:=fun _ st=>viaC 0 0 kScan GScan st
theorem loopOkScan (z:Base) (h1:z.L.length=0) (h2:z.U.length=0):LoopOk ΛScan Tryz.prog z bodyScan:=by
  refine loop_okC (Λ:=L0) (kx:=fun _=>kScan) OkM1 mixed h1 h2 (fun b hb=>by rw [loopsScan0] at hb;cases hb) (G:=GScan) (fun _=>rfl) ?_
  intro vals m e st' h
  unfold GScan at h
  split at h
  · rename_i r d Q
    obtain ⟨hg,rfl,rfl⟩:=some_t2 h
    simp only [Bool.and_eq_true] at hg
    obtain ⟨hv,hr,hq⟩:=hg
    obtain ⟨n,rfl,hn⟩:=inN_nat hv
    have hr:=Nat.le_of_ble_eq_true hr
    have hq:=Nat.le_of_ble_eq_true hq
    exact ⟨r.size+1,scanLoop (fun k v Q r=>evLoop ΓM1 Tryz.prog L0 (cutC 0 0 kScan) bodyScan k (HScan v Q r) EScan) (fun v Q r=>(.exit 0,HScan v Q r)) (fun k v Q r=>stepScan k v Q r) r (r.size+1) n Q (by omega) (by omega) (by omega)⟩
  · cases h
theorem runScan (s:ByteArray):runG ΓM1 ΛScan Tryz.prog Tryz.f50 [.v (S s)] M0 =
    bif inN 1000001 0&&(Nat.ble s.size 1000000&&Nat.ble ([]:List (List Dat)).length 1000000) then some (.tup [.one (.row 0),.one (.v (S (sR s))),.one (.v (I ((Int.toNat 0+sD s:Nat):Int)))],⟨[],[],[frT 124 ([]++scF s)]⟩) else none:=by kernel_rfl
def gScan (xs:List SV) (m:Mem):Option (Bool×SV×Mem) :=
  match xs,m with
  | [.v (.string s)],⟨[],[],[]⟩=>some (Nat.ble s.size 1000000,.tup [.one (.row 0),.one (.v (S (sR s))),.one (.v (I ((sD s:Nat):Int)))],⟨[],[],[frT 124 (scF s)]⟩)
  | _,_=>none
theorem gScan_ok:CtC 50 gScan:=by
  intro xs m r m' h
  unfold gScan at h
  split at h
  · rename_i s
    obtain ⟨hg,rfl,rfl⟩:=some_t2 h
    refine runOk (c:=Tryz.f50.body.getD .skip) (Λ:=ΛScan) OkM1 Tryz.func50 rfl (fun z h1 h2=>oneLoop loopsScan (loopOkScan z h1 h2)) ((runScan s).trans ?_)
    rw [hg,show Int.toNat 0+sD s=sD s from Nat.zero_add _]
    rfl
  · cases h
noncomputable def ΓM2:Orc:=addCl 50 gScan ΓM1
theorem OkM2:ΓM2.Ok Tryz.prog:=addCl_ok OkM1 gScan_ok
end Go.Proofs.YtagaiddomhpdmaaGreat
namespace Go.Proofs.YtagaiddomhpdmaaGreat
open Go Go.Proofs Go.Sx
set_option linter.unusedVariables false
theorem printB_size (k:Int) (p:ByteArray):(printB k p).size≤70:=by
  unfold printB
  cases h:rightB k p with
  | false=>exact Nat.zero_le _
  | true =>
    have:=right_size h
    have:=prt_size k p
    show (prt k p).size≤70
    omega
end Go.Proofs.YtagaiddomhpdmaaGreat
namespace Go.Proofs.YtagaiddomhpdmaaGreat
open Go Go.Proofs Go.Sx
set_option linter.unusedVariables false
def NavM (a b c d e f g q:Int):Mem:=⟨[[.v (I a),.v (I b),.v (I c),.v (I d),.v (I e),.v (I f),.v (I g),.v (I q)]],[true],[]⟩
theorem bif_f (b X:Bool):(bif b then some (SV.v (Bo false),M0) else some (SV.v (Bo X),M0))=some (SV.v (Bo (!b&&X)),M0):=by cases b<;>rfl
theorem bif_t (b X:Bool):(bif b then some (SV.v (Bo X),M0) else some (SV.v (Bo false),M0))=some (SV.v (Bo (b&&X)),M0):=by cases b<;>rfl
def navR (a b c d e f g q:Int):Bool:=decide (0≤a∧a≤65535∧0≤b∧b≤255∧-2147483648≤c∧c≤2147483647∧-2147483648≤d∧d≤2147483647∧-2147483648≤e∧e≤2147483647∧-2147483648≤f∧f≤2147483647∧-2147483648≤g∧g≤2147483647∧-2147483648≤q∧q≤2147483647)
theorem runNumbers0 (a b c d e f g q:Int):runG ΓM2 L0 Tryz.prog Tryz.f131 [.ptr 0 0] (NavM a b c d e f g q)=some (.ag [.ptr 0 2,.ptr 0 3,.ptr 0 4,.ptr 0 5,.ptr 0 6,.ptr 0 7],NavM a b c d e f g q):=by kernel_rfl
def gNumbers (xs:List SV) (m:Mem):Option (Bool×SV×Mem) :=
  match xs,m with
  | [.ptr 0 0],⟨[[.v (.int .i64 a),.v (.int .i64 b),.v (.int .i64 c),.v (.int .i64 d),.v (.int .i64 e),.v (.int .i64 f),.v (.int .i64 g),.v (.int .i64 q)]],[true],[]⟩=>some (true,.ag [.ptr 0 2,.ptr 0 3,.ptr 0 4,.ptr 0 5,.ptr 0 6,.ptr 0 7],NavM a b c d e f g q)
  | _,_=>none
theorem gNumbers_ok:CtC 131 gNumbers:=by
  intro xs m r m' h
  unfold gNumbers at h
  split at h
  · rename_i a b c d e f g q
    obtain ⟨h1,rfl,rfl⟩:=some_t2 h
    refine runOk (Λ:=L0) OkM2 Tryz.func131 rfl (fun z _ _=>l0Ok _ z) ?_
    exact (runNumbers0 a b c d e f g q).trans (rfl)
  · cases h
noncomputable def ΓN1:Orc:=addCl 131 gNumbers ΓM2
theorem OkN1:ΓN1.Ok Tryz.prog:=addCl_ok OkM2 gNumbers_ok
theorem runRNumbers0 (a b c d e f g q:Int):runG ΓN1 L0 Tryz.prog Tryz.f74 [.v (.agg #[I a,I b,I c,I d,I e,I f,I g,I q])] M0=some (.row 0,⟨[],[],[.live ⟨2,[.num .i64],[[.n c],[.n d],[.n e],[.n f],[.n g],[.n q]],true,false⟩]⟩):=by kernel_rfl
def gRNumbers (xs:List SV) (m:Mem):Option (Bool×SV×Mem) :=
  match xs,m with
  | [.v (.agg ⟨[.int .i64 a,.int .i64 b,.int .i64 c,.int .i64 d,.int .i64 e,.int .i64 f,.int .i64 g,.int .i64 q]⟩)],⟨[],[],[]⟩=>some (true,.row 0,⟨[],[],[.live ⟨2,[.num .i64],[[.n c],[.n d],[.n e],[.n f],[.n g],[.n q]],true,false⟩]⟩)
  | _,_=>none
theorem gRNumbers_ok:CtC 74 gRNumbers:=by
  intro xs m r m' h
  unfold gRNumbers at h
  split at h
  · rename_i a b c d e f g q
    obtain ⟨h1,rfl,rfl⟩:=some_t2 h
    refine runOk (Λ:=L0) OkN1 Tryz.func74 rfl (fun z _ _=>l0Ok _ z) ?_
    exact (runRNumbers0 a b c d e f g q).trans (rfl)
  · cases h
noncomputable def ΓN2:Orc:=addCl 74 gRNumbers ΓN1
theorem OkN2:ΓN2.Ok Tryz.prog:=addCl_ok OkN1 gRNumbers_ok
theorem runNRight (a b c d e f g q:Int):runG ΓN2 L0 Tryz.prog Tryz.f129 [.v (.agg #[I a,I b,I c,I d,I e,I f,I g,I q])] M0=bif decide (a<0) then some (.v (Bo false),M0) else (bif decide (a>65535) then some (.v (Bo false),M0) else (bif decide (b<0) then some (.v (Bo false),M0) else (bif decide (b>255) then some (.v (Bo false),M0) else (bif decide (c< -2147483648) then some (.v (Bo false),M0) else (bif decide (c>2147483647) then some (.v (Bo false),M0) else (bif decide (d< -2147483648) then some (.v (Bo false),M0) else (bif decide (d>2147483647) then some (.v (Bo false),M0) else (bif decide (e< -2147483648) then some (.v (Bo false),M0) else (bif decide (e>2147483647) then some (.v (Bo false),M0) else (bif decide (f< -2147483648) then some (.v (Bo false),M0) else (bif decide (f>2147483647) then some (.v (Bo false),M0) else (bif decide (g< -2147483648) then some (.v (Bo false),M0) else (bif decide (g>2147483647) then some (.v (Bo false),M0) else (bif decide (q< -2147483648) then some (.v (Bo false),M0) else (bif decide (q>2147483647) then some (.v (Bo false),M0) else (some (.v (Bo true),M0))))))))))))))))):=by kernel_rfl
def gNRight (vs:List Value):Option (Bool×Value) :=
  match vs with
  | [.agg ⟨[.int .i64 a,.int .i64 b,.int .i64 c,.int .i64 d,.int .i64 e,.int .i64 f,.int .i64 g,.int .i64 q]⟩]=>some (true,Bo (navR a b c d e f g q))
  | _=>none
theorem gNRight_ok:CtV 129 gNRight:=by
  intro vs r h
  unfold gNRight at h
  split at h
  · rename_i a b c d e f g q
    obtain ⟨h1,rfl⟩:=some_t h
    refine runV (vs:=[.agg #[I a,I b,I c,I d,I e,I f,I g,I q]]) (Λ:=L0) (m':=M0) OkN2 Tryz.func129 rfl (fun z _ _=>l0Ok _ z) ?_
    exact (runNRight a b c d e f g q).trans (by
      simp only [bif_f]
      congr 4
      rw [Bool.eq_iff_iff]
      unfold navR
      simp only [Bool.and_true,Bool.and_eq_true,Bool.not_eq_true',decide_eq_false_iff_not,decide_eq_true_eq]
      omega)
  · cases h
noncomputable def ΓN3:Orc:=addVal 129 gNRight ΓN2
theorem OkN3:ΓN3.Ok Tryz.prog:=addVal_ok OkN2 gNRight_ok
theorem runRNRight (a b c d e f g q:Int):runG ΓN3 L0 Tryz.prog Tryz.f92 [.v (.agg #[I a,I b,I c,I d,I e,I f,I g,I q])] M0=bif decide (c< -2147483648) then some (.v (Bo false),M0) else (bif decide (c>2147483647) then some (.v (Bo false),M0) else (bif decide (d< -2147483648) then some (.v (Bo false),M0) else (bif decide (d>2147483647) then some (.v (Bo false),M0) else (bif decide (e< -2147483648) then some (.v (Bo false),M0) else (bif decide (e>2147483647) then some (.v (Bo false),M0) else (bif decide (f< -2147483648) then some (.v (Bo false),M0) else (bif decide (f>2147483647) then some (.v (Bo false),M0) else (bif decide (g< -2147483648) then some (.v (Bo false),M0) else (bif decide (g>2147483647) then some (.v (Bo false),M0) else (bif decide (q< -2147483648) then some (.v (Bo false),M0) else (bif decide (q>2147483647) then some (.v (Bo false),M0) else (bif decide (a≥0) then (bif decide (a≤65535) then (bif decide (b≥0) then some (.v (Bo (decide (b≤255))),M0) else some (.v (Bo false),M0)) else some (.v (Bo false),M0)) else some (.v (Bo false),M0))))))))))))):=by kernel_rfl
def gRNRight (vs:List Value):Option (Bool×Value) :=
  match vs with
  | [.agg ⟨[.int .i64 a,.int .i64 b,.int .i64 c,.int .i64 d,.int .i64 e,.int .i64 f,.int .i64 g,.int .i64 q]⟩]=>some (true,Bo (navR a b c d e f g q))
  | _=>none
theorem gRNRight_ok:CtV 92 gRNRight:=by
  intro vs r h
  unfold gRNRight at h
  split at h
  · rename_i a b c d e f g q
    obtain ⟨h1,rfl⟩:=some_t h
    refine runV (vs:=[.agg #[I a,I b,I c,I d,I e,I f,I g,I q]]) (Λ:=L0) (m':=M0) OkN3 Tryz.func92 rfl (fun z _ _=>l0Ok _ z) ?_
    exact (runRNRight a b c d e f g q).trans (by
      simp only [bif_f,bif_t]
      congr 4
      rw [Bool.eq_iff_iff]
      unfold navR
      simp only [Bool.and_eq_true,Bool.not_eq_true',decide_eq_false_iff_not,decide_eq_true_eq]
      omega)
  · cases h
noncomputable def ΓN4:Orc:=addVal 92 gRNRight ΓN3
theorem OkN4:ΓN4.Ok Tryz.prog:=addVal_ok OkN3 gRNRight_ok
def apartU (x y:Int):Int:=IntKind.u64.wrap (IntKind.u64.wrap (if y>x then y else x) - IntKind.u64.wrap (if y<x then y else x))
theorem runApart (x y:Int):runG ΓN4 L0 Tryz.prog Tryz.f229 [.v (I x),.v (I y)] M0=some (.v (U64 (apartU x y)),M0):=by kernel_rfl
def gApart (vs:List Value):Option (Bool×Value) :=
  match vs with
  | [.int .i64 x,.int .i64 y]=>some (true,U64 (apartU x y))
  | _=>none
theorem gApart_ok:CtV 229 gApart:=by
  intro vs r h
  unfold gApart at h
  split at h
  · rename_i x y
    obtain ⟨h1,rfl⟩:=some_t h
    refine runV (vs:=[I x,I y]) (Λ:=L0) (m':=M0) OkN4 Tryz.func229 rfl (fun z _ _=>l0Ok _ z) ?_
    exact (runApart x y).trans (rfl)
  · cases h
noncomputable def ΓN5:Orc:=addVal 229 gApart ΓN4
theorem OkN5:ΓN5.Ok Tryz.prog:=addVal_ok OkN4 gApart_ok
def apartR (x y:Int):Int:=IntKind.u64.wrap (IntKind.u64.wrap x - IntKind.u64.wrap y)
theorem runRApart0 (x y w:Int):runG ΓN5 L0 Tryz.prog Tryz.f75 [.v (I x),.v (I y),.v (I w)] M0=bif decide (x<y) then none else some (.v (Bo (decide (apartR x y≤IntKind.u64.wrap w))),M0):=by kernel_rfl
def gRApart0 (vs:List Value):Option (Bool×Value) :=
  match vs with
  | [.int .i64 x,.int .i64 y,.int .i64 w]=>some (!decide (x<y),Bo (decide (apartR x y≤IntKind.u64.wrap w)))
  | _=>none
theorem gRApart0_ok:CtV 75 gRApart0:=by
  intro vs r h
  unfold gRApart0 at h
  split at h
  · rename_i x y w
    obtain ⟨h1,rfl⟩:=some_t h
    refine runV (vs:=[I x,I y,I w]) (Λ:=L0) (m':=M0) OkN5 Tryz.func75 rfl (fun z _ _=>l0Ok _ z) ?_
    exact (runRApart0 x y w).trans (by cases hc:decide (x<y)<;>rw [hc] at h1<;>first|rfl|cases h1)
  · cases h
noncomputable def ΓN6:Orc:=addVal 75 gRApart0 ΓN5
theorem OkN6:ΓN6.Ok Tryz.prog:=addVal_ok OkN5 gRApart0_ok
theorem runRApart (x y w:Int):runG ΓN6 L0 Tryz.prog Tryz.f75 [.v (I x),.v (I y),.v (I w)] M0=bif decide (x<y) then (bif !decide (y<x) then some (.v (Bo (decide (apartR y x≤IntKind.u64.wrap w))),M0) else none) else some (.v (Bo (decide (apartR x y≤IntKind.u64.wrap w))),M0):=by kernel_rfl
def gRApart (vs:List Value):Option (Bool×Value) :=
  match vs with
  | [.int .i64 x,.int .i64 y,.int .i64 w]=>some (true,Bo (decide (apartU x y≤IntKind.u64.wrap w)))
  | _=>none
theorem gRApart_ok:CtV 75 gRApart:=by
  intro vs r h
  unfold gRApart at h
  split at h
  · rename_i x y w
    obtain ⟨h1,rfl⟩:=some_t h
    refine runV (vs:=[I x,I y,I w]) (Λ:=L0) (m':=M0) OkN6 Tryz.func75 rfl (fun z _ _=>l0Ok _ z) ?_
    exact (runRApart x y w).trans (by
      unfold apartU apartR
      by_cases hc:x<y
      · rw [decide_eq_true hc,decide_eq_false (show ¬ y<x by omega),if_pos (show y>x by omega),if_neg (show ¬ y<x by omega)]
        rfl
      · rw [decide_eq_false hc,if_neg (show ¬ y>x by omega)]
        by_cases h2:y<x
        · rw [if_pos h2];rfl
        · rw [if_neg h2,show y=x by omega];rfl)
  · cases h
noncomputable def ΓN7:Orc:=addVal 75 gRApart ΓN6
theorem OkN7:ΓN7.Ok Tryz.prog:=addVal_ok OkN6 gRApart_ok
def kindI (x:Int):Int:=if x=0 then 16 else if x=1 then 17 else -1
theorem runKind (x:Int):runG ΓN7 L0 Tryz.prog Tryz.f77 [.v (I x)] M0=bif decide (x<0) then some (.v (I (-1)),M0) else (bif decide (x≥2) then some (.v (I (-1)),M0) else some (.v (I (IntKind.i64.wrap (16+x))),M0)):=by kernel_rfl
def gKind (vs:List Value):Option (Bool×Value) :=
  match vs with
  | [.int .i64 x]=>some (true,I (kindI x))
  | _=>none
theorem gKind_ok:CtV 77 gKind:=by
  intro vs r h
  unfold gKind at h
  split at h
  · rename_i x
    obtain ⟨h1,rfl⟩:=some_t h
    refine runV (vs:=[I x]) (Λ:=L0) (m':=M0) OkN7 Tryz.func77 rfl (fun z _ _=>l0Ok _ z) ?_
    exact (runKind x).trans (by
      unfold kindI
      by_cases h0:x=0
      · subst h0;rfl
      by_cases h2:x=1
      · subst h2;rfl
      rw [if_neg h0,if_neg h2]
      by_cases h3:x<0
      · rw [decide_eq_true h3];rfl
      · rw [decide_eq_false h3,decide_eq_true (show x≥2 by omega)];rfl)
  · cases h
noncomputable def ΓN8:Orc:=addVal 77 gKind ΓN7
theorem OkN8:ΓN8.Ok Tryz.prog:=addVal_ok OkN7 gKind_ok
noncomputable def ΓN9:Orc:=ΓN8
theorem OkN9:ΓN9.Ok Tryz.prog:=OkN8
def navB (a b c d e f g q:Int):ByteArray:=((((((be 2 (a)++be 1 (b))++be 4 (c))++be 4 (d))++be 4 (e))++be 4 (f))++be 4 (g))++be 4 (q)
def printT (a b c d e f g q:Int):ByteArray:=bif navR a b c d e f g q then navB a b c d e f g q else ⟨#[]⟩
theorem runNPrint (a b c d e f g q:Int):runG ΓN9 L0 Tryz.prog Tryz.f78 [.v (.agg #[I a,I b,I c,I d,I e,I f,I g,I q])] M0=bif !navR a b c d e f g q then some (.v (S ⟨#[]⟩),M0) else (bif Nat.ble ((be 2 (IntKind.u64.wrap a)).size+(be 1 (IntKind.u64.wrap b)).size) 9223372036854775807 then (bif Nat.ble ((be 2 (IntKind.u64.wrap a)++be 1 (IntKind.u64.wrap b)).size+(be 4 (IntKind.u64.wrap c)).size) 9223372036854775807 then (bif Nat.ble (((be 2 (IntKind.u64.wrap a)++be 1 (IntKind.u64.wrap b))++be 4 (IntKind.u64.wrap c)).size+(be 4 (IntKind.u64.wrap d)).size) 9223372036854775807 then (bif Nat.ble ((((be 2 (IntKind.u64.wrap a)++be 1 (IntKind.u64.wrap b))++be 4 (IntKind.u64.wrap c))++be 4 (IntKind.u64.wrap d)).size+(be 4 (IntKind.u64.wrap e)).size) 9223372036854775807 then (bif Nat.ble (((((be 2 (IntKind.u64.wrap a)++be 1 (IntKind.u64.wrap b))++be 4 (IntKind.u64.wrap c))++be 4 (IntKind.u64.wrap d))++be 4 (IntKind.u64.wrap e)).size+(be 4 (IntKind.u64.wrap f)).size) 9223372036854775807 then (bif Nat.ble ((((((be 2 (IntKind.u64.wrap a)++be 1 (IntKind.u64.wrap b))++be 4 (IntKind.u64.wrap c))++be 4 (IntKind.u64.wrap d))++be 4 (IntKind.u64.wrap e))++be 4 (IntKind.u64.wrap f)).size+(be 4 (IntKind.u64.wrap g)).size) 9223372036854775807 then (bif Nat.ble (((((((be 2 (IntKind.u64.wrap a)++be 1 (IntKind.u64.wrap b))++be 4 (IntKind.u64.wrap c))++be 4 (IntKind.u64.wrap d))++be 4 (IntKind.u64.wrap e))++be 4 (IntKind.u64.wrap f))++be 4 (IntKind.u64.wrap g)).size+(be 4 (IntKind.u64.wrap q)).size) 9223372036854775807 then some (.v (S (((((((be 2 (IntKind.u64.wrap a)++be 1 (IntKind.u64.wrap b))++be 4 (IntKind.u64.wrap c))++be 4 (IntKind.u64.wrap d))++be 4 (IntKind.u64.wrap e))++be 4 (IntKind.u64.wrap f))++be 4 (IntKind.u64.wrap g))++be 4 (IntKind.u64.wrap q))),M0) else none) else none) else none) else none) else none) else none) else none):=by kernel_rfl
def gNPrint (vs:List Value):Option (Bool×Value) :=
  match vs with
  | [.agg ⟨[.int .i64 a,.int .i64 b,.int .i64 c,.int .i64 d,.int .i64 e,.int .i64 f,.int .i64 g,.int .i64 q]⟩]=>some (true,S (printT a b c d e f g q))
  | _=>none
theorem gNPrint_ok:CtV 78 gNPrint:=by
  intro vs r h
  unfold gNPrint at h
  split at h
  · rename_i a b c d e f g q
    obtain ⟨h1,rfl⟩:=some_t h
    refine runV (vs:=[.agg #[I a,I b,I c,I d,I e,I f,I g,I q]]) (Λ:=L0) (m':=M0) OkN9 Tryz.func78 rfl (fun z _ _=>l0Ok _ z) ?_
    exact (runNPrint a b c d e f g q).trans (by
      unfold printT
      cases navR a b c d e f g q with
      | false=>rfl
      | true =>
        simp only [be_u64_1,be_u64_2,be_u64_4,ByteArray.size_append,be_size]
        rfl)
  · cases h
noncomputable def ΓN10:Orc:=addVal 78 gNPrint ΓN9
theorem OkN10:ΓN10.Ok Tryz.prog:=addVal_ok OkN9 gNPrint_ok
theorem rb32 (x:Int) (j k:Nat) (h:(2:Int) ^ min (Int.toNat (8*k:Nat)) 32=256 ^ k) (hj:j=8*k) (hk:k≤3):IntKind.u8.wrap ((IntKind.u32.wrap x).fdiv (2 ^ min (Int.toNat (j:Nat)) 32))=x / 256 ^ k % 256:=by
  subst hj
  rw [h,Int.fdiv_eq_ediv_of_nonneg _ (Int.le_of_lt (Int.pow_pos (by decide))),← wr_eq true,← wr_eq true]
  simp only [wr]
  have:k=0∨k=1∨k=2∨k=3:=by omega
  rcases this with rfl|rfl|rfl|rfl<;>omega
theorem rbe4 (x:Int):strOfNums [IntKind.u8.wrap ((IntKind.u32.wrap x).fdiv (2 ^ min (Int.toNat 24) 32)),IntKind.u8.wrap ((IntKind.u32.wrap x).fdiv (2 ^ min (Int.toNat 16) 32)),IntKind.u8.wrap ((IntKind.u32.wrap x).fdiv (2 ^ min (Int.toNat 8) 32)),IntKind.u8.wrap (IntKind.u32.wrap x)]=be 4 x:=by
  have e1:=rb32 x 8 1 (by decide) rfl (by decide)
  have e2:=rb32 x 16 2 (by decide) rfl (by decide)
  have e3:=rb32 x 24 3 (by decide) rfl (by decide)
  rw [show ((8:Nat):Int)=8 from rfl] at e1
  rw [show ((16:Nat):Int)=16 from rfl] at e2
  rw [show ((24:Nat):Int)=24 from rfl] at e3
  have e0:IntKind.u8.wrap (IntKind.u32.wrap x)=x / 256 ^ 0 % 256:=by
    rw [← wr_eq true,← wr_eq true]
    simp only [wr]
    omega
  rw [e0,e1,e2,e3];rfl
theorem rprint_eq (a b c d e f g q:Int) (h0:0≤a) (h1:a≤65535):strOfNums [IntKind.u8.wrap (IntKind.i64.wrap (a.tdiv 256)),IntKind.u8.wrap (a.tmod 256),IntKind.u8.wrap b,IntKind.u8.wrap ((IntKind.u32.wrap c).fdiv (2 ^ min (Int.toNat 24) 32)),IntKind.u8.wrap ((IntKind.u32.wrap c).fdiv (2 ^ min (Int.toNat 16) 32)),IntKind.u8.wrap ((IntKind.u32.wrap c).fdiv (2 ^ min (Int.toNat 8) 32)),IntKind.u8.wrap (IntKind.u32.wrap c),IntKind.u8.wrap ((IntKind.u32.wrap d).fdiv (2 ^ min (Int.toNat 24) 32)),IntKind.u8.wrap ((IntKind.u32.wrap d).fdiv (2 ^ min (Int.toNat 16) 32)),IntKind.u8.wrap ((IntKind.u32.wrap d).fdiv (2 ^ min (Int.toNat 8) 32)),IntKind.u8.wrap (IntKind.u32.wrap d),IntKind.u8.wrap ((IntKind.u32.wrap e).fdiv (2 ^ min (Int.toNat 24) 32)),IntKind.u8.wrap ((IntKind.u32.wrap e).fdiv (2 ^ min (Int.toNat 16) 32)),IntKind.u8.wrap ((IntKind.u32.wrap e).fdiv (2 ^ min (Int.toNat 8) 32)),IntKind.u8.wrap (IntKind.u32.wrap e),IntKind.u8.wrap ((IntKind.u32.wrap f).fdiv (2 ^ min (Int.toNat 24) 32)),IntKind.u8.wrap ((IntKind.u32.wrap f).fdiv (2 ^ min (Int.toNat 16) 32)),IntKind.u8.wrap ((IntKind.u32.wrap f).fdiv (2 ^ min (Int.toNat 8) 32)),IntKind.u8.wrap (IntKind.u32.wrap f),IntKind.u8.wrap ((IntKind.u32.wrap g).fdiv (2 ^ min (Int.toNat 24) 32)),IntKind.u8.wrap ((IntKind.u32.wrap g).fdiv (2 ^ min (Int.toNat 16) 32)),IntKind.u8.wrap ((IntKind.u32.wrap g).fdiv (2 ^ min (Int.toNat 8) 32)),IntKind.u8.wrap (IntKind.u32.wrap g),IntKind.u8.wrap ((IntKind.u32.wrap q).fdiv (2 ^ min (Int.toNat 24) 32)),IntKind.u8.wrap ((IntKind.u32.wrap q).fdiv (2 ^ min (Int.toNat 16) 32)),IntKind.u8.wrap ((IntKind.u32.wrap q).fdiv (2 ^ min (Int.toNat 8) 32)),IntKind.u8.wrap (IntKind.u32.wrap q)]=navB a b c d e f g q:=by
  unfold navB
  rw [← rbe4 c,← rbe4 d,← rbe4 e,← rbe4 f,← rbe4 g,← rbe4 q]
  have e1:be 2 a++be 1 b=strOfNums [IntKind.u8.wrap (IntKind.i64.wrap (a.tdiv 256)),IntKind.u8.wrap (a.tmod 256),IntKind.u8.wrap b]:=by
    have t1:IntKind.u8.wrap (IntKind.i64.wrap (a.tdiv 256))=a / 256 ^ 1 % 256:=by
      rw [Int.tdiv_eq_ediv_of_nonneg h0]
      have:=wI_id (n:=a / 256) (by omega)
      unfold wI at this
      rw [this,← wr_eq true]
      simp only [wr]
      omega
    have t2:IntKind.u8.wrap (a.tmod 256)=a / 256 ^ 0 % 256:=by
      rw [Int.tmod_eq_emod_of_nonneg h0,← wr_eq true]
      simp only [wr]
      omega
    have t3:IntKind.u8.wrap b=b / 256 ^ 0 % 256:=by
      rw [← wr_eq true]
      simp only [wr]
      omega
    rw [t1,t2,t3]
    rfl
  rw [e1]
  simp only [← nums_app]
  rfl
theorem runRNPrint (a b c d e f g q:Int):runG ΓN10 L0 Tryz.prog Tryz.f54 [.v (.agg #[I a,I b,I c,I d,I e,I f,I g,I q])] M0=bif !navR a b c d e f g q then some (.v (S ⟨#[]⟩),M0) else some (.v (S (strOfNums [IntKind.u8.wrap (IntKind.i64.wrap (a.tdiv 256)),IntKind.u8.wrap (a.tmod 256),IntKind.u8.wrap b,IntKind.u8.wrap ((IntKind.u32.wrap c).fdiv (2 ^ min (Int.toNat 24) 32)),IntKind.u8.wrap ((IntKind.u32.wrap c).fdiv (2 ^ min (Int.toNat 16) 32)),IntKind.u8.wrap ((IntKind.u32.wrap c).fdiv (2 ^ min (Int.toNat 8) 32)),IntKind.u8.wrap (IntKind.u32.wrap c),IntKind.u8.wrap ((IntKind.u32.wrap d).fdiv (2 ^ min (Int.toNat 24) 32)),IntKind.u8.wrap ((IntKind.u32.wrap d).fdiv (2 ^ min (Int.toNat 16) 32)),IntKind.u8.wrap ((IntKind.u32.wrap d).fdiv (2 ^ min (Int.toNat 8) 32)),IntKind.u8.wrap (IntKind.u32.wrap d),IntKind.u8.wrap ((IntKind.u32.wrap e).fdiv (2 ^ min (Int.toNat 24) 32)),IntKind.u8.wrap ((IntKind.u32.wrap e).fdiv (2 ^ min (Int.toNat 16) 32)),IntKind.u8.wrap ((IntKind.u32.wrap e).fdiv (2 ^ min (Int.toNat 8) 32)),IntKind.u8.wrap (IntKind.u32.wrap e),IntKind.u8.wrap ((IntKind.u32.wrap f).fdiv (2 ^ min (Int.toNat 24) 32)),IntKind.u8.wrap ((IntKind.u32.wrap f).fdiv (2 ^ min (Int.toNat 16) 32)),IntKind.u8.wrap ((IntKind.u32.wrap f).fdiv (2 ^ min (Int.toNat 8) 32)),IntKind.u8.wrap (IntKind.u32.wrap f),IntKind.u8.wrap ((IntKind.u32.wrap g).fdiv (2 ^ min (Int.toNat 24) 32)),IntKind.u8.wrap ((IntKind.u32.wrap g).fdiv (2 ^ min (Int.toNat 16) 32)),IntKind.u8.wrap ((IntKind.u32.wrap g).fdiv (2 ^ min (Int.toNat 8) 32)),IntKind.u8.wrap (IntKind.u32.wrap g),IntKind.u8.wrap ((IntKind.u32.wrap q).fdiv (2 ^ min (Int.toNat 24) 32)),IntKind.u8.wrap ((IntKind.u32.wrap q).fdiv (2 ^ min (Int.toNat 16) 32)),IntKind.u8.wrap ((IntKind.u32.wrap q).fdiv (2 ^ min (Int.toNat 8) 32)),IntKind.u8.wrap (IntKind.u32.wrap q)])),M0):=by kernel_rfl
def gRNPrint (vs:List Value):Option (Bool×Value) :=
  match vs with
  | [.agg ⟨[.int .i64 a,.int .i64 b,.int .i64 c,.int .i64 d,.int .i64 e,.int .i64 f,.int .i64 g,.int .i64 q]⟩]=>some (true,S (printT a b c d e f g q))
  | _=>none
theorem gRNPrint_ok:CtV 54 gRNPrint:=by
  intro vs r h
  unfold gRNPrint at h
  split at h
  · rename_i a b c d e f g q
    obtain ⟨h1,rfl⟩:=some_t h
    refine runV (vs:=[.agg #[I a,I b,I c,I d,I e,I f,I g,I q]]) (Λ:=L0) (m':=M0) OkN10 Tryz.func54 rfl (fun z _ _=>l0Ok _ z) ?_
    exact (runRNPrint a b c d e f g q).trans (by
      unfold printT
      cases hr:navR a b c d e f g q with
      | false=>rfl
      | true =>
        have h0:0≤a∧a≤65535:=by
          unfold navR at hr
          have:=of_decide_eq_true hr
          omega
        rw [rprint_eq a b c d e f g q h0.1 h0.2]
        rfl)
  · cases h
noncomputable def ΓN11:Orc:=addVal 54 gRNPrint ΓN10
theorem OkN11:ΓN11.Ok Tryz.prog:=addVal_ok OkN10 gRNPrint_ok
noncomputable def ΓNa:Orc:=ΓN11
theorem OkNa:ΓNa.Ok Tryz.prog:=OkN11
end Go.Proofs.YtagaiddomhpdmaaGreat
