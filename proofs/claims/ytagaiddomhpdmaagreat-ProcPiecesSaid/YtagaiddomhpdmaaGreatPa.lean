/-
  Calls with known arguments over known memory: a processor that is armed,hears,fires,and boots again,piece by piece.
-/
import Derived.Test.YtagaiddomhpdmaaGreatYe
namespace Go.Proofs.YtagaiddomhpdmaaGreat
open Go Go.Proofs Go.Sx
set_option linter.unusedVariables false
def rowQ:RowS:=.live ⟨154,[CK.sl (151) [CK0.num IntKind.i64,CK0.num IntKind.i64],.num .i64,.num .i64,.num .i64,.num .i64],[[Dat.l (Value.slice none 0 0) [[Dat.n (Int.negSucc 999),Dat.n (Int.negSucc 999)],[Dat.n 1000,Dat.n (Int.negSucc 999)],[Dat.n 1000,Dat.n 1000],[Dat.n (Int.negSucc 999),Dat.n 1000]],.n (1),.n (200),.n (5),.n (100)]],true,false⟩
def tt23:List Bool:=[true,true,true,true,true,true,true,true,true,true,true,true,true,true,true,true,true,true,true,true,true,true,true]
def zI:SA:=.v (I 0)
def mI:SA:=.v (I 1000000)
def fZ:SA:=.v (.bool false)
def eZ:SA:=.v (.string e0)
def tB (m:Nat):List (List Dat):=List.replicate m (bN 255)
noncomputable def ΓxL1:Orc:=execV Tryz.prog ΓL0.call ΓL0.rd ΓL0.eqv wx24 60 16
theorem OkxL1:ΓxL1.Ok Tryz.prog:=execV_ok mixed names (ext:=ΓL0.call) (rd:=ΓL0.rd) (eqv:=ΓL0.eqv) ⟨OkL0.call,OkL0.rd,OkL0.eqv⟩ 60 16
def rL1:SV:=.v (.string imL)
def mL1:Mem:=⟨[],[],[]⟩
set_option maxRecDepth 100000 in
theorem runL1:runG ΓxL1 (loopX ΓxL1 Tryz.prog 60 3) Tryz.prog Tryz.f23 [.v (I 1)] M0=some (rL1,mL1):=by kernel_rfl
theorem okL1:CallOk Tryz.prog 23 [.v (I 1)] M0 rL1 mL1:=runOk OkxL1 Tryz.func23 rfl (fun z _ _ b _=>loopX_ok OkxL1 mixed 60 3 b) runL1
noncomputable def ΓL1:Orc:=addCl 23 (litC [.v (I 1)] M0 rL1 mL1) ΓL0
theorem OkL1:ΓL1.Ok Tryz.prog:=addCl_ok OkL0 (litC_ok okL1)
end Go.Proofs.YtagaiddomhpdmaaGreat
namespace Go.Proofs.YtagaiddomhpdmaaGreat
open Go Go.Proofs Go.Sx
set_option linter.unusedVariables false
noncomputable def ΓxL2:Orc:=execV Tryz.prog ΓL1.call ΓL1.rd ΓL1.eqv wx24 60 16
theorem OkxL2:ΓxL2.Ok Tryz.prog:=execV_ok mixed names (ext:=ΓL1.call) (rd:=ΓL1.rd) (eqv:=ΓL1.eqv) ⟨OkL1.call,OkL1.rd,OkL1.eqv⟩ 60 16
def rL2:SV:=.tup [.one (.ptr 0 0),.one (.v (I 0))]
def mL2:Mem:=⟨[[.row 0,.ptr 1 0,fZ,fZ,zI],[mI,zI]],[true,true],[.live ⟨5,[.num .u8],tB 64,true,true⟩]⟩
set_option maxRecDepth 100000 in
theorem runL2:runG ΓxL2 (loopX ΓxL2 Tryz.prog 60 3) Tryz.prog Tryz.f14 [.v (I 64)] M0=some (rL2,mL2):=by kernel_rfl
theorem okL2:CallOk Tryz.prog 14 [.v (I 64)] M0 rL2 mL2:=runOk OkxL2 Tryz.func14 rfl (fun z _ _ b _=>loopX_ok OkxL2 mixed 60 3 b) runL2
noncomputable def ΓL2:Orc:=addCl 14 (litC [.v (I 64)] M0 rL2 mL2) ΓL1
theorem OkL2:ΓL2.Ok Tryz.prog:=addCl_ok OkL1 (litC_ok okL2)
end Go.Proofs.YtagaiddomhpdmaaGreat
namespace Go.Proofs.YtagaiddomhpdmaaGreat
open Go Go.Proofs Go.Sx
set_option linter.unusedVariables false
def sF:Mem:=⟨[[.row 0,.ptr 1 0,fZ,fZ,zI],[mI,zI]],[true,true],[.live ⟨5,[.num .u8],have y:=have y:=have y:=have y:=[bN 255,bN 255,bN 255,bN 255];bN 255::bN 255::bN 255::bN 255::y;have y:=bN 255::bN 255::bN 255::bN 255::y;bN 255::bN 255::bN 255::bN 255::y;have y:=have y:=bN 255::bN 255::bN 255::bN 255::y;bN 255::bN 255::bN 255::bN 255::y;have y:=bN 255::bN 255::bN 255::bN 255::y;bN 255::bN 255::bN 255::bN 255::y;have y:=have y:=have y:=bN 255::bN 255::bN 255::bN 255::y;bN 255::bN 255::bN 255::bN 255::y;have y:=bN 255::bN 255::bN 255::bN 255::y;bN 255::bN 255::bN 255::bN 255::y;have y:=have y:=bN 255::bN 255::bN 255::bN 255::y;bN 255::bN 255::bN 255::bN 255::y;have y:=bN 255::bN 255::bN 255::bN 255::y;bN 255::bN 255::bN 255::bN 255::y,true,true⟩]⟩
end Go.Proofs.YtagaiddomhpdmaaGreat
namespace Go.Proofs.YtagaiddomhpdmaaGreat
open Go Go.Proofs Go.Sx
set_option linter.unusedVariables false
noncomputable def ΓxL3:Orc:=execV Tryz.prog ΓL2.call ΓL2.rd ΓL2.eqv wx24 60 16
theorem OkxL3:ΓxL3.Ok Tryz.prog:=execV_ok mixed names (ext:=ΓL2.call) (rd:=ΓL2.rd) (eqv:=ΓL2.eqv) ⟨OkL2.call,OkL2.rd,OkL2.eqv⟩ 60 16
def rL3:SV:=.tup [.one (.ptr 2 0),.one (.v (I 0))]
def mL3:Mem:=⟨[[.row 0,.ptr 1 0,fZ,fZ,zI],[mI,zI],[.ptr 0 0,.v (I 8),zI,zI,zI,zI,zI,zI,zI,zI,zI,zI]],[true,true,true],[.live ⟨5,[.num .u8],tB 64,true,true⟩]⟩
set_option maxRecDepth 100000 in
theorem runL3:runG ΓxL3 (loopX ΓxL3 Tryz.prog 60 3) Tryz.prog Tryz.f83 [.ptr 0 0,.v (I 8)] sF=some (rL3,mL3):=by kernel_rfl
theorem okL3:CallOk Tryz.prog 83 [.ptr 0 0,.v (I 8)] sF rL3 mL3:=runOk OkxL3 Tryz.func83 rfl (fun z _ _ b _=>loopX_ok OkxL3 mixed 60 3 b) runL3
noncomputable def ΓL3:Orc:=addCl 83 (litC [.ptr 0 0,.v (I 8)] sF rL3 mL3) ΓL2
theorem OkL3:ΓL3.Ok Tryz.prog:=addCl_ok OkL2 (litC_ok okL3)
end Go.Proofs.YtagaiddomhpdmaaGreat
namespace Go.Proofs.YtagaiddomhpdmaaGreat
open Go Go.Proofs Go.Sx
set_option linter.unusedVariables false
noncomputable def ΓxL4:Orc:=execV Tryz.prog ΓL3.call ΓL3.rd ΓL3.eqv wx24 60 16
theorem OkxL4:ΓxL4.Ok Tryz.prog:=execV_ok mixed names (ext:=ΓL3.call) (rd:=ΓL3.rd) (eqv:=ΓL3.eqv) ⟨OkL3.call,OkL3.rd,OkL3.eqv⟩ 60 16
def rL4:SV:=.tup [.ag [.row 0,.v (I 2),.v (I 3),.v (I 4),.v (I 2),.v (I 50),.v (I 2),.v (I 10),.v (I 1)],.one (.v (I 0))]
def mL4:Mem:=⟨[],[],[.live ⟨154,[CK.sl 151 [CK0.num IntKind.i64,CK0.num IntKind.i64],.num .i64,.num .i64,.num .i64,.num .i64],[[Dat.l (Value.slice none 0 0) [[Dat.n (Int.negSucc 999),Dat.n (Int.negSucc 999)],[Dat.n 1000,Dat.n (Int.negSucc 999)],[Dat.n 1000,Dat.n 1000],[Dat.n (Int.negSucc 999),Dat.n 1000]],.n (1),.n (200),.n (5),.n (100)]],true,false⟩]⟩
set_option maxRecDepth 100000 in
theorem runL4:runG ΓxL4 (loopX ΓxL4 Tryz.prog 60 3) Tryz.prog Tryz.f84 [.v (S imL),.v (I 0)] M0=some (rL4,mL4):=by kernel_rfl
theorem okL4:CallOk Tryz.prog 84 [.v (S imL),.v (I 0)] M0 rL4 mL4:=runOk OkxL4 Tryz.func84 rfl (fun z _ _ b _=>loopX_ok OkxL4 mixed 60 3 b) runL4
noncomputable def ΓL4:Orc:=addCl 84 (litC [.v (S imL),.v (I 0)] M0 rL4 mL4) ΓL3
theorem OkL4:ΓL4.Ok Tryz.prog:=addCl_ok OkL3 (litC_ok okL4)
end Go.Proofs.YtagaiddomhpdmaaGreat
namespace Go.Proofs.YtagaiddomhpdmaaGreat
open Go Go.Proofs Go.Sx
set_option linter.unusedVariables false
noncomputable def ΓxL5:Orc:=execV Tryz.prog ΓL4.call ΓL4.rd ΓL4.eqv wx24 60 16
theorem OkxL5:ΓxL5.Ok Tryz.prog:=execV_ok mixed names (ext:=ΓL4.call) (rd:=ΓL4.rd) (eqv:=ΓL4.eqv) ⟨OkL4.call,OkL4.rd,OkL4.eqv⟩ 60 16
def rL5:SV:=.tup [.one (.ptr 2 0),.one (.v (I 0))]
def mL5:Mem:=⟨[[.row 0,.ptr 1 0,fZ,fZ,zI],[mI,zI],[.v (.string imL),zI,.ptr 0 0,.v (I 8),.v (.bool true),zI,.row 1,.v (I 2),.v (I 3),.v (I 4),.v (I 2),.v (I 50),.v (I 2),.v (I 10),.v (I 1),zI,.ptr 3 0,.ptr 4 0,.ptr 5 0,.ptr 6 0,.ptr 7 0,.ptr 8 0,.ptr 9 0,.ptr 10 0,.ptr 11 0,.ptr 12 0,fZ,zI],[.ptr 0 0,.v (I 8),zI,zI,zI,zI,zI,zI,zI,zI,zI,zI],[eZ,.ptr 13 0],[eZ,.ptr 14 0],[eZ,.ptr 15 0],[eZ,.ptr 16 0],[.v (I 50),.v (I 2),.ptr 17 0,zI,zI,zI,zI,zI,zI,zI,zI,fZ],[.v (I 50),.v (I 2),.ptr 18 0,zI,zI,zI,zI,zI,zI,zI,zI,fZ],[.row 2,.v (I 2),.v (I 3),.v (I 4),.v (I 2),.v (I 50),.v (I 2),.v (I 10),.v (I 1),zI,.ptr 19 0],[.ptr 20 0,.ptr 21 0,.ptr 22 0],[.v (I 1),fZ,zI,zI],[mI,zI],[mI,zI],[mI,zI],[mI,zI],[mI,zI],[mI,zI],[mI,zI],[.v (I 2),zI],[.v (I 3),zI],[.v (I 4),zI]],tt23,[.live ⟨5,[.num .u8],tB 64,true,true⟩,rowQ,rowQ]⟩
set_option maxRecDepth 100000 in
theorem runL5:runG ΓxL5 (loopX ΓxL5 Tryz.prog 60 3) Tryz.prog Tryz.f15 [.v (S imL),.v (I 0),.ptr 0 0,.v (I 8)] sF=some (rL5,mL5):=by kernel_rfl
theorem okL5:CallOk Tryz.prog 15 [.v (S imL),.v (I 0),.ptr 0 0,.v (I 8)] sF rL5 mL5:=runOk OkxL5 Tryz.func15 rfl (fun z _ _ b _=>loopX_ok OkxL5 mixed 60 3 b) runL5
noncomputable def ΓL5:Orc:=addCl 15 (litC [.v (S imL),.v (I 0),.ptr 0 0,.v (I 8)] sF rL5 mL5) ΓL4
theorem OkL5:ΓL5.Ok Tryz.prog:=addCl_ok OkL4 (litC_ok okL5)
end Go.Proofs.YtagaiddomhpdmaaGreat
namespace Go.Proofs.YtagaiddomhpdmaaGreat
open Go Go.Proofs Go.Sx
set_option linter.unusedVariables false
def sP:Mem:=⟨[[.v (.string imL),zI,.ptr 1 0,.v (I 8),.v (.bool true),zI,.row 0,.v (I 2),.v (I 3),.v (I 4),.v (I 2),.v (I 50),.v (I 2),.v (I 10),.v (I 1),zI,.ptr 2 0,.ptr 3 0,.ptr 4 0,.ptr 5 0,.ptr 6 0,.ptr 7 0,.ptr 8 0,.ptr 9 0,.ptr 10 0,.ptr 11 0,fZ,zI],[.row 1,.ptr 12 0,fZ,fZ,zI],[.ptr 1 0,.v (I 8),zI,zI,zI,zI,zI,zI,zI,zI,zI,zI],[eZ,.ptr 13 0],[eZ,.ptr 14 0],[eZ,.ptr 15 0],[eZ,.ptr 16 0],[.v (I 50),.v (I 2),.ptr 17 0,zI,zI,zI,zI,zI,zI,zI,zI,fZ],[.v (I 50),.v (I 2),.ptr 18 0,zI,zI,zI,zI,zI,zI,zI,zI,fZ],[.row 2,.v (I 2),.v (I 3),.v (I 4),.v (I 2),.v (I 50),.v (I 2),.v (I 10),.v (I 1),zI,.ptr 19 0],[.ptr 20 0,.ptr 21 0,.ptr 22 0],[.v (I 1),fZ,zI,zI],[mI,zI],[mI,zI],[mI,zI],[mI,zI],[mI,zI],[mI,zI],[mI,zI],[mI,zI],[.v (I 2),zI],[.v (I 3),zI],[.v (I 4),zI]],tt23,[rowQ,.live ⟨5,[.num .u8],have y:=have y:=have y:=have y:=[bN 255,bN 255,bN 255,bN 255];bN 255::bN 255::bN 255::bN 255::y;have y:=bN 255::bN 255::bN 255::bN 255::y;bN 255::bN 255::bN 255::bN 255::y;have y:=have y:=bN 255::bN 255::bN 255::bN 255::y;bN 255::bN 255::bN 255::bN 255::y;have y:=bN 255::bN 255::bN 255::bN 255::y;bN 255::bN 255::bN 255::bN 255::y;have y:=have y:=have y:=bN 255::bN 255::bN 255::bN 255::y;bN 255::bN 255::bN 255::bN 255::y;have y:=bN 255::bN 255::bN 255::bN 255::y;bN 255::bN 255::bN 255::bN 255::y;have y:=have y:=bN 255::bN 255::bN 255::bN 255::y;bN 255::bN 255::bN 255::bN 255::y;have y:=bN 255::bN 255::bN 255::bN 255::y;bN 255::bN 255::bN 255::bN 255::y,true,true⟩,rowQ]⟩
end Go.Proofs.YtagaiddomhpdmaaGreat
namespace Go.Proofs.YtagaiddomhpdmaaGreat
open Go Go.Proofs Go.Sx
set_option linter.unusedVariables false
noncomputable def ΓxL6:Orc:=execV Tryz.prog ΓL5.call ΓL5.rd ΓL5.eqv wx24 60 16
theorem OkxL6:ΓxL6.Ok Tryz.prog:=execV_ok mixed names (ext:=ΓL5.call) (rd:=ΓL5.rd) (eqv:=ΓL5.eqv) ⟨OkL5.call,OkL5.rd,OkL5.eqv⟩ 60 16
def rL6:SV:=.v (.string ⟨#[165,90,32,8,1,84,171,254,229,187,132,44,75,46]⟩)
def mL6:Mem:=⟨[],[],[]⟩
set_option maxRecDepth 100000 in
theorem runL6:runG ΓxL6 (loopX ΓxL6 Tryz.prog 60 3) Tryz.prog Tryz.f46 [.v (I 1)] M0=some (rL6,mL6):=by kernel_rfl
theorem okL6:CallOk Tryz.prog 46 [.v (I 1)] M0 rL6 mL6:=runOk OkxL6 Tryz.func46 rfl (fun z _ _ b _=>loopX_ok OkxL6 mixed 60 3 b) runL6
noncomputable def ΓL6:Orc:=addCl 46 (litC [.v (I 1)] M0 rL6 mL6) ΓL5
theorem OkL6:ΓL6.Ok Tryz.prog:=addCl_ok OkL5 (litC_ok okL6)
end Go.Proofs.YtagaiddomhpdmaaGreat
namespace Go.Proofs.YtagaiddomhpdmaaGreat
open Go Go.Proofs Go.Sx
set_option linter.unusedVariables false
noncomputable def ΓxL7:Orc:=execV Tryz.prog ΓL6.call ΓL6.rd ΓL6.eqv wx24 60 16
theorem OkxL7:ΓxL7.Ok Tryz.prog:=execV_ok mixed names (ext:=ΓL6.call) (rd:=ΓL6.rd) (eqv:=ΓL6.eqv) ⟨OkL6.call,OkL6.rd,OkL6.eqv⟩ 60 16
def rL7:SV:=.v (.string ⟨#[165,90,48,10,0,0,0,0,0,1,198,197,145,53,97,115]⟩)
def mL7:Mem:=⟨[],[],[]⟩
set_option maxRecDepth 100000 in
theorem runL7:runG ΓxL7 (loopX ΓxL7 Tryz.prog 60 3) Tryz.prog Tryz.f56 [.v (.agg #[I 0,I 0,I 0,I 1])] M0=some (rL7,mL7):=by kernel_rfl
theorem okL7:CallOk Tryz.prog 56 [.v (.agg #[I 0,I 0,I 0,I 1])] M0 rL7 mL7:=runOk OkxL7 Tryz.func56 rfl (fun z _ _ b _=>loopX_ok OkxL7 mixed 60 3 b) runL7
noncomputable def ΓL7:Orc:=addCl 56 (litC [.v (.agg #[I 0,I 0,I 0,I 1])] M0 rL7 mL7) ΓL6
theorem OkL7:ΓL7.Ok Tryz.prog:=addCl_ok OkL6 (litC_ok okL7)
end Go.Proofs.YtagaiddomhpdmaaGreat
namespace Go.Proofs.YtagaiddomhpdmaaGreat
open Go Go.Proofs Go.Sx
set_option linter.unusedVariables false
def gA:ByteArray:=⟨#[165,90,32,8,1,84,171,254,229,187,132,44,75,46]⟩
def pA:ByteArray:=⟨#[165,90,48,10,0,0,0,0,0,1,198,197,145,53,97,115]⟩
def inA:SV:=.v (.agg #[S e0,S e0,S gA,S pA])
def inZ:SV:=.v (.agg #[S e0,S e0,S e0,S e0])
end Go.Proofs.YtagaiddomhpdmaaGreat
namespace Go.Proofs.YtagaiddomhpdmaaGreat
open Go Go.Proofs Go.Sx
set_option linter.unusedVariables false
def uinA_sP:Mem:=⟨[[.v (.string imL),zI,.ptr 1 0,.v (I 8),.v (.bool true),zI,.row 0,.v (I 2),.v (I 3),.v (I 4),.v (I 2),.v (I 50),.v (I 2),.v (I 10),.v (I 1),zI,.ptr 2 0,.ptr 3 0,.ptr 4 0,.ptr 5 0,.ptr 6 0,.ptr 7 0,.ptr 8 0,.ptr 9 0,.ptr 10 0,.ptr 11 0,fZ,.v (I 1)],[.row 1,.ptr 12 0,fZ,fZ,zI],[.ptr 1 0,.v (I 8),zI,zI,zI,zI,zI,zI,zI,zI,zI,zI],[eZ,.ptr 13 0],[eZ,.ptr 14 0],[eZ,.ptr 15 0],[eZ,.ptr 16 0],[.v (I 50),.v (I 2),.ptr 17 0,zI,zI,zI,zI,zI,zI,zI,zI,fZ],[.v (I 50),.v (I 2),.ptr 18 0,zI,zI,zI,zI,zI,zI,zI,zI,fZ],[.row 2,.v (I 2),.v (I 3),.v (I 4),.v (I 2),.v (I 50),.v (I 2),.v (I 10),.v (I 1),zI,.ptr 19 0],[.ptr 20 0,.ptr 21 0,.ptr 22 0],[.v (I 1),fZ,zI,zI],[mI,zI],[mI,zI],[mI,zI],[mI,zI],[mI,zI],[mI,zI],[mI,zI],[mI,zI],[.v (I 2),zI],[.v (I 3),zI],[.v (I 4),zI]],tt23,[rowQ,.live ⟨5,[.num .u8],tB 64,true,true⟩,rowQ]⟩
end Go.Proofs.YtagaiddomhpdmaaGreat
namespace Go.Proofs.YtagaiddomhpdmaaGreat
open Go Go.Proofs Go.Sx
set_option linter.unusedVariables false
noncomputable def ΓxL8:Orc:=execV Tryz.prog ΓL7.call ΓL7.rd ΓL7.eqv wx24 60 16
theorem OkxL8:ΓxL8.Ok Tryz.prog:=execV_ok mixed names (ext:=ΓL7.call) (rd:=ΓL7.rd) (eqv:=ΓL7.eqv) ⟨OkL7.call,OkL7.rd,OkL7.eqv⟩ 60 16
def rL8:SV:=.v (.agg #[(.int .i64 0),(.int .i64 0),(.int .i64 0),(.int .i64 0),(.int .i64 0),(.int .i64 0),(.int .i64 0),(.int .i64 0),(.int .i64 0),(.int .i64 0),(.int .i64 0),(.int .i64 0),(.int .i64 0),(.int .i64 0),(.int .i64 0),(.int .i64 0),(.bool false),(.bool false),(.int .i64 1),(.int .i64 0),(.int .i64 0),(.int .i64 0),(.int .i64 1),(.bool true)])
def mL8:Mem:=⟨[[.v (.string imL),zI,.ptr 1 0,.v (I 8),.v (.bool true),zI,.row 0,.v (I 2),.v (I 3),.v (I 4),.v (I 2),.v (I 50),.v (I 2),.v (I 10),.v (I 1),zI,.ptr 2 0,.ptr 3 0,.ptr 4 0,.ptr 5 0,.ptr 6 0,.ptr 7 0,.ptr 8 0,.ptr 9 0,.ptr 10 0,.ptr 11 0,fZ,.v (I 1)],[.row 1,.ptr 12 0,fZ,fZ,zI],[.ptr 1 0,.v (I 8),zI,zI,zI,zI,zI,zI,zI,zI,zI,zI],[eZ,.ptr 13 0],[eZ,.ptr 14 0],[eZ,.ptr 15 0],[eZ,.ptr 16 0],[.v (I 50),.v (I 2),.ptr 17 0,zI,zI,zI,zI,zI,zI,zI,zI,fZ],[.v (I 50),.v (I 2),.ptr 18 0,zI,zI,zI,zI,zI,zI,zI,zI,fZ],[.row 2,.v (I 2),.v (I 3),.v (I 4),.v (I 2),.v (I 50),.v (I 2),.v (I 10),.v (I 1),zI,.ptr 19 0],[.ptr 20 0,.ptr 21 0,.ptr 22 0],[.v (I 1),fZ,zI,zI],[mI,zI],[mI,zI],[mI,zI],[mI,zI],[mI,zI],[mI,.v (I 1)],[mI,.v (I 1)],[mI,zI],[.v (I 2),zI],[.v (I 3),zI],[.v (I 4),zI]],tt23,[rowQ,.live ⟨5,[.num .u8],tB 64,true,true⟩,rowQ]⟩
set_option maxRecDepth 100000 in
theorem runL8:runG ΓxL8 (loopX ΓxL8 Tryz.prog 60 3) Tryz.prog Tryz.f61 [.ptr 0 0,inA] uinA_sP=some (rL8,mL8):=by kernel_rfl
theorem okL8:CallOk Tryz.prog 61 [.ptr 0 0,inA] uinA_sP rL8 mL8:=runOk OkxL8 Tryz.func61 rfl (fun z _ _ b _=>loopX_ok OkxL8 mixed 60 3 b) runL8
noncomputable def ΓL8:Orc:=addCl 61 (litC [.ptr 0 0,inA] uinA_sP rL8 mL8) ΓL7
theorem OkL8:ΓL8.Ok Tryz.prog:=addCl_ok OkL7 (litC_ok okL8)
end Go.Proofs.YtagaiddomhpdmaaGreat
namespace Go.Proofs.YtagaiddomhpdmaaGreat
open Go Go.Proofs Go.Sx
set_option linter.unusedVariables false
noncomputable def ΓxL9:Orc:=execV Tryz.prog ΓL8.call ΓL8.rd ΓL8.eqv wx24 60 16
theorem OkxL9:ΓxL9.Ok Tryz.prog:=execV_ok mixed names (ext:=ΓL8.call) (rd:=ΓL8.rd) (eqv:=ΓL8.eqv) ⟨OkL8.call,OkL8.rd,OkL8.eqv⟩ 60 16
def rL9:SV:=.v (.agg #[(.int .i64 4),(.int .i64 4),(.int .i64 0),(.bool false),(.int .i64 192)])
def mL9:Mem:=⟨[[.v (.string imL),zI,.ptr 1 0,.v (I 8),.v (.bool true),zI,.row 0,.v (I 2),.v (I 3),.v (I 4),.v (I 2),.v (I 50),.v (I 2),.v (I 10),.v (I 1),zI,.ptr 2 0,.ptr 3 0,.ptr 4 0,.ptr 5 0,.ptr 6 0,.ptr 7 0,.ptr 8 0,.ptr 9 0,.ptr 10 0,.ptr 11 0,fZ,.v (I 1)],[.row 1,.ptr 12 0,fZ,fZ,zI],[.ptr 1 0,.v (I 8),zI,zI,zI,zI,zI,zI,zI,zI,zI,zI],[eZ,.ptr 13 0],[eZ,.ptr 14 0],[eZ,.ptr 15 0],[eZ,.ptr 16 0],[.v (I 50),.v (I 2),.ptr 17 0,zI,zI,zI,zI,zI,zI,zI,zI,fZ],[.v (I 50),.v (I 2),.ptr 18 0,zI,zI,zI,zI,zI,zI,zI,zI,fZ],[.row 2,.v (I 2),.v (I 3),.v (I 4),.v (I 2),.v (I 50),.v (I 2),.v (I 10),.v (I 1),zI,.ptr 19 0],[.ptr 20 0,.ptr 21 0,.ptr 22 0],[.v (I 1),fZ,zI,zI],[mI,zI],[mI,zI],[mI,zI],[mI,zI],[mI,zI],[mI,.v (I 1)],[mI,.v (I 1)],[mI,zI],[.v (I 2),zI],[.v (I 3),zI],[.v (I 4),zI]],tt23,[rowQ,.live ⟨5,[.num .u8],tB 64,true,true⟩,rowQ]⟩
set_option maxRecDepth 100000 in
theorem runL9:runG ΓxL9 (loopX ΓxL9 Tryz.prog 60 3) Tryz.prog Tryz.f62 [.ptr 0 0,rL8] mL8=some (rL9,mL9):=by kernel_rfl
theorem okL9:CallOk Tryz.prog 62 [.ptr 0 0,rL8] mL8 rL9 mL9:=runOk OkxL9 Tryz.func62 rfl (fun z _ _ b _=>loopX_ok OkxL9 mixed 60 3 b) runL9
noncomputable def ΓL9:Orc:=addCl 62 (litC [.ptr 0 0,rL8] mL8 rL9 mL9) ΓL8
theorem OkL9:ΓL9.Ok Tryz.prog:=addCl_ok OkL8 (litC_ok okL9)
end Go.Proofs.YtagaiddomhpdmaaGreat
namespace Go.Proofs.YtagaiddomhpdmaaGreat
open Go Go.Proofs Go.Sx
set_option linter.unusedVariables false
noncomputable def ΓxL10:Orc:=execV Tryz.prog ΓL9.call ΓL9.rd ΓL9.eqv wx24 60 16
theorem OkxL10:ΓxL10.Ok Tryz.prog:=execV_ok mixed names (ext:=ΓL9.call) (rd:=ΓL9.rd) (eqv:=ΓL9.eqv) ⟨OkL9.call,OkL9.rd,OkL9.eqv⟩ 60 16
def rL10:SV:=.v (.tuple #[])
def mL10:Mem:=⟨[[.v (.string imL),zI,.ptr 1 0,.v (I 8),.v (.bool true),zI,.row 0,.v (I 2),.v (I 3),.v (I 4),.v (I 2),.v (I 50),.v (I 2),.v (I 10),.v (I 1),zI,.ptr 2 0,.ptr 3 0,.ptr 4 0,.ptr 5 0,.ptr 6 0,.ptr 7 0,.ptr 8 0,.ptr 9 0,.ptr 10 0,.ptr 11 0,fZ,.v (I 1)],[.row 1,.ptr 12 0,fZ,fZ,zI],[.ptr 1 0,.v (I 8),zI,zI,zI,zI,zI,zI,zI,zI,zI,zI],[eZ,.ptr 13 0],[eZ,.ptr 14 0],[eZ,.ptr 15 0],[eZ,.ptr 16 0],[.v (I 50),.v (I 2),.ptr 17 0,zI,zI,zI,zI,zI,zI,zI,zI,fZ],[.v (I 50),.v (I 2),.ptr 18 0,zI,zI,zI,zI,zI,zI,zI,zI,fZ],[.row 2,.v (I 2),.v (I 3),.v (I 4),.v (I 2),.v (I 50),.v (I 2),.v (I 10),.v (I 1),zI,.ptr 19 0],[.ptr 20 0,.ptr 21 0,.ptr 22 0],[.v (I 1),fZ,.v (I 1),zI],[mI,zI],[mI,zI],[mI,zI],[mI,zI],[mI,zI],[mI,.v (I 1)],[mI,.v (I 1)],[mI,zI],[.v (I 2),zI],[.v (I 3),zI],[.v (I 4),zI]],tt23,[rowQ,.live ⟨5,[.num .u8],tB 64,true,true⟩,rowQ]⟩
set_option maxRecDepth 100000 in
theorem runL10:runG ΓxL10 (loopX ΓxL10 Tryz.prog 60 3) Tryz.prog Tryz.f63 [.ptr 0 0,rL8,rL9] mL9=some (rL10,mL10):=by kernel_rfl
theorem okL10:CallOk Tryz.prog 63 [.ptr 0 0,rL8,rL9] mL9 rL10 mL10:=runOk OkxL10 Tryz.func63 rfl (fun z _ _ b _=>loopX_ok OkxL10 mixed 60 3 b) runL10
noncomputable def ΓL10:Orc:=addCl 63 (litC [.ptr 0 0,rL8,rL9] mL9 rL10 mL10) ΓL9
theorem OkL10:ΓL10.Ok Tryz.prog:=addCl_ok OkL9 (litC_ok okL10)
end Go.Proofs.YtagaiddomhpdmaaGreat
namespace Go.Proofs.YtagaiddomhpdmaaGreat
open Go Go.Proofs Go.Sx
set_option linter.unusedVariables false
noncomputable def ΓxL11:Orc:=execV Tryz.prog ΓL10.call ΓL10.rd ΓL10.eqv wx24 60 16
theorem OkxL11:ΓxL11.Ok Tryz.prog:=execV_ok mixed names (ext:=ΓL10.call) (rd:=ΓL10.rd) (eqv:=ΓL10.eqv) ⟨OkL10.call,OkL10.rd,OkL10.eqv⟩ 60 16
def rL11:SV:=.v (.bool false)
def mL11:Mem:=⟨[[.v (.string imL),zI,.ptr 1 0,.v (I 8),.v (.bool true),zI,.row 0,.v (I 2),.v (I 3),.v (I 4),.v (I 2),.v (I 50),.v (I 2),.v (I 10),.v (I 1),zI,.ptr 2 0,.ptr 3 0,.ptr 4 0,.ptr 5 0,.ptr 6 0,.ptr 7 0,.ptr 8 0,.ptr 9 0,.ptr 10 0,.ptr 11 0,fZ,.v (I 1)],[.row 1,.ptr 12 0,fZ,fZ,zI],[.ptr 1 0,.v (I 8),zI,zI,zI,zI,zI,zI,zI,zI,zI,zI],[eZ,.ptr 13 0],[eZ,.ptr 14 0],[eZ,.ptr 15 0],[eZ,.ptr 16 0],[.v (I 50),.v (I 2),.ptr 17 0,zI,zI,zI,zI,zI,zI,zI,zI,fZ],[.v (I 50),.v (I 2),.ptr 18 0,zI,zI,zI,zI,zI,zI,zI,zI,fZ],[.row 2,.v (I 2),.v (I 3),.v (I 4),.v (I 2),.v (I 50),.v (I 2),.v (I 10),.v (I 1),zI,.ptr 19 0],[.ptr 20 0,.ptr 21 0,.ptr 22 0],[.v (I 1),fZ,.v (I 1),zI],[mI,zI],[mI,zI],[mI,zI],[mI,zI],[mI,zI],[mI,.v (I 1)],[mI,.v (I 1)],[mI,zI],[.v (I 2),zI],[.v (I 3),zI],[.v (I 4),zI]],tt23,[rowQ,.live ⟨5,[.num .u8],tB 64,true,true⟩,rowQ]⟩
set_option maxRecDepth 100000 in
theorem runL11:runG ΓxL11 (loopX ΓxL11 Tryz.prog 60 3) Tryz.prog Tryz.f64 [.ptr 0 0,rL8,rL9] mL10=some (rL11,mL11):=by kernel_rfl
theorem okL11:CallOk Tryz.prog 64 [.ptr 0 0,rL8,rL9] mL10 rL11 mL11:=runOk OkxL11 Tryz.func64 rfl (fun z _ _ b _=>loopX_ok OkxL11 mixed 60 3 b) runL11
noncomputable def ΓL11:Orc:=addCl 64 (litC [.ptr 0 0,rL8,rL9] mL10 rL11 mL11) ΓL10
theorem OkL11:ΓL11.Ok Tryz.prog:=addCl_ok OkL10 (litC_ok okL11)
end Go.Proofs.YtagaiddomhpdmaaGreat
namespace Go.Proofs.YtagaiddomhpdmaaGreat
open Go Go.Proofs Go.Sx
set_option linter.unusedVariables false
noncomputable def ΓxL12:Orc:=execV Tryz.prog ΓL11.call ΓL11.rd ΓL11.eqv wx24 60 16
theorem OkxL12:ΓxL12.Ok Tryz.prog:=execV_ok mixed names (ext:=ΓL11.call) (rd:=ΓL11.rd) (eqv:=ΓL11.eqv) ⟨OkL11.call,OkL11.rd,OkL11.eqv⟩ 60 16
def rL12:SV:=.v (I 0)
def mL12:Mem:=⟨[[.v (.string imL),zI,.ptr 1 0,.v (I 8),.v (.bool true),zI,.row 0,.v (I 2),.v (I 3),.v (I 4),.v (I 2),.v (I 50),.v (I 2),.v (I 10),.v (I 1),zI,.ptr 2 0,.ptr 3 0,.ptr 4 0,.ptr 5 0,.ptr 6 0,.ptr 7 0,.ptr 8 0,.ptr 9 0,.ptr 10 0,.ptr 11 0,fZ,.v (I 1)],[.row 1,.ptr 12 0,fZ,fZ,zI],[.ptr 1 0,.v (I 8),.v (I 1),.v (I 1),zI,.v (I 1),zI,zI,zI,zI,zI,.v (I 1)],[eZ,.ptr 13 0],[eZ,.ptr 14 0],[eZ,.ptr 15 0],[eZ,.ptr 16 0],[.v (I 50),.v (I 2),.ptr 17 0,zI,zI,zI,zI,zI,zI,zI,zI,fZ],[.v (I 50),.v (I 2),.ptr 18 0,zI,zI,zI,zI,zI,zI,zI,zI,fZ],[.row 2,.v (I 2),.v (I 3),.v (I 4),.v (I 2),.v (I 50),.v (I 2),.v (I 10),.v (I 1),zI,.ptr 19 0],[.ptr 20 0,.ptr 21 0,.ptr 22 0],[.v (I 1),fZ,.v (I 1),zI],[mI,.v (I 1)],[mI,zI],[mI,zI],[mI,zI],[mI,zI],[mI,.v (I 1)],[mI,.v (I 1)],[mI,zI],[.v (I 2),zI],[.v (I 3),zI],[.v (I 4),zI]],tt23,[rowQ,.live ⟨5,[.num .u8],bN 255::bN 255::bN 255::bN 255::bN 255::bN 255::bN 255::bN 255::bN 0::bN 0::bN 0::bN 1::bN 0::bN 0::bN 0::bN 1::bN 16::bN 0::bN 0::bN 0::bN 0::bN 0::bN 0::bN 0::bN 90::bN 237::bN 183::bN 184::bN 0::bN 0::bN 0::bN 1::tB 32,true,true⟩,rowQ]⟩
set_option maxRecDepth 100000 in
theorem runL12:runG ΓxL12 (loopX ΓxL12 Tryz.prog 60 3) Tryz.prog Tryz.f65 [.ptr 0 0] mL11=some (rL12,mL12):=by kernel_rfl
theorem okL12:CallOk Tryz.prog 65 [.ptr 0 0] mL11 rL12 mL12:=runOk OkxL12 Tryz.func65 rfl (fun z _ _ b _=>loopX_ok OkxL12 mixed 60 3 b) runL12
noncomputable def ΓL12:Orc:=addCl 65 (litC [.ptr 0 0] mL11 rL12 mL12) ΓL11
theorem OkL12:ΓL12.Ok Tryz.prog:=addCl_ok OkL11 (litC_ok okL12)
end Go.Proofs.YtagaiddomhpdmaaGreat
namespace Go.Proofs.YtagaiddomhpdmaaGreat
open Go Go.Proofs Go.Sx
set_option linter.unusedVariables false
noncomputable def ΓxL13:Orc:=execV Tryz.prog ΓL12.call ΓL12.rd ΓL12.eqv wx24 60 16
theorem OkxL13:ΓxL13.Ok Tryz.prog:=execV_ok mixed names (ext:=ΓL12.call) (rd:=ΓL12.rd) (eqv:=ΓL12.eqv) ⟨OkL12.call,OkL12.rd,OkL12.eqv⟩ 60 16
def rL13:SV:=.v (.agg #[(.bool true),(.int .i64 1),(.int .i64 0),(.bool false),(.string ⟨#[165,90,48,10,0,0,0,1,16,0,250,194,217,197,228,246]⟩),(.string ⟨#[165,90,64,14,0,0,0,1,16,0,0,0,68,192,73,90,41,232,192,102]⟩)])
def mL13:Mem:=⟨[[.v (.string imL),zI,.ptr 1 0,.v (I 8),.v (.bool true),zI,.row 0,.v (I 2),.v (I 3),.v (I 4),.v (I 2),.v (I 50),.v (I 2),.v (I 10),.v (I 1),zI,.ptr 2 0,.ptr 3 0,.ptr 4 0,.ptr 5 0,.ptr 6 0,.ptr 7 0,.ptr 8 0,.ptr 9 0,.ptr 10 0,.ptr 11 0,fZ,.v (I 1)],[.row 1,.ptr 12 0,fZ,fZ,zI],[.ptr 1 0,.v (I 8),.v (I 1),.v (I 1),zI,.v (I 1),zI,zI,zI,zI,zI,.v (I 1)],[eZ,.ptr 13 0],[eZ,.ptr 14 0],[eZ,.ptr 15 0],[eZ,.ptr 16 0],[.v (I 50),.v (I 2),.ptr 17 0,zI,zI,zI,zI,zI,zI,zI,zI,fZ],[.v (I 50),.v (I 2),.ptr 18 0,zI,zI,zI,zI,zI,zI,zI,zI,fZ],[.row 2,.v (I 2),.v (I 3),.v (I 4),.v (I 2),.v (I 50),.v (I 2),.v (I 10),.v (I 1),zI,.ptr 19 0],[.ptr 20 0,.ptr 21 0,.ptr 22 0],[.v (I 1),fZ,.v (I 1),zI],[mI,.v (I 1)],[mI,zI],[mI,zI],[mI,zI],[mI,zI],[mI,.v (I 1)],[mI,.v (I 1)],[mI,zI],[.v (I 2),zI],[.v (I 3),zI],[.v (I 4),zI]],tt23,[rowQ,.live ⟨5,[.num .u8],bN 255::bN 255::bN 255::bN 255::bN 255::bN 255::bN 255::bN 255::bN 0::bN 0::bN 0::bN 1::bN 0::bN 0::bN 0::bN 1::bN 16::bN 0::bN 0::bN 0::bN 0::bN 0::bN 0::bN 0::bN 90::bN 237::bN 183::bN 184::bN 0::bN 0::bN 0::bN 1::tB 32,true,true⟩,rowQ]⟩
set_option maxRecDepth 100000 in
theorem runL13:runG ΓxL13 (loopX ΓxL13 Tryz.prog 60 3) Tryz.prog Tryz.f66 [.ptr 0 0,rL9,rL11] mL12=some (rL13,mL13):=by kernel_rfl
theorem okL13:CallOk Tryz.prog 66 [.ptr 0 0,rL9,rL11] mL12 rL13 mL13:=runOk OkxL13 Tryz.func66 rfl (fun z _ _ b _=>loopX_ok OkxL13 mixed 60 3 b) runL13
noncomputable def ΓL13:Orc:=addCl 66 (litC [.ptr 0 0,rL9,rL11] mL12 rL13 mL13) ΓL12
theorem OkL13:ΓL13.Ok Tryz.prog:=addCl_ok OkL12 (litC_ok okL13)
end Go.Proofs.YtagaiddomhpdmaaGreat
namespace Go.Proofs.YtagaiddomhpdmaaGreat
open Go Go.Proofs Go.Sx
set_option linter.unusedVariables false
noncomputable def ΓxL14:Orc:=execV Tryz.prog ΓL13.call ΓL13.rd ΓL13.eqv wx24 60 16
theorem OkxL14:ΓxL14.Ok Tryz.prog:=execV_ok mixed names (ext:=ΓL13.call) (rd:=ΓL13.rd) (eqv:=ΓL13.eqv) ⟨OkL13.call,OkL13.rd,OkL13.eqv⟩ 60 16
def rL14:SV:=.v (.agg #[(.bool true),(.int .i64 1),(.int .i64 0),(.bool false),(.string ⟨#[165,90,48,10,0,0,0,1,16,0,250,194,217,197,228,246]⟩),(.string ⟨#[165,90,64,14,0,0,0,1,16,0,0,0,68,192,73,90,41,232,192,102]⟩)])
def mL14:Mem:=⟨[[.v (.string imL),zI,.ptr 1 0,.v (I 8),.v (.bool true),zI,.row 0,.v (I 2),.v (I 3),.v (I 4),.v (I 2),.v (I 50),.v (I 2),.v (I 10),.v (I 1),zI,.ptr 2 0,.ptr 3 0,.ptr 4 0,.ptr 5 0,.ptr 6 0,.ptr 7 0,.ptr 8 0,.ptr 9 0,.ptr 10 0,.ptr 11 0,fZ,.v (I 1)],[.row 1,.ptr 12 0,fZ,fZ,zI],[.ptr 1 0,.v (I 8),.v (I 1),.v (I 1),zI,.v (I 1),zI,zI,zI,zI,zI,.v (I 1)],[eZ,.ptr 13 0],[eZ,.ptr 14 0],[eZ,.ptr 15 0],[eZ,.ptr 16 0],[.v (I 50),.v (I 2),.ptr 17 0,zI,zI,zI,zI,zI,zI,zI,zI,fZ],[.v (I 50),.v (I 2),.ptr 18 0,zI,zI,zI,zI,zI,zI,zI,zI,fZ],[.row 2,.v (I 2),.v (I 3),.v (I 4),.v (I 2),.v (I 50),.v (I 2),.v (I 10),.v (I 1),zI,.ptr 19 0],[.ptr 20 0,.ptr 21 0,.ptr 22 0],[.v (I 1),fZ,.v (I 1),zI],[mI,.v (I 1)],[mI,zI],[mI,zI],[mI,zI],[mI,zI],[mI,.v (I 1)],[mI,.v (I 1)],[mI,zI],[.v (I 2),zI],[.v (I 3),zI],[.v (I 4),zI]],tt23,[rowQ,.live ⟨5,[.num .u8],bN 255::bN 255::bN 255::bN 255::bN 255::bN 255::bN 255::bN 255::bN 0::bN 0::bN 0::bN 1::bN 0::bN 0::bN 0::bN 1::bN 16::bN 0::bN 0::bN 0::bN 0::bN 0::bN 0::bN 0::bN 90::bN 237::bN 183::bN 184::bN 0::bN 0::bN 0::bN 1::tB 32,true,true⟩,rowQ]⟩
set_option maxRecDepth 100000 in
theorem runL14:runG ΓxL14 (loopX ΓxL14 Tryz.prog 60 3) Tryz.prog Tryz.f24 [.ptr 0 0,inA] sP=some (rL14,mL14):=by kernel_rfl
theorem okL14:CallOk Tryz.prog 24 [.ptr 0 0,inA] sP rL14 mL14:=runOk OkxL14 Tryz.func24 rfl (fun z _ _ b _=>loopX_ok OkxL14 mixed 60 3 b) runL14
noncomputable def ΓL14:Orc:=addCl 24 (litC [.ptr 0 0,inA] sP rL14 mL14) ΓL13
theorem OkL14:ΓL14.Ok Tryz.prog:=addCl_ok OkL13 (litC_ok okL14)
end Go.Proofs.YtagaiddomhpdmaaGreat
namespace Go.Proofs.YtagaiddomhpdmaaGreat
open Go Go.Proofs Go.Sx
set_option linter.unusedVariables false
noncomputable def ΓxL15:Orc:=execV Tryz.prog ΓL14.call ΓL14.rd ΓL14.eqv wx24 60 16
theorem OkxL15:ΓxL15.Ok Tryz.prog:=execV_ok mixed names (ext:=ΓL14.call) (rd:=ΓL14.rd) (eqv:=ΓL14.eqv) ⟨OkL14.call,OkL14.rd,OkL14.eqv⟩ 60 16
def rL15:SV:=.tup [.one (.ptr 0 0),.one (.ptr 1 0)]
def mL15:Mem:=⟨[[.v (.string imL),zI,.ptr 1 0,.v (I 8),.v (.bool true),zI,.row 0,.v (I 2),.v (I 3),.v (I 4),.v (I 2),.v (I 50),.v (I 2),.v (I 10),.v (I 1),zI,.ptr 2 0,.ptr 3 0,.ptr 4 0,.ptr 5 0,.ptr 6 0,.ptr 7 0,.ptr 8 0,.ptr 9 0,.ptr 10 0,.ptr 11 0,fZ,.v (I 1)],[.row 1,.ptr 12 0,fZ,fZ,zI],[.ptr 1 0,.v (I 8),.v (I 1),.v (I 1),zI,.v (I 1),zI,zI,zI,zI,zI,.v (I 1)],[eZ,.ptr 13 0],[eZ,.ptr 14 0],[eZ,.ptr 15 0],[eZ,.ptr 16 0],[.v (I 50),.v (I 2),.ptr 17 0,zI,zI,zI,zI,zI,zI,zI,zI,fZ],[.v (I 50),.v (I 2),.ptr 18 0,zI,zI,zI,zI,zI,zI,zI,zI,fZ],[.row 2,.v (I 2),.v (I 3),.v (I 4),.v (I 2),.v (I 50),.v (I 2),.v (I 10),.v (I 1),zI,.ptr 19 0],[.ptr 20 0,.ptr 21 0,.ptr 22 0],[.v (I 1),fZ,.v (I 1),zI],[mI,.v (I 1)],[mI,zI],[mI,zI],[mI,zI],[mI,zI],[mI,.v (I 1)],[mI,.v (I 1)],[mI,zI],[.v (I 2),zI],[.v (I 3),zI],[.v (I 4),zI]],tt23,[rowQ,.live ⟨5,[.num .u8],bN 255::bN 255::bN 255::bN 255::bN 255::bN 255::bN 255::bN 255::bN 0::bN 0::bN 0::bN 1::bN 0::bN 0::bN 0::bN 1::bN 16::bN 0::bN 0::bN 0::bN 0::bN 0::bN 0::bN 0::bN 90::bN 237::bN 183::bN 184::bN 0::bN 0::bN 0::bN 1::tB 32,true,true⟩,rowQ]⟩
set_option maxRecDepth 100000 in
theorem runL15:runG ΓxL15 (loopX ΓxL15 Tryz.prog 60 3) Tryz.prog Tryz.f22 [.v (S imL)] M0=some (rL15,mL15):=by kernel_rfl
theorem okL15:CallOk Tryz.prog 22 [.v (S imL)] M0 rL15 mL15:=runOk OkxL15 Tryz.func22 rfl (fun z _ _ b _=>loopX_ok OkxL15 mixed 60 3 b) runL15
noncomputable def ΓL15:Orc:=addCl 22 (litC [.v (S imL)] M0 rL15 mL15) ΓL14
theorem OkL15:ΓL15.Ok Tryz.prog:=addCl_ok OkL14 (litC_ok okL15)
end Go.Proofs.YtagaiddomhpdmaaGreat
namespace Go.Proofs.YtagaiddomhpdmaaGreat
open Go Go.Proofs Go.Sx
set_option linter.unusedVariables false
noncomputable def ΓxL16:Orc:=execV Tryz.prog ΓL15.call ΓL15.rd ΓL15.eqv wx24 60 16
theorem OkxL16:ΓxL16.Ok Tryz.prog:=execV_ok mixed names (ext:=ΓL15.call) (rd:=ΓL15.rd) (eqv:=ΓL15.eqv) ⟨OkL15.call,OkL15.rd,OkL15.eqv⟩ 60 16
def rL16:SV:=.v (.string ⟨#[165,90,16,27,0,1,0,0,0,35,40,0,0,0,0,0,0,0,0,0,0,0,0,0,0,0,0,0,0,0,0,150,191]⟩)
def mL16:Mem:=⟨[],[],[]⟩
set_option maxRecDepth 100000 in
theorem runL16:runG ΓxL16 (loopX ΓxL16 Tryz.prog 60 3) Tryz.prog Tryz.f45 [.v (I 0),.v (.agg #[I 1,I 0,I 9000,I 0,I 0,I 0,I 0,I 0])] M0=some (rL16,mL16):=by kernel_rfl
theorem okL16:CallOk Tryz.prog 45 [.v (I 0),.v (.agg #[I 1,I 0,I 9000,I 0,I 0,I 0,I 0,I 0])] M0 rL16 mL16:=runOk OkxL16 Tryz.func45 rfl (fun z _ _ b _=>loopX_ok OkxL16 mixed 60 3 b) runL16
noncomputable def ΓL16:Orc:=addCl 45 (litC [.v (I 0),.v (.agg #[I 1,I 0,I 9000,I 0,I 0,I 0,I 0,I 0])] M0 rL16 mL16) ΓL15
theorem OkL16:ΓL16.Ok Tryz.prog:=addCl_ok OkL15 (litC_ok okL16)
end Go.Proofs.YtagaiddomhpdmaaGreat
namespace Go.Proofs.YtagaiddomhpdmaaGreat
open Go Go.Proofs Go.Sx
set_option linter.unusedVariables false
noncomputable def ΓxL17:Orc:=execV Tryz.prog ΓL16.call ΓL16.rd ΓL16.eqv wx24 60 16
theorem OkxL17:ΓxL17.Ok Tryz.prog:=execV_ok mixed names (ext:=ΓL16.call) (rd:=ΓL16.rd) (eqv:=ΓL16.eqv) ⟨OkL16.call,OkL16.rd,OkL16.eqv⟩ 60 16
def rL17:SV:=.v (.string ⟨#[165,90,16,27,0,2,0,0,0,35,40,0,0,0,0,0,0,0,0,0,0,0,0,0,0,0,0,0,0,0,0,114,61]⟩)
def mL17:Mem:=⟨[],[],[]⟩
set_option maxRecDepth 100000 in
theorem runL17:runG ΓxL17 (loopX ΓxL17 Tryz.prog 60 3) Tryz.prog Tryz.f45 [.v (I 0),.v (.agg #[I 2,I 0,I 9000,I 0,I 0,I 0,I 0,I 0])] M0=some (rL17,mL17):=by kernel_rfl
theorem okL17:CallOk Tryz.prog 45 [.v (I 0),.v (.agg #[I 2,I 0,I 9000,I 0,I 0,I 0,I 0,I 0])] M0 rL17 mL17:=runOk OkxL17 Tryz.func45 rfl (fun z _ _ b _=>loopX_ok OkxL17 mixed 60 3 b) runL17
noncomputable def ΓL17:Orc:=addCl 45 (litC [.v (I 0),.v (.agg #[I 2,I 0,I 9000,I 0,I 0,I 0,I 0,I 0])] M0 rL17 mL17) ΓL16
theorem OkL17:ΓL17.Ok Tryz.prog:=addCl_ok OkL16 (litC_ok okL17)
end Go.Proofs.YtagaiddomhpdmaaGreat
namespace Go.Proofs.YtagaiddomhpdmaaGreat
open Go Go.Proofs Go.Sx
set_option linter.unusedVariables false
def n1A:ByteArray:=⟨#[165,90,16,27,0,1,0,0,0,35,40,0,0,0,0,0,0,0,0,0,0,0,0,0,0,0,0,0,0,0,0,150,191]⟩
def n2A:ByteArray:=⟨#[165,90,16,27,0,2,0,0,0,35,40,0,0,0,0,0,0,0,0,0,0,0,0,0,0,0,0,0,0,0,0,114,61]⟩
def in1:SV:=.v (.agg #[S n1A,S e0,S e0,S e0])
def in2:SV:=.v (.agg #[S n2A,S e0,S e0,S e0])
end Go.Proofs.YtagaiddomhpdmaaGreat
namespace Go.Proofs.YtagaiddomhpdmaaGreat
open Go Go.Proofs Go.Sx
set_option linter.unusedVariables false
def wx24b (f:FuncId):Bool:=wx24 f||Nat.beq f 109
end Go.Proofs.YtagaiddomhpdmaaGreat
namespace Go.Proofs.YtagaiddomhpdmaaGreat
open Go Go.Proofs Go.Sx
set_option linter.unusedVariables false
def uin1_mL14:Mem:=⟨[[.v (.string imL),zI,.ptr 1 0,.v (I 8),.v (.bool true),zI,.row 0,.v (I 2),.v (I 3),.v (I 4),.v (I 2),.v (I 50),.v (I 2),.v (I 10),.v (I 1),zI,.ptr 2 0,.ptr 3 0,.ptr 4 0,.ptr 5 0,.ptr 6 0,.ptr 7 0,.ptr 8 0,.ptr 9 0,.ptr 10 0,.ptr 11 0,fZ,.v (I 2)],[.row 1,.ptr 12 0,fZ,fZ,zI],[.ptr 1 0,.v (I 8),.v (I 1),.v (I 1),zI,.v (I 1),zI,zI,zI,zI,zI,.v (I 1)],[eZ,.ptr 13 0],[eZ,.ptr 14 0],[eZ,.ptr 15 0],[eZ,.ptr 16 0],[.v (I 50),.v (I 2),.ptr 17 0,zI,zI,zI,zI,zI,zI,zI,zI,fZ],[.v (I 50),.v (I 2),.ptr 18 0,zI,zI,zI,zI,zI,zI,zI,zI,fZ],[.row 2,.v (I 2),.v (I 3),.v (I 4),.v (I 2),.v (I 50),.v (I 2),.v (I 10),.v (I 1),zI,.ptr 19 0],[.ptr 20 0,.ptr 21 0,.ptr 22 0],[.v (I 1),fZ,.v (I 1),zI],[mI,.v (I 1)],[mI,zI],[mI,zI],[mI,zI],[mI,zI],[mI,.v (I 1)],[mI,.v (I 1)],[mI,zI],[.v (I 2),zI],[.v (I 3),zI],[.v (I 4),zI]],tt23,[rowQ,.live ⟨5,[.num .u8],bN 255::bN 255::bN 255::bN 255::bN 255::bN 255::bN 255::bN 255::bN 0::bN 0::bN 0::bN 1::bN 0::bN 0::bN 0::bN 1::bN 16::bN 0::bN 0::bN 0::bN 0::bN 0::bN 0::bN 0::bN 90::bN 237::bN 183::bN 184::bN 0::bN 0::bN 0::bN 1::tB 32,true,true⟩,rowQ]⟩
end Go.Proofs.YtagaiddomhpdmaaGreat
namespace Go.Proofs.YtagaiddomhpdmaaGreat
open Go Go.Proofs Go.Sx
set_option linter.unusedVariables false
noncomputable def ΓxL18:Orc:=execV Tryz.prog ΓL17.call ΓL17.rd ΓL17.eqv wx24b 60 16
theorem OkxL18:ΓxL18.Ok Tryz.prog:=execV_ok mixed names (ext:=ΓL17.call) (rd:=ΓL17.rd) (eqv:=ΓL17.eqv) ⟨OkL17.call,OkL17.rd,OkL17.eqv⟩ 60 16
def rL18:SV:=.v (.agg #[(.int .i64 1),(.int .i64 0),(.int .i64 9000),(.int .i64 0),(.int .i64 0),(.int .i64 0),(.int .i64 0),(.int .i64 0),(.int .i64 0),(.int .i64 0),(.int .i64 0),(.int .i64 0),(.int .i64 0),(.int .i64 0),(.int .i64 0),(.int .i64 0),(.bool true),(.bool false),(.int .i64 0),(.int .i64 0),(.int .i64 0),(.int .i64 0),(.int .i64 0),(.bool false)])
def mL18:Mem:=⟨[[.v (.string imL),zI,.ptr 1 0,.v (I 8),.v (.bool true),zI,.row 0,.v (I 2),.v (I 3),.v (I 4),.v (I 2),.v (I 50),.v (I 2),.v (I 10),.v (I 1),zI,.ptr 2 0,.ptr 3 0,.ptr 4 0,.ptr 5 0,.ptr 6 0,.ptr 7 0,.ptr 8 0,.ptr 9 0,.ptr 10 0,.ptr 11 0,fZ,.v (I 2)],[.row 1,.ptr 12 0,fZ,fZ,zI],[.ptr 1 0,.v (I 8),.v (I 1),.v (I 1),zI,.v (I 1),zI,zI,zI,zI,zI,.v (I 1)],[eZ,.ptr 13 0],[eZ,.ptr 14 0],[eZ,.ptr 15 0],[eZ,.ptr 16 0],[.v (I 50),.v (I 2),.ptr 17 0,.v (I 1),zI,.v (I 9000),zI,zI,zI,zI,zI,.v (.bool true)],[.v (I 50),.v (I 2),.ptr 18 0,zI,zI,zI,zI,zI,zI,zI,zI,fZ],[.row 2,.v (I 2),.v (I 3),.v (I 4),.v (I 2),.v (I 50),.v (I 2),.v (I 10),.v (I 1),zI,.ptr 19 0],[.ptr 20 0,.ptr 21 0,.ptr 22 0],[.v (I 1),fZ,.v (I 1),zI],[mI,.v (I 1)],[mI,zI],[mI,zI],[mI,zI],[mI,zI],[mI,zI],[mI,.v (I 2)],[mI,zI],[.v (I 2),zI],[.v (I 3),zI],[.v (I 4),zI]],tt23,[rowQ,.live ⟨5,[.num .u8],bN 255::bN 255::bN 255::bN 255::bN 255::bN 255::bN 255::bN 255::bN 0::bN 0::bN 0::bN 1::bN 0::bN 0::bN 0::bN 1::bN 16::bN 0::bN 0::bN 0::bN 0::bN 0::bN 0::bN 0::bN 90::bN 237::bN 183::bN 184::bN 0::bN 0::bN 0::bN 1::tB 32,true,true⟩,rowQ]⟩
set_option maxRecDepth 100000 in
theorem runL18:runG ΓxL18 (loopX ΓxL18 Tryz.prog 60 3) Tryz.prog Tryz.f61 [.ptr 0 0,in1] uin1_mL14=some (rL18,mL18):=by kernel_rfl
theorem okL18:CallOk Tryz.prog 61 [.ptr 0 0,in1] uin1_mL14 rL18 mL18:=runOk OkxL18 Tryz.func61 rfl (fun z _ _ b _=>loopX_ok OkxL18 mixed 60 3 b) runL18
noncomputable def ΓL18:Orc:=addCl 61 (litC [.ptr 0 0,in1] uin1_mL14 rL18 mL18) ΓL17
theorem OkL18:ΓL18.Ok Tryz.prog:=addCl_ok OkL17 (litC_ok okL18)
end Go.Proofs.YtagaiddomhpdmaaGreat
namespace Go.Proofs.YtagaiddomhpdmaaGreat
open Go Go.Proofs Go.Sx
set_option linter.unusedVariables false
noncomputable def ΓxL19:Orc:=execV Tryz.prog ΓL18.call ΓL18.rd ΓL18.eqv wx24b 60 16
theorem OkxL19:ΓxL19.Ok Tryz.prog:=execV_ok mixed names (ext:=ΓL18.call) (rd:=ΓL18.rd) (eqv:=ΓL18.eqv) ⟨OkL18.call,OkL18.rd,OkL18.eqv⟩ 60 16
def rL19:SV:=.v (.agg #[(.int .i64 3),(.int .i64 4),(.int .i64 0),(.bool true),(.int .i64 128)])
def mL19:Mem:=⟨[[.v (.string imL),zI,.ptr 1 0,.v (I 8),.v (.bool true),zI,.row 0,.v (I 2),.v (I 3),.v (I 4),.v (I 2),.v (I 50),.v (I 2),.v (I 10),.v (I 1),zI,.ptr 2 0,.ptr 3 0,.ptr 4 0,.ptr 5 0,.ptr 6 0,.ptr 7 0,.ptr 8 0,.ptr 9 0,.ptr 10 0,.ptr 11 0,fZ,.v (I 2)],[.row 1,.ptr 12 0,fZ,fZ,zI],[.ptr 1 0,.v (I 8),.v (I 1),.v (I 1),zI,.v (I 1),zI,zI,zI,zI,zI,.v (I 1)],[eZ,.ptr 13 0],[eZ,.ptr 14 0],[eZ,.ptr 15 0],[eZ,.ptr 16 0],[.v (I 50),.v (I 2),.ptr 17 0,.v (I 1),zI,.v (I 9000),zI,zI,zI,zI,zI,.v (.bool true)],[.v (I 50),.v (I 2),.ptr 18 0,zI,zI,zI,zI,zI,zI,zI,zI,fZ],[.row 2,.v (I 2),.v (I 3),.v (I 4),.v (I 2),.v (I 50),.v (I 2),.v (I 10),.v (I 1),zI,.ptr 19 0],[.ptr 20 0,.ptr 21 0,.ptr 22 0],[.v (I 1),fZ,.v (I 1),zI],[mI,.v (I 1)],[mI,zI],[mI,zI],[mI,zI],[mI,zI],[mI,zI],[mI,.v (I 2)],[mI,zI],[.v (I 2),zI],[.v (I 3),zI],[.v (I 4),zI]],tt23,[rowQ,.live ⟨5,[.num .u8],bN 255::bN 255::bN 255::bN 255::bN 255::bN 255::bN 255::bN 255::bN 0::bN 0::bN 0::bN 1::bN 0::bN 0::bN 0::bN 1::bN 16::bN 0::bN 0::bN 0::bN 0::bN 0::bN 0::bN 0::bN 90::bN 237::bN 183::bN 184::bN 0::bN 0::bN 0::bN 1::tB 32,true,true⟩,rowQ]⟩
set_option maxRecDepth 100000 in
theorem runL19:runG ΓxL19 (loopX ΓxL19 Tryz.prog 60 3) Tryz.prog Tryz.f62 [.ptr 0 0,rL18] mL18=some (rL19,mL19):=by kernel_rfl
theorem okL19:CallOk Tryz.prog 62 [.ptr 0 0,rL18] mL18 rL19 mL19:=runOk OkxL19 Tryz.func62 rfl (fun z _ _ b _=>loopX_ok OkxL19 mixed 60 3 b) runL19
noncomputable def ΓL19:Orc:=addCl 62 (litC [.ptr 0 0,rL18] mL18 rL19 mL19) ΓL18
theorem OkL19:ΓL19.Ok Tryz.prog:=addCl_ok OkL18 (litC_ok okL19)
end Go.Proofs.YtagaiddomhpdmaaGreat
namespace Go.Proofs.YtagaiddomhpdmaaGreat
open Go Go.Proofs Go.Sx
set_option linter.unusedVariables false
noncomputable def ΓxL20:Orc:=execV Tryz.prog ΓL19.call ΓL19.rd ΓL19.eqv wx24b 60 16
theorem OkxL20:ΓxL20.Ok Tryz.prog:=execV_ok mixed names (ext:=ΓL19.call) (rd:=ΓL19.rd) (eqv:=ΓL19.eqv) ⟨OkL19.call,OkL19.rd,OkL19.eqv⟩ 60 16
def rL20:SV:=.v (.tuple #[])
def mL20:Mem:=⟨[[.v (.string imL),zI,.ptr 1 0,.v (I 8),.v (.bool true),zI,.row 0,.v (I 2),.v (I 3),.v (I 4),.v (I 2),.v (I 50),.v (I 2),.v (I 10),.v (I 1),zI,.ptr 2 0,.ptr 3 0,.ptr 4 0,.ptr 5 0,.ptr 6 0,.ptr 7 0,.ptr 8 0,.ptr 9 0,.ptr 10 0,.ptr 11 0,fZ,.v (I 2)],[.row 1,.ptr 12 0,fZ,fZ,zI],[.ptr 1 0,.v (I 8),.v (I 1),.v (I 1),zI,.v (I 1),zI,zI,zI,zI,zI,.v (I 1)],[eZ,.ptr 13 0],[eZ,.ptr 14 0],[eZ,.ptr 15 0],[eZ,.ptr 16 0],[.v (I 50),.v (I 2),.ptr 17 0,.v (I 1),zI,.v (I 9000),zI,zI,zI,zI,zI,.v (.bool true)],[.v (I 50),.v (I 2),.ptr 18 0,zI,zI,zI,zI,zI,zI,zI,zI,fZ],[.row 2,.v (I 2),.v (I 3),.v (I 4),.v (I 2),.v (I 50),.v (I 2),.v (I 10),.v (I 1),zI,.ptr 19 0],[.ptr 20 0,.ptr 21 0,.ptr 22 0],[.v (I 1),fZ,.v (I 1),zI],[mI,.v (I 1)],[mI,zI],[mI,zI],[mI,zI],[mI,zI],[mI,zI],[mI,.v (I 2)],[mI,zI],[.v (I 2),.v (I 1)],[.v (I 3),zI],[.v (I 4),zI]],tt23,[rowQ,.live ⟨5,[.num .u8],bN 255::bN 255::bN 255::bN 255::bN 255::bN 255::bN 255::bN 255::bN 0::bN 0::bN 0::bN 1::bN 0::bN 0::bN 0::bN 1::bN 16::bN 0::bN 0::bN 0::bN 0::bN 0::bN 0::bN 0::bN 90::bN 237::bN 183::bN 184::bN 0::bN 0::bN 0::bN 1::tB 32,true,true⟩,rowQ]⟩
set_option maxRecDepth 100000 in
theorem runL20:runG ΓxL20 (loopX ΓxL20 Tryz.prog 60 3) Tryz.prog Tryz.f63 [.ptr 0 0,rL18,rL19] mL19=some (rL20,mL20):=by kernel_rfl
theorem okL20:CallOk Tryz.prog 63 [.ptr 0 0,rL18,rL19] mL19 rL20 mL20:=runOk OkxL20 Tryz.func63 rfl (fun z _ _ b _=>loopX_ok OkxL20 mixed 60 3 b) runL20
noncomputable def ΓL20:Orc:=addCl 63 (litC [.ptr 0 0,rL18,rL19] mL19 rL20 mL20) ΓL19
theorem OkL20:ΓL20.Ok Tryz.prog:=addCl_ok OkL19 (litC_ok okL20)
end Go.Proofs.YtagaiddomhpdmaaGreat
namespace Go.Proofs.YtagaiddomhpdmaaGreat
open Go Go.Proofs Go.Sx
set_option linter.unusedVariables false
noncomputable def ΓxL21:Orc:=execV Tryz.prog ΓL20.call ΓL20.rd ΓL20.eqv wx24b 60 16
theorem OkxL21:ΓxL21.Ok Tryz.prog:=execV_ok mixed names (ext:=ΓL20.call) (rd:=ΓL20.rd) (eqv:=ΓL20.eqv) ⟨OkL20.call,OkL20.rd,OkL20.eqv⟩ 60 16
def rL21:SV:=.v (.bool false)
def mL21:Mem:=⟨[[.v (.string imL),zI,.ptr 1 0,.v (I 8),.v (.bool true),zI,.row 0,.v (I 2),.v (I 3),.v (I 4),.v (I 2),.v (I 50),.v (I 2),.v (I 10),.v (I 1),zI,.ptr 2 0,.ptr 3 0,.ptr 4 0,.ptr 5 0,.ptr 6 0,.ptr 7 0,.ptr 8 0,.ptr 9 0,.ptr 10 0,.ptr 11 0,fZ,.v (I 2)],[.row 1,.ptr 12 0,fZ,fZ,zI],[.ptr 1 0,.v (I 8),.v (I 1),.v (I 1),zI,.v (I 1),zI,zI,zI,zI,zI,.v (I 1)],[eZ,.ptr 13 0],[eZ,.ptr 14 0],[eZ,.ptr 15 0],[eZ,.ptr 16 0],[.v (I 50),.v (I 2),.ptr 17 0,.v (I 1),zI,.v (I 9000),zI,zI,zI,zI,zI,.v (.bool true)],[.v (I 50),.v (I 2),.ptr 18 0,zI,zI,zI,zI,zI,zI,zI,zI,fZ],[.row 2,.v (I 2),.v (I 3),.v (I 4),.v (I 2),.v (I 50),.v (I 2),.v (I 10),.v (I 1),zI,.ptr 19 0],[.ptr 20 0,.ptr 21 0,.ptr 22 0],[.v (I 1),fZ,.v (I 1),zI],[mI,.v (I 1)],[mI,zI],[mI,zI],[mI,zI],[mI,zI],[mI,zI],[mI,.v (I 2)],[mI,zI],[.v (I 2),.v (I 1)],[.v (I 3),zI],[.v (I 4),zI]],tt23,[rowQ,.live ⟨5,[.num .u8],bN 255::bN 255::bN 255::bN 255::bN 255::bN 255::bN 255::bN 255::bN 0::bN 0::bN 0::bN 1::bN 0::bN 0::bN 0::bN 1::bN 16::bN 0::bN 0::bN 0::bN 0::bN 0::bN 0::bN 0::bN 90::bN 237::bN 183::bN 184::bN 0::bN 0::bN 0::bN 1::tB 32,true,true⟩,rowQ]⟩
set_option maxRecDepth 100000 in
theorem runL21:runG ΓxL21 (loopX ΓxL21 Tryz.prog 60 3) Tryz.prog Tryz.f64 [.ptr 0 0,rL18,rL19] mL20=some (rL21,mL21):=by kernel_rfl
theorem okL21:CallOk Tryz.prog 64 [.ptr 0 0,rL18,rL19] mL20 rL21 mL21:=runOk OkxL21 Tryz.func64 rfl (fun z _ _ b _=>loopX_ok OkxL21 mixed 60 3 b) runL21
noncomputable def ΓL21:Orc:=addCl 64 (litC [.ptr 0 0,rL18,rL19] mL20 rL21 mL21) ΓL20
theorem OkL21:ΓL21.Ok Tryz.prog:=addCl_ok OkL20 (litC_ok okL21)
end Go.Proofs.YtagaiddomhpdmaaGreat
namespace Go.Proofs.YtagaiddomhpdmaaGreat
open Go Go.Proofs Go.Sx
set_option linter.unusedVariables false
noncomputable def ΓxL22:Orc:=execV Tryz.prog ΓL21.call ΓL21.rd ΓL21.eqv wx24b 60 16
theorem OkxL22:ΓxL22.Ok Tryz.prog:=execV_ok mixed names (ext:=ΓL21.call) (rd:=ΓL21.rd) (eqv:=ΓL21.eqv) ⟨OkL21.call,OkL21.rd,OkL21.eqv⟩ 60 16
def rL22:SV:=.v (I 0)
def mL22:Mem:=⟨[[.v (.string imL),zI,.ptr 1 0,.v (I 8),.v (.bool true),zI,.row 0,.v (I 2),.v (I 3),.v (I 4),.v (I 2),.v (I 50),.v (I 2),.v (I 10),.v (I 1),zI,.ptr 2 0,.ptr 3 0,.ptr 4 0,.ptr 5 0,.ptr 6 0,.ptr 7 0,.ptr 8 0,.ptr 9 0,.ptr 10 0,.ptr 11 0,fZ,.v (I 2)],[.row 1,.ptr 12 0,fZ,fZ,zI],[.ptr 1 0,.v (I 8),.v (I 2),.v (I 2),zI,.v (I 1),zI,.v (I 1),zI,zI,zI,zI],[eZ,.ptr 13 0],[eZ,.ptr 14 0],[eZ,.ptr 15 0],[eZ,.ptr 16 0],[.v (I 50),.v (I 2),.ptr 17 0,.v (I 1),zI,.v (I 9000),zI,zI,zI,zI,zI,.v (.bool true)],[.v (I 50),.v (I 2),.ptr 18 0,zI,zI,zI,zI,zI,zI,zI,zI,fZ],[.row 2,.v (I 2),.v (I 3),.v (I 4),.v (I 2),.v (I 50),.v (I 2),.v (I 10),.v (I 1),zI,.ptr 19 0],[.ptr 20 0,.ptr 21 0,.ptr 22 0],[.v (I 1),fZ,.v (I 1),zI],[mI,.v (I 2)],[mI,zI],[mI,zI],[mI,zI],[mI,zI],[mI,zI],[mI,.v (I 2)],[mI,zI],[.v (I 2),.v (I 1)],[.v (I 3),zI],[.v (I 4),zI]],tt23,[rowQ,.live ⟨5,[.num .u8],bN 255::bN 255::bN 255::bN 255::bN 255::bN 255::bN 255::bN 255::bN 0::bN 0::bN 0::bN 1::bN 0::bN 0::bN 0::bN 1::bN 16::bN 0::bN 0::bN 0::bN 0::bN 0::bN 0::bN 0::bN 90::bN 237::bN 183::bN 184::bN 0::bN 0::bN 0::bN 1::bN 0::bN 0::bN 0::bN 2::bN 0::bN 0::bN 0::bN 2::bN 16::bN 1::bN 0::bN 0::bN 0::bN 0::bN 0::bN 0::bN 120::bN 221::bN 236::bN 7::bN 0::bN 0::bN 0::bN 2::tB 8,true,true⟩,rowQ]⟩
set_option maxRecDepth 100000 in
theorem runL22:runG ΓxL22 (loopX ΓxL22 Tryz.prog 60 3) Tryz.prog Tryz.f65 [.ptr 0 0] mL21=some (rL22,mL22):=by kernel_rfl
theorem okL22:CallOk Tryz.prog 65 [.ptr 0 0] mL21 rL22 mL22:=runOk OkxL22 Tryz.func65 rfl (fun z _ _ b _=>loopX_ok OkxL22 mixed 60 3 b) runL22
noncomputable def ΓL22:Orc:=addCl 65 (litC [.ptr 0 0] mL21 rL22 mL22) ΓL21
theorem OkL22:ΓL22.Ok Tryz.prog:=addCl_ok OkL21 (litC_ok okL22)
end Go.Proofs.YtagaiddomhpdmaaGreat
