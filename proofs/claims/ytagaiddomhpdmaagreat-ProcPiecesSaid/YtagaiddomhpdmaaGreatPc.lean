/-
  Calls with known arguments over known memory: a processor that is armed,hears,fires,and boots again,piece by piece.
-/
import Derived.Test.YtagaiddomhpdmaaGreatPb
namespace Go.Proofs.YtagaiddomhpdmaaGreat
open Go Go.Proofs Go.Sx
set_option linter.unusedVariables false
def lnkB:ByteArray:=⟨#[165,90,48,10,0,0,0,3,32,0,38,0,59,88,32,251]⟩
def repB:ByteArray:=⟨#[165,90,64,14,0,0,0,3,32,2,0,0,67,128,153,226,187,91,196,108]⟩
def noneB:ByteArray:=⟨#[110,111,110,101]⟩
def inG:SV:=.v (.agg #[S e0,S e0,S gA,S e0])
end Go.Proofs.YtagaiddomhpdmaaGreat
namespace Go.Proofs.YtagaiddomhpdmaaGreat
open Go Go.Proofs Go.Sx
set_option linter.unusedVariables false
noncomputable def ΓxL45:Orc:=execV Tryz.prog ΓL44.call ΓL44.rd ΓL44.eqv wx24b 60 16
theorem OkxL45:ΓxL45.Ok Tryz.prog:=execV_ok mixed names (ext:=ΓL44.call) (rd:=ΓL44.rd) (eqv:=ΓL44.eqv) ⟨OkL44.call,OkL44.rd,OkL44.eqv⟩ 60 16
def rL45:SV:=.v (.tuple #[(.agg #[(.int .i64 3),(.int .i64 0),(.int .i64 2),(.int .i64 2),(.int .i64 0),(.int .i64 0),(.int .i64 3),(.int .i64 4),(.int .i64 128)]),(.bool true)])
def mL45:Mem:=⟨[],[],[]⟩
set_option maxRecDepth 100000 in
theorem runL45:runG ΓxL45 (loopX ΓxL45 Tryz.prog 60 3) Tryz.prog Tryz.f20 [.v (S repB)] M0=some (rL45,mL45):=by kernel_rfl
theorem okL45:CallOk Tryz.prog 20 [.v (S repB)] M0 rL45 mL45:=runOk OkxL45 Tryz.func20 rfl (fun z _ _ b _=>loopX_ok OkxL45 mixed 60 3 b) runL45
noncomputable def ΓL45:Orc:=addCl 20 (litC [.v (S repB)] M0 rL45 mL45) ΓL44
theorem OkL45:ΓL45.Ok Tryz.prog:=addCl_ok OkL44 (litC_ok okL45)
end Go.Proofs.YtagaiddomhpdmaaGreat
namespace Go.Proofs.YtagaiddomhpdmaaGreat
open Go Go.Proofs Go.Sx
set_option linter.unusedVariables false
noncomputable def ΓxL46:Orc:=execV Tryz.prog ΓL45.call ΓL45.rd ΓL45.eqv wx24b 60 16
theorem OkxL46:ΓxL46.Ok Tryz.prog:=execV_ok mixed names (ext:=ΓL45.call) (rd:=ΓL45.rd) (eqv:=ΓL45.eqv) ⟨OkL45.call,OkL45.rd,OkL45.eqv⟩ 60 16
def rL46:SV:=.v (.tuple #[(.agg #[(.int .i64 3),(.int .i64 0),(.int .i64 2),(.int .i64 0)]),(.bool true)])
def mL46:Mem:=⟨[],[],[]⟩
set_option maxRecDepth 100000 in
theorem runL46:runG ΓxL46 (loopX ΓxL46 Tryz.prog 60 3) Tryz.prog Tryz.f19 [.v (S lnkB)] M0=some (rL46,mL46):=by kernel_rfl
theorem okL46:CallOk Tryz.prog 19 [.v (S lnkB)] M0 rL46 mL46:=runOk OkxL46 Tryz.func19 rfl (fun z _ _ b _=>loopX_ok OkxL46 mixed 60 3 b) runL46
noncomputable def ΓL46:Orc:=addCl 19 (litC [.v (S lnkB)] M0 rL46 mL46) ΓL45
theorem OkL46:ΓL46.Ok Tryz.prog:=addCl_ok OkL45 (litC_ok okL46)
end Go.Proofs.YtagaiddomhpdmaaGreat
namespace Go.Proofs.YtagaiddomhpdmaaGreat
open Go Go.Proofs Go.Sx
set_option linter.unusedVariables false
noncomputable def ΓxL47:Orc:=execV Tryz.prog ΓL46.call ΓL46.rd ΓL46.eqv wx24b 60 16
theorem OkxL47:ΓxL47.Ok Tryz.prog:=execV_ok mixed names (ext:=ΓL46.call) (rd:=ΓL46.rd) (eqv:=ΓL46.eqv) ⟨OkL46.call,OkL46.rd,OkL46.eqv⟩ 60 16
def rL47:SV:=.v (.tuple #[(.agg #[(Value.slice none 0 0),(.int .i64 0),(.int .i64 0),(.int .i64 0),(.int .i64 0),(.int .i64 0),(.int .i64 0),(.int .i64 0),(.int .i64 0)]),(.int .i64 1)])
def mL47:Mem:=⟨[],[],[]⟩
set_option maxRecDepth 100000 in
theorem runL47:runG ΓxL47 (loopX ΓxL47 Tryz.prog 60 3) Tryz.prog Tryz.f84 [.v (S noneB),.v (I 0)] M0=some (rL47,mL47):=by kernel_rfl
theorem okL47:CallOk Tryz.prog 84 [.v (S noneB),.v (I 0)] M0 rL47 mL47:=runOk OkxL47 Tryz.func84 rfl (fun z _ _ b _=>loopX_ok OkxL47 mixed 60 3 b) runL47
noncomputable def ΓL47:Orc:=addCl 84 (litC [.v (S noneB),.v (I 0)] M0 rL47 mL47) ΓL46
theorem OkL47:ΓL47.Ok Tryz.prog:=addCl_ok OkL46 (litC_ok okL47)
end Go.Proofs.YtagaiddomhpdmaaGreat
namespace Go.Proofs.YtagaiddomhpdmaaGreat
open Go Go.Proofs Go.Sx
set_option linter.unusedVariables false
noncomputable def ΓxL48:Orc:=execV Tryz.prog ΓL47.call ΓL47.rd ΓL47.eqv wx24b 60 16
theorem OkxL48:ΓxL48.Ok Tryz.prog:=execV_ok mixed names (ext:=ΓL47.call) (rd:=ΓL47.rd) (eqv:=ΓL47.eqv) ⟨OkL47.call,OkL47.rd,OkL47.eqv⟩ 60 16
def rL48:SV:=.tup [.one (.ptr 2 0),.one (.v (I 0))]
def mL48:Mem:=⟨[[.row 0,.ptr 1 0,fZ,fZ,zI],[mI,zI],[.ptr 0 0,zI,zI,zI,zI,zI,zI,zI,zI,zI,zI,zI]],[true,true,true],[.live ⟨5,[.num .u8],tB 64,true,true⟩]⟩
set_option maxRecDepth 100000 in
theorem runL48:runG ΓxL48 (loopX ΓxL48 Tryz.prog 60 3) Tryz.prog Tryz.f83 [.ptr 0 0,.v (I 0)] sF=some (rL48,mL48):=by kernel_rfl
theorem okL48:CallOk Tryz.prog 83 [.ptr 0 0,.v (I 0)] sF rL48 mL48:=runOk OkxL48 Tryz.func83 rfl (fun z _ _ b _=>loopX_ok OkxL48 mixed 60 3 b) runL48
noncomputable def ΓL48:Orc:=addCl 83 (litC [.ptr 0 0,.v (I 0)] sF rL48 mL48) ΓL47
theorem OkL48:ΓL48.Ok Tryz.prog:=addCl_ok OkL47 (litC_ok okL48)
end Go.Proofs.YtagaiddomhpdmaaGreat
namespace Go.Proofs.YtagaiddomhpdmaaGreat
open Go Go.Proofs Go.Sx
set_option linter.unusedVariables false
noncomputable def ΓxL49:Orc:=execV Tryz.prog ΓL48.call ΓL48.rd ΓL48.eqv wx24b 60 16
theorem OkxL49:ΓxL49.Ok Tryz.prog:=execV_ok mixed names (ext:=ΓL48.call) (rd:=ΓL48.rd) (eqv:=ΓL48.eqv) ⟨OkL48.call,OkL48.rd,OkL48.eqv⟩ 60 16
def rL49:SV:=.tup [.one (.ptr 2 0),.one (.v (I 0))]
def mL49:Mem:=⟨[[.row 0,.ptr 1 0,fZ,fZ,zI],[mI,zI],[.v (.string noneB),zI,.ptr 0 0,zI,.v (.bool true),zI,.v (Value.slice none 0 0),zI,zI,zI,zI,zI,zI,zI,zI,.v (I 1),.v (Value.pointer none),.v (Value.pointer none),.v (Value.pointer none),.v (Value.pointer none),.v (Value.pointer none),.v (Value.pointer none),.v (Value.pointer none),.v (Value.pointer none),.v (Value.pointer none),.ptr 3 0,fZ,zI],[zI,.v (.bool true),zI,zI]],[true,true,true,true],[.live ⟨5,[.num .u8],tB 64,true,true⟩]⟩
set_option maxRecDepth 100000 in
theorem runL49:runG ΓxL49 (loopX ΓxL49 Tryz.prog 60 3) Tryz.prog Tryz.f15 [.v (S noneB),.v (I 0),.ptr 0 0,.v (I 0)] sF=some (rL49,mL49):=by kernel_rfl
theorem okL49:CallOk Tryz.prog 15 [.v (S noneB),.v (I 0),.ptr 0 0,.v (I 0)] sF rL49 mL49:=runOk OkxL49 Tryz.func15 rfl (fun z _ _ b _=>loopX_ok OkxL49 mixed 60 3 b) runL49
noncomputable def ΓL49:Orc:=addCl 15 (litC [.v (S noneB),.v (I 0),.ptr 0 0,.v (I 0)] sF rL49 mL49) ΓL48
theorem OkL49:ΓL49.Ok Tryz.prog:=addCl_ok OkL48 (litC_ok okL49)
end Go.Proofs.YtagaiddomhpdmaaGreat
namespace Go.Proofs.YtagaiddomhpdmaaGreat
open Go Go.Proofs Go.Sx
set_option linter.unusedVariables false
noncomputable def ΓxL50:Orc:=execV Tryz.prog ΓL49.call ΓL49.rd ΓL49.eqv wx24b 60 16
theorem OkxL50:ΓxL50.Ok Tryz.prog:=execV_ok mixed names (ext:=ΓL49.call) (rd:=ΓL49.rd) (eqv:=ΓL49.eqv) ⟨OkL49.call,OkL49.rd,OkL49.eqv⟩ 60 16
def rL50:SV:=.v (.tuple #[(Value.pointer none),(.int .i64 2)])
def mL50:Mem:=⟨[[.row 0,.ptr 1 0,fZ,fZ,zI],[mI,zI]],[true,true],[.live ⟨5,[.num .u8],tB 64,true,true⟩]⟩
set_option maxRecDepth 100000 in
theorem runL50:runG ΓxL50 (loopX ΓxL50 Tryz.prog 60 3) Tryz.prog Tryz.f15 [.v (S noneB),.v (I 0),.ptr 0 0,.v (I 17)] sF=some (rL50,mL50):=by kernel_rfl
theorem okL50:CallOk Tryz.prog 15 [.v (S noneB),.v (I 0),.ptr 0 0,.v (I 17)] sF rL50 mL50:=runOk OkxL50 Tryz.func15 rfl (fun z _ _ b _=>loopX_ok OkxL50 mixed 60 3 b) runL50
noncomputable def ΓL50:Orc:=addCl 15 (litC [.v (S noneB),.v (I 0),.ptr 0 0,.v (I 17)] sF rL50 mL50) ΓL49
theorem OkL50:ΓL50.Ok Tryz.prog:=addCl_ok OkL49 (litC_ok okL50)
end Go.Proofs.YtagaiddomhpdmaaGreat
namespace Go.Proofs.YtagaiddomhpdmaaGreat
open Go Go.Proofs Go.Sx
set_option linter.unusedVariables false
def sQ:Mem:=⟨[[.v (.string noneB),zI,.ptr 1 0,zI,.v (.bool true),zI,.v (Value.slice none 0 0),zI,zI,zI,zI,zI,zI,zI,zI,.v (I 1),.v (Value.pointer none),.v (Value.pointer none),.v (Value.pointer none),.v (Value.pointer none),.v (Value.pointer none),.v (Value.pointer none),.v (Value.pointer none),.v (Value.pointer none),.v (Value.pointer none),.ptr 2 0,fZ,zI],[.row 0,.ptr 3 0,fZ,fZ,zI],[zI,.v (.bool true),zI,zI],[mI,zI]],[true,true,true,true],[.live ⟨5,[.num .u8],have y:=have y:=have y:=have y:=[bN 255,bN 255,bN 255,bN 255];bN 255::bN 255::bN 255::bN 255::y;have y:=bN 255::bN 255::bN 255::bN 255::y;bN 255::bN 255::bN 255::bN 255::y;have y:=have y:=bN 255::bN 255::bN 255::bN 255::y;bN 255::bN 255::bN 255::bN 255::y;have y:=bN 255::bN 255::bN 255::bN 255::y;bN 255::bN 255::bN 255::bN 255::y;have y:=have y:=have y:=bN 255::bN 255::bN 255::bN 255::y;bN 255::bN 255::bN 255::bN 255::y;have y:=bN 255::bN 255::bN 255::bN 255::y;bN 255::bN 255::bN 255::bN 255::y;have y:=have y:=bN 255::bN 255::bN 255::bN 255::y;bN 255::bN 255::bN 255::bN 255::y;have y:=bN 255::bN 255::bN 255::bN 255::y;bN 255::bN 255::bN 255::bN 255::y,true,true⟩]⟩
end Go.Proofs.YtagaiddomhpdmaaGreat
namespace Go.Proofs.YtagaiddomhpdmaaGreat
open Go Go.Proofs Go.Sx
set_option linter.unusedVariables false
noncomputable def ΓxL51:Orc:=execV Tryz.prog ΓL50.call ΓL50.rd ΓL50.eqv wx24b 60 16
theorem OkxL51:ΓxL51.Ok Tryz.prog:=execV_ok mixed names (ext:=ΓL50.call) (rd:=ΓL50.rd) (eqv:=ΓL50.eqv) ⟨OkL50.call,OkL50.rd,OkL50.eqv⟩ 60 16
def rL51:SV:=.v (.agg #[(.bool true),(.int .i64 0),(.int .i64 0),(.bool false),(.string ⟨#[165,90,48,10,0,0,0,1,0,0,176,0,203,148,159,23]⟩),(.string ⟨#[165,90,64,14,0,0,0,1,0,0,0,0,0,1,50,250,83,84,193,155]⟩)])
def mL51:Mem:=⟨[[.v (.string noneB),zI,.ptr 1 0,zI,.v (.bool true),zI,.v (Value.slice none 0 0),zI,zI,zI,zI,zI,zI,zI,zI,.v (I 1),.v (Value.pointer none),.v (Value.pointer none),.v (Value.pointer none),.v (Value.pointer none),.v (Value.pointer none),.v (Value.pointer none),.v (Value.pointer none),.v (Value.pointer none),.v (Value.pointer none),.ptr 2 0,fZ,.v (I 1)],[.row 0,.ptr 3 0,fZ,fZ,zI],[zI,.v (.bool true),zI,zI],[mI,zI]],[true,true,true,true],[.live ⟨5,[.num .u8],tB 64,true,true⟩]⟩
set_option maxRecDepth 100000 in
theorem runL51:runG ΓxL51 (loopX ΓxL51 Tryz.prog 60 3) Tryz.prog Tryz.f24 [.ptr 0 0,inG] sQ=some (rL51,mL51):=by kernel_rfl
theorem okL51:CallOk Tryz.prog 24 [.ptr 0 0,inG] sQ rL51 mL51:=runOk OkxL51 Tryz.func24 rfl (fun z _ _ b _=>loopX_ok OkxL51 mixed 60 3 b) runL51
noncomputable def ΓL51:Orc:=addCl 24 (litC [.ptr 0 0,inG] sQ rL51 mL51) ΓL50
theorem OkL51:ΓL51.Ok Tryz.prog:=addCl_ok OkL50 (litC_ok okL51)
end Go.Proofs.YtagaiddomhpdmaaGreat
namespace Go.Proofs.YtagaiddomhpdmaaGreat
open Go Go.Proofs Go.Sx
set_option linter.unusedVariables false
def good2:List TypeId:=38::61::44::41::good
theorem good2Ok:good2.all (eqTypeOk Tryz.prog)=true:=by kernel_rfl
def eqvA (P:Program) (good:List TypeId) (t:TypeId) (xs ys:List Value):Option Bool :=
  match eqvOf P good t xs ys with
  | some r=>some r
  | none=>match good.contains t,arrI P t with
    | true,some (m,_)=>if xs.length=m then intsEq xs ys else none
    | _,_=>none
theorem eqvA_ok {P:Program} {good:List TypeId} (hg:good.all (eqTypeOk P)=true) (t:TypeId) (xs ys:List Value) (r:Bool) (h:eqvA P good t xs ys=some r) (w:World) (op:BinOp) (x y:Operand) (hop:op=.eql∨op=.neq) :
    (eqGuard op t x y (.agg xs.toArray) (.agg ys.toArray)).run P w=.ok () w∧(Op.equal t (.agg xs.toArray) (.agg ys.toArray)).run P w=.ok r w:=by
  unfold eqvA at h
  split at h
  · rename_i r' hr
    injection h with h
    subst h
    exact eqvOf_ok hg t xs ys _ hr w op x y hop
  · split at h
    · rename_i m e hc hm
      have ht:eqTypeOk P t=true:=List.all_eq_true.1 hg t (by simpa using hc)
      unfold eqTypeOk at ht
      simp only [Bool.and_eq_true,Bool.not_eq_true'] at ht
      split at h
      · rename_i hl
        refine ⟨?_,?_⟩
        · rcases hop with rfl|rfl<;>simp [eqGuard,program,Sem.run,ht.1.2]
        · unfold Op.equal Op.maxDepth
          exact run_equalIn_ints (n:=9998) hm hl h
      · cases h
    · cases h
noncomputable def ΓL51e:Orc:={ ΓL51 with eqv:=eqvA Tryz.prog good2 }
theorem OkL51e:ΓL51e.Ok Tryz.prog:=⟨OkL51.call,OkL51.rd,fun t xs ys r h w op x y hop=>eqvA_ok good2Ok t xs ys r h w op x y hop⟩
end Go.Proofs.YtagaiddomhpdmaaGreat
namespace Go.Proofs.YtagaiddomhpdmaaGreat
open Go Go.Proofs Go.Sx
set_option linter.unusedVariables false
noncomputable def ΓxL52:Orc:=execV Tryz.prog ΓL51e.call ΓL51e.rd ΓL51e.eqv wx24b 60 16
theorem OkxL52:ΓxL52.Ok Tryz.prog:=execV_ok mixed names (ext:=ΓL51e.call) (rd:=ΓL51e.rd) (eqv:=ΓL51e.eqv) ⟨OkL51e.call,OkL51e.rd,OkL51e.eqv⟩ 60 16
def rL52:SV:=.v (.bool true)
def mL52:Mem:=⟨[],[],[]⟩
set_option maxRecDepth 100000 in
theorem runL52:runG ΓxL52 (loopX ΓxL52 Tryz.prog 60 3) Tryz.prog Tryz.f12 [] M0=some (rL52,mL52):=by kernel_rfl
theorem okL52:CallOk Tryz.prog 12 [] M0 rL52 mL52:=runOk OkxL52 Tryz.func12 rfl (fun z _ _ b _=>loopX_ok OkxL52 mixed 60 3 b) runL52
end Go.Proofs.YtagaiddomhpdmaaGreat
