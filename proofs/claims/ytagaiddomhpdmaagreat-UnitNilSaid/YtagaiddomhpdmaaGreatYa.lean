/-
  What is known of this program: the atomics,names;contracts of wide,of point,of box over values,and of the document's.
-/
import Derived.Test.YtagaiddomhpdmaaGreatSx
import Derived.Test.YtagaiddomhpdmaaGreatProg
import Derived.Lib.Strings
import Derived.Lib.Walk
import Derived.Lib.BufferWrite
import Derived.Lib.UnsafeStr
import Derived.Laws.MakeOwn
import Derived.WalkKit
import Derived.Test.YtagaiddomhpdmaaGreatSw
set_option maxRecDepth 100000
namespace Go.Proofs.YtagaiddomhpdmaaGreat
open Go Go.Proofs Go.Sx Go.RowKit
abbrev CtC (n:FuncId) (g:List SV→Mem→Option (Bool×SV×Mem)):Prop:=∀ xs m r m',g xs m=some (true,r,m')→CallOk Tryz.prog n xs m r m'
abbrev CtR (n:FuncId) (g:List SV→Mem→Option (Bool×Value)):Prop:=∀ xs m r,g xs m=some (true,r)→CallOk Tryz.prog n xs m (.v r) m
abbrev CtV (n:FuncId) (g:List Value→Option (Bool×Value)):Prop:=∀ vs r,g vs=some (true,r)→∀ m,CallOk Tryz.prog n (vs.map .v) m (.v r) m
theorem mixed:Tryz.prog.follows .mixedOrders=true:=by kernel_rfl
theorem names:namesOk Tryz.prog=true:=by kernel_rfl
def M0:Mem:=⟨[],[],[]⟩
def I (x:Int):Value:=.int .i64 x
def S (s:ByteArray):Value:=.string s
def Bo (b:Bool):Value:=.bool b
def U8 (x:Int):Value:=.int .u8 x
def U16 (x:Int):Value:=.int .u16 x
def U32 (x:Int):Value:=.int .u32 x
theorem xLoad64:Ext Tryz.prog 279 (Extern.Atomic.loadT (.int .i64)):=⟨fun args w=>run_callFunc_extern Tryz.func279 (by kernel_rfl) (by kernel_rfl) (by kernel_rfl) (by kernel_rfl) args w⟩
def rLoad64:FuncId→List SV→Mem→Option (Bool×Value):=loadE 279 .i64
theorem rLoad64_ok:∀ f xs m r,rLoad64 f xs m=some (true,r)→CallOk Tryz.prog f xs m (.v r) m:=loadE_ok xLoad64
theorem xCas64:Ext Tryz.prog 294 (Extern.Atomic.casT (.int .i64)):=⟨fun args w=>run_callFunc_extern Tryz.func294 (by kernel_rfl) (by kernel_rfl) (by kernel_rfl) (by kernel_rfl) args w⟩
def cCas64:FuncId→List SV→Mem→Option (Bool×SV×Mem):=casE 294 .i64
theorem cCas64_ok:∀ f xs m r m',cCas64 f xs m=some (true,r,m')→CallOk Tryz.prog f xs m r m':=casE_ok xCas64
set_option maxHeartbeats 4000000 in
theorem copied (s:ByteArray) (w:World) (hs:s.size≤281474976710656) :
    Calls Tryz.prog 214 #[.string s] w fun e w'=>e=.returned (.string s)∧Kp w w':=by
  have fr:∀ {w w':World},Below w.heap.size w w'→Kp w w':=fun h=>⟨h,fun p hp=>h.frozen hp⟩
  by_cases h0:s.size=0
  · obtain rfl:s=⟨#[]⟩:=ByteArray.ext (Array.eq_empty_of_size_eq_zero h0)
    go_enter Tryz.func214,Tryz.ntmps214
    go_wp2
    go_ret
    exact ⟨rfl,fr (Below.refl _ _)⟩
  · obtain ⟨ti,hti,tz,ts,tb⟩:∃ i,Tryz.prog.info? 5=some i∧i.zero=some (.int .u8 0)∧i.size=1∧i.bytes=1:=⟨_,rfl,rfl,rfl,rfl⟩
    have one:(Tryz.prog.info? 5).map (·.size)=some 1:=by rw [hti];simp [ts]
    have cells1:Tryz.prog.cellsOf 5=1:=by simp [Program.cellsOf,hti,ts]
    generalize hM:madeCells (Value.int .u8 0).cells (((s.size:Nat):Int).toNat*ti.size)=M
    have sizeM:M.size=s.size:=by rw [← hM,size_madeCells,ts];simp
    have making:∀ W:World,(Instr.makeSlice 101 (.int .i64 (s.size:Int)) (.int .i64 (s.size:Int))).run Tryz.prog W=.ok (.slice (some ⟨W.heap.size,0,none⟩) s.size s.size) (W.alloc (.cells M 5)):=by
      intro W
      have:=run_make (P:=Tryz.prog) W 101 5 ti (.int .u8 0) Tryz.underlying101 hti tz .i64 .i64 (s.size:Int) (s.size:Int) (by omega) (by omega) (by rw [tb];omega) (by omega)
      rw [hM] at this
      simpa using this
    have copying:=Lib.run_copy_row_string (P:=Tryz.prog) (w.alloc (.cells M 5)) 101 9 3 5 w.heap.size 0 s.size s.size s M 5 Tryz.underlying101 one (heap_alloc_new w _) (Nat.le_refl _) (by omega)
    generalize hY:(M.toList.take 0++Lib.byteCells s.data.toList++M.toList.drop (0+s.size)).toArray=Y at copying
    have listY:Y.toList=Lib.byteCells s.data.toList:=by
      rw [← hY,List.toList_toArray,List.take_zero,List.nil_append,List.drop_of_length_le (by rw [Array.length_toList];omega),List.append_nil]
    have sizeY:Y.size=s.size:=by rw [← Array.length_toList,listY,Lib.byteCells_length,← Lib.size_eq]
    have there:((w.alloc (.cells M 5)).setRow w.heap.size Y).heap[w.heap.size]?=some (.cells Y 5 (0,0)):=setRow_heap _ _ M _ 5 (0,0) (heap_alloc_new w _)
    have some1:s.data.toList≠[]:=fun e=>h0 (by rw [Lib.size_eq,e];rfl)
    have sharing:=Lib.run_unsafeString_row (P:=Tryz.prog) ((w.alloc (.cells M 5)).setRow w.heap.size Y) 356 3 9 5 Tryz.underlying356 cells1 w.heap.size Y.size (by unfold World.shape?;rw [there]) s.data.toList some1 (by rw [← Lib.size_eq];omega) (by rw [← Lib.size_eq];omega)
      (fun j x hx=>Lib.cells_of_row there Y.size j _ (by rw [List.take_of_length_le (by rw [Array.length_toList];exact Nat.le_refl _),listY];simp [Lib.byteCells,hx]))
    rw [← Lib.size_eq] at sharing
    clear hM hY
    go_enter Tryz.func214,Tryz.ntmps214
    go_wp2
    go_ret
    have b1:Below w.heap.size w (w.alloc (.cells M 5)):=(Below.refl _ w).alloc (Nat.le_refl _) _
    have b2:Below w.heap.size (w.alloc (.cells M 5)) ((w.alloc (.cells M 5)).setRow w.heap.size Y):=⟨rfl,rfl,rfl,by simp,fun k hk=>setRow_other _ _ _ _ (by omega)⟩
    exact ⟨rfl,fr (Lib.below_freeze (b1.trans b2) (p:=⟨w.heap.size,0,none⟩) (Nat.le_refl _) _)⟩
def gClone (vs:List Value):Option (Bool×Value) :=
  match vs with
  | [.string s]=>some (Nat.ble s.size 281474976710656,S s)
  | _=>none
theorem gClone_ok:CtV 214 gClone:=by
  intro vs r h
  unfold gClone at h
  split at h
  · rename_i s
    obtain ⟨h1,rfl⟩:=some_t h
    exact callV Tryz.prog fun w=>.inr ⟨callFunc_enter Tryz.func214 rfl (names_of names Tryz.func214 rfl) w,copied s w (Nat.le_of_ble_eq_true h1)⟩
  · cases h
def vClone:FuncId→List Value→Option (Bool×Value):=tabOneV 214 gClone
theorem vClone_ok:TabOk Tryz.prog vClone:=tabOneV_ok gClone_ok
def good:List TypeId :=
  230 ::
  124 ::
  51 ::
  136 ::
  193 ::
  41 ::
  46 ::
  151 ::
  270 ::
  340 ::
  61 ::
  []
def makers (f:FuncId):Bool :=
  Nat.beq f 74 ||
  false
theorem goodOk:good.all (eqTypeOk Tryz.prog)=true:=by kernel_rfl
noncomputable def ΓA:Orc:=addR (tabV vClone) { call:=cCas64,eqv:=eqvOf Tryz.prog good,rd:=rLoad64,unr:=8,wr:=makers }
theorem OkA:ΓA.Ok Tryz.prog:=addR_tab ⟨cCas64_ok,rLoad64_ok,fun t xs ys r h w op x y hop=>eqvOf_ok goodOk t xs ys r h w op x y hop,fun _ _ _ _ _ _ h=>by cases h⟩ vClone_ok
theorem runOk {Γ:Orc} {Λ:LoopOrc} (hΓ:Γ.Ok Tryz.prog) {f:FuncId} {fn:Func} {c:Code} (hf:Tryz.prog.funcs[f]?=some fn) (hb:fn.body=some c) {xs:List SV} {m m':Mem} {r:SV}
    (hL:∀ z,z.L.length=m.blk.length→z.U.length=m.rows.length→∀ b∈loopsOf c,LoopOk Λ Tryz.prog z b) (h:runG Γ Λ Tryz.prog fn xs m=some (r,m')):CallOk Tryz.prog f xs m r m':=callOk_of_run hΓ mixed names hf hb hL h
theorem runV {Γ:Orc} {Λ:LoopOrc} (hΓ:Γ.Ok Tryz.prog) {f:FuncId} {fn:Func} {c:Code} (hf:Tryz.prog.funcs[f]?=some fn) (hb:fn.body=some c) {vs:List Value} {r:Value} {m':Mem}
    (hL:∀ z:Base,z.L.length=0→z.U.length=0→∀ b∈loopsOf c,LoopOk Λ Tryz.prog z b) (h:runG Γ Λ Tryz.prog fn (vs.map .v) M0=some (.v r,m')):∀ m,CallOk Tryz.prog f (vs.map .v) m (.v r) m:=valOk hΓ mixed names hf hb hL h
end Go.Proofs.YtagaiddomhpdmaaGreat
namespace Go.Proofs.YtagaiddomhpdmaaGreat
open Go Go.Proofs Go.Sx
def MC (a b:Int):Mem:=⟨[[.v (I a),.v (I b)]],[true],[]⟩
def clampI (x y:Int):Int:=if (if y<x then y else x)>0 then (if y<x then y else x) else 0
def gLoad (xs:List SV) (m:Mem):Option (Bool×Value) :=
  match xs,m with
  | [.ptr 0 1],⟨[[.v (.int .i64 _),.v (.int .i64 b)]],[true],[]⟩=>some (true,I b)
  | _,_=>none
theorem gLoad_ok:CtR 235 gLoad:=by
  intro xs m r h
  unfold gLoad at h
  split at h
  · rename_i a b
    obtain ⟨_,rfl⟩:=some_t h
    refine runOk (Λ:=L0) OkA Tryz.func235 rfl (fun z _ _=>noLoops (by kernel_rfl) z) ?_
    kernel_rfl
  · cases h
noncomputable def ΓC1:Orc:=addRd 235 gLoad ΓA
theorem OkC1:ΓC1.Ok Tryz.prog:=addRd_ok OkA gLoad_ok
def gClamp (vs:List Value):Option (Bool×Value) :=
  match vs with
  | [.int .i64 x,.int .i64 y]=>some (true,I (clampI x y))
  | _=>none
theorem gClamp_ok:CtV 82 gClamp:=by
  intro vs r h
  unfold gClamp at h
  split at h
  · rename_i x y
    obtain ⟨_,rfl⟩:=some_t h
    refine runV (Λ:=L0) (m':=M0) OkC1 Tryz.func82 rfl (fun z _ _=>noLoops (by kernel_rfl) z) ?_
    kernel_rfl
  · cases h
noncomputable def ΓC2:Orc:=addVal 82 gClamp ΓC1
theorem OkC2:ΓC2.Ok Tryz.prog:=addVal_ok OkC1 gClamp_ok
def gValue (xs:List SV) (m:Mem):Option (Bool×Value) :=
  match xs,m with
  | [.ptr 0 0],⟨[[.v (.int .i64 _),.v (.int .i64 b)]],[true],[]⟩=>some (true,I b)
  | [.v (.pointer none)],_=>some (true,I 0)
  | _,_=>none
theorem gValue_ok:CtR 178 gValue:=by
  intro xs m r h
  unfold gValue at h
  split at h
  · rename_i a b
    obtain ⟨_,rfl⟩:=some_t h
    refine runOk (Λ:=L0) OkC2 Tryz.func178 rfl (fun z _ _=>noLoops (by kernel_rfl) z) ?_
    kernel_rfl
  · obtain ⟨_,rfl⟩:=some_t h
    refine runV (vs:=[.pointer none]) (Λ:=L0) (m':=M0) OkC2 Tryz.func178 rfl (fun z _ _=>noLoops (by kernel_rfl) z) ?_ m
    kernel_rfl
  · cases h
noncomputable def ΓC3:Orc:=addRd 178 gValue ΓC2
theorem OkC3:ΓC3.Ok Tryz.prog:=addRd_ok OkC2 gValue_ok
def gCas (xs:List SV) (m:Mem):Option (Bool×SV×Mem) :=
  match xs,m with
  | [.ptr 0 1,.v (.int .i64 x),.v (.int .i64 y)],⟨[[.v (.int .i64 a),.v (.int .i64 b)]],[true],[]⟩=>some (true,.v (Bo (b==x)),MC a (bif b==x then y else b))
  | _,_=>none
theorem gCas_ok:CtC 261 gCas:=by
  intro xs m r m' h
  unfold gCas at h
  split at h
  · rename_i x y a b
    obtain ⟨_,rfl,rfl⟩:=some_t2 h
    refine runOk (Λ:=L0) OkC3 Tryz.func261 rfl (fun z _ _=>noLoops (by kernel_rfl) z) ?_
    kernel_rfl
  · cases h
noncomputable def ΓC4:Orc:=addCl 261 gCas ΓC3
theorem OkC4:ΓC4.Ok Tryz.prog:=addCl_ok OkC3 gCas_ok
def gRaised (xs:List SV) (m:Mem):Option (Bool×Value) :=
  match xs,m with
  | [.ptr 0 0,.v (.int .i64 v),.v (.int .i64 n)],⟨[[.v (.int .i64 a),.v (.int .i64 _)]],[true],[]⟩=>some (true,I (wI (v+clampI n (wI (a - v)))))
  | _,_=>none
theorem gRaised_ok:CtR 260 gRaised:=by
  intro xs m r h
  unfold gRaised at h
  split at h
  · rename_i v n a b
    obtain ⟨_,rfl⟩:=some_t h
    refine runOk (Λ:=L0) OkC4 Tryz.func260 rfl (fun z _ _=>noLoops (by kernel_rfl) z) ?_
    kernel_rfl
  · cases h
noncomputable def ΓC5:Orc:=addRd 260 gRaised ΓC4
theorem OkC5:ΓC5.Ok Tryz.prog:=addRd_ok OkC4 gRaised_ok
def addN' (a v n:Int):Int:=wI (v+clampI n (wI (a - v)))
def kAdd:List Bool:=maskOf 24 [0,1]
def kAddx:List Bool:=maskOf 24 [4]
noncomputable def bodyAdd:Code:=loopAt (Tryz.f213.body.getD .skip) 0
theorem loopsAdd:loopsOf (Tryz.f213.body.getD .skip)=[bodyAdd]:=by kernel_rfl
theorem loopsAdd0:loopsOf bodyAdd=[]:=by kernel_rfl
theorem stepAdd (a v n:Int) (k:Nat):evLoop ΓC5 Tryz.prog L0 (cutC 1 0 kAdd) bodyAdd (k+1) (mk kAdd [.ptr 0 0,.v (I n)] (MC a v)) (fun e st=>some (e,cutC 1 0 kAddx st)) =
    bif v==v then some (.ret,mk kAddx [.v (I (addN' a v n))] (MC a (bif v==v then addN' a v n else v))) else
      evLoop ΓC5 Tryz.prog L0 (cutC 1 0 kAdd) bodyAdd k (mk kAdd [.ptr 0 0,.v (I n)] (MC a (bif v==v then addN' a v n else v))) (fun e st=>some (e,cutC 1 0 kAddx st)):=by kernel_rfl
def GAdd (vals:List SV) (m:Mem):Option (Bool×Ex×St) :=
  match vals,m with
  | [.ptr 0 0,.v (.int .i64 n)],⟨[[.v (.int .i64 a),.v (.int .i64 v)]],[true],[]⟩=>some (true,.ret,mk kAddx [.v (I (addN' a v n))] (MC a (addN' a v n)))
  | _,_=>none
noncomputable def ΛAdd:LoopOrc:=fun _ st=>viaC 1 0 kAdd GAdd st
theorem loopOkAdd (z:Base) (h1:z.L.length=1) (h2:z.U.length=0):LoopOk ΛAdd Tryz.prog z bodyAdd:=by
  refine loop_okC (Λ:=L0) (kx:=fun _=>kAddx) OkC5 mixed h1 h2 (fun b hb=>by rw [loopsAdd0] at hb;cases hb) (G:=GAdd) (fun _=>rfl) ?_
  intro vals m e st' h
  unfold GAdd at h
  split at h
  · rename_i n a v
    obtain ⟨_,rfl,rfl⟩:=some_t2 h
    refine ⟨1,(stepAdd a v n 0).trans ?_⟩
    simp only [beq_self_eq_true,cond_true]
  · cases h
def gAdd (xs:List SV) (m:Mem):Option (Bool×SV×Mem) :=
  match xs,m with
  | [.ptr 0 0,.v (.int .i64 n)],⟨[[.v (.int .i64 a),.v (.int .i64 v)]],[true],[]⟩=>some (true,.v (I (addN' a v n)),MC a (addN' a v n))
  | _,_=>none
theorem gAdd_ok:CtC 213 gAdd:=by
  intro xs m r m' h
  unfold gAdd at h
  split at h
  · rename_i n a v
    obtain ⟨_,rfl,rfl⟩:=some_t2 h
    refine runOk (Λ:=ΛAdd) OkC5 Tryz.func213 rfl (fun z h1 h2=>oneLoop (c:=Tryz.f213.body.getD .skip) loopsAdd (loopOkAdd z h1 h2)) ?_
    kernel_rfl
  · cases h
noncomputable def ΓC6:Orc:=addCl 213 gAdd ΓC5
theorem OkC6:ΓC6.Ok Tryz.prog:=addCl_ok OkC5 gAdd_ok
def gNew (xs:List SV) (m:Mem):Option (Bool×SV×Mem) :=
  match xs,m with
  | [.v (.int .i64 n)],⟨[],[],[]⟩=>some (true,.ptr 0 0,MC (clampI n 1000000) 0)
  | _,_=>none
theorem gNew_ok:CtC 48 gNew:=by
  intro xs m r m' h
  unfold gNew at h
  split at h
  · rename_i n
    obtain ⟨_,rfl,rfl⟩:=some_t2 h
    refine runOk (Λ:=L0) OkC6 Tryz.func48 rfl (fun z _ _=>noLoops (by kernel_rfl) z) ?_
    kernel_rfl
  · cases h
noncomputable def ΓC:Orc:=addCl 48 gNew ΓC6
theorem OkC:ΓC.Ok Tryz.prog:=addCl_ok OkC6 gNew_ok
end Go.Proofs.YtagaiddomhpdmaaGreat
namespace Go.Proofs.YtagaiddomhpdmaaGreat
open Go Go.Proofs Go.Sx
set_option linter.unusedVariables false
abbrev UU (x:Int):Value:=.int .u64 x
theorem vEq {a b:Value} (h:a=b):(some (SV.v a,M0):Option (SV×Mem))=some (.v b,M0):=by rw [h]
theorem l0Ok' (c:Code) (z:Base):∀ b∈loopsOf c,LoopOk L0 Tryz.prog z b:=fun b _ st t h=>by cases h
theorem l00 {c:Code} {p q:Base→Prop}:∀ z,p z→q z→∀ b∈loopsOf c,LoopOk L0 Tryz.prog z b:=fun z _ _=>l0Ok' _ z
def gAdd64 (vs:List Value):Option (Bool×Value) :=
  match vs with
  | [.int .u64 x,.int .u64 y,.int .u64 c]=>some (decide (0≤x∧0≤y∧0≤c∧c≤1),.tuple #[UU (addS3 x y c),UU (addC3 x y c)])
  | _=>none
theorem gAdd64_ok:CtV 291 gAdd64:=by
  intro vs r h
  unfold gAdd64 at h
  split at h
  · rename_i x y c
    obtain ⟨h1,rfl⟩:=some_t h
    refine callV Tryz.prog fun w=>.inl ?_
    have hc:0≤x∧0≤y∧0≤c∧c≤1:=by simpa using h1
    rw [run_callFunc_extern Tryz.func291 (by kernel_rfl) (by kernel_rfl) (by kernel_rfl) (e:=add64Entry) (by kernel_rfl)]
    rw [show (List.toArray [Value.int .u64 x,.int .u64 y,.int .u64 c])=#[Value.int .u64 x,.int .u64 y,.int .u64 c] from rfl,run_add64 x y c hc.1 hc.2.1 hc.2.2.1 hc.2.2.2]
    rfl
  · cases h
noncomputable def ΓW1:Orc:=addVal 291 gAdd64 ΓC
theorem OkW1:ΓW1.Ok Tryz.prog:=addVal_ok OkC gAdd64_ok
noncomputable def ΓW2:Orc:=ΓW1
theorem OkW2:ΓW2.Ok Tryz.prog:=OkW1
theorem runWNeg (a b:Int):runG ΓW2 L0 Tryz.prog Tryz.f292 [.v (Wd a b)] M0=some (.v (Bo (decide (a<0))),M0):=by kernel_rfl
def gWNeg (vs:List Value):Option (Bool×Value) :=
  match vs with
  | [.agg ⟨[.int .i64 a,.int .u64 b]⟩]=>some (true,Bo (decide (a<0)))
  | _=>none
theorem gWNeg_ok:CtV 292 gWNeg:=by
  intro vs r h
  unfold gWNeg at h
  split at h
  · rename_i a b
    obtain ⟨h1,rfl⟩:=some_t h
    refine runV (vs:=[Wd a b]) (Λ:=L0) (m':=M0) OkW2 Tryz.func292 rfl l00 ?_
    exact (runWNeg a b).trans (rfl)
  · cases h
noncomputable def ΓW3:Orc:=addVal 292 gWNeg ΓW2
theorem OkW3:ΓW3.Ok Tryz.prog:=addVal_ok OkW2 gWNeg_ok
theorem runNaN1 (a:Int):runG ΓW3 L0 Tryz.prog Tryz.f321 [.v (I a)] M0=some (.v (Bo (a != a)),M0):=by kernel_rfl
def gNaN1 (vs:List Value):Option (Bool×Value) :=
  match vs with
  | [.int .i64 a]=>some (true,Bo false)
  | _=>none
theorem gNaN1_ok:CtV 321 gNaN1:=by
  intro vs r h
  unfold gNaN1 at h
  split at h
  · rename_i a
    obtain ⟨h1,rfl⟩:=some_t h
    refine runV (vs:=[I a]) (Λ:=L0) (m':=M0) OkW3 Tryz.func321 rfl l00 ?_
    exact (runNaN1 a).trans (by simp)
  · cases h
noncomputable def ΓW4:Orc:=addVal 321 gNaN1 ΓW3
theorem OkW4:ΓW4.Ok Tryz.prog:=addVal_ok OkW3 gNaN1_ok
theorem runNaN2 (a:Int):runG ΓW4 L0 Tryz.prog Tryz.f322 [.v (UU a)] M0=some (.v (Bo (a != a)),M0):=by kernel_rfl
def gNaN2 (vs:List Value):Option (Bool×Value) :=
  match vs with
  | [.int .u64 a]=>some (true,Bo false)
  | _=>none
theorem gNaN2_ok:CtV 322 gNaN2:=by
  intro vs r h
  unfold gNaN2 at h
  split at h
  · rename_i a
    obtain ⟨h1,rfl⟩:=some_t h
    refine runV (vs:=[UU a]) (Λ:=L0) (m':=M0) OkW4 Tryz.func322 rfl l00 ?_
    exact (runNaN2 a).trans (by simp)
  · cases h
noncomputable def ΓW5:Orc:=addVal 322 gNaN2 ΓW4
theorem OkW5:ΓW5.Ok Tryz.prog:=addVal_ok OkW4 gNaN2_ok
theorem runMul64 (x y:Int):runG ΓW5 L0 Tryz.prog Tryz.f135 [.v (UU x),.v (UU y)] M0 =
      (let U:=IntKind.u64.wrap;let A:=fun z:Int=>U ((BitVec.ofInt 64 z &&& BitVec.ofInt 64 4294967295).toNat:Int);let S:=fun z:Int=>z.fdiv (2 ^ 32);let w0:=U (A x*A y);let t:=U (U (S x*A y)+S w0);let w1:=U (A t+U (A x*S y));some (.v (.tuple #[UU (U (U (U (S x*S y)+S t)+S w1)),UU (U (x*y))]),M0)):=by kernel_rfl
def gMul64 (vs:List Value):Option (Bool×Value) :=
  match vs with
  | [.int .u64 x,.int .u64 y]=>some (inU x&&inU y,.tuple #[UU (x*y / 18446744073709551616),UU (x*y % 18446744073709551616)])
  | _=>none
theorem gMul64_ok:CtV 135 gMul64:=by
  intro vs r h
  unfold gMul64 at h
  split at h
  · rename_i x y
    obtain ⟨h1,rfl⟩:=some_t h
    refine runV (vs:=[UU x,UU y]) (Λ:=L0) (m':=M0) OkW5 Tryz.func135 rfl l00 ?_
    exact (runMul64 x y).trans (by
      rw [Bool.and_eq_true] at h1
      obtain ⟨e1,e2⟩:=mul64_halves x y h1.1 h1.2
      exact vEq (by show Value.tuple #[UU _,UU _]=_;rw [e1,e2]))
  · cases h
noncomputable def ΓW6:Orc:=addVal 135 gMul64 ΓW5
theorem OkW6:ΓW6.Ok Tryz.prog:=addVal_ok OkW5 gMul64_ok
theorem runMulU (x y:Int):runG ΓW6 L0 Tryz.prog Tryz.f80 [.v (UU x),.v (UU y)] M0=bif inU x&&inU y then some (.v (.tuple #[UU (x*y / 18446744073709551616),UU (x*y % 18446744073709551616)]),M0) else none:=by kernel_rfl
def gMulU (vs:List Value):Option (Bool×Value) :=
  match vs with
  | [.int .u64 x,.int .u64 y]=>some (inU x&&inU y,.tuple #[UU (x*y / 18446744073709551616),UU (x*y % 18446744073709551616)])
  | _=>none
theorem gMulU_ok:CtV 80 gMulU:=by
  intro vs r h
  unfold gMulU at h
  split at h
  · rename_i x y
    obtain ⟨h1,rfl⟩:=some_t h
    refine runV (vs:=[UU x,UU y]) (Λ:=L0) (m':=M0) OkW6 Tryz.func80 rfl l00 ?_
    exact (runMulU x y).trans (by rw [h1];rfl)
  · cases h
noncomputable def ΓW7:Orc:=addVal 80 gMulU ΓW6
theorem OkW7:ΓW7.Ok Tryz.prog:=addVal_ok OkW6 gMulU_ok
theorem runCmpr1 (x y:Int):runG ΓW7 L0 Tryz.prog Tryz.f312 [.v (I x),.v (I y)] M0=bif decide (x<y) then some (.v (I (-1)),M0) else (bif decide (x>y) then some (.v (I 1),M0) else some (.v (I 0),M0)):=by kernel_rfl
def gCmpr1 (vs:List Value):Option (Bool×Value) :=
  match vs with
  | [.int .i64 x,.int .i64 y]=>some (true,I (cmpI x y))
  | _=>none
theorem gCmpr1_ok:CtV 312 gCmpr1:=by
  intro vs r h
  unfold gCmpr1 at h
  split at h
  · rename_i x y
    obtain ⟨h1,rfl⟩:=some_t h
    refine runV (vs:=[I x,I y]) (Λ:=L0) (m':=M0) OkW7 Tryz.func312 rfl l00 ?_
    exact (runCmpr1 x y).trans (by
      unfold cmpI
      cases decide (x<y)
      · show _=some (SV.v (I (bif decide (x>y) then 1 else 0)),M0)
        cases decide (x>y)<;>rfl
      · rfl)
  · cases h
noncomputable def ΓW8:Orc:=addVal 312 gCmpr1 ΓW7
theorem OkW8:ΓW8.Ok Tryz.prog:=addVal_ok OkW7 gCmpr1_ok
theorem runCmpr2 (x y:Int):runG ΓW8 L0 Tryz.prog Tryz.f313 [.v (UU x),.v (UU y)] M0=bif decide (x<y) then some (.v (I (-1)),M0) else (bif decide (x>y) then some (.v (I 1),M0) else some (.v (I 0),M0)):=by kernel_rfl
def gCmpr2 (vs:List Value):Option (Bool×Value) :=
  match vs with
  | [.int .u64 x,.int .u64 y]=>some (true,I (cmpI x y))
  | _=>none
theorem gCmpr2_ok:CtV 313 gCmpr2:=by
  intro vs r h
  unfold gCmpr2 at h
  split at h
  · rename_i x y
    obtain ⟨h1,rfl⟩:=some_t h
    refine runV (vs:=[UU x,UU y]) (Λ:=L0) (m':=M0) OkW8 Tryz.func313 rfl l00 ?_
    exact (runCmpr2 x y).trans (by
      unfold cmpI
      cases decide (x<y)
      · show _=some (SV.v (I (bif decide (x>y) then 1 else 0)),M0)
        cases decide (x>y)<;>rfl
      · rfl)
  · cases h
noncomputable def ΓW9:Orc:=addVal 313 gCmpr2 ΓW8
theorem OkW9:ΓW9.Ok Tryz.prog:=addVal_ok OkW8 gCmpr2_ok
theorem runWOf (n:Int):runG ΓW9 L0 Tryz.prog Tryz.f253 [.v (I n)] M0=some (.v (Wd (n.fdiv (2 ^ 63)) (IntKind.u64.wrap n)),M0):=by kernel_rfl
def gWOf (vs:List Value):Option (Bool×Value) :=
  match vs with
  | [.int .i64 n]=>some (inI n,Wn n)
  | _=>none
theorem gWOf_ok:CtV 253 gWOf:=by
  intro vs r h
  unfold gWOf at h
  split at h
  · rename_i n
    obtain ⟨h1,rfl⟩:=some_t h
    refine runV (vs:=[I n]) (Λ:=L0) (m':=M0) OkW9 Tryz.func253 rfl l00 ?_
    exact (runWOf n).trans (by
      rw [inI_iff] at h1
      obtain ⟨_,h2,h3⟩:=okW_of (n:=n) (by omega) (by omega)
      refine vEq (wd_eq ?_ ?_)
      · rw [h2,Int.fdiv_eq_ediv_of_nonneg _ (by decide),show (2:Int) ^ 63=9223372036854775808 from by decide]
        omega
      · rw [h3,wrU])
  · cases h
noncomputable def ΓW10:Orc:=addVal 253 gWOf ΓW9
theorem OkW10:ΓW10.Ok Tryz.prog:=addVal_ok OkW9 gWOf_ok
theorem runWAdd (a b c d:Int):runG ΓW10 L0 Tryz.prog Tryz.f252 [.v (Wd a b),.v (Wd c d)] M0 =
    (bif decide ((0:Int)≤b∧(0:Int)≤d∧(0:Int)≤(0:Int)∧(0:Int)≤(1:Int)) then (bif decide ((0:Int)≤IntKind.u64.wrap a∧(0:Int)≤IntKind.u64.wrap c∧(0:Int)≤addC3 b d (0:Int)∧addC3 b d (0:Int)≤(1:Int)) then (bif decide (a<(0:Int))==decide (c<(0:Int)) then (bif !decide (wI (addS3 (IntKind.u64.wrap a) (IntKind.u64.wrap c) (addC3 b d (0:Int)))<(0:Int))==decide (a<(0:Int)) then some (.v (.tuple #[(.agg #[(I 0),(.int .u64 0)]),(Bo false)]),M0) else some (.v (.tuple #[(.agg #[(I (wI (addS3 (IntKind.u64.wrap a) (IntKind.u64.wrap c) (addC3 b d (0:Int))))),(.int .u64 (addS3 b d (0:Int)))]),(Bo true)]),M0)) else some (.v (.tuple #[(.agg #[(I (wI (addS3 (IntKind.u64.wrap a) (IntKind.u64.wrap c) (addC3 b d (0:Int))))),(.int .u64 (addS3 b d (0:Int)))]),(Bo true)]),M0)) else none) else none):=by kernel_rfl
def gWAdd (vs:List Value):Option (Bool×Value) :=
  match vs with
  | [.agg ⟨[.int .i64 a,.int .u64 b]⟩,.agg ⟨[.int .i64 c,.int .u64 d]⟩]=>some (inW a b&&inW c d,.tuple #[Wn (wv a b+wv c d),Bo (okW (wv a b+wv c d))])
  | _=>none
theorem gWAdd_ok:CtV 252 gWAdd:=by
  intro vs r h
  unfold gWAdd at h
  split at h
  · rename_i a b c d
    obtain ⟨h1,rfl⟩:=some_t h
    refine runV (vs:=[Wd a b,Wd c d]) (Λ:=L0) (m':=M0) OkW10 Tryz.func252 rfl l00 ?_
    exact (runWAdd a b c d).trans (by
      rw [Bool.and_eq_true] at h1
      obtain ⟨⟨k0,k1⟩,k2,k3⟩:=addW a b c d h1.1 h1.2
      have i1:=inW_iff.1 h1.1
      have i2:=inW_iff.1 h1.2
      have u1:=inU_iff.1 (inU_wrap a)
      have u2:=inU_iff.1 (inU_wrap c)
      rw [decide_eq_true (show (0:Int)≤b∧(0:Int)≤d∧(0:Int)≤0∧(0:Int)≤1 by omega),decide_eq_true (show (0:Int)≤IntKind.u64.wrap a∧(0:Int)≤IntKind.u64.wrap c∧(0:Int)≤addC3 b d 0∧addC3 b d 0≤(1:Int) by omega)]
      simp only [cond_true]
      cases ho:okW (wv a b+wv c d) with
      | true =>
        obtain ⟨e1,e2⟩:=k3 ho
        rw [ho,Bool.not_true] at k2
        cases hs:decide (a<0)==decide (c<0) with
        | false=>exact vEq (wdB e1 e2 rfl)
        | true =>
          rw [hs,Bool.true_and] at k2
          have k2':(!decide (wI (addS3 (IntKind.u64.wrap a) (IntKind.u64.wrap c) (addC3 b d 0))<0)==decide (a<0))=false:=k2
          rw [k2']
          exact vEq (wdB e1 e2 rfl)
      | false =>
        rw [ho,Bool.not_false,Bool.and_eq_true] at k2
        have k2':(!decide (wI (addS3 (IntKind.u64.wrap a) (IntKind.u64.wrap c) (addC3 b d 0))<0)==decide (a<0))=true:=k2.2
        rw [k2.1,k2']
        obtain ⟨_,e1,e2⟩:=okW_not (n:=wv a b+wv c d) (by have:=of_decide_eq_false ho;omega)
        exact vEq (wdB e1.symm e2.symm rfl))
  · cases h
noncomputable def ΓW11:Orc:=addVal 252 gWAdd ΓW10
theorem OkW11:ΓW11.Ok Tryz.prog:=addVal_ok OkW10 gWAdd_ok
theorem runWInt (a b:Int):runG ΓW11 L0 Tryz.prog Tryz.f254 [.v (Wd a b)] M0 =
    (bif inI (wI b) then (bif !(hiW (wI b)==a&&(loW (wI b)==b&&true)) then some (.v (.tuple #[(I 0),(Bo false)]),M0) else some (.v (.tuple #[(I (wI b)),(Bo true)]),M0)) else none):=by kernel_rfl
def gWInt (vs:List Value):Option (Bool×Value) :=
  match vs with
  | [.agg ⟨[.int .i64 a,.int .u64 b]⟩]=>some (inW a b,.tuple #[I (smI (wv a b)),Bo (inI (wv a b))])
  | _=>none
theorem gWInt_ok:CtV 254 gWInt:=by
  intro vs r h
  unfold gWInt at h
  split at h
  · rename_i a b
    obtain ⟨h1,rfl⟩:=some_t h
    refine runV (vs:=[Wd a b]) (Λ:=L0) (m':=M0) OkW11 Tryz.func254 rfl l00 ?_
    exact (runWInt a b).trans (by
      obtain ⟨k1,k2,k3⟩:=intW a b h1
      have k2':(hiW (wI b)==a&&(loW (wI b)==b&&true))=inI (wv a b):=k2
      rw [show inI (wI b)=true from k1,k2']
      cases hq:inI (wv a b) with
      | true=>exact vEq (inB ((k3 hq).trans (by simp [smI,hq])) rfl)
      | false=>exact vEq (inB (by simp [smI,hq]) rfl))
  · cases h
noncomputable def ΓW12:Orc:=addVal 254 gWInt ΓW11
theorem OkW12:ΓW12.Ok Tryz.prog:=addVal_ok OkW11 gWInt_ok
theorem runWCmp (a b c d:Int):runG ΓW12 L0 Tryz.prog Tryz.f290 [.v (Wd a b),.v (Wd c d)] M0 =
    (bif cmpI a c != (0:Int) then some (.v (I (cmpI a c)),M0) else some (.v (I (cmpI b d)),M0)):=by kernel_rfl
def gWCmp (vs:List Value):Option (Bool×Value) :=
  match vs with
  | [.agg ⟨[.int .i64 a,.int .u64 b]⟩,.agg ⟨[.int .i64 c,.int .u64 d]⟩]=>some (inW a b&&inW c d,I (cmpI (wv a b) (wv c d)))
  | _=>none
theorem gWCmp_ok:CtV 290 gWCmp:=by
  intro vs r h
  unfold gWCmp at h
  split at h
  · rename_i a b c d
    obtain ⟨h1,rfl⟩:=some_t h
    refine runV (vs:=[Wd a b,Wd c d]) (Λ:=L0) (m':=M0) OkW12 Tryz.func290 rfl l00 ?_
    exact (runWCmp a b c d).trans (by
      rw [Bool.and_eq_true] at h1
      rw [← cmpW h1.1 h1.2]
      cases cmpI a c != 0<;>rfl)
  · cases h
noncomputable def ΓW13:Orc:=addVal 290 gWCmp ΓW12
theorem OkW13:ΓW13.Ok Tryz.prog:=addVal_ok OkW12 gWCmp_ok
theorem runWMul (a b:Int):runG ΓW13 L0 Tryz.prog Tryz.f247 [.v (I a),.v (I b)] M0 =
    (bif inU (IntKind.u64.wrap a)&&inU (IntKind.u64.wrap b) then (bif decide (a<(0:Int)) then (bif decide (b<(0:Int)) then some (.v (.agg #[(I (wI (IntKind.u64.wrap (IntKind.u64.wrap (IntKind.u64.wrap a*IntKind.u64.wrap b / (18446744073709551616:Int) - IntKind.u64.wrap b) - IntKind.u64.wrap a)))),(.int .u64 (IntKind.u64.wrap a*IntKind.u64.wrap b % (18446744073709551616:Int)))]),M0) else some (.v (.agg #[(I (wI (IntKind.u64.wrap (IntKind.u64.wrap a*IntKind.u64.wrap b / (18446744073709551616:Int) - IntKind.u64.wrap b)))),(.int .u64 (IntKind.u64.wrap a*IntKind.u64.wrap b % (18446744073709551616:Int)))]),M0)) else (bif decide (b<(0:Int)) then some (.v (.agg #[(I (wI (IntKind.u64.wrap (IntKind.u64.wrap a*IntKind.u64.wrap b / (18446744073709551616:Int) - IntKind.u64.wrap a)))),(.int .u64 (IntKind.u64.wrap a*IntKind.u64.wrap b % (18446744073709551616:Int)))]),M0) else some (.v (.agg #[(I (wI (IntKind.u64.wrap a*IntKind.u64.wrap b / (18446744073709551616:Int)))),(.int .u64 (IntKind.u64.wrap a*IntKind.u64.wrap b % (18446744073709551616:Int)))]),M0))) else none):=by kernel_rfl
def gWMul (vs:List Value):Option (Bool×Value) :=
  match vs with
  | [.int .i64 a,.int .i64 b]=>some (inI a&&inI b,Wn (a*b))
  | _=>none
theorem gWMul_ok:CtV 247 gWMul:=by
  intro vs r h
  unfold gWMul at h
  split at h
  · rename_i a b
    obtain ⟨h1,rfl⟩:=some_t h
    refine runV (vs:=[I a,I b]) (Λ:=L0) (m':=M0) OkW13 Tryz.func247 rfl l00 ?_
    exact (runWMul a b).trans (by
      rw [inU_wrap,inU_wrap]
      rw [Bool.and_eq_true] at h1
      have k:=mulW a b h1.1 h1.2
      refine Eq.trans ?_ (vEq k)
      cases decide (a<0)<;>cases decide (b<0)<;>rfl)
  · cases h
noncomputable def ΓW14:Orc:=addVal 247 gWMul ΓW13
theorem OkW14:ΓW14.Ok Tryz.prog:=addVal_ok OkW13 gWMul_ok
theorem runFNumber (a b:Int) (o:Bool):runG ΓW14 L0 Tryz.prog Tryz.f251 [.v (Wd a b),.v (Bo o)] M0 =
    (bif !o then some (.v (.tuple #[(I 0),(Bo false)]),M0) else (bif inW a b then some (.v (.tuple #[(I (smI (wv a b))),(Bo (inI (wv a b)))]),M0) else none)):=by kernel_rfl
def gFNumber (vs:List Value):Option (Bool×Value) :=
  match vs with
  | [.agg ⟨[.int .i64 a,.int .u64 b]⟩,.bool o]=>some (inW a b,.tuple #[I (bif o then smI (wv a b) else 0),Bo (o&&inI (wv a b))])
  | _=>none
theorem gFNumber_ok:CtV 251 gFNumber:=by
  intro vs r h
  unfold gFNumber at h
  split at h
  · rename_i a b o
    obtain ⟨h1,rfl⟩:=some_t h
    refine runV (vs:=[Wd a b,Bo o]) (Λ:=L0) (m':=M0) OkW14 Tryz.func251 rfl l00 ?_
    exact (runFNumber a b o).trans (by
      cases o with
      | false=>rfl
      | true=>rw [h1];rfl)
  · cases h
noncomputable def ΓW15:Orc:=addVal 251 gFNumber ΓW14
theorem OkW15:ΓW15.Ok Tryz.prog:=addVal_ok OkW14 gFNumber_ok
theorem runFAdd (a b:Int):runG ΓW15 L0 Tryz.prog Tryz.f198 [.v (I a),.v (I b)] M0 =
    (bif inI a then (bif inI b then (bif inW (hiW a) (loW a)&&inW (hiW b) (loW b) then (bif inW (hiW (wv (hiW a) (loW a)+wv (hiW b) (loW b))) (loW (wv (hiW a) (loW a)+wv (hiW b) (loW b))) then some (.v (.tuple #[(I (bif okW (wv (hiW a) (loW a)+wv (hiW b) (loW b)) then smI (wv (hiW (wv (hiW a) (loW a)+wv (hiW b) (loW b))) (loW (wv (hiW a) (loW a)+wv (hiW b) (loW b)))) else (0:Int))),(Bo (okW (wv (hiW a) (loW a)+wv (hiW b) (loW b))&&inI (wv (hiW (wv (hiW a) (loW a)+wv (hiW b) (loW b))) (loW (wv (hiW a) (loW a)+wv (hiW b) (loW b))))))]),M0) else none) else none) else none) else none):=by kernel_rfl
def gFAdd (vs:List Value):Option (Bool×Value) :=
  match vs with
  | [.int .i64 a,.int .i64 b]=>some (inI a&&inI b,.tuple #[I (smI (a+b)),Bo (inI (a+b))])
  | _=>none
theorem gFAdd_ok:CtV 198 gFAdd:=by
  intro vs r h
  unfold gFAdd at h
  split at h
  · rename_i a b
    obtain ⟨h1,rfl⟩:=some_t h
    refine runV (vs:=[I a,I b]) (Λ:=L0) (m':=M0) OkW15 Tryz.func198 rfl l00 ?_
    exact (runFAdd a b).trans (by
      rw [Bool.and_eq_true] at h1
      have i1:=inI_iff.1 h1.1
      have i2:=inI_iff.1 h1.2
      obtain ⟨o,_,_⟩:=okW_of (n:=a+b) (by omega) (by omega)
      obtain ⟨e1,e2⟩:=wv_Wn (okW_I h1.1)
      obtain ⟨e3,e4⟩:=wv_Wn (okW_I h1.2)
      obtain ⟨e5,e6⟩:=wv_Wn o
      rw [h1.1,h1.2,e1,e2,e3,e4,o,e5,e6]
      rfl)
  · cases h
noncomputable def ΓW16:Orc:=addVal 198 gFAdd ΓW15
theorem OkW16:ΓW16.Ok Tryz.prog:=addVal_ok OkW15 gFAdd_ok
noncomputable def ΓWd:Orc:=ΓW16
theorem OkWd:ΓWd.Ok Tryz.prog:=OkW16
end Go.Proofs.YtagaiddomhpdmaaGreat
namespace Go.Proofs.YtagaiddomhpdmaaGreat
open Go Go.Proofs Go.Sx
set_option linter.unusedVariables false
noncomputable def ΓR1:Orc:=ΓWd
theorem OkR1:ΓR1.Ok Tryz.prog:=OkWd
noncomputable def ΓR2:Orc:=ΓR1
theorem OkR2:ΓR2.Ok Tryz.prog:=OkR1
end Go.Proofs.YtagaiddomhpdmaaGreat
namespace Go.Proofs.YtagaiddomhpdmaaGreat
open Go Go.Proofs Go.Sx
set_option linter.unusedVariables false
noncomputable def ΓQ1:Orc:=ΓR2
theorem OkQ1:ΓQ1.Ok Tryz.prog:=OkR2
noncomputable def ΓQ2:Orc:=ΓQ1
theorem OkQ2:ΓQ2.Ok Tryz.prog:=OkQ1
noncomputable def ΓQ3:Orc:=ΓQ2
theorem OkQ3:ΓQ3.Ok Tryz.prog:=OkQ2
noncomputable def ΓQ4:Orc:=ΓQ3
theorem OkQ4:ΓQ4.Ok Tryz.prog:=OkQ3
noncomputable def ΓQ5:Orc:=ΓQ4
theorem OkQ5:ΓQ5.Ok Tryz.prog:=OkQ4
noncomputable def ΓRf:Orc:=ΓQ5
theorem OkRf:ΓRf.Ok Tryz.prog:=OkQ5
end Go.Proofs.YtagaiddomhpdmaaGreat
namespace Go.Proofs.YtagaiddomhpdmaaGreat
open Go Go.Proofs Go.Sx
set_option linter.unusedVariables false
theorem vB {x y:Bool} (h:x=y):(some (SV.v (Bo x),M0):Option (SV×Mem))=some (.v (Bo y),M0):=by rw [h]
theorem vI {x y:Int} (h:x=y):(some (SV.v (I x),M0):Option (SV×Mem))=some (.v (I y),M0):=by rw [h]
theorem runBtw (x a b:Int):runG ΓRf L0 Tryz.prog Tryz.f295 [.v (I x),.v (I a),.v (I b)] M0 =
    (bif decide (a≤x) then some (.v (Bo (decide (x≤b))),M0) else some (.v (Bo false),M0)):=by kernel_rfl
def gBtw (vs:List Value):Option (Bool×Value) :=
  match vs with
  | [.int .i64 x,.int .i64 a,.int .i64 b]=>some (true,Bo (decide (a≤x)&&decide (x≤b)))
  | _=>none
theorem gBtw_ok:CtV 295 gBtw:=by
  intro vs r h
  unfold gBtw at h
  split at h
  · rename_i x a b
    obtain ⟨h1,rfl⟩:=some_t h
    refine runV (vs:=[I x,I a,I b]) (Λ:=L0) (m':=M0) OkRf Tryz.func295 rfl l00 ?_
    exact (runBtw x a b).trans (by cases decide (a≤x)<;>rfl)
  · cases h
noncomputable def ΓP1:Orc:=addVal 295 gBtw ΓRf
theorem OkP1:ΓP1.Ok Tryz.prog:=addVal_ok OkRf gBtw_ok
theorem runPRight (a1 a2:Int):runG ΓP1 L0 Tryz.prog Tryz.f265 [.v (.agg #[I a1,I a2])] M0 =
    (bif decide ((-1099511627776:Int)≤a1)&&decide (a1≤(1099511627776:Int)) then some (.v (Bo (decide ((-1099511627776:Int)≤a2)&&decide (a2≤(1099511627776:Int)))),M0) else some (.v (Bo false),M0)):=by kernel_rfl
def gPRight (vs:List Value):Option (Bool×Value) :=
  match vs with
  | [.agg ⟨[.int .i64 a1,.int .i64 a2]⟩]=>some (true,Bo (plR a1 a2))
  | _=>none
theorem gPRight_ok:CtV 265 gPRight:=by
  intro vs r h
  unfold gPRight at h
  split at h
  · rename_i a1 a2
    obtain ⟨h1,rfl⟩:=some_t h
    refine runV (vs:=[.agg #[I a1,I a2]]) (Λ:=L0) (m':=M0) OkP1 Tryz.func265 rfl l00 ?_
    exact (runPRight a1 a2).trans (by
      unfold plR
      by_cases h1:-1099511627776≤a1<;>by_cases h2:a1≤1099511627776<;>by_cases h3:-1099511627776≤a2<;>by_cases h4:a2≤1099511627776<;>simp [h1,h2,h3,h4])
  · cases h
noncomputable def ΓP2:Orc:=addVal 265 gPRight ΓP1
theorem OkP2:ΓP2.Ok Tryz.prog:=addVal_ok OkP1 gPRight_ok
noncomputable def ΓP3:Orc:=ΓP2
theorem OkP3:ΓP3.Ok Tryz.prog:=OkP2
theorem runAllR0 (t:TypeId) (a1 a2 b1 b2:Int) (own mark:Bool):runG ΓP3 L0 Tryz.prog Tryz.f302 [.row 0] ⟨[],[],[.live ⟨t,[.num .i64,.num .i64],[[.n a1,.n a2],[.n b1,.n b2]],own,mark⟩]⟩=(bif !plR a1 a2 then some (.v (Bo false),⟨[],[],[.live ⟨t,[.num .i64,.num .i64],[[.n a1,.n a2],[.n b1,.n b2]],own,mark⟩]⟩) else (bif !plR b1 b2 then some (.v (Bo false),⟨[],[],[.live ⟨t,[.num .i64,.num .i64],[[.n a1,.n a2],[.n b1,.n b2]],own,mark⟩]⟩) else some (.v (Bo true),⟨[],[],[.live ⟨t,[.num .i64,.num .i64],[[.n a1,.n a2],[.n b1,.n b2]],own,mark⟩]⟩))):=by kernel_rfl
theorem runAllR1 (t:TypeId) (a1 a2 b1 b2 c1 c2:Int) (own mark:Bool):runG ΓP3 L0 Tryz.prog Tryz.f302 [.row 0] ⟨[],[],[.live ⟨t,[.num .i64,.num .i64],[[.n a1,.n a2],[.n b1,.n b2],[.n c1,.n c2]],own,mark⟩]⟩=(bif !plR a1 a2 then some (.v (Bo false),⟨[],[],[.live ⟨t,[.num .i64,.num .i64],[[.n a1,.n a2],[.n b1,.n b2],[.n c1,.n c2]],own,mark⟩]⟩) else (bif !plR b1 b2 then some (.v (Bo false),⟨[],[],[.live ⟨t,[.num .i64,.num .i64],[[.n a1,.n a2],[.n b1,.n b2],[.n c1,.n c2]],own,mark⟩]⟩) else (bif !plR c1 c2 then some (.v (Bo false),⟨[],[],[.live ⟨t,[.num .i64,.num .i64],[[.n a1,.n a2],[.n b1,.n b2],[.n c1,.n c2]],own,mark⟩]⟩) else some (.v (Bo true),⟨[],[],[.live ⟨t,[.num .i64,.num .i64],[[.n a1,.n a2],[.n b1,.n b2],[.n c1,.n c2]],own,mark⟩]⟩)))):=by kernel_rfl
theorem runAllR2 (t:TypeId) (a1 a2 b1 b2 c1 c2 d1 d2:Int) (own mark:Bool):runG ΓP3 L0 Tryz.prog Tryz.f302 [.row 0] ⟨[],[],[.live ⟨t,[.num .i64,.num .i64],[[.n a1,.n a2],[.n b1,.n b2],[.n c1,.n c2],[.n d1,.n d2]],own,mark⟩]⟩=(bif !plR a1 a2 then some (.v (Bo false),⟨[],[],[.live ⟨t,[.num .i64,.num .i64],[[.n a1,.n a2],[.n b1,.n b2],[.n c1,.n c2],[.n d1,.n d2]],own,mark⟩]⟩) else (bif !plR b1 b2 then some (.v (Bo false),⟨[],[],[.live ⟨t,[.num .i64,.num .i64],[[.n a1,.n a2],[.n b1,.n b2],[.n c1,.n c2],[.n d1,.n d2]],own,mark⟩]⟩) else (bif !plR c1 c2 then some (.v (Bo false),⟨[],[],[.live ⟨t,[.num .i64,.num .i64],[[.n a1,.n a2],[.n b1,.n b2],[.n c1,.n c2],[.n d1,.n d2]],own,mark⟩]⟩) else (bif !plR d1 d2 then some (.v (Bo false),⟨[],[],[.live ⟨t,[.num .i64,.num .i64],[[.n a1,.n a2],[.n b1,.n b2],[.n c1,.n c2],[.n d1,.n d2]],own,mark⟩]⟩) else some (.v (Bo true),⟨[],[],[.live ⟨t,[.num .i64,.num .i64],[[.n a1,.n a2],[.n b1,.n b2],[.n c1,.n c2],[.n d1,.n d2]],own,mark⟩]⟩))))):=by kernel_rfl
def gAllR (xs:List SV) (m:Mem):Option (Bool×Value) :=
  match xs,m with
  | [.row 0],⟨[],[],[.live ⟨t,[.num .i64,.num .i64],[[.n a1,.n a2],[.n b1,.n b2]],own,mark⟩]⟩=>some (true,Bo ((plR a1 a2&&plR b1 b2)))
  | [.row 0],⟨[],[],[.live ⟨t,[.num .i64,.num .i64],[[.n a1,.n a2],[.n b1,.n b2],[.n c1,.n c2]],own,mark⟩]⟩=>some (true,Bo ((plR a1 a2&&(plR b1 b2&&plR c1 c2))))
  | [.row 0],⟨[],[],[.live ⟨t,[.num .i64,.num .i64],[[.n a1,.n a2],[.n b1,.n b2],[.n c1,.n c2],[.n d1,.n d2]],own,mark⟩]⟩=>some (true,Bo ((plR a1 a2&&(plR b1 b2&&(plR c1 c2&&plR d1 d2)))))
  | _,_=>none
theorem gAllR_ok:CtR 302 gAllR:=by
  intro xs m r h
  unfold gAllR at h
  split at h
  · rename_i t a1 a2 b1 b2 own mark
    obtain ⟨h1,rfl⟩:=some_t h
    refine runOk (Λ:=L0) OkP3 Tryz.func302 rfl l00 ?_
    exact (runAllR0 t a1 a2 b1 b2 own mark).trans (by cases plR a1 a2<;>cases plR b1 b2<;>rfl)
  · rename_i t a1 a2 b1 b2 c1 c2 own mark
    obtain ⟨h1,rfl⟩:=some_t h
    refine runOk (Λ:=L0) OkP3 Tryz.func302 rfl l00 ?_
    exact (runAllR1 t a1 a2 b1 b2 c1 c2 own mark).trans (by cases plR a1 a2<;>cases plR b1 b2<;>cases plR c1 c2<;>rfl)
  · rename_i t a1 a2 b1 b2 c1 c2 d1 d2 own mark
    obtain ⟨h1,rfl⟩:=some_t h
    refine runOk (Λ:=L0) OkP3 Tryz.func302 rfl l00 ?_
    exact (runAllR2 t a1 a2 b1 b2 c1 c2 d1 d2 own mark).trans (by cases plR a1 a2<;>cases plR b1 b2<;>cases plR c1 c2<;>cases plR d1 d2<;>rfl)
  · cases h
noncomputable def ΓP4:Orc:=addRd 302 gAllR ΓP3
theorem OkP4:ΓP4.Ok Tryz.prog:=addRd_ok OkP3 gAllR_ok
theorem runTurn (a1 a2 b1 b2 c1 c2:Int):runG ΓP4 L0 Tryz.prog Tryz.f303 [.v (.agg #[I a1,I a2]),.v (.agg #[I b1,I b2]),.v (.agg #[I c1,I c2])] M0 =
    (bif !(plR a1 a2&&(plR b1 b2&&plR c1 c2)) then some (.v (I 0),M0) else (bif inI (wI (b1 - a1))&&inI (wI (c2 - a2)) then (bif inI (wI (b2 - a2))&&inI (wI (c1 - a1)) then (bif inW (hiW (wI (b1 - a1)*wI (c2 - a2))) (loW (wI (b1 - a1)*wI (c2 - a2)))&&inW (hiW (wI (b2 - a2)*wI (c1 - a1))) (loW (wI (b2 - a2)*wI (c1 - a1))) then some (.v (I (cmpI (wv (hiW (wI (b1 - a1)*wI (c2 - a2))) (loW (wI (b1 - a1)*wI (c2 - a2)))) (wv (hiW (wI (b2 - a2)*wI (c1 - a1))) (loW (wI (b2 - a2)*wI (c1 - a1)))))),M0) else none) else none) else none)):=by kernel_rfl
def gTurn (vs:List Value):Option (Bool×Value) :=
  match vs with
  | [.agg ⟨[.int .i64 a1,.int .i64 a2]⟩,.agg ⟨[.int .i64 b1,.int .i64 b2]⟩,.agg ⟨[.int .i64 c1,.int .i64 c2]⟩]=>some (true,I (turnI a1 a2 b1 b2 c1 c2))
  | _=>none
theorem gTurn_ok:CtV 303 gTurn:=by
  intro vs r h
  unfold gTurn at h
  split at h
  · rename_i a1 a2 b1 b2 c1 c2
    obtain ⟨h1,rfl⟩:=some_t h
    refine runV (vs:=[.agg #[I a1,I a2],.agg #[I b1,I b2],.agg #[I c1,I c2]]) (Λ:=L0) (m':=M0) OkP4 Tryz.func303 rfl l00 ?_
    exact (runTurn a1 a2 b1 b2 c1 c2).trans (by
      have m1:=okW_mul (inI_wrap (b1 - a1)) (inI_wrap (c2 - a2))
      have m2:=okW_mul (inI_wrap (b2 - a2)) (inI_wrap (c1 - a1))
      cases h:plR a1 a2&&(plR b1 b2&&plR c1 c2) with
      | false=>exact vI (by unfold turnI;rw [h];rfl)
      | true =>
        rw [← turnI_wrap h]
        have i1:inI (wI (b1 - a1))=true:=inI_wrap _
        have i2:inI (wI (c2 - a2))=true:=inI_wrap _
        have i3:inI (wI (b2 - a2))=true:=inI_wrap _
        have i4:inI (wI (c1 - a1))=true:=inI_wrap _
        have w1:wv (hiW (wI (b1 - a1)*wI (c2 - a2))) (loW (wI (b1 - a1)*wI (c2 - a2)))=wI (b1 - a1)*wI (c2 - a2):=(wv_Wn m1).1
        have w2:wv (hiW (wI (b2 - a2)*wI (c1 - a1))) (loW (wI (b2 - a2)*wI (c1 - a1)))=wI (b2 - a2)*wI (c1 - a1):=(wv_Wn m2).1
        rw [i1,i2,i3,i4,inW_Wn,inW_Wn,w1,w2]
        rfl)
  · cases h
noncomputable def ΓP5:Orc:=addVal 303 gTurn ΓP4
theorem OkP5:ΓP5.Ok Tryz.prog:=addVal_ok OkP4 gTurn_ok
theorem runOn (p1 p2 a1 a2 b1 b2:Int):runG ΓP5 L0 Tryz.prog Tryz.f274 [.v (.agg #[I p1,I p2]),.v (.agg #[I a1,I a2]),.v (.agg #[I b1,I b2])] M0 =
    (bif !(plR p1 p2&&(plR a1 a2&&plR b1 b2)) then some (.v (Bo false),M0) else (bif turnI a1 a2 b1 b2 p1 p2 != (0:Int) then some (.v (Bo false),M0) else (bif decide ((if b1<a1 then b1 else a1)≤p1)&&decide (p1≤if b1>a1 then b1 else a1) then some (.v (Bo (decide ((if b2<a2 then b2 else a2)≤p2)&&decide (p2≤if b2>a2 then b2 else a2))),M0) else some (.v (Bo false),M0)))):=by kernel_rfl
def gOn (vs:List Value):Option (Bool×Value) :=
  match vs with
  | [.agg ⟨[.int .i64 p1,.int .i64 p2]⟩,.agg ⟨[.int .i64 a1,.int .i64 a2]⟩,.agg ⟨[.int .i64 b1,.int .i64 b2]⟩]=>some (true,Bo (onB p1 p2 a1 a2 b1 b2))
  | _=>none
theorem gOn_ok:CtV 274 gOn:=by
  intro vs r h
  unfold gOn at h
  split at h
  · rename_i p1 p2 a1 a2 b1 b2
    obtain ⟨h1,rfl⟩:=some_t h
    refine runV (vs:=[.agg #[I p1,I p2],.agg #[I a1,I a2],.agg #[I b1,I b2]]) (Λ:=L0) (m':=M0) OkP5 Tryz.func274 rfl l00 ?_
    exact (runOn p1 p2 a1 a2 b1 b2).trans (by
      unfold onB btw
      cases plR p1 p2&&(plR a1 a2&&plR b1 b2) with
      | false=>rfl
      | true =>
        by_cases ht:turnI a1 a2 b1 b2 p1 p2=0
        · rw [ht]
          cases decide ((if b1<a1 then b1 else a1)≤p1)&&decide (p1≤if b1>a1 then b1 else a1)<;>rfl
        · rw [bne_iff_ne.2 ht,beq_eq_false_iff_ne.2 ht]
          rfl)
  · cases h
noncomputable def ΓP6:Orc:=addVal 274 gOn ΓP5
theorem OkP6:ΓP6.Ok Tryz.prog:=addVal_ok OkP5 gOn_ok
theorem runMeet (a1 a2 b1 b2 c1 c2 d1 d2:Int):runG ΓP6 L0 Tryz.prog Tryz.f301 [.v (.agg #[I a1,I a2]),.v (.agg #[I b1,I b2]),.v (.agg #[I c1,I c2]),.v (.agg #[I d1,I d2])] M0 =
    (bif !(plR a1 a2&&(plR b1 b2&&(plR c1 c2&&plR d1 d2))) then some (.v (Bo false),M0) else (bif onB a1 a2 c1 c2 d1 d2 then some (.v (Bo true),M0) else (bif onB b1 b2 c1 c2 d1 d2 then some (.v (Bo true),M0) else (bif onB c1 c2 a1 a2 b1 b2 then some (.v (Bo true),M0) else (bif onB d1 d2 a1 a2 b1 b2 then some (.v (Bo true),M0) else (bif decide (wI (turnI a1 a2 b1 b2 c1 c2*turnI a1 a2 b1 b2 d1 d2)<(0:Int)) then some (.v (Bo (decide (wI (turnI c1 c2 d1 d2 a1 a2*turnI c1 c2 d1 d2 b1 b2)<(0:Int)))),M0) else some (.v (Bo false),M0))))))):=by kernel_rfl
def gMeet (vs:List Value):Option (Bool×Value) :=
  match vs with
  | [.agg ⟨[.int .i64 a1,.int .i64 a2]⟩,.agg ⟨[.int .i64 b1,.int .i64 b2]⟩,.agg ⟨[.int .i64 c1,.int .i64 c2]⟩,.agg ⟨[.int .i64 d1,.int .i64 d2]⟩]=>some (true,Bo (meetB a1 a2 b1 b2 c1 c2 d1 d2))
  | _=>none
theorem gMeet_ok:CtV 301 gMeet:=by
  intro vs r h
  unfold gMeet at h
  split at h
  · rename_i a1 a2 b1 b2 c1 c2 d1 d2
    obtain ⟨h1,rfl⟩:=some_t h
    refine runV (vs:=[.agg #[I a1,I a2],.agg #[I b1,I b2],.agg #[I c1,I c2],.agg #[I d1,I d2]]) (Λ:=L0) (m':=M0) OkP6 Tryz.func301 rfl l00 ?_
    exact (runMeet a1 a2 b1 b2 c1 c2 d1 d2).trans (by
      unfold meetB crossB
      cases plR a1 a2&&(plR b1 b2&&(plR c1 c2&&plR d1 d2))
      · rfl
      cases onB a1 a2 c1 c2 d1 d2
      · cases onB b1 b2 c1 c2 d1 d2
        · cases onB c1 c2 a1 a2 b1 b2
          · cases onB d1 d2 a1 a2 b1 b2
            · cases decide (wI (turnI a1 a2 b1 b2 c1 c2*turnI a1 a2 b1 b2 d1 d2)<0)<;>rfl
            · rfl
          · rfl
        · rfl
      · rfl)
  · cases h
noncomputable def ΓP7:Orc:=addVal 301 gMeet ΓP6
theorem OkP7:ΓP7.Ok Tryz.prog:=addVal_ok OkP6 gMeet_ok
noncomputable def ΓP8:Orc:=ΓP7
theorem OkP8:ΓP8.Ok Tryz.prog:=OkP7
noncomputable def ΓP9:Orc:=ΓP8
theorem OkP9:ΓP9.Ok Tryz.prog:=OkP8
noncomputable def ΓP10:Orc:=ΓP9
theorem OkP10:ΓP10.Ok Tryz.prog:=OkP9
noncomputable def ΓP11:Orc:=ΓP10
theorem OkP11:ΓP11.Ok Tryz.prog:=OkP10
noncomputable def ΓPt:Orc:=ΓP11
theorem OkPt:ΓPt.Ok Tryz.prog:=OkP11
end Go.Proofs.YtagaiddomhpdmaaGreat
namespace Go.Proofs.YtagaiddomhpdmaaGreat
open Go Go.Proofs Go.Sx
set_option linter.unusedVariables false
theorem runHS (a b n:Int):runG ΓPt L0 Tryz.prog Tryz.f314 [.v (Wd a b),.v (UU n)] M0 =
    (bif inU n&&inU n then (bif decide (n*n / (18446744073709551616:Int)<IntKind.u64.wrap a) then some (.v (Bo true),M0) else (bif n*n / (18446744073709551616:Int)==IntKind.u64.wrap a then some (.v (Bo (decide (n*n % (18446744073709551616:Int)≤b))),M0) else some (.v (Bo false),M0))) else none):=by kernel_rfl
def gHS (vs:List Value):Option (Bool×Value) :=
  match vs with
  | [.agg ⟨[.int .i64 a,.int .u64 b]⟩,.int .u64 n]=>some (inW a b&&(decide (0≤a)&&inU n),Bo (decide (n*n≤wv a b)))
  | _=>none
theorem gHS_ok:CtV 314 gHS:=by
  intro vs r h
  unfold gHS at h
  split at h
  · rename_i a b n
    obtain ⟨h1,rfl⟩:=some_t h
    refine runV (vs:=[Wd a b,UU n]) (Λ:=L0) (m':=M0) OkPt Tryz.func314 rfl l00 ?_
    exact (runHS a b n).trans (by
      simp only [Bool.and_eq_true,decide_eq_true_eq] at h1
      obtain ⟨g1,g2,g3⟩:=h1
      rw [g3]
      simp only [Bool.and_self,cond_true]
      rw [inW_iff] at g1
      rw [wrU]
      have ea:a % 18446744073709551616=a:=by omega
      rw [ea]
      unfold wv
      by_cases c1:n*n / 18446744073709551616<a
      · rw [decide_eq_true c1,decide_eq_true (show n*n≤a*18446744073709551616+b by omega)]
        rfl
      · rw [decide_eq_false c1]
        by_cases c2:n*n / 18446744073709551616=a
        · rw [beq_iff_eq.2 c2]
          refine vEq ?_
          show Bo _=Bo _
          rw [decide_eq_decide.2 (show n*n % 18446744073709551616≤b↔n*n≤a*18446744073709551616+b by omega)]
        · rw [beq_eq_false_iff_ne.2 c2,decide_eq_false (show ¬ n*n≤a*18446744073709551616+b by omega)]
          rfl)
  · cases h
noncomputable def ΓT1:Orc:=addVal 314 gHS ΓPt
theorem OkT1:ΓT1.Ok Tryz.prog:=addVal_ok OkPt gHS_ok
noncomputable def bdSq:Code:=loopAt (Tryz.f293.body.getD .skip) 0
theorem loopsSq:loopsOf (Tryz.f293.body.getD .skip)=[bdSq]:=by kernel_rfl
theorem loopsSq0:loopsOf bdSq=[]:=by kernel_rfl
def kSq:List Bool:=maskOf 21 [1,4,5]
def xSq:List Bool:=maskOf 21 [4]
def KSq (e:Ex) (st:St):Option (Ex×St):=some (e,cutC 0 0 xSq st)
def MSq (a b:Int):Mem:=⟨[[.v (I a),.v (UU b)]],[true],[]⟩
def HSq (a b r q:Int):St:=mk kSq [.ptr 0 0,.v (UU r),.v (UU q)] (MSq a b)
def XSq (r:Int):St:=mk xSq [.v (UU r)] M0
theorem stepSq (a b r q:Int) (k:Nat):evLoop ΓT1 Tryz.prog L0 (cutC 0 0 kSq) bdSq (k+1) (HSq a b r q) KSq =
    bif decide (q>0) then (bif inW a b&&(decide (0≤a)&&inU (orU r q)) then (bif decide (orU r q*orU r q≤wv a b) then evLoop ΓT1 Tryz.prog L0 (cutC 0 0 kSq) bdSq k (HSq a b (orU r q) (q.fdiv (2 ^ 1))) KSq else evLoop ΓT1 Tryz.prog L0 (cutC 0 0 kSq) bdSq k (HSq a b r (q.fdiv (2 ^ 1))) KSq) else none) else some (.exit 0,XSq r):=by kernel_rfl
def GSq (vals:List SV) (m:Mem):Option (Bool×Ex×St) :=
  match vals,m with
  | [.ptr 0 0,.v (.int .u64 r),.v (.int .u64 q)],⟨[[.v (.int .i64 a),.v (.int .u64 b)]],[true],[]⟩ =>
    some (inW a b&&(decide (0≤a)&&(r==0&&q==9223372036854775808)),.exit 0,XSq (sqr (wv a b) 64 0))
  | _,_=>none
noncomputable def ΛSq:LoopOrc:=fun _ st=>viaC 0 0 kSq GSq st
theorem loopOkSq (z:Base) (z1:z.L.length=0) (z2:z.U.length=0):LoopOk ΛSq Tryz.prog z bdSq:=by
  refine loop_okC (Λ:=L0) (kx:=fun _=>xSq) OkT1 mixed z1 z2 (fun b hb=>by rw [loopsSq0] at hb;cases hb) (G:=GSq) (fun _=>rfl) ?_
  intro vals m e st' h
  unfold GSq at h
  split at h
  · rename_i r q a b
    obtain ⟨h1,rfl,rfl⟩:=some_t2 h
    simp only [Bool.and_eq_true,beq_iff_eq,decide_eq_true_eq] at h1
    obtain ⟨g1,g2,rfl,rfl⟩:=h1
    exact ⟨65,sqr_loop (wv a b) (fun x=>inW a b&&(decide (0≤a)&&inU x)) (fun x hx=>by simp [g1,g2,hx]) (fun m r q=>evLoop ΓT1 Tryz.prog L0 (cutC 0 0 kSq) bdSq m (HSq a b r q) KSq) (fun r=>some (.exit 0,XSq r)) (fun m r q=>stepSq a b r q m) 63 0 (by decide) (by decide) (by decide)⟩
  · cases h
theorem runSq (a b:Int):runG ΓT1 ΛSq Tryz.prog Tryz.f293 [.v (Wd a b)] M0 =
    bif decide (a<0) then some (.v (.tuple #[UU 0,Bo false]),M0)
    else bif inW a b&&(decide (0≤a)&&((0:Int)==0&&(9223372036854775808:Int)==9223372036854775808)) then some (.v (.tuple #[UU (sqr (wv a b) 64 0),Bo true]),M0) else none:=by kernel_rfl
def gSq (vs:List Value):Option (Bool×Value) :=
  match vs with
  | [.agg ⟨[.int .i64 a,.int .u64 b]⟩]=>some (inW a b,.tuple #[UU (rtW (wv a b)),Bo (decide (0≤wv a b))])
  | _=>none
theorem gSq_ok:CtV 293 gSq:=by
  intro vs r h
  unfold gSq at h
  split at h
  · rename_i a b
    obtain ⟨h1,rfl⟩:=some_t h
    refine runV (vs:=[Wd a b]) (Λ:=ΛSq) (m':=M0) OkT1 Tryz.func293 rfl (fun z z1 z2=>oneLoop (c:=Tryz.f293.body.getD .skip) loopsSq (loopOkSq z z1 z2)) ?_
    refine (runSq a b).trans ?_
    have h':=h1
    rw [inW_iff] at h'
    by_cases ha:a<0
    · have e1:wv a b<0:=by unfold wv;omega
      have e2:¬ 0≤wv a b:=by omega
      simp [ha,rtW,e1,e2]
    · have e1:¬ wv a b<0:=by unfold wv;omega
      have e2:0≤wv a b:=by omega
      have e3:0≤a:=by omega
      simp [ha,rtW,e1,e2,e3,h1]
  · cases h
noncomputable def ΓT2:Orc:=addVal 293 gSq ΓT1
theorem OkT2:ΓT2.Ok Tryz.prog:=addVal_ok OkT1 gSq_ok
theorem runFRoot (a b:Int) (t:Bool):runG ΓT2 L0 Tryz.prog Tryz.f255 [.v (Wd a b),.v (Bo t)] M0 =
    (bif !t then some (.v (.tuple #[(I 0),(Bo false)]),M0) else (bif inW a b then (bif !decide ((0:Int)≤wv a b) then some (.v (.tuple #[(I 0),(Bo false)]),M0) else (bif decide (rtW (wv a b)>(9223372036854775807:Int)) then some (.v (.tuple #[(I 0),(Bo false)]),M0) else some (.v (.tuple #[(I (wI (rtW (wv a b)))),(Bo true)]),M0))) else none)):=by kernel_rfl
def gFRoot (vs:List Value):Option (Bool×Value) :=
  match vs with
  | [.agg ⟨[.int .i64 a,.int .u64 b]⟩,.bool t]=>some (inW a b&&(inI (wv a b)&&t),.tuple #[I (rtW (wv a b)),Bo (decide (0≤wv a b))])
  | _=>none
theorem rtW_I {n:Int} (h:inI n=true):0≤rtW n∧rtW n<4294967296:=by
  rw [inI_iff] at h
  refine ⟨rtW_nonneg (by omega),?_⟩
  rcases (by omega:n<0∨0≤n) with h1|h1
  · rw [rtW_neg h1];decide
  · obtain ⟨s0,_,s2,_⟩:=rt_spec n h1 (by omega)
    rcases (by omega:rtW n<4294967296∨4294967296≤rtW n) with h2|h2
    · exact h2
    · have:=Int.mul_le_mul h2 h2 (by decide) s0
      omega
theorem gFRoot_ok:CtV 255 gFRoot:=by
  intro vs r h
  unfold gFRoot at h
  split at h
  · rename_i a b t
    obtain ⟨h1,rfl⟩:=some_t h
    refine runV (vs:=[Wd a b,Bo t]) (Λ:=L0) (m':=M0) OkT2 Tryz.func255 rfl l00 ?_
    exact (runFRoot a b t).trans (by
      simp only [Bool.and_eq_true] at h1
      obtain ⟨g1,g2,rfl⟩:=h1
      obtain ⟨r0,r1⟩:=rtW_I g2
      rw [g1]
      simp only [Bool.not_true,cond_false,cond_true]
      by_cases hn:0≤wv a b
      · rw [decide_eq_true hn,decide_eq_false (show ¬ rtW (wv a b)>9223372036854775807 by omega),wI_id (by omega)]
        rfl
      · rw [decide_eq_false hn,rtW_neg (by omega)]
        rfl)
  · cases h
noncomputable def ΓT3:Orc:=addVal 255 gFRoot ΓT2
theorem OkT3:ΓT3.Ok Tryz.prog:=addVal_ok OkT2 gFRoot_ok
theorem runFSqrt (n:Int):runG ΓT3 L0 Tryz.prog Tryz.f197 [.v (I n)] M0 =
    (bif inI n then (bif inW (hiW n) (loW n)&&(inI (wv (hiW n) (loW n))&&true) then some (.v (.tuple #[(I (rtW (wv (hiW n) (loW n)))),(Bo (decide ((0:Int)≤wv (hiW n) (loW n))))]),M0) else none) else none):=by kernel_rfl
def gFSqrt (vs:List Value):Option (Bool×Value) :=
  match vs with
  | [.int .i64 n]=>some (inI n,.tuple #[I (rtW n),Bo (decide (0≤n))])
  | _=>none
theorem gFSqrt_ok:CtV 197 gFSqrt:=by
  intro vs r h
  unfold gFSqrt at h
  split at h
  · rename_i n
    obtain ⟨h1,rfl⟩:=some_t h
    refine runV (vs:=[I n]) (Λ:=L0) (m':=M0) OkT3 Tryz.func197 rfl l00 ?_
    exact (runFSqrt n).trans (by
      obtain ⟨e1,e2⟩:=wv_Wn (okW_I h1)
      rw [h1,e2,e1,h1]
      rfl)
  · cases h
noncomputable def ΓT4:Orc:=addVal 197 gFSqrt ΓT3
theorem OkT4:ΓT4.Ok Tryz.prog:=addVal_ok OkT3 gFSqrt_ok
def clI (n lo hi:Int):Int:=bif decide (n<lo) then lo else bif decide (n>hi) then hi else n
theorem runFClamp (n lo hi:Int):runG ΓT4 L0 Tryz.prog Tryz.f170 [.v (I n),.v (I lo),.v (I hi)] M0 =
    (bif decide (n<lo) then some (.v (I lo),M0) else (bif decide (n>hi) then some (.v (I hi),M0) else some (.v (I n),M0))):=by kernel_rfl
def gFClamp (vs:List Value):Option (Bool×Value) :=
  match vs with
  | [.int .i64 n,.int .i64 lo,.int .i64 hi]=>some (true,I (clI n lo hi))
  | _=>none
theorem gFClamp_ok:CtV 170 gFClamp:=by
  intro vs r h
  unfold gFClamp at h
  split at h
  · rename_i n lo hi
    obtain ⟨h1,rfl⟩:=some_t h
    refine runV (vs:=[I n,I lo,I hi]) (Λ:=L0) (m':=M0) OkT4 Tryz.func170 rfl l00 ?_
    exact (runFClamp n lo hi).trans (by
      unfold clI
      cases decide (n<lo)<;>cases decide (n>hi)<;>rfl)
  · cases h
noncomputable def ΓT5:Orc:=addVal 170 gFClamp ΓT4
theorem OkT5:ΓT5.Ok Tryz.prog:=addVal_ok OkT4 gFClamp_ok
noncomputable def ΓRt:Orc:=ΓT5
theorem OkRt:ΓRt.Ok Tryz.prog:=OkT5
end Go.Proofs.YtagaiddomhpdmaaGreat
namespace Go.Proofs.YtagaiddomhpdmaaGreat
open Go Go.Proofs Go.Sx
set_option linter.unusedVariables false
theorem rk_in {z v g:Int} (h:frX z v g=true):wI (wI (v*v)+wI (wI ((2:Int)*g)*z))=v*v+2*g*z∧inI (v*v+2*g*z)=true:=by
  obtain ⟨n1,n2⟩:=frN h
  have hx:=frX_iff.1 h
  refine ⟨?_,by rw [inI_iff];omega⟩
  rw [wI_id (n:=2*g) (by omega),wI_id (n:=v*v) (by omega),wI_id (n:=2*g*z) (by omega),wI_id (by omega)]
theorem rk_eq {z v g:Int} (h:frX z v g=true) (hz:¬ z<0):wI ((wI (v+rtW (v*v+2*g*z))).tdiv g)=tmF z v g:=by
  obtain ⟨s,e,h0,h1,h2,h3,h4⟩:=tm_root h (by omega)
  obtain ⟨n1,n2⟩:=frN h
  have hx:=frX_iff.1 h
  have gz:0≤2*g*z:=Int.mul_nonneg (by omega) (by omega)
  have es:rtW (v*v+2*g*z)=s:=rt_uniq (by omega) h0 h3 h4
  have t1:=tm_nonneg h
  have t2:=tm_le h
  obtain ⟨r0,r1⟩:=rtW_I (n:=v*v+2*g*z) (by rw [inI_iff];omega)
  rw [es] at r1 ⊢
  rw [wI_id (n:=v+s) (by omega),Int.tdiv_eq_ediv_of_nonneg (by omega),← e,wI_id (by omega)]
theorem frX_e {z v g d c:Int} (h:frR z v g=true) (h1:-2048≤d) (h2:d≤2048) (h3:-2048≤c) (h4:c≤2048):frX (z+d) (v+c) g=true:=by
  rw [frR_iff] at h;rw [frX_iff];omega
theorem may_eq (z v g:Int):(bif decide (z≥(-2147483648:Int)) then (bif decide (z≤(2147483648:Int)) then (bif decide (v≥(-131072:Int)) then (bif decide (v≤(131072:Int)) then (bif decide (g≥(1:Int)) then some (.v (Bo (decide (g≤(100:Int)))),M0) else some (.v (Bo false),M0)) else some (.v (Bo false),M0)) else some (.v (Bo false),M0)) else some (.v (Bo false),M0)) else some (.v (Bo false),M0))=(some (SV.v (Bo (frR z v g)),M0):Option (SV×Mem)):=by
  unfold frR
  by_cases h1:-2147483648≤z<;>by_cases h2:z≤2147483648<;>by_cases h3:-131072≤v<;>by_cases h4:v≤131072<;>by_cases h5:1≤g<;>by_cases h6:g≤100<;>simp [h1,h2,h3,h4,h5,h6]
theorem runFaR (z:Int) (v:Int) (g:Int):runG ΓRt L0 Tryz.prog Tryz.f262 [.v (I z),.v (I v),.v (I g)] M0 =
    (bif decide (z≥(-2147483648:Int)) then (bif decide (z≤(2147483648:Int)) then (bif decide (v≥(-131072:Int)) then (bif decide (v≤(131072:Int)) then (bif decide (g≥(1:Int)) then some (.v (Bo (decide (g≤(100:Int)))),M0) else some (.v (Bo false),M0)) else some (.v (Bo false),M0)) else some (.v (Bo false),M0)) else some (.v (Bo false),M0)) else some (.v (Bo false),M0)):=by kernel_rfl
def gFaR (vs:List Value):Option (Bool×Value) :=
  match vs with
  | [.int .i64 z,.int .i64 v,.int .i64 g]=>some (true,Bo (frR z v g))
  | _=>none
theorem gFaR_ok:CtV 262 gFaR:=by
  intro vs r h
  unfold gFaR at h
  split at h
  · rename_i z v g
    obtain ⟨h1,rfl⟩:=some_t h
    refine runV (vs:=[I z,I v,I g]) (Λ:=L0) (m':=M0) OkRt Tryz.func262 rfl l00 ?_
    exact (runFaR z v g).trans (may_eq z v g)
  · cases h
noncomputable def ΓA1:Orc:=addVal 262 gFaR ΓRt
theorem OkA1:ΓA1.Ok Tryz.prog:=addVal_ok OkRt gFaR_ok
noncomputable def ΓA2:Orc:=ΓA1
theorem OkA2:ΓA2.Ok Tryz.prog:=OkA1
theorem runFaK (z:Int) (v:Int) (g:Int):runG ΓA2 L0 Tryz.prog Tryz.f263 [.v (I z),.v (I v),.v (I g)] M0 =
    (bif decide (z<(0:Int)) then some (.v (I 0),M0) else (bif inI (wI (wI (v*v)+wI (wI ((2:Int)*g)*z))) then (bif g==(0:Int) then none else some (.v (I (wI ((wI (v+rtW (wI (wI (v*v)+wI (wI ((2:Int)*g)*z))))).tdiv g))),M0)) else none)):=by kernel_rfl
def gFaK (vs:List Value):Option (Bool×Value) :=
  match vs with
  | [.int .i64 z,.int .i64 v,.int .i64 g]=>some (frX z v g,I (tmF z v g))
  | _=>none
theorem gFaK_ok:CtV 263 gFaK:=by
  intro vs r h
  unfold gFaK at h
  split at h
  · rename_i z v g
    obtain ⟨h1,rfl⟩:=some_t h
    refine runV (vs:=[I z,I v,I g]) (Λ:=L0) (m':=M0) OkA2 Tryz.func263 rfl l00 ?_
    exact (runFaK z v g).trans (by
      obtain ⟨e1,e2⟩:=rk_in h1
      by_cases hz:z<0
      · rw [decide_eq_true hz]
        unfold tmF
        rw [decide_eq_true hz]
        rfl
      · rw [decide_eq_false hz,e1,e2,beq_eq_false_iff_ne.2 (show g≠0 by have:=frX_iff.1 h1;omega),rk_eq h1 hz]
        rfl)
  · cases h
noncomputable def ΓA3:Orc:=addVal 263 gFaK ΓA2
theorem OkA3:ΓA3.Ok Tryz.prog:=addVal_ok OkA2 gFaK_ok
noncomputable def ΓA4:Orc:=ΓA3
theorem OkA4:ΓA4.Ok Tryz.prog:=OkA3
noncomputable def ΓA5:Orc:=ΓA4
theorem OkA5:ΓA5.Ok Tryz.prog:=OkA4
noncomputable def ΓA6:Orc:=ΓA5
theorem OkA6:ΓA6.Ok Tryz.prog:=OkA5
noncomputable def ΓA7:Orc:=ΓA6
theorem OkA7:ΓA7.Ok Tryz.prog:=OkA6
noncomputable def ΓA8:Orc:=ΓA7
theorem OkA8:ΓA8.Ok Tryz.prog:=OkA7
theorem runFSpan (z:Int) (v:Int) (g:Int) (e:Int):runG ΓA8 L0 Tryz.prog Tryz.f215 [.v (I z),.v (I v),.v (I g),.v (I e)] M0 =
    (bif !frR z v g then some (.v (.tuple #[(I 0),(I 0),(Bo false)]),M0) else (bif decide (e<(0:Int)) then some (.v (.tuple #[(I 0),(I 0),(Bo false)]),M0) else (bif decide (e>(2048:Int)) then some (.v (.tuple #[(I 0),(I 0),(Bo false)]),M0) else (bif frX (wI (z - e)) (wI (v - e)) g then (bif frX (wI (z+e)) (wI (v+e)) g then some (.v (.tuple #[(I (tmF (wI (z - e)) (wI (v - e)) g)),(I (wI (tmF (wI (z+e)) (wI (v+e)) g+(2:Int)))),(Bo true)]),M0) else none) else none)))):=by kernel_rfl
def gFSpan (vs:List Value):Option (Bool×Value) :=
  match vs with
  | [.int .i64 z,.int .i64 v,.int .i64 g,.int .i64 e]=>some (true,.tuple #[I (bif frR z v g&&decide (0≤e∧e≤2048) then tmF (z - e) (v - e) g else 0),I (bif frR z v g&&decide (0≤e∧e≤2048) then tmF (z+e) (v+e) g+2 else 0),Bo (frR z v g&&decide (0≤e∧e≤2048))])
  | _=>none
theorem gFSpan_ok:CtV 215 gFSpan:=by
  intro vs r h
  unfold gFSpan at h
  split at h
  · rename_i z v g e
    obtain ⟨h1,rfl⟩:=some_t h
    refine runV (vs:=[I z,I v,I g,I e]) (Λ:=L0) (m':=M0) OkA8 Tryz.func215 rfl l00 ?_
    exact (runFSpan z v g e).trans (by
      cases h:frR z v g
      · rfl
      · simp only [Bool.not_true,cond_false,Bool.true_and]
        by_cases h2:e<0
        · rw [decide_eq_true h2,decide_eq_false (show ¬ (0≤e∧e≤2048) by omega)];rfl
        · by_cases h3:e>2048
          · rw [decide_eq_false h2,decide_eq_true h3,decide_eq_false (show ¬ (0≤e∧e≤2048) by omega)];rfl
          · have hx:=frR_iff.1 h
            have k1:frX (z - e) (v - e) g=true:=by rw [Int.sub_eq_add_neg,Int.sub_eq_add_neg];exact frX_e h (by omega) (by omega) (by omega) (by omega)
            have k2:frX (z+e) (v+e) g=true:=frX_e h (by omega) (by omega) (by omega) (by omega)
            have k3:=tm_nonneg k2
            have k4:=tm_le k2
            rw [decide_eq_false h2,decide_eq_false h3,decide_eq_true (show (0≤e∧e≤2048) by omega),wI_id (n:=z - e) (by omega),wI_id (n:=v - e) (by omega),wI_id (n:=z+e) (by omega),wI_id (n:=v+e) (by omega),k1,k2,wI_id (n:=tmF (z+e) (v+e) g+2) (by omega)];rfl)
  · cases h
noncomputable def ΓA9:Orc:=addVal 215 gFSpan ΓA8
theorem OkA9:ΓA9.Ok Tryz.prog:=addVal_ok OkA8 gFSpan_ok
noncomputable def ΓA10:Orc:=ΓA9
theorem OkA10:ΓA10.Ok Tryz.prog:=OkA9
noncomputable def ΓA11:Orc:=ΓA10
theorem OkA11:ΓA11.Ok Tryz.prog:=OkA10
noncomputable def ΓFa:Orc:=ΓA11
theorem OkFa:ΓFa.Ok Tryz.prog:=OkA11
end Go.Proofs.YtagaiddomhpdmaaGreat
namespace Go.Proofs.YtagaiddomhpdmaaGreat
open Go Go.Proofs Go.Sx
set_option linter.unusedVariables false
def ofG (x y n:Int):Bool:=decide (0≤n∧n≤4096)&&(decide (-1099511623680≤x∧x≤1099511623680)&&decide (-1099511623680≤y∧y≤1099511623680))
def boR (a b c d:Int):Bool:=plR a b&&(plR c d&&(decide (a≤c)&&decide (b≤d)))
def upB (n m:Int):Bool:=decide (n≥wI (0 - m))&&decide (n≤m)
theorem upB_iff {n m:Int} (h0:0≤m) (h1:m<9223372036854775808):upB n m=true↔-m≤n∧n≤m:=by
  unfold upB
  rw [wI_id (n:=0 - m) (by omega),Bool.and_eq_true,decide_eq_true_iff,decide_eq_true_iff]
  omega
def nvR (x y vx vy:Int):Bool:=upB x 2147483648&&(upB y 2147483648&&(upB vx 131072&&upB vy 131072))
theorem nvR_iff {x y vx vy:Int}:nvR x y vx vy=true↔(-2147483648≤x∧x≤2147483648)∧(-2147483648≤y∧y≤2147483648)∧(-131072≤vx∧vx≤131072)∧-131072≤vy∧vy≤131072:=by
  unfold nvR
  rw [Bool.and_eq_true,Bool.and_eq_true,Bool.and_eq_true,upB_iff (by decide) (by decide),upB_iff (by decide) (by decide),upB_iff (by decide) (by decide),upB_iff (by decide) (by decide)]
def rcG (x y vx vy f t:Int):Bool:=decide (-4294967296≤x∧x≤4294967296)&&(decide (-4294967296≤y∧y≤4294967296)&&(decide (-262144≤vx∧vx≤262144)&&(decide (-262144≤vy∧vy≤262144)&&(decide (-4096≤f∧f≤4096)&&decide (0≤t∧t≤4194304)))))
theorem rcG_iff {x y vx vy f t:Int}:rcG x y vx vy f t=true↔(-4294967296≤x∧x≤4294967296)∧(-4294967296≤y∧y≤4294967296)∧(-262144≤vx∧vx≤262144)∧(-262144≤vy∧vy≤262144)∧(-4096≤f∧f≤4096)∧0≤t∧t≤4194304:=by
  unfold rcG
  simp only [Bool.and_eq_true,decide_eq_true_eq]
theorem reach1 {x v f t:Int} (h1:-4294967296≤x∧x≤4294967296) (h2:-262144≤v∧v≤262144) (h3:-4096≤f∧f≤4096) (h4:0≤t∧t≤4194304):wI (x+wI (wI (v+f)*t))=x+(v+f)*t∧-1129576398848≤x+(v+f)*t∧x+(v+f)*t≤1129576398848:=by
  have p:=mulB (a:=v+f) (b:=t) (A:=266240) (B:=4194304) (by omega) (by omega) (by omega) (by omega)
  rw [wI_id (n:=v+f) (by omega),wI_id (n:=(v+f)*t) (by omega),wI_id (by omega)]
  omega
def hasB (a b c d x y:Int):Bool:=boR a b c d&&(plR x y&&(decide (x≥a)&&(decide (x≤c)&&(decide (y≥b)&&decide (y≤d)))))
def inBx (a b c d a' b' c' d':Int):Bool:=boR a b c d&&(hasB a' b' c' d' a b&&hasB a' b' c' d' c d)
theorem boR_iff {a b c d:Int}:boR a b c d=true↔plR a b=true∧plR c d=true∧a≤c∧b≤d:=by
  unfold boR
  simp only [Bool.and_eq_true,decide_eq_true_eq]
theorem hasB_iff {a b c d x y:Int}:hasB a b c d x y=true↔boR a b c d=true∧plR x y=true∧a≤x∧x≤c∧b≤y∧y≤d:=by
  unfold hasB
  simp only [Bool.and_eq_true,decide_eq_true_eq]
theorem ofG_iff {x y n:Int}:ofG x y n=true↔(0≤n∧n≤4096)∧(-1099511623680≤x∧x≤1099511623680)∧(-1099511623680≤y∧y≤1099511623680):=by
  unfold ofG
  simp only [Bool.and_eq_true,decide_eq_true_eq]
theorem clI_in {n lo hi:Int} (h1:lo≤n) (h2:n≤hi):clI n lo hi=n:=by
  unfold clI
  rw [decide_eq_false (show ¬ n<lo by omega),decide_eq_false (show ¬ n>hi by omega)]
  rfl
theorem runBRt (a:Int) (b:Int) (c:Int) (d:Int):runG ΓFa L0 Tryz.prog Tryz.f223 [.v (.agg #[I a,I b,I c,I d])] M0 =
    (bif plR a b then (bif plR c d then (bif decide (a≤c) then some (.v (Bo (decide (b≤d))),M0) else some (.v (Bo false),M0)) else some (.v (Bo false),M0)) else some (.v (Bo false),M0)):=by kernel_rfl
def gBRt (vs:List Value):Option (Bool×Value) :=
  match vs with
  | [.agg ⟨[.int .i64 a,.int .i64 b,.int .i64 c,.int .i64 d]⟩]=>some (true,Bo (boR a b c d))
  | _=>none
theorem gBRt_ok:CtV 223 gBRt:=by
  intro vs r h
  unfold gBRt at h
  split at h
  · rename_i a b c d
    obtain ⟨h1,rfl⟩:=some_t h
    refine runV (vs:=[.agg #[I a,I b,I c,I d]]) (Λ:=L0) (m':=M0) OkFa Tryz.func223 rfl l00 ?_
    exact (runBRt a b c d).trans (by unfold boR;cases plR a b<;>cases plR c d<;>cases decide (a≤c)<;>rfl)
  · cases h
noncomputable def ΓB1:Orc:=addVal 223 gBRt ΓFa
theorem OkB1:ΓB1.Ok Tryz.prog:=addVal_ok OkFa gBRt_ok
noncomputable def ΓB2:Orc:=ΓB1
theorem OkB2:ΓB2.Ok Tryz.prog:=OkB1
noncomputable def ΓB3:Orc:=ΓB2
theorem OkB3:ΓB3.Ok Tryz.prog:=OkB2
noncomputable def ΓB4:Orc:=ΓB3
theorem OkB4:ΓB4.Ok Tryz.prog:=OkB3
theorem runBHd (x:Int) (y:Int):runG ΓB4 L0 Tryz.prog Tryz.f266 [.v (I x),.v (I y)] M0 =
    some (.v (.agg #[(I (clI x (-1099511627776:Int) (1099511627776:Int))),(I (clI y (-1099511627776:Int) (1099511627776:Int)))]),M0):=by kernel_rfl
def gBHd (vs:List Value):Option (Bool×Value) :=
  match vs with
  | [.int .i64 x,.int .i64 y]=>some (true,.agg #[I (clI x (-1099511627776) 1099511627776),I (clI y (-1099511627776) 1099511627776)])
  | _=>none
theorem gBHd_ok:CtV 266 gBHd:=by
  intro vs r h
  unfold gBHd at h
  split at h
  · rename_i x y
    obtain ⟨h1,rfl⟩:=some_t h
    refine runV (vs:=[I x,I y]) (Λ:=L0) (m':=M0) OkB4 Tryz.func266 rfl l00 ?_
    exact (runBHd x y).trans (rfl)
  · cases h
noncomputable def ΓB5:Orc:=addVal 266 gBHd ΓB4
theorem OkB5:ΓB5.Ok Tryz.prog:=addVal_ok OkB4 gBHd_ok
theorem runBOf (x:Int) (y:Int) (n:Int):runG ΓB5 L0 Tryz.prog Tryz.f217 [.v (.agg #[I x,I y]),.v (I n)] M0 =
    (bif !plR x y then some (.v (.agg #[(I 0),(I 0),(I 0),(I 0)]),M0) else some (.v (.agg #[(I (clI (wI (x - clI n (0:Int) (2199023255552:Int))) (-1099511627776:Int) (1099511627776:Int))),(I (clI (wI (y - clI n (0:Int) (2199023255552:Int))) (-1099511627776:Int) (1099511627776:Int))),(I (clI (wI (x+clI n (0:Int) (2199023255552:Int))) (-1099511627776:Int) (1099511627776:Int))),(I (clI (wI (y+clI n (0:Int) (2199023255552:Int))) (-1099511627776:Int) (1099511627776:Int)))]),M0)):=by kernel_rfl
def gBOf (vs:List Value):Option (Bool×Value) :=
  match vs with
  | [.agg ⟨[.int .i64 x,.int .i64 y]⟩,.int .i64 n]=>some (ofG x y n,.agg #[I (x - n),I (y - n),I (x+n),I (y+n)])
  | _=>none
theorem gBOf_ok:CtV 217 gBOf:=by
  intro vs r h
  unfold gBOf at h
  split at h
  · rename_i x y n
    obtain ⟨h1,rfl⟩:=some_t h
    refine runV (vs:=[.agg #[I x,I y],I n]) (Λ:=L0) (m':=M0) OkB5 Tryz.func217 rfl l00 ?_
    exact (runBOf x y n).trans (by
      obtain ⟨h2,h3,h4⟩:=ofG_iff.1 h1
      rw [plR_iff.2 (by omega),clI_in (n:=n) (by omega) (by omega),wI_id (n:=x - n) (by omega),wI_id (n:=y - n) (by omega),wI_id (n:=x+n) (by omega),wI_id (n:=y+n) (by omega),clI_in (n:=x - n) (by omega) (by omega),clI_in (n:=y - n) (by omega) (by omega),clI_in (n:=x+n) (by omega) (by omega),clI_in (n:=y+n) (by omega) (by omega)]
      rfl)
  · cases h
noncomputable def ΓB6:Orc:=addVal 217 gBOf ΓB5
theorem OkB6:ΓB6.Ok Tryz.prog:=addVal_ok OkB5 gBOf_ok
theorem runBJn (a:Int) (b:Int) (c:Int) (d:Int) (a':Int) (b':Int) (c':Int) (d':Int):runG ΓB6 L0 Tryz.prog Tryz.f219 [.v (.agg #[I a,I b,I c,I d]),.v (.agg #[I a',I b',I c',I d'])] M0 =
    (bif boR a b c d then (bif boR a' b' c' d' then some (.v (.agg #[(I (if a'<a then a' else a)),(I (if b'<b then b' else b)),(I (if c'>c then c' else c)),(I (if d'>d then d' else d))]),M0) else (bif boR a b c d then some (.v (.agg #[(I a),(I b),(I c),(I d)]),M0) else (bif boR a' b' c' d' then some (.v (.agg #[(I a'),(I b'),(I c'),(I d')]),M0) else some (.v (.agg #[(I 0),(I 0),(I 0),(I 0)]),M0)))) else (bif boR a b c d then some (.v (.agg #[(I a),(I b),(I c),(I d)]),M0) else (bif boR a' b' c' d' then some (.v (.agg #[(I a'),(I b'),(I c'),(I d')]),M0) else some (.v (.agg #[(I 0),(I 0),(I 0),(I 0)]),M0)))):=by kernel_rfl
def gBJn (vs:List Value):Option (Bool×Value) :=
  match vs with
  | [.agg ⟨[.int .i64 a,.int .i64 b,.int .i64 c,.int .i64 d]⟩,.agg ⟨[.int .i64 a',.int .i64 b',.int .i64 c',.int .i64 d']⟩]=>some (boR a b c d&&boR a' b' c' d',Value.agg #[I (mn a a'),I (mn b b'),I (mx c c'),I (mx d d')])
  | _=>none
theorem gBJn_ok:CtV 219 gBJn:=by
  intro vs r h
  unfold gBJn at h
  split at h
  · rename_i a b c d a' b' c' d'
    obtain ⟨h1,rfl⟩:=some_t h
    refine runV (vs:=[.agg #[I a,I b,I c,I d],.agg #[I a',I b',I c',I d']]) (Λ:=L0) (m':=M0) OkB6 Tryz.func219 rfl l00 ?_
    exact (runBJn a b c d a' b' c' d').trans (by
      rw [Bool.and_eq_true] at h1
      rw [h1.1,h1.2]
      rfl)
  · cases h
noncomputable def ΓB7:Orc:=addVal 219 gBJn ΓB6
theorem OkB7:ΓB7.Ok Tryz.prog:=addVal_ok OkB6 gBJn_ok
theorem runIUp (n:Int) (m:Int):runG ΓB7 L0 Tryz.prog Tryz.f264 [.v (I n),.v (I m)] M0 =
    (bif decide (n≥wI ((0:Int) - m)) then some (.v (Bo (decide (n≤m))),M0) else some (.v (Bo false),M0)):=by kernel_rfl
def gIUp (vs:List Value):Option (Bool×Value) :=
  match vs with
  | [.int .i64 n,.int .i64 m]=>some (true,Bo (upB n m))
  | _=>none
theorem gIUp_ok:CtV 264 gIUp:=by
  intro vs r h
  unfold gIUp at h
  split at h
  · rename_i n m
    obtain ⟨h1,rfl⟩:=some_t h
    refine runV (vs:=[I n,I m]) (Λ:=L0) (m':=M0) OkB7 Tryz.func264 rfl l00 ?_
    exact (runIUp n m).trans (by unfold upB;cases decide (n≥wI (0 - m))<;>rfl)
  · cases h
noncomputable def ΓB8:Orc:=addVal 264 gIUp ΓB7
theorem OkB8:ΓB8.Ok Tryz.prog:=addVal_ok OkB7 gIUp_ok
theorem runIRt (p:Int) (q:Int) (x:Int) (y:Int) (z:Int) (vx:Int) (vy:Int) (vz:Int):runG ΓB8 L0 Tryz.prog Tryz.f216 [.v (.agg #[I p,I q,I x,I y,I z,I vx,I vy,I vz])] M0 =
    (bif upB x (2147483648:Int) then (bif upB y (2147483648:Int) then (bif upB vx (131072:Int) then some (.v (Bo (upB vy (131072:Int))),M0) else some (.v (Bo false),M0)) else some (.v (Bo false),M0)) else some (.v (Bo false),M0)):=by kernel_rfl
def gIRt (vs:List Value):Option (Bool×Value) :=
  match vs with
  | [.agg ⟨[.int .i64 p,.int .i64 q,.int .i64 x,.int .i64 y,.int .i64 z,.int .i64 vx,.int .i64 vy,.int .i64 vz]⟩]=>some (true,Bo (nvR x y vx vy))
  | _=>none
theorem gIRt_ok:CtV 216 gIRt:=by
  intro vs r h
  unfold gIRt at h
  split at h
  · rename_i p q x y z vx vy vz
    obtain ⟨h1,rfl⟩:=some_t h
    refine runV (vs:=[.agg #[I p,I q,I x,I y,I z,I vx,I vy,I vz]]) (Λ:=L0) (m':=M0) OkB8 Tryz.func216 rfl l00 ?_
    exact (runIRt p q x y z vx vy vz).trans (by unfold nvR;cases upB x 2147483648<;>cases upB y 2147483648<;>cases upB vx 131072<;>rfl)
  · cases h
noncomputable def ΓB9:Orc:=addVal 216 gIRt ΓB8
theorem OkB9:ΓB9.Ok Tryz.prog:=addVal_ok OkB8 gIRt_ok
theorem runIRc (p:Int) (q:Int) (x:Int) (y:Int) (z:Int) (vx:Int) (vy:Int) (vz:Int) (f:Int) (t:Int):runG ΓB9 L0 Tryz.prog Tryz.f218 [.v (.agg #[I p,I q,I x,I y,I z,I vx,I vy,I vz]),.v (I f),.v (I t)] M0 =
    some (.v (.agg #[(I (wI (x+wI (wI (vx+f)*t)))),(I (wI (y+wI (wI (vy+f)*t))))]),M0):=by kernel_rfl
def gIRc (vs:List Value):Option (Bool×Value) :=
  match vs with
  | [.agg ⟨[.int .i64 p,.int .i64 q,.int .i64 x,.int .i64 y,.int .i64 z,.int .i64 vx,.int .i64 vy,.int .i64 vz]⟩,.int .i64 f,.int .i64 t]=>some (rcG x y vx vy f t,Value.agg #[I (x+(vx+f)*t),I (y+(vy+f)*t)])
  | _=>none
theorem gIRc_ok:CtV 218 gIRc:=by
  intro vs r h
  unfold gIRc at h
  split at h
  · rename_i p q x y z vx vy vz f t
    obtain ⟨h1,rfl⟩:=some_t h
    refine runV (vs:=[.agg #[I p,I q,I x,I y,I z,I vx,I vy,I vz],I f,I t]) (Λ:=L0) (m':=M0) OkB9 Tryz.func218 rfl l00 ?_
    exact (runIRc p q x y z vx vy vz f t).trans (by
      obtain ⟨h2,h3,h4,h5,h6,h7⟩:=rcG_iff.1 h1
      rw [(reach1 h2 h4 h6 h7).1,(reach1 h3 h5 h6 h7).1])
  · cases h
noncomputable def ΓB10:Orc:=addVal 218 gIRc ΓB9
theorem OkB10:ΓB10.Ok Tryz.prog:=addVal_ok OkB9 gIRc_ok
noncomputable def ΓB11:Orc:=ΓB10
theorem OkB11:ΓB11.Ok Tryz.prog:=OkB10
noncomputable def ΓBx:Orc:=ΓB11
theorem OkBx:ΓBx.Ok Tryz.prog:=OkB11
end Go.Proofs.YtagaiddomhpdmaaGreat
namespace Go.Proofs.YtagaiddomhpdmaaGreat
open Go Go.Proofs Go.Sx
set_option linter.unusedVariables false
def oLo (x y n c:Int):Int:=bif plR x y then clI (wI (c - clI n 0 2199023255552)) (-1099511627776) 1099511627776 else 0
def oHi (x y n c:Int):Int:=bif plR x y then clI (wI (c+clI n 0 2199023255552)) (-1099511627776) 1099511627776 else 0
def pick (A B:Bool) (m x y:Int):Int:=bif A&&B then m else bif A then x else bif B then y else 0
def jn1 (a b c d a' b' c' d':Int):Int:=pick (boR a b c d) (boR a' b' c' d') (mn a a') a a'
def jn2 (a b c d a' b' c' d':Int):Int:=pick (boR a b c d) (boR a' b' c' d') (mn b b') b b'
def jn3 (a b c d a' b' c' d':Int):Int:=pick (boR a b c d) (boR a' b' c' d') (mx c c') c c'
def jn4 (a b c d a' b' c' d':Int):Int:=pick (boR a b c d) (boR a' b' c' d') (mx d d') d d'
theorem inC_eq (a b c d a' b' c' d':Int):(boR a b c d&&(boR a' b' c' d'&&(decide (a'≤a)&&(decide (b'≤b)&&(decide (c≤c')&&decide (d≤d'))))))=inBx a b c d a' b' c' d':=by
  rw [Bool.eq_iff_iff]
  unfold inBx
  simp only [Bool.and_eq_true,decide_eq_true_eq,hasB_iff]
  constructor
  · rintro ⟨h1,h2,h3,h4,h5,h6⟩
    obtain ⟨p1,p2,p3,p4⟩:=boR_iff.1 h1
    exact ⟨h1,⟨h2,p1,h3,by omega,h4,by omega⟩,h2,p2,by omega,h5,by omega,h6⟩
  · rintro ⟨h1,⟨h2,p1,h3,_,h4,_⟩,_,p2,_,h5,_,h6⟩
    exact ⟨h1,h2,h3,h4,h5,h6⟩
theorem inP_eq (a b c d x y:Int):inBx x y x y a b c d=hasB a b c d x y:=by
  rw [Bool.eq_iff_iff]
  unfold inBx
  simp only [Bool.and_eq_true,hasB_iff,boR_iff]
  constructor
  · rintro ⟨h1,h2,h3⟩
    exact h2
  · intro h
    exact ⟨⟨h.2.1,h.2.1,Int.le_refl _,Int.le_refl _⟩,h,h⟩
theorem runUOf (x:Int) (y:Int) (n:Int):runG ΓBx L0 Tryz.prog Tryz.f217 [.v (.agg #[I x,I y]),.v (I n)] M0 =
    (bif !plR x y then some (.v (.agg #[(I 0),(I 0),(I 0),(I 0)]),M0) else some (.v (.agg #[(I (clI (wI (x - clI n (0:Int) (2199023255552:Int))) (-1099511627776:Int) (1099511627776:Int))),(I (clI (wI (y - clI n (0:Int) (2199023255552:Int))) (-1099511627776:Int) (1099511627776:Int))),(I (clI (wI (x+clI n (0:Int) (2199023255552:Int))) (-1099511627776:Int) (1099511627776:Int))),(I (clI (wI (y+clI n (0:Int) (2199023255552:Int))) (-1099511627776:Int) (1099511627776:Int)))]),M0)):=by kernel_rfl
def gUOf (vs:List Value):Option (Bool×Value) :=
  match vs with
  | [.agg ⟨[.int .i64 x,.int .i64 y]⟩,.int .i64 n]=>some (true,.agg #[I (oLo x y n x),I (oLo x y n y),I (oHi x y n x),I (oHi x y n y)])
  | _=>none
theorem gUOf_ok:CtV 217 gUOf:=by
  intro vs r h
  unfold gUOf at h
  split at h
  · rename_i x y n
    obtain ⟨h1,rfl⟩:=some_t h
    refine runV (vs:=[.agg #[I x,I y],I n]) (Λ:=L0) (m':=M0) OkBx Tryz.func217 rfl l00 ?_
    exact (runUOf x y n).trans (by unfold oLo oHi;cases plR x y<;>rfl)
  · cases h
noncomputable def ΓU1:Orc:=addVal 217 gUOf ΓBx
theorem OkU1:ΓU1.Ok Tryz.prog:=addVal_ok OkBx gUOf_ok
noncomputable def ΓU2:Orc:=ΓU1
theorem OkU2:ΓU2.Ok Tryz.prog:=OkU1
noncomputable def ΓU3:Orc:=ΓU2
theorem OkU3:ΓU3.Ok Tryz.prog:=OkU2
theorem runUJn (a:Int) (b:Int) (c:Int) (d:Int) (a':Int) (b':Int) (c':Int) (d':Int):runG ΓU3 L0 Tryz.prog Tryz.f219 [.v (.agg #[I a,I b,I c,I d]),.v (.agg #[I a',I b',I c',I d'])] M0 =
    (bif boR a b c d then (bif boR a' b' c' d' then some (.v (.agg #[(I (if a'<a then a' else a)),(I (if b'<b then b' else b)),(I (if c'>c then c' else c)),(I (if d'>d then d' else d))]),M0) else (bif boR a b c d then some (.v (.agg #[(I a),(I b),(I c),(I d)]),M0) else (bif boR a' b' c' d' then some (.v (.agg #[(I a'),(I b'),(I c'),(I d')]),M0) else some (.v (.agg #[(I 0),(I 0),(I 0),(I 0)]),M0)))) else (bif boR a b c d then some (.v (.agg #[(I a),(I b),(I c),(I d)]),M0) else (bif boR a' b' c' d' then some (.v (.agg #[(I a'),(I b'),(I c'),(I d')]),M0) else some (.v (.agg #[(I 0),(I 0),(I 0),(I 0)]),M0)))):=by kernel_rfl
def gUJn (vs:List Value):Option (Bool×Value) :=
  match vs with
  | [.agg ⟨[.int .i64 a,.int .i64 b,.int .i64 c,.int .i64 d]⟩,.agg ⟨[.int .i64 a',.int .i64 b',.int .i64 c',.int .i64 d']⟩]=>some (true,Value.agg #[I (jn1 a b c d a' b' c' d'),I (jn2 a b c d a' b' c' d'),I (jn3 a b c d a' b' c' d'),I (jn4 a b c d a' b' c' d')])
  | _=>none
theorem gUJn_ok:CtV 219 gUJn:=by
  intro vs r h
  unfold gUJn at h
  split at h
  · rename_i a b c d a' b' c' d'
    obtain ⟨h1,rfl⟩:=some_t h
    refine runV (vs:=[.agg #[I a,I b,I c,I d],.agg #[I a',I b',I c',I d']]) (Λ:=L0) (m':=M0) OkU3 Tryz.func219 rfl l00 ?_
    exact (runUJn a b c d a' b' c' d').trans (by unfold jn1 jn2 jn3 jn4 pick;cases boR a b c d<;>cases boR a' b' c' d'<;>rfl)
  · cases h
noncomputable def ΓU4:Orc:=addVal 219 gUJn ΓU3
theorem OkU4:ΓU4.Ok Tryz.prog:=addVal_ok OkU3 gUJn_ok
noncomputable def ΓU5:Orc:=ΓU4
theorem OkU5:ΓU5.Ok Tryz.prog:=OkU4
theorem runUIn (a:Int) (b:Int) (c:Int) (d:Int) (a':Int) (b':Int) (c':Int) (d':Int):runG ΓU5 L0 Tryz.prog Tryz.f299 [.v (.agg #[I a,I b,I c,I d]),.v (.agg #[I a',I b',I c',I d'])] M0 =
    (bif !boR a b c d then some (.v (Bo false),M0) else (bif !boR a' b' c' d' then some (.v (Bo false),M0) else (bif decide (a'≤a) then (bif decide (b'≤b) then (bif decide (c≤c') then some (.v (Bo (decide (d≤d'))),M0) else some (.v (Bo false),M0)) else some (.v (Bo false),M0)) else some (.v (Bo false),M0)))):=by kernel_rfl
def gUIn (vs:List Value):Option (Bool×Value) :=
  match vs with
  | [.agg ⟨[.int .i64 a,.int .i64 b,.int .i64 c,.int .i64 d]⟩,.agg ⟨[.int .i64 a',.int .i64 b',.int .i64 c',.int .i64 d']⟩]=>some (true,Bo (inBx a b c d a' b' c' d'))
  | _=>none
theorem gUIn_ok:CtV 299 gUIn:=by
  intro vs r h
  unfold gUIn at h
  split at h
  · rename_i a b c d a' b' c' d'
    obtain ⟨h1,rfl⟩:=some_t h
    refine runV (vs:=[.agg #[I a,I b,I c,I d],.agg #[I a',I b',I c',I d']]) (Λ:=L0) (m':=M0) OkU5 Tryz.func299 rfl l00 ?_
    exact (runUIn a b c d a' b' c' d').trans (by rw [← inC_eq];cases boR a b c d<;>cases boR a' b' c' d'<;>cases decide (a'≤a)<;>cases decide (b'≤b)<;>cases decide (c≤c')<;>rfl)
  · cases h
noncomputable def ΓU6:Orc:=addVal 299 gUIn ΓU5
theorem OkU6:ΓU6.Ok Tryz.prog:=addVal_ok OkU5 gUIn_ok
theorem runUHas (a:Int) (b:Int) (c:Int) (d:Int) (x:Int) (y:Int):runG ΓU6 L0 Tryz.prog Tryz.f270 [.v (.agg #[I a,I b,I c,I d]),.v (.agg #[I x,I y])] M0 =
    some (.v (Bo (inBx x y x y a b c d)),M0):=by kernel_rfl
def gUHas (vs:List Value):Option (Bool×Value) :=
  match vs with
  | [.agg ⟨[.int .i64 a,.int .i64 b,.int .i64 c,.int .i64 d]⟩,.agg ⟨[.int .i64 x,.int .i64 y]⟩]=>some (true,Bo (hasB a b c d x y))
  | _=>none
theorem gUHas_ok:CtV 270 gUHas:=by
  intro vs r h
  unfold gUHas at h
  split at h
  · rename_i a b c d x y
    obtain ⟨h1,rfl⟩:=some_t h
    refine runV (vs:=[.agg #[I a,I b,I c,I d],.agg #[I x,I y]]) (Λ:=L0) (m':=M0) OkU6 Tryz.func270 rfl l00 ?_
    exact (runUHas a b c d x y).trans (vB (inP_eq a b c d x y))
  · cases h
noncomputable def ΓU7:Orc:=addVal 270 gUHas ΓU6
theorem OkU7:ΓU7.Ok Tryz.prog:=addVal_ok OkU6 gUHas_ok
noncomputable def ΓU8:Orc:=ΓU7
theorem OkU8:ΓU8.Ok Tryz.prog:=OkU7
noncomputable def ΓBo:Orc:=ΓU8
theorem OkBo:ΓBo.Ok Tryz.prog:=OkU8
end Go.Proofs.YtagaiddomhpdmaaGreat
