/-
  What is known of this program: the atomics,names;contracts of wide,of point,of box over values,and of the document's.
-/
import Derived.Test.YtainfdcfkgemhaaGreatSx
import Derived.Test.YtainfdcfkgemhaaGreatProg
import Derived.Lib.Strings
import Derived.Lib.Walk
import Derived.Lib.BufferWrite
import Derived.Lib.UnsafeStr
import Derived.Laws.MakeOwn
import Derived.WalkKit
import Derived.Test.YtainfdcfkgemhaaGreatSw
set_option maxRecDepth 100000
noncomputable section
namespace Go.Proofs.YtainfdcfkgemhaaGreat
open Go Go.Proofs Go.Sx Go.RowKit
abbrev CtC (n:FuncId) (g:List SV→Mem→Option (Bool×SV×Mem)):Prop:=∀ xs m r m',g xs m=some (true,r,m')→qaB Tryz.prog n xs m r m'
abbrev CtR (n:FuncId) (g:List SV→Mem→Option (Bool×Value)):Prop:=∀ xs m r,g xs m=some (true,r)→qaB Tryz.prog n xs m (.v r) m
abbrev CtV (n:FuncId) (g:List Value→Option (Bool×Value)):Prop:=∀ vs r,g vs=some (true,r)→∀ m,qaB Tryz.prog n (vs.map .v) m (.v r) m
theorem mixed:Tryz.prog.follows .mixedOrders=true:=by kernel_rfl
theorem names:qeT Tryz.prog=true:=by kernel_rfl
def M0:Mem:=⟨[],[],[]⟩
def I (x:Int):Value:=.int .i64 x
def S (s:ByteArray):Value:=.string s
def Bo (b:Bool):Value:=.bool b
def U8 (x:Int):Value:=.int .u8 x
def U16 (x:Int):Value:=.int .u16 x
def U32 (x:Int):Value:=.int .u32 x
theorem qyD:Ext Tryz.prog 331 (Extern.Atomic.loadT (.int .i64)):=⟨fun args w=>run_callFunc_extern Tryz.func331 (by kernel_rfl) (by kernel_rfl) (by kernel_rfl) (by kernel_rfl) args w⟩
def qqB:FuncId→List SV→Mem→Option (Bool×Value):=qAc 331 .i64
theorem qos:∀ f xs m r,qqB f xs m=some (true,r)→qaB Tryz.prog f xs m (.v r) m:=qvT qyD
theorem qDG:Ext Tryz.prog 342 (Extern.Atomic.casT (.int .i64)):=⟨fun args w=>run_callFunc_extern Tryz.func342 (by kernel_rfl) (by kernel_rfl) (by kernel_rfl) (by kernel_rfl) args w⟩
def qyr:FuncId→List SV→Mem→Option (Bool×SV×Mem):=qMy 342 .i64
theorem qs1:∀ f xs m r m',qyr f xs m=some (true,r,m')→qaB Tryz.prog f xs m r m':=qCu qDG
set_option maxHeartbeats 4000000 in
theorem qHw (s:ByteArray) (w:World) (hs:s.size≤281474976710656) :
  Calls Tryz.prog 226 #[.string s] w fun e w'=>e=.returned (.string s)∧Kp w w':=by
 have fr:∀ {w w':World},Below w.heap.size w w'→Kp w w':=fun h=>⟨h,fun p hp=>h.frozen hp⟩
 by_cases h0:s.size=0
 ·obtain rfl:s=⟨#[]⟩:=ByteArray.ext (Array.eq_empty_of_size_eq_zero h0)
  go_enter Tryz.func226,Tryz.ntmps226
  go_wp2
  go_ret
  exact ⟨rfl,fr (Below.refl _ _)⟩
 ·obtain ⟨ti,hti,tz,ts,tb⟩:∃ i,Tryz.prog.info? 5=some i∧i.zero=some (.int .u8 0)∧i.size=1∧i.bytes=1:=⟨_,rfl,rfl,rfl,rfl⟩
  have one:(Tryz.prog.info? 5).map (·.size)=some 1:=by rw [hti];simp [ts]
  have cells1:Tryz.prog.cellsOf 5=1:=by simp [Program.cellsOf,hti,ts]
  generalize hM:madeCells (Value.int .u8 0).cells (((s.size:Nat):Int).toNat*ti.size)=M
  have sizeM:M.size=s.size:=by rw [← hM,size_madeCells,ts];simp
  have making:∀ W:World,(Instr.makeSlice 109 (.int .i64 (s.size:Int)) (.int .i64 (s.size:Int))).run Tryz.prog W=.ok (.slice (some ⟨W.heap.size,0,none⟩) s.size s.size) (W.alloc (.cells M 5)):=by
   intro W
   have:=run_make (P:=Tryz.prog) W 109 5 ti (.int .u8 0) Tryz.underlying109 hti tz .i64 .i64 (s.size:Int) (s.size:Int) (by omega) (by omega) (by rw [tb];omega) (by omega)
   rw [hM] at this
   simpa using this
  have copying:=Lib.run_copy_row_string (P:=Tryz.prog) (w.alloc (.cells M 5)) 109 9 3 5 w.heap.size 0 s.size s.size s M 5 Tryz.underlying109 one (heap_alloc_new w _) (Nat.le_refl _) (by omega)
  generalize hY:(M.toList.take 0++Lib.byteCells s.data.toList++M.toList.drop (0+s.size)).toArray=Y at copying
  have listY:Y.toList=Lib.byteCells s.data.toList:=by
   rw [← hY,List.toList_toArray,List.take_zero,List.nil_append,List.drop_of_length_le (by rw [Array.length_toList];omega),List.append_nil]
  have sizeY:Y.size=s.size:=by rw [← Array.length_toList,listY,Lib.byteCells_length,← Lib.size_eq]
  have there:((w.alloc (.cells M 5)).setRow w.heap.size Y).heap[w.heap.size]?=some (.cells Y 5 (0,0)):=setRow_heap _ _ M _ 5 (0,0) (heap_alloc_new w _)
  have some1:s.data.toList≠[]:=fun e=>h0 (by rw [Lib.size_eq,e];rfl)
  have sharing:=Lib.run_unsafeString_row (P:=Tryz.prog) ((w.alloc (.cells M 5)).setRow w.heap.size Y) 269 3 9 5 Tryz.underlying269 cells1 w.heap.size Y.size (by unfold World.shape?;rw [there]) s.data.toList some1 (by rw [← Lib.size_eq];omega) (by rw [← Lib.size_eq];omega)
   (fun j x hx=>Lib.cells_of_row there Y.size j _ (by rw [List.take_of_length_le (by rw [Array.length_toList];exact Nat.le_refl _),listY];simp [Lib.byteCells,hx]))
  rw [← Lib.size_eq] at sharing
  clear hM hY
  go_enter Tryz.func226,Tryz.ntmps226
  go_wp2
  go_ret
  have b1:Below w.heap.size w (w.alloc (.cells M 5)):=(Below.refl _ w).alloc (Nat.le_refl _) _
  have b2:Below w.heap.size (w.alloc (.cells M 5)) ((w.alloc (.cells M 5)).setRow w.heap.size Y):=⟨rfl,rfl,rfl,by simp,fun k hk=>setRow_other _ _ _ _ (by omega)⟩
  exact ⟨rfl,fr (Lib.below_freeze (b1.trans b2) (p:=⟨w.heap.size,0,none⟩) (Nat.le_refl _) _)⟩
def qsr (vs:List Value):Option (Bool×Value) :=
 match vs with
 | [.string s]=>some (Nat.ble s.size 281474976710656,S s)
 | _=>none
theorem qsq:CtV 226 qsr:=by
 intro vs r h
 unfold qsr at h
 split at h
 ·rename_i s
  obtain ⟨h1,rfl⟩:=qac h
  exact qCv Tryz.prog fun w=>.inr ⟨qaS Tryz.func226 rfl (qcM names Tryz.func226 rfl) w,qHw s w (Nat.le_of_ble_eq_true h1)⟩
 ·cases h
def qxs:FuncId→List Value→Option (Bool×Value):=qhE 226 qsr
theorem qpr:qCK Tryz.prog qxs:=qgZ qsq
def good:List TypeId :=
 284 ::
 151 ::
 56 ::
 172 ::
 238 ::
 41 ::
 46 ::
 162 ::
 277 ::
 399 ::
 436 ::
 52 ::
 []
def qjC (f:FuncId):Bool :=
 Nat.beq f 381 ||
 Nat.beq f 267 ||
 false
theorem qGF:good.all (qdv Tryz.prog)=true:=by kernel_rfl
def ΓA:Orc:=qDt (qD7 qxs) { call:=qyr,eqv:=qCh Tryz.prog good,rd:=qqB,unr:=8,wr:=qjC }
theorem OkA:ΓA.Ok Tryz.prog:=qnS ⟨qs1,qos,fun t xs ys r h w op x y hop=>qwT qGF t xs ys r h w op x y hop,fun _ _ _ _ _ _ h=>by cases h⟩ qpr
theorem qal {Γ:Orc} {Λ:qao} (hΓ:Γ.Ok Tryz.prog) {f:FuncId} {fn:Func} {c:Code} (hf:Tryz.prog.funcs[f]?=some fn) (hb:fn.body=some c) {xs:List SV} {m m':Mem} {r:SV}
 (hL:∀ z,z.L.length=m.blk.length→z.U.length=m.rows.length→∀ b∈qak c,qas Λ Tryz.prog z b) (h:runG Γ Λ Tryz.prog fn xs m=some (r,m')):qaB Tryz.prog f xs m r m':=qcW hΓ mixed names hf hb hL h
theorem qaA {Γ:Orc} {Λ:qao} (hΓ:Γ.Ok Tryz.prog) {f:FuncId} {fn:Func} {c:Code} (hf:Tryz.prog.funcs[f]?=some fn) (hb:fn.body=some c) {vs:List Value} {r:Value} {m':Mem}
 (hL:∀ z:Base,z.L.length=0→z.U.length=0→∀ b∈qak c,qas Λ Tryz.prog z b) (h:runG Γ Λ Tryz.prog fn (vs.map .v) M0=some (.v r,m')):∀ m,qaB Tryz.prog f (vs.map .v) m (.v r) m:=qJv hΓ mixed names hf hb hL h
end Go.Proofs.YtainfdcfkgemhaaGreat
namespace Go.Proofs.YtainfdcfkgemhaaGreat
open Go Go.Proofs Go.Sx
def MC (a b:Int):Mem:=⟨[[.v (I a),.v (I b)]],[true],[]⟩
def qat (x y:Int):Int:=if (if y<x then y else x)>0 then (if y<x then y else x) else 0
def qBA (xs:List SV) (m:Mem):Option (Bool×Value) :=
 match xs,m with
 | [.ptr 0 1],⟨[[.v (.int .i64 _),.v (.int .i64 b)]],[true],[]⟩=>some (true,I b)
 | _,_=>none
theorem qwv:CtR 284 qBA:=by
 intro xs m r h
 unfold qBA at h
 split at h
 ·rename_i a b
  obtain ⟨_,rfl⟩:=qac h
  refine qal (Λ:=L0) OkA Tryz.func284 rfl (fun z _ _=>qaq (by kernel_rfl) z) ?_
  kernel_rfl
 ·cases h
def ΓC1:Orc:=qay 284 qBA ΓA
theorem qPU:ΓC1.Ok Tryz.prog:=qai OkA qwv
def qst (vs:List Value):Option (Bool×Value) :=
 match vs with
 | [.int .i64 x,.int .i64 y]=>some (true,I (qat x y))
 | _=>none
theorem qss:CtV 118 qst:=by
 intro vs r h
 unfold qst at h
 split at h
 ·rename_i x y
  obtain ⟨_,rfl⟩:=qac h
  refine qaA (Λ:=L0) (m':=M0) qPU Tryz.func118 rfl (fun z _ _=>qaq (by kernel_rfl) z) ?_
  kernel_rfl
 ·cases h
def ΓC2:Orc:=qah 118 qst ΓC1
theorem qN2:ΓC2.Ok Tryz.prog:=qaa qPU qss
def qrt (xs:List SV) (m:Mem):Option (Bool×Value) :=
 match xs,m with
 | [.ptr 0 0],⟨[[.v (.int .i64 _),.v (.int .i64 b)]],[true],[]⟩=>some (true,I b)
 | [.v (.pointer none)],_=>some (true,I 0)
 | _,_=>none
theorem qrs:CtR 221 qrt:=by
 intro xs m r h
 unfold qrt at h
 split at h
 ·rename_i a b
  obtain ⟨_,rfl⟩:=qac h
  refine qal (Λ:=L0) qN2 Tryz.func221 rfl (fun z _ _=>qaq (by kernel_rfl) z) ?_
  kernel_rfl
 ·obtain ⟨_,rfl⟩:=qac h
  refine qaA (vs:=[.pointer none]) (Λ:=L0) (m':=M0) qN2 Tryz.func221 rfl (fun z _ _=>qaq (by kernel_rfl) z) ?_ m
  kernel_rfl
 ·cases h
def ΓC3:Orc:=qay 221 qrt ΓC2
theorem qPT:ΓC3.Ok Tryz.prog:=qai qN2 qrs
def qMe (xs:List SV) (m:Mem):Option (Bool×SV×Mem) :=
 match xs,m with
 | [.ptr 0 1,.v (.int .i64 x),.v (.int .i64 y)],⟨[[.v (.int .i64 a),.v (.int .i64 b)]],[true],[]⟩=>some (true,.v (Bo (b==x)),MC a (bif b==x then y else b))
 | _,_=>none
theorem qBW:CtC 307 qMe:=by
 intro xs m r m' h
 unfold qMe at h
 split at h
 ·rename_i x y a b
  obtain ⟨_,rfl,rfl⟩:=qaf h
  refine qal (Λ:=L0) qPT Tryz.func307 rfl (fun z _ _=>qaq (by kernel_rfl) z) ?_
  kernel_rfl
 ·cases h
def ΓC4:Orc:=qau 307 qMe ΓC3
theorem qPS:ΓC4.Ok Tryz.prog:=qad qPT qBW
def qlL (xs:List SV) (m:Mem):Option (Bool×Value) :=
 match xs,m with
 | [.ptr 0 0,.v (.int .i64 v),.v (.int .i64 n)],⟨[[.v (.int .i64 a),.v (.int .i64 _)]],[true],[]⟩=>some (true,I (wI (v+qat n (wI (a - v)))))
 | _,_=>none
theorem qoN:CtR 306 qlL:=by
 intro xs m r h
 unfold qlL at h
 split at h
 ·rename_i v n a b
  obtain ⟨_,rfl⟩:=qac h
  refine qal (Λ:=L0) qPS Tryz.func306 rfl (fun z _ _=>qaq (by kernel_rfl) z) ?_
  kernel_rfl
 ·cases h
def ΓC5:Orc:=qay 306 qlL ΓC4
theorem qN1:ΓC5.Ok Tryz.prog:=qai qPS qoN
def qap (a v n:Int):Int:=wI (v+qat n (wI (a - v)))
def qGu:List Bool:=qam 24 [0,1]
def qri:List Bool:=qam 24 [4]
def qgE:Code:=qaH (Tryz.f242.body.getD .skip) 0
theorem qvz:qak (Tryz.f242.body.getD .skip)=[qgE]:=by kernel_rfl
theorem qrb:qak qgE=[]:=by kernel_rfl
theorem qyR (a v n:Int) (k:Nat):qaj ΓC5 Tryz.prog L0 (qav 1 0 qGu) qgE (k+1) (mk qGu [.ptr 0 0,.v (I n)] (MC a v)) (fun e st=>some (e,qav 1 0 qri st)) =
 bif v==v then some (.ret,mk qri [.v (I (qap a v n))] (MC a (bif v==v then qap a v n else v))) else
  qaj ΓC5 Tryz.prog L0 (qav 1 0 qGu) qgE k (mk qGu [.ptr 0 0,.v (I n)] (MC a (bif v==v then qap a v n else v))) (fun e st=>some (e,qav 1 0 qri st)):=by kernel_rfl
def qN9 (vals:List SV) (m:Mem):Option (Bool×Ex×St) :=
 match vals,m with
 | [.ptr 0 0,.v (.int .i64 n)],⟨[[.v (.int .i64 a),.v (.int .i64 v)]],[true],[]⟩=>some (true,.ret,mk qri [.v (I (qap a v n))] (MC a (qap a v n)))
 | _,_=>none
def ΛAdd:qao:=fun _ st=>qeb 1 0 qGu qN9 st
theorem qrd (z:Base) (h1:z.L.length=1) (h2:z.U.length=0):qas ΛAdd Tryz.prog z qgE:=by
 refine qaF (Λ:=L0) (kx:=fun _=>qri) qN1 mixed h1 h2 (fun b hb=>by rw [qrb] at hb;cases hb) (G:=qN9) (fun _=>rfl) ?_
 intro vals m e st' h
 unfold qN9 at h
 split at h
 ·rename_i n a v
  obtain ⟨_,rfl,rfl⟩:=qaf h
  refine ⟨1,(qyR a v n 0).trans ?_⟩
  simp only [beq_self_eq_true,cond_true]
 ·cases h
def qMn (xs:List SV) (m:Mem):Option (Bool×SV×Mem) :=
 match xs,m with
 | [.ptr 0 0,.v (.int .i64 n)],⟨[[.v (.int .i64 a),.v (.int .i64 v)]],[true],[]⟩=>some (true,.v (I (qap a v n)),MC a (qap a v n))
 | _,_=>none
theorem qB9:CtC 242 qMn:=by
 intro xs m r m' h
 unfold qMn at h
 split at h
 ·rename_i n a v
  obtain ⟨_,rfl,rfl⟩:=qaf h
  refine qal (Λ:=ΛAdd) qN1 Tryz.func242 rfl (fun z h1 h2=>qax (c:=Tryz.f242.body.getD .skip) qvz (qrd z h1 h2)) ?_
  kernel_rfl
 ·cases h
def ΓC6:Orc:=qau 242 qMn ΓC5
theorem qPR:ΓC6.Ok Tryz.prog:=qad qN1 qB9
def qLT (xs:List SV) (m:Mem):Option (Bool×SV×Mem) :=
 match xs,m with
 | [.v (.int .i64 n)],⟨[],[],[]⟩=>some (true,.ptr 0 0,MC (qat n 1000000) 0)
 | _,_=>none
theorem qBq:CtC 60 qLT:=by
 intro xs m r m' h
 unfold qLT at h
 split at h
 ·rename_i n
  obtain ⟨_,rfl,rfl⟩:=qaf h
  refine qal (Λ:=L0) qPR Tryz.func60 rfl (fun z _ _=>qaq (by kernel_rfl) z) ?_
  kernel_rfl
 ·cases h
def ΓC:Orc:=qau 60 qLT ΓC6
theorem OkC:ΓC.Ok Tryz.prog:=qad qPR qBq
end Go.Proofs.YtainfdcfkgemhaaGreat
namespace Go.Proofs.YtainfdcfkgemhaaGreat
open Go Go.Proofs Go.Sx
set_option linter.unusedVariables false
abbrev UU (x:Int):Value:=.int .u64 x
theorem vEq {a b:Value} (h:a=b):(some (SV.v a,M0):Option (SV×Mem))=some (.v b,M0):=by rw [h]
theorem qAe (c:Code) (z:Base):∀ b∈qak c,qas L0 Tryz.prog z b:=fun b _ st t h=>by cases h
theorem l00 {c:Code} {p q:Base→Prop}:∀ z,p z→q z→∀ b∈qak c,qas L0 Tryz.prog z b:=fun z _ _=>qAe _ z
def qsG (vs:List Value):Option (Bool×Value) :=
 match vs with
 | [.int .u64 x,.int .u64 y,.int .u64 c]=>some (decide (0≤x∧0≤y∧0≤c∧c≤1),.tuple #[UU (qey x y c),UU (qdB x y c)])
 | _=>none
theorem qsF:CtV 354 qsG:=by
 intro vs r h
 unfold qsG at h
 split at h
 ·rename_i x y c
  obtain ⟨h1,rfl⟩:=qac h
  refine qCv Tryz.prog fun w=>.inl ?_
  have hc:0≤x∧0≤y∧0≤c∧c≤1:=by simpa using h1
  rw [run_callFunc_extern Tryz.func354 (by kernel_rfl) (by kernel_rfl) (by kernel_rfl) (e:=add64Entry) (by kernel_rfl)]
  rw [show (List.toArray [Value.int .u64 x,.int .u64 y,.int .u64 c])=#[Value.int .u64 x,.int .u64 y,.int .u64 c] from rfl,run_add64 x y c hc.1 hc.2.1 hc.2.2.1 hc.2.2.2]
  rfl
 ·cases h
def ΓW1:Orc:=qah 354 qsG ΓC
theorem OkW1:ΓW1.Ok Tryz.prog:=qaa OkC qsF
def ΓW2:Orc:=ΓW1
theorem qO1:ΓW2.Ok Tryz.prog:=OkW1
theorem qyY (a b:Int):runG ΓW2 L0 Tryz.prog Tryz.f355 [.v (Wd a b)] M0=some (.v (Bo (decide (a<0))),M0):=by kernel_rfl
def qAp (vs:List Value):Option (Bool×Value) :=
 match vs with
 | [.agg ⟨[.int .i64 a,.int .u64 b]⟩]=>some (true,Bo (decide (a<0)))
 | _=>none
theorem qv6:CtV 355 qAp:=by
 intro vs r h
 unfold qAp at h
 split at h
 ·rename_i a b
  obtain ⟨h1,rfl⟩:=qac h
  refine qaA (vs:=[Wd a b]) (Λ:=L0) (m':=M0) qO1 Tryz.func355 rfl l00 ?_
  exact (qyY a b).trans (rfl)
 ·cases h
def ΓW3:Orc:=qah 355 qAp ΓW2
theorem qO0:ΓW3.Ok Tryz.prog:=qaa qO1 qv6
theorem qzo (a:Int):runG ΓW3 L0 Tryz.prog Tryz.f379 [.v (I a)] M0=some (.v (Bo (a != a)),M0):=by kernel_rfl
def qBs (vs:List Value):Option (Bool×Value) :=
 match vs with
 | [.int .i64 a]=>some (true,Bo false)
 | _=>none
theorem qws:CtV 379 qBs:=by
 intro vs r h
 unfold qBs at h
 split at h
 ·rename_i a
  obtain ⟨h1,rfl⟩:=qac h
  refine qaA (vs:=[I a]) (Λ:=L0) (m':=M0) qO0 Tryz.func379 rfl l00 ?_
  exact (qzo a).trans (by simp)
 ·cases h
def ΓW4:Orc:=qah 379 qBs ΓW3
theorem qOZ:ΓW4.Ok Tryz.prog:=qaa qO0 qws
theorem qzn (a:Int):runG ΓW4 L0 Tryz.prog Tryz.f380 [.v (UU a)] M0=some (.v (Bo (a != a)),M0):=by kernel_rfl
def qBr (vs:List Value):Option (Bool×Value) :=
 match vs with
 | [.int .u64 a]=>some (true,Bo false)
 | _=>none
theorem qwr:CtV 380 qBr:=by
 intro vs r h
 unfold qBr at h
 split at h
 ·rename_i a
  obtain ⟨h1,rfl⟩:=qac h
  refine qaA (vs:=[UU a]) (Λ:=L0) (m':=M0) qOZ Tryz.func380 rfl l00 ?_
  exact (qzn a).trans (by simp)
 ·cases h
def ΓW5:Orc:=qah 380 qBr ΓW4
theorem qOY:ΓW5.Ok Tryz.prog:=qaa qOZ qwr
theorem quN (x y:Int):runG ΓW5 L0 Tryz.prog Tryz.f185 [.v (UU x),.v (UU y)] M0 =
 (let U:=IntKind.u64.wrap;let A:=fun z:Int=>U ((BitVec.ofInt 64 z &&& BitVec.ofInt 64 4294967295).toNat:Int);let S:=fun z:Int=>z.fdiv (2 ^ 32);let w0:=U (A x*A y);let t:=U (U (S x*A y)+S w0);let w1:=U (A t+U (A x*S y));some (.v (.tuple #[UU (U (U (U (S x*S y)+S t)+S w1)),UU (U (x*y))]),M0)):=by kernel_rfl
def qnu (vs:List Value):Option (Bool×Value) :=
 match vs with
 | [.int .u64 x,.int .u64 y]=>some (inU x&&inU y,.tuple #[UU (x*y / 18446744073709551616),UU (x*y % 18446744073709551616)])
 | _=>none
theorem qeq:CtV 185 qnu:=by
 intro vs r h
 unfold qnu at h
 split at h
 ·rename_i x y
  obtain ⟨h1,rfl⟩:=qac h
  refine qaA (vs:=[UU x,UU y]) (Λ:=L0) (m':=M0) qOY Tryz.func185 rfl l00 ?_
  exact (quN x y).trans (by
   rw [Bool.and_eq_true] at h1
   obtain ⟨e1,e2⟩:=qjA x y h1.1 h1.2
   exact vEq (by show Value.tuple #[UU _,UU _]=_;rw [e1,e2]))
 ·cases h
def ΓW6:Orc:=qah 185 qnu ΓW5
theorem qNf:ΓW6.Ok Tryz.prog:=qaa qOY qeq
theorem qp7 (x y:Int):runG ΓW6 L0 Tryz.prog Tryz.f116 [.v (UU x),.v (UU y)] M0=bif inU x&&inU y then some (.v (.tuple #[UU (x*y / 18446744073709551616),UU (x*y % 18446744073709551616)]),M0) else none:=by kernel_rfl
def qBu (vs:List Value):Option (Bool×Value) :=
 match vs with
 | [.int .u64 x,.int .u64 y]=>some (inU x&&inU y,.tuple #[UU (x*y / 18446744073709551616),UU (x*y % 18446744073709551616)])
 | _=>none
theorem qwt:CtV 116 qBu:=by
 intro vs r h
 unfold qBu at h
 split at h
 ·rename_i x y
  obtain ⟨h1,rfl⟩:=qac h
  refine qaA (vs:=[UU x,UU y]) (Λ:=L0) (m':=M0) qNf Tryz.func116 rfl l00 ?_
  exact (qp7 x y).trans (by rw [h1];rfl)
 ·cases h
def ΓW7:Orc:=qah 116 qBu ΓW6
theorem qOX:ΓW7.Ok Tryz.prog:=qaa qNf qwt
theorem qu0 (x y:Int):runG ΓW7 L0 Tryz.prog Tryz.f368 [.v (I x),.v (I y)] M0=bif decide (x<y) then some (.v (I (-1)),M0) else (bif decide (x>y) then some (.v (I 1),M0) else some (.v (I 0),M0)):=by kernel_rfl
def qsp (vs:List Value):Option (Bool×Value) :=
 match vs with
 | [.int .i64 x,.int .i64 y]=>some (true,I (qgU x y))
 | _=>none
theorem qso:CtV 368 qsp:=by
 intro vs r h
 unfold qsp at h
 split at h
 ·rename_i x y
  obtain ⟨h1,rfl⟩:=qac h
  refine qaA (vs:=[I x,I y]) (Λ:=L0) (m':=M0) qOX Tryz.func368 rfl l00 ?_
  exact (qu0 x y).trans (by
   unfold qgU
   cases decide (x<y)
   ·show _=some (SV.v (I (bif decide (x>y) then 1 else 0)),M0)
    cases decide (x>y)<;>rfl
   ·rfl)
 ·cases h
def ΓW8:Orc:=qah 368 qsp ΓW7
theorem qOW:ΓW8.Ok Tryz.prog:=qaa qOX qso
theorem quZ (x y:Int):runG ΓW8 L0 Tryz.prog Tryz.f369 [.v (UU x),.v (UU y)] M0=bif decide (x<y) then some (.v (I (-1)),M0) else (bif decide (x>y) then some (.v (I 1),M0) else some (.v (I 0),M0)):=by kernel_rfl
def qsn (vs:List Value):Option (Bool×Value) :=
 match vs with
 | [.int .u64 x,.int .u64 y]=>some (true,I (qgU x y))
 | _=>none
theorem qsm:CtV 369 qsn:=by
 intro vs r h
 unfold qsn at h
 split at h
 ·rename_i x y
  obtain ⟨h1,rfl⟩:=qac h
  refine qaA (vs:=[UU x,UU y]) (Λ:=L0) (m':=M0) qOW Tryz.func369 rfl l00 ?_
  exact (quZ x y).trans (by
   unfold qgU
   cases decide (x<y)
   ·show _=some (SV.v (I (bif decide (x>y) then 1 else 0)),M0)
    cases decide (x>y)<;>rfl
   ·rfl)
 ·cases h
def ΓW9:Orc:=qah 369 qsn ΓW8
theorem qOV:ΓW9.Ok Tryz.prog:=qaa qOW qsm
theorem qEj (n:Int):runG ΓW9 L0 Tryz.prog Tryz.f322 [.v (I n)] M0=some (.v (Wd (n.fdiv (2 ^ 63)) (IntKind.u64.wrap n)),M0):=by kernel_rfl
def qK6 (vs:List Value):Option (Bool×Value) :=
 match vs with
 | [.int .i64 n]=>some (inI n,Wn n)
 | _=>none
theorem qAo:CtV 322 qK6:=by
 intro vs r h
 unfold qK6 at h
 split at h
 ·rename_i n
  obtain ⟨h1,rfl⟩:=qac h
  refine qaA (vs:=[I n]) (Λ:=L0) (m':=M0) qOV Tryz.func322 rfl l00 ?_
  exact (qEj n).trans (by
   rw [qa0] at h1
   obtain ⟨_,h2,h3⟩:=qel (n:=n) (by omega) (by omega)
   refine vEq (qhA ?_ ?_)
   ·rw [h2,Int.fdiv_eq_ediv_of_nonneg _ (by decide),show (2:Int) ^ 63=9223372036854775808 from by decide]
    omega
   ·rw [h3,wrU])
 ·cases h
def ΓW10:Orc:=qah 322 qK6 ΓW9
theorem qIc:ΓW10.Ok Tryz.prog:=qaa qOV qAo
theorem qy2 (a b c d:Int):runG ΓW10 L0 Tryz.prog Tryz.f321 [.v (Wd a b),.v (Wd c d)] M0 =
 (bif decide ((0:Int)≤b∧(0:Int)≤d∧(0:Int)≤(0:Int)∧(0:Int)≤(1:Int)) then (bif decide ((0:Int)≤IntKind.u64.wrap a∧(0:Int)≤IntKind.u64.wrap c∧(0:Int)≤qdB b d (0:Int)∧qdB b d (0:Int)≤(1:Int)) then (bif decide (a<(0:Int))==decide (c<(0:Int)) then (bif !decide (wI (qey (IntKind.u64.wrap a) (IntKind.u64.wrap c) (qdB b d (0:Int)))<(0:Int))==decide (a<(0:Int)) then some (.v (.tuple #[(.agg #[(I 0),(.int .u64 0)]),(Bo false)]),M0) else some (.v (.tuple #[(.agg #[(I (wI (qey (IntKind.u64.wrap a) (IntKind.u64.wrap c) (qdB b d (0:Int))))),(.int .u64 (qey b d (0:Int)))]),(Bo true)]),M0)) else some (.v (.tuple #[(.agg #[(I (wI (qey (IntKind.u64.wrap a) (IntKind.u64.wrap c) (qdB b d (0:Int))))),(.int .u64 (qey b d (0:Int)))]),(Bo true)]),M0)) else none) else none):=by kernel_rfl
def qAt (vs:List Value):Option (Bool×Value) :=
 match vs with
 | [.agg ⟨[.int .i64 a,.int .u64 b]⟩,.agg ⟨[.int .i64 c,.int .u64 d]⟩]=>some (inW a b&&inW c d,.tuple #[Wn (wv a b+wv c d),Bo (okW (wv a b+wv c d))])
 | _=>none
theorem qwa:CtV 321 qAt:=by
 intro vs r h
 unfold qAt at h
 split at h
 ·rename_i a b c d
  obtain ⟨h1,rfl⟩:=qac h
  refine qaA (vs:=[Wd a b,Wd c d]) (Λ:=L0) (m':=M0) qIc Tryz.func321 rfl l00 ?_
  exact (qy2 a b c d).trans (by
   rw [Bool.and_eq_true] at h1
   obtain ⟨⟨k0,k1⟩,k2,k3⟩:=addW a b c d h1.1 h1.2
   have i1:=qce.1 h1.1
   have i2:=qce.1 h1.2
   have u1:=qbd.1 (qcQ a)
   have u2:=qbd.1 (qcQ c)
   rw [decide_eq_true (show (0:Int)≤b∧(0:Int)≤d∧(0:Int)≤0∧(0:Int)≤1 by omega),decide_eq_true (show (0:Int)≤IntKind.u64.wrap a∧(0:Int)≤IntKind.u64.wrap c∧(0:Int)≤qdB b d 0∧qdB b d 0≤(1:Int) by omega)]
   simp only [cond_true]
   cases ho:okW (wv a b+wv c d) with
   | true =>
    obtain ⟨e1,e2⟩:=k3 ho
    rw [ho,Bool.not_true] at k2
    cases hs:decide (a<0)==decide (c<0) with
    | false=>exact vEq (wdB e1 e2 rfl)
    | true =>
     rw [hs,Bool.true_and] at k2
     have k2':(!decide (wI (qey (IntKind.u64.wrap a) (IntKind.u64.wrap c) (qdB b d 0))<0)==decide (a<0))=false:=k2
     rw [k2']
     exact vEq (wdB e1 e2 rfl)
   | false =>
    rw [ho,Bool.not_false,Bool.and_eq_true] at k2
    have k2':(!decide (wI (qey (IntKind.u64.wrap a) (IntKind.u64.wrap c) (qdB b d 0))<0)==decide (a<0))=true:=k2.2
    rw [k2.1,k2']
    obtain ⟨_,e1,e2⟩:=qzL (n:=wv a b+wv c d) (by have:=of_decide_eq_false ho;omega)
    exact vEq (wdB e1.symm e2.symm rfl))
 ·cases h
def ΓW11:Orc:=qah 321 qAt ΓW10
theorem qIb:ΓW11.Ok Tryz.prog:=qaa qIc qwa
theorem qy0 (a b:Int):runG ΓW11 L0 Tryz.prog Tryz.f323 [.v (Wd a b)] M0 =
 (bif inI (wI b) then (bif !(hiW (wI b)==a&&(loW (wI b)==b&&true)) then some (.v (.tuple #[(I 0),(Bo false)]),M0) else some (.v (.tuple #[(I (wI b)),(Bo true)]),M0)) else none):=by kernel_rfl
def qAr (vs:List Value):Option (Bool×Value) :=
 match vs with
 | [.agg ⟨[.int .i64 a,.int .u64 b]⟩]=>some (inW a b,.tuple #[I (smI (wv a b)),Bo (inI (wv a b))])
 | _=>none
theorem qv8:CtV 323 qAr:=by
 intro vs r h
 unfold qAr at h
 split at h
 ·rename_i a b
  obtain ⟨h1,rfl⟩:=qac h
  refine qaA (vs:=[Wd a b]) (Λ:=L0) (m':=M0) qIb Tryz.func323 rfl l00 ?_
  exact (qy0 a b).trans (by
   obtain ⟨k1,k2,k3⟩:=intW a b h1
   have k2':(hiW (wI b)==a&&(loW (wI b)==b&&true))=inI (wv a b):=k2
   rw [show inI (wI b)=true from k1,k2']
   cases hq:inI (wv a b) with
   | true=>exact vEq (inB ((k3 hq).trans (by simp [smI,hq])) rfl)
   | false=>exact vEq (inB (by simp [smI,hq]) rfl))
 ·cases h
def ΓW12:Orc:=qah 323 qAr ΓW11
theorem qIa:ΓW12.Ok Tryz.prog:=qaa qIb qv8
theorem qy1 (a b c d:Int):runG ΓW12 L0 Tryz.prog Tryz.f353 [.v (Wd a b),.v (Wd c d)] M0 =
 (bif qgU a c != (0:Int) then some (.v (I (qgU a c)),M0) else some (.v (I (qgU b d)),M0)):=by kernel_rfl
def qAs (vs:List Value):Option (Bool×Value) :=
 match vs with
 | [.agg ⟨[.int .i64 a,.int .u64 b]⟩,.agg ⟨[.int .i64 c,.int .u64 d]⟩]=>some (inW a b&&inW c d,I (qgU (wv a b) (wv c d)))
 | _=>none
theorem qv9:CtV 353 qAs:=by
 intro vs r h
 unfold qAs at h
 split at h
 ·rename_i a b c d
  obtain ⟨h1,rfl⟩:=qac h
  refine qaA (vs:=[Wd a b,Wd c d]) (Λ:=L0) (m':=M0) qIa Tryz.func353 rfl l00 ?_
  exact (qy1 a b c d).trans (by
   rw [Bool.and_eq_true] at h1
   rw [← cmpW h1.1 h1.2]
   cases qgU a c != 0<;>rfl)
 ·cases h
def ΓW13:Orc:=qah 353 qAs ΓW12
theorem qH9:ΓW13.Ok Tryz.prog:=qaa qIa qv9
theorem qyZ (a b:Int):runG ΓW13 L0 Tryz.prog Tryz.f316 [.v (I a),.v (I b)] M0 =
 (bif inU (IntKind.u64.wrap a)&&inU (IntKind.u64.wrap b) then (bif decide (a<(0:Int)) then (bif decide (b<(0:Int)) then some (.v (.agg #[(I (wI (IntKind.u64.wrap (IntKind.u64.wrap (IntKind.u64.wrap a*IntKind.u64.wrap b / (18446744073709551616:Int) - IntKind.u64.wrap b) - IntKind.u64.wrap a)))),(.int .u64 (IntKind.u64.wrap a*IntKind.u64.wrap b % (18446744073709551616:Int)))]),M0) else some (.v (.agg #[(I (wI (IntKind.u64.wrap (IntKind.u64.wrap a*IntKind.u64.wrap b / (18446744073709551616:Int) - IntKind.u64.wrap b)))),(.int .u64 (IntKind.u64.wrap a*IntKind.u64.wrap b % (18446744073709551616:Int)))]),M0)) else (bif decide (b<(0:Int)) then some (.v (.agg #[(I (wI (IntKind.u64.wrap (IntKind.u64.wrap a*IntKind.u64.wrap b / (18446744073709551616:Int) - IntKind.u64.wrap a)))),(.int .u64 (IntKind.u64.wrap a*IntKind.u64.wrap b % (18446744073709551616:Int)))]),M0) else some (.v (.agg #[(I (wI (IntKind.u64.wrap a*IntKind.u64.wrap b / (18446744073709551616:Int)))),(.int .u64 (IntKind.u64.wrap a*IntKind.u64.wrap b % (18446744073709551616:Int)))]),M0))) else none):=by kernel_rfl
def qAq (vs:List Value):Option (Bool×Value) :=
 match vs with
 | [.int .i64 a,.int .i64 b]=>some (inI a&&inI b,Wn (a*b))
 | _=>none
theorem qv7:CtV 316 qAq:=by
 intro vs r h
 unfold qAq at h
 split at h
 ·rename_i a b
  obtain ⟨h1,rfl⟩:=qac h
  refine qaA (vs:=[I a,I b]) (Λ:=L0) (m':=M0) qH9 Tryz.func316 rfl l00 ?_
  exact (qyZ a b).trans (by
   rw [qcQ,qcQ]
   rw [Bool.and_eq_true] at h1
   have k:=mulW a b h1.1 h1.2
   refine Eq.trans ?_ (vEq k)
   cases decide (a<0)<;>cases decide (b<0)<;>rfl)
 ·cases h
def ΓW14:Orc:=qah 316 qAq ΓW13
theorem qH8:ΓW14.Ok Tryz.prog:=qaa qH9 qv7
theorem qok (a b:Int) (o:Bool):runG ΓW14 L0 Tryz.prog Tryz.f320 [.v (Wd a b),.v (Bo o)] M0 =
 (bif !o then some (.v (.tuple #[(I 0),(Bo false)]),M0) else (bif inW a b then some (.v (.tuple #[(I (smI (wv a b))),(Bo (inI (wv a b)))]),M0) else none)):=by kernel_rfl
def qiD (vs:List Value):Option (Bool×Value) :=
 match vs with
 | [.agg ⟨[.int .i64 a,.int .u64 b]⟩,.bool o]=>some (inW a b,.tuple #[I (bif o then smI (wv a b) else 0),Bo (o&&inI (wv a b))])
 | _=>none
theorem ql2:CtV 320 qiD:=by
 intro vs r h
 unfold qiD at h
 split at h
 ·rename_i a b o
  obtain ⟨h1,rfl⟩:=qac h
  refine qaA (vs:=[Wd a b,Bo o]) (Λ:=L0) (m':=M0) qH8 Tryz.func320 rfl l00 ?_
  exact (qok a b o).trans (by
   cases o with
   | false=>rfl
   | true=>rw [h1];rfl)
 ·cases h
def ΓW15:Orc:=qah 320 qiD ΓW14
theorem qH7:ΓW15.Ok Tryz.prog:=qaa qH8 ql2
theorem qzz (a b:Int):runG ΓW15 L0 Tryz.prog Tryz.f261 [.v (I a),.v (I b)] M0 =
 (bif inI a then (bif inI b then (bif inW (hiW a) (loW a)&&inW (hiW b) (loW b) then (bif inW (hiW (wv (hiW a) (loW a)+wv (hiW b) (loW b))) (loW (wv (hiW a) (loW a)+wv (hiW b) (loW b))) then some (.v (.tuple #[(I (bif okW (wv (hiW a) (loW a)+wv (hiW b) (loW b)) then smI (wv (hiW (wv (hiW a) (loW a)+wv (hiW b) (loW b))) (loW (wv (hiW a) (loW a)+wv (hiW b) (loW b)))) else (0:Int))),(Bo (okW (wv (hiW a) (loW a)+wv (hiW b) (loW b))&&inI (wv (hiW (wv (hiW a) (loW a)+wv (hiW b) (loW b))) (loW (wv (hiW a) (loW a)+wv (hiW b) (loW b))))))]),M0) else none) else none) else none) else none):=by kernel_rfl
def qBN (vs:List Value):Option (Bool×Value) :=
 match vs with
 | [.int .i64 a,.int .i64 b]=>some (inI a&&inI b,.tuple #[I (smI (a+b)),Bo (inI (a+b))])
 | _=>none
theorem qwB:CtV 261 qBN:=by
 intro vs r h
 unfold qBN at h
 split at h
 ·rename_i a b
  obtain ⟨h1,rfl⟩:=qac h
  refine qaA (vs:=[I a,I b]) (Λ:=L0) (m':=M0) qH7 Tryz.func261 rfl l00 ?_
  exact (qzz a b).trans (by
   rw [Bool.and_eq_true] at h1
   have i1:=qa0.1 h1.1
   have i2:=qa0.1 h1.2
   obtain ⟨o,_,_⟩:=qel (n:=a+b) (by omega) (by omega)
   obtain ⟨e1,e2⟩:=qgM (qvm h1.1)
   obtain ⟨e3,e4⟩:=qgM (qvm h1.2)
   obtain ⟨e5,e6⟩:=qgM o
   rw [h1.1,h1.2,e1,e2,e3,e4,o,e5,e6]
   rfl)
 ·cases h
def ΓW16:Orc:=qah 261 qBN ΓW15
theorem qNg:ΓW16.Ok Tryz.prog:=qaa qH7 qwB
def ΓWd:Orc:=ΓW16
theorem qJd:ΓWd.Ok Tryz.prog:=qNg
end Go.Proofs.YtainfdcfkgemhaaGreat
namespace Go.Proofs.YtainfdcfkgemhaaGreat
open Go Go.Proofs Go.Sx
set_option linter.unusedVariables false
def MB (a b:Int) (R:List (List Dat)):Mem:=⟨[[.v (I a),.v (UU b)]],[true],[.live ⟨3,[.num .i64],R,true,false⟩]⟩
def qIv (R:List (List Dat)):Mem:=⟨[],[],[.live ⟨3,[.num .i64],R,true,false⟩]⟩
def qnN:Code:=Tryz.f381.body.getD .skip
def qd3:Code:=qaH qnN 0
def qd2:Code:=qaH qnN 1
theorem qra:qak qnN=[qd3,qd2]:=by kernel_rfl
theorem qoB:qak qd3=[]:=by kernel_rfl
theorem qoA:qak qd2=[]:=by kernel_rfl
theorem qtQ:qc4 qd3=3:=by kernel_rfl
theorem qtP:qc4 qd2=7:=by kernel_rfl
def qhe:List Bool:=qam 34 [1,3,4]
def qi9:List Bool:=qam 34 [1,3]
def qhd:List Bool:=qam 34 [1,3,5]
def qi8:List Bool:=qam 34 [3]
def qto (e:Ex) (st:St):Option (Ex×St):=some (e,qav 0 0 qi9 st)
def qtn (e:Ex) (st:St):Option (Ex×St):=some (e,qav 0 0 qi8 st)
def qts (a b i:Int) (R:List (List Dat)):St:=mk qhe [.ptr 0 0,.row 0,.v (I i)] (MB a b R)
def qtr (a b i:Int) (R:List (List Dat)):St:=mk qhd [.ptr 0 0,.row 0,.v (I i)] (MB a b R)
theorem qpH (a b i:Int) (R:List (List Dat)) (k:Nat):qaj ΓWd Tryz.prog L0 (qav 0 0 qhe) qd3 (k+1) (qts a b i R) qto =
 bif decide (i<64) then (bif decide (i<0) then none else bif qhZ R.length then qaj ΓWd Tryz.prog L0 (qav 0 0 qhe) qd3 k (qts a b (IntKind.i64.wrap (i+1)) (R++[[.n (bx b i)]])) qto else none) else some (.exit 0,mk qi9 [.ptr 0 0,.row 0] (MB a b R)):=by kernel_rfl
theorem qpG (a b i:Int) (R:List (List Dat)) (k:Nat):qaj ΓWd Tryz.prog L0 (qav 0 0 qhd) qd2 (k+1) (qtr a b i R) qtn =
 bif decide (i<64) then (bif decide (i<0) then none else bif qhZ R.length then qaj ΓWd Tryz.prog L0 (qav 0 0 qhd) qd2 k (qtr a b (IntKind.i64.wrap (i+1)) (R++[[.n (bx (IntKind.u64.wrap a) i)]])) qtn else none) else some (.exit 2,mk qi8 [.row 0] (qIv R)):=by kernel_rfl
def qtx (vals:List SV) (m:Mem):Option (Bool×Ex×St) :=
 match vals,m with
 | [.ptr 0 0,.row 0,.v (.int .i64 z)],⟨[[.v (.int .i64 a),.v (.int .u64 b)]],[true],[.live ⟨3,[.num .i64],[],true,false⟩]⟩=>some (inU b&&(z==0),.exit 0,mk qi9 [.ptr 0 0,.row 0] (MB a b (qaE (bl b 64))))
 | _,_=>none
def qtw (vals:List SV) (m:Mem):Option (Bool×Ex×St) :=
 match vals,m with
 | [.ptr 0 0,.row 0,.v (.int .i64 z)],⟨[[.v (.int .i64 a),.v (.int .u64 b)]],[true],[.live ⟨3,[.num .i64],R,true,false⟩]⟩=>some (inU b&&(z==0&&isT (R=qaE (bl b 64))),.exit 2,mk qi8 [.row 0] (qIv (qaE (bl (wu a b) 128))))
 | _,_=>none
def ΛBits:qao:=fun body st=>match qc4 body with
 | 3=>qeb 0 0 qhe qtx st
 | 7=>qeb 0 0 qhd qtw st
 | _=>none
theorem qlw (z:Base) (z1:z.L.length=0) (z2:z.U.length=0):qas ΛBits Tryz.prog z qd3:=by
 refine qaF (Λ:=L0) (kx:=fun _=>qi9) qJd mixed z1 z2 (fun b hb=>by rw [qoB] at hb;cases hb) (keep:=qhe) (G:=qtx) (fun st=>by unfold ΛBits;rw [qtQ];rfl) ?_
 intro vals m e st' h
 unfold qtx at h
 split at h
 ·rename_i z a b
  obtain ⟨h1,rfl,rfl⟩:=qaf h
  simp only [Bool.and_eq_true,beq_iff_eq] at h1
  obtain ⟨h1,rfl⟩:=h1
  rw [qbd] at h1
  refine ⟨65,?_⟩
  exact qnM b h1.1 h1.2 (fun k i R=>qaj ΓWd Tryz.prog L0 (qav 0 0 qhe) qd3 k (qts a b i R) qto) (fun R=>some (.exit 0,mk qi9 [.ptr 0 0,.row 0] (MB a b R))) (fun k i R=>qpH a b i R k) [] (by simp) 64 0 rfl
 ·cases h
theorem qlv (z:Base) (z1:z.L.length=0) (z2:z.U.length=0):qas ΛBits Tryz.prog z qd2:=by
 refine qaF (Λ:=L0) (kx:=fun _=>qi8) qJd mixed z1 z2 (fun b hb=>by rw [qoA] at hb;cases hb) (keep:=qhd) (G:=qtw) (fun st=>by unfold ΛBits;rw [qtP];rfl) ?_
 intro vals m e st' h
 unfold qtw at h
 split at h
 ·rename_i z a b R
  obtain ⟨h1,rfl,rfl⟩:=qaf h
  simp only [Bool.and_eq_true,beq_iff_eq,qcP] at h1
  obtain ⟨h1,rfl,rfl⟩:=h1
  rw [qbd] at h1
  have hu:=qbd.1 (qcQ a)
  refine ⟨65,?_⟩
  have:=qnM (IntKind.u64.wrap a) hu.1 hu.2 (fun k i R=>qaj ΓWd Tryz.prog L0 (qav 0 0 qhd) qd2 k (qtr a b i R) qtn) (fun R=>some (.exit 2,mk qi8 [.row 0] (qIv R))) (fun k i R=>qpG a b i R k) (bl b 64) (by rw [qbI];omega) 64 0 rfl
  rw [show bl (IntKind.u64.wrap a) 0=[] from rfl,List.append_nil,qCx _ _ h1.1 h1.2] at this
  exact this
 ·cases h
theorem qzB (a b:Int):runG ΓWd ΛBits Tryz.prog Tryz.f381 [.v (Wd a b)] M0 =
 bif inU b&&((0:Int)==0) then (bif inU b&&((0:Int)==0&&isT (qaE (bl b 64)=qaE (bl b 64))) then some (.row 0,qIv (qaE (bl (wu a b) 128))) else none) else none:=by kernel_rfl
def qB0 (xs:List SV) (m:Mem):Option (Bool×SV×Mem) :=
 match xs,m with
 | [.v (.agg ⟨[.int .i64 a,.int .u64 b]⟩)],⟨[],[],[]⟩=>some (inU b,.row 0,qIv (qaE (bl (wu a b) 128)))
 | _,_=>none
theorem qwE:CtC 381 qB0:=by
 intro xs m r m' h
 unfold qB0 at h
 split at h
 ·rename_i a b
  obtain ⟨h1,rfl,rfl⟩:=qaf h
  refine qal (Λ:=ΛBits) qJd Tryz.func381 rfl (fun z z1 z2 c hc=>?_) ?_
  ·have hc':c∈qak qnN:=hc
   rw [qra] at hc'
   rcases List.mem_cons.1 hc' with rfl|hc'
   ·exact qlw z z1 z2
   ·rw [List.mem_singleton] at hc'
    subst hc';exact qlv z z1 z2
  ·exact (qzB a b).trans (by rw [h1,beq_self_eq_true,qrl (show qaE (bl b 64)=qaE (bl b 64) from rfl)];rfl)
 ·cases h
def ΓR1:Orc:=qau 381 qB0 ΓWd
theorem OkR1:ΓR1.Ok Tryz.prog:=qad qJd qwE
def MV (lo:Int) (e:TypeId) (R:List (List Dat)) (own mark:Bool):Mem:=⟨[[.v (I 0),.v (UU 0)],[.v (I 0),.v (UU lo)]],[true,true],[.live ⟨e,[.num .i64],R,own,mark⟩]⟩
def qiR:Code:=qaH (Tryz.f382.body.getD .skip) 0
theorem qvt:qak (Tryz.f382.body.getD .skip)=[qiR]:=by kernel_rfl
theorem qq3:qak qiR=[]:=by kernel_rfl
def qx7:List Bool:=qam 36 [0,2,3,4,5]
def qJp:List Bool:=qam 36 [2,3,4]
def qDw (e:Ex) (st:St):Option (Ex×St):=some (e,qav 0 1 qJp st)
def qDx (t:TypeId) (R:List (List Dat)) (own mark:Bool) (lo hi i:Int):St:=mk qx7 [.row 0,.ptr 0 0,.ptr 1 0,.v (UU hi),.v (I i)] (MV lo t R own mark)
def qMI (t:TypeId) (R:List (List Dat)) (own mark:Bool) (lo hi:Int):St:=mk qJp [.ptr 0 0,.ptr 1 0,.v (UU hi)] (MV lo t R own mark)
theorem qyM (t:TypeId) (R:List (List Dat)) (own mark:Bool) (lo hi i:Int) (k:Nat):qaj ΓR1 Tryz.prog L0 (qav 0 1 qx7) qiR (k+1) (qDx t R own mark lo hi i) qDw =
 bif decide (i<64) then (bif inL R i then (bif qgR R i then (bif decide (i<0) then none else bif inL R (IntKind.i64.wrap (64+i)) then (bif qgR R (IntKind.i64.wrap (64+i)) then (bif decide (i<0) then none else qaj ΓR1 Tryz.prog L0 (qav 0 1 qx7) qiR k (qDx t R own mark (orV lo i) (orV hi i) (IntKind.i64.wrap (i+1))) qDw) else qaj ΓR1 Tryz.prog L0 (qav 0 1 qx7) qiR k (qDx t R own mark (orV lo i) hi (IntKind.i64.wrap (i+1))) qDw) else none)
  else (bif inL R (IntKind.i64.wrap (64+i)) then (bif qgR R (IntKind.i64.wrap (64+i)) then (bif decide (i<0) then none else qaj ΓR1 Tryz.prog L0 (qav 0 1 qx7) qiR k (qDx t R own mark lo (orV hi i) (IntKind.i64.wrap (i+1))) qDw) else qaj ΓR1 Tryz.prog L0 (qav 0 1 qx7) qiR k (qDx t R own mark lo hi (IntKind.i64.wrap (i+1))) qDw) else none)) else none) else some (.exit 0,qMI t R own mark lo hi):=by kernel_rfl
def unN (R:List (List Dat)):List Int:=qaL R
def qN8 (vals:List SV) (m:Mem):Option (Bool×Ex×St) :=
 match vals,m with
 | [.row 0,.ptr 0 0,.ptr 1 0,.v (.int .u64 hi),.v (.int .i64 i)],⟨[[.v (.int .i64 0),.v (.int .u64 0)],[.v (.int .i64 0),.v (.int .u64 lo)]],[true,true],[.live ⟨t,[.num .i64],R,own,mark⟩]⟩ =>
  some (isT (R.length=128∧R=qaE (unN R))&&(hi==0&&(lo==0&&(i==0))),.exit 0,qMI t R own mark (loL (unN R) 64) (hiL (unN R) 64))
 | _,_=>none
def ΛVal:qao:=fun _ st=>qeb 0 1 qx7 qN8 st
theorem qrc (z:Base) (z1:z.L.length=0) (z2:z.U.length=1):qas ΛVal Tryz.prog z qiR:=by
 refine qaF (Λ:=L0) (kx:=fun _=>qJp) OkR1 mixed z1 z2 (fun b hb=>by rw [qq3] at hb;cases hb) (G:=qN8) (fun _=>rfl) ?_
 intro vals m e st' h
 unfold qN8 at h
 split at h
 ·rename_i hi i lo t R own mark
  obtain ⟨h1,rfl,rfl⟩:=qaf h
  simp only [Bool.and_eq_true,beq_iff_eq,qcP] at h1
  obtain ⟨⟨h1,h2⟩,rfl,rfl,rfl⟩:=h1
  refine ⟨65,?_⟩
  have hl:(unN R).length=128:=by unfold unN qaL;rw [List.length_map];exact h1
  have:=qpp (unN R) hl (fun k lo hi i=>qaj ΓR1 Tryz.prog L0 (qav 0 1 qx7) qiR k (qDx t (qaE (unN R)) own mark lo hi i) qDw) (fun lo hi=>some (.exit 0,qMI t (qaE (unN R)) own mark lo hi)) (fun k lo hi i=>qyM t (qaE (unN R)) own mark lo hi i k) 64 0 rfl
  rw [← h2] at this
  exact this
 ·cases h
theorem qEp (t:TypeId) (R:List (List Dat)) (own mark:Bool):runG ΓR1 ΛVal Tryz.prog Tryz.f382 [.row 0] ⟨[],[],[.live ⟨t,[.num .i64],R,own,mark⟩]⟩ =
 bif isT (R.length=128∧R=qaE (unN R))&&((0:Int)==0&&((0:Int)==0&&((0:Int)==0))) then some (.v (Wd (IntKind.i64.wrap (hiL (unN R) 64)) (loL (unN R) 64)),⟨[],[],[.live ⟨t,[.num .i64],R,own,mark⟩]⟩) else none:=by kernel_rfl
def qLb (xs:List SV) (m:Mem):Option (Bool×Value) :=
 match xs,m with
 | [.row 0],⟨[],[],[.live ⟨t,[.num .i64],R,own,mark⟩]⟩=>some (isT (R.length=128∧R=qaE (unN R)),Wd (IntKind.i64.wrap (hiL (unN R) 64)) (loL (unN R) 64))
 | _,_=>none
theorem qAy:CtR 382 qLb:=by
 intro xs m r h
 unfold qLb at h
 split at h
 ·rename_i t R own mark
  obtain ⟨h1,rfl⟩:=qac h
  refine qal (Λ:=ΛVal) OkR1 Tryz.func382 rfl (fun z z1 z2=>qax (c:=Tryz.f382.body.getD .skip) qvt (qrc z z1 z2)) ?_
  exact (qEp t R own mark).trans (by rw [h1];rfl)
 ·cases h
def ΓR2:Orc:=qay 382 qLb ΓR1
theorem OkR2:ΓR2.Ok Tryz.prog:=qai OkR1 qAy
end Go.Proofs.YtainfdcfkgemhaaGreat
namespace Go.Proofs.YtainfdcfkgemhaaGreat
open Go Go.Proofs Go.Sx
set_option linter.unusedVariables false
def rwI (R:List (List Dat)):RowS:=.live ⟨3,[.num .i64],R,true,false⟩
def qDr:Code:=qaH (Tryz.f372.body.getD .skip) 0
theorem qz5:qak (Tryz.f372.body.getD .skip)=[qDr]:=by kernel_rfl
theorem qvx:qak qDr=[]:=by kernel_rfl
def kPl:List Bool:=qam 39 [4,5,6,7,8,9]
def xPl:List Bool:=qam 39 [4,7]
def KPl (e:Ex) (st:St):Option (Ex×St):=some (e,qav 0 0 xPl st)
def MPl (X Y R:List (List Dat)):Mem:=⟨[[.v (I 0),.v (UU 0)]],[true],[rwI X,rwI Y,rwI R]⟩
def HPl (X Y:List (List Dat)) (s i:Int) (R:List (List Dat)):St:=mk kPl [.ptr 0 0,.row 0,.row 1,.row 2,.v (I s),.v (I i)] (MPl X Y R)
def XPl (R:List (List Dat)):St:=mk xPl [.ptr 0 0,.row 0] ⟨[[.v (I 0),.v (UU 0)]],[true],[rwI R]⟩
theorem qEb (X Y R:List (List Dat)) (s i:Int) (k:Nat):qaj ΓR2 Tryz.prog L0 (qav 0 0 kPl) qDr (k+1) (HPl X Y s i R) KPl =
 bif decide (i<128) then (bif inL X i then (bif inL Y i then (bif qhZ R.length then qaj ΓR2 Tryz.prog L0 (qav 0 0 kPl) qDr k (HPl X Y (IntKind.i64.wrap ((sm X Y s i).tdiv 2)) (IntKind.i64.wrap (i+1)) (R++[[.n ((sm X Y s i).tmod 2)]])) KPl else none) else none) else none) else some (.exit 0,XPl R):=by kernel_rfl
def GPl (A B:Int) (vals:List SV) (m:Mem):Option (Bool×Ex×St) :=
 match vals,m with
 | [.ptr 0 0,.row 0,.row 1,.row 2,.v (.int .i64 s),.v (.int .i64 i)],⟨[[.v (.int .i64 0),.v (.int .u64 0)]],[true],[.live ⟨3,[.num .i64],X,true,false⟩,.live ⟨3,[.num .i64],Y,true,false⟩,.live ⟨3,[.num .i64],[],true,false⟩]⟩ =>
  some (isT (X=qaE (bl A 128)∧Y=qaE (bl B 128))&&(s==0&&(i==0)),.exit 0,XPl (qaE (bl (A+B) 128)))
 | _,_=>none
def ΛPl (A B:Int):qao:=fun _ st=>qeb 0 0 kPl (GPl A B) st
theorem qvM (A B:Int) (z:Base) (z1:z.L.length=0) (z2:z.U.length=0):qas (ΛPl A B) Tryz.prog z qDr:=by
 refine qaF (Λ:=L0) (kx:=fun _=>xPl) OkR2 mixed z1 z2 (fun b hb=>by rw [qvx] at hb;cases hb) (G:=GPl A B) (fun _=>rfl) ?_
 intro vals m e st' h
 unfold GPl at h
 split at h
 ·rename_i s i X Y
  obtain ⟨h1,rfl,rfl⟩:=qaf h
  simp only [Bool.and_eq_true,beq_iff_eq,qcP] at h1
  obtain ⟨⟨rfl,rfl⟩,rfl,rfl⟩:=h1
  refine ⟨129,?_⟩
  have:=qve A B (fun k s i R=>qaj ΓR2 Tryz.prog L0 (qav 0 0 kPl) qDr k (HPl (qaE (bl A 128)) (qaE (bl B 128)) s i R) KPl) (fun R=>some (.exit 0,XPl R)) (fun k s i R=>qEb (qaE (bl A 128)) (qaE (bl B 128)) R s i k) 128 0 rfl
  rw [qCq] at this
  exact this
 ·cases h
theorem qJ5 (a b c d:Int):runG ΓR2 (ΛPl (wu a b) (wu c d)) Tryz.prog Tryz.f372 [.v (Wd a b),.v (Wd c d)] M0 =
 same (bif inU b then (bif inU d then (bif isT (qaE (bl (wu a b) 128)=qaE (bl (wu a b) 128)∧qaE (bl (wu c d) 128)=qaE (bl (wu c d) 128))&&((0:Int)==0&&((0:Int)==0)) then (bif isT ((qaE (bl (wu a b+wu c d) 128)).length=128∧qaE (bl (wu a b+wu c d) 128)=qaE (unN (qaE (bl (wu a b+wu c d) 128)))) then
  some (.v (Wd (IntKind.i64.wrap (hiL (unN (qaE (bl (wu a b+wu c d) 128))) 64)) (loL (unN (qaE (bl (wu a b+wu c d) 128))) 64)),M0) else none) else none) else none) else none) (bif inU b then (bif inU d then (bif isT (qaE (bl (wu a b) 128)=qaE (bl (wu a b) 128)∧qaE (bl (wu c d) 128)=qaE (bl (wu c d) 128))&&((0:Int)==0&&((0:Int)==0)) then (bif isT ((qaE (bl (wu a b+wu c d) 128)).length=128∧qaE (bl (wu a b+wu c d) 128)=qaE (unN (qaE (bl (wu a b+wu c d) 128)))) then
  some (.v (Wd (IntKind.i64.wrap (hiL (unN (qaE (bl (wu a b+wu c d) 128))) 64)) (loL (unN (qaE (bl (wu a b+wu c d) 128))) 64)),M0) else none) else none) else none) else none):=by kernel_rfl
def gPl (vs:List Value):Option (Bool×Value) :=
 match vs with
 | [.agg ⟨[.int .i64 a,.int .u64 b]⟩,.agg ⟨[.int .i64 c,.int .u64 d]⟩]=>some (inU b&&inU d,pW (wv a b+wv c d))
 | _=>none
theorem qGS:CtV 372 gPl:=by
 intro vs r h
 unfold gPl at h
 split at h
 ·rename_i a b c d
  obtain ⟨h1,rfl⟩:=qac h
  rw [Bool.and_eq_true] at h1
  refine qaA (vs:=[Wd a b,Wd c d]) (Λ:=ΛPl (wu a b) (wu c d)) (m':=M0) OkR2 Tryz.func372 rfl (fun z z1 z2=>qax (c:=Tryz.f372.body.getD .skip) qz5 (qvM _ _ z z1 z2)) ?_
  refine (qJ5 a b c d).trans ?_
  have e:unN (qaE (bl (wu a b+wu c d) 128))=bl (wu a b+wu c d) 128:=qf9 _
  rw [h1.1,h1.2,qrl ⟨rfl,rfl⟩,e,qrl ⟨by rw [qcK,qbI],rfl⟩,qa1]
  exact vEq (qKD a b c d)
 ·cases h
def ΓQ1:Orc:=qah 372 gPl ΓR2
theorem OkQ1:ΓQ1.Ok Tryz.prog:=qaa OkR2 qGS
theorem qE3 (n:Int):runG ΓQ1 L0 Tryz.prog Tryz.f371 [.v (I n)] M0=bif decide (n<0) then some (.v (Wd (-1) (IntKind.u64.wrap n)),M0) else some (.v (Wd 0 (IntKind.u64.wrap n)),M0):=by kernel_rfl
def qLL (vs:List Value):Option (Bool×Value) :=
 match vs with
 | [.int .i64 n]=>some (inI n,Wn n)
 | _=>none
theorem qBd:CtV 371 qLL:=by
 intro vs r h
 unfold qLL at h
 split at h
 ·rename_i n
  obtain ⟨h1,rfl⟩:=qac h
  refine qaA (vs:=[I n]) (Λ:=L0) (m':=M0) OkQ1 Tryz.func371 rfl l00 ?_
  exact (qE3 n).trans (by
   rw [qa0] at h1
   obtain ⟨_,h2,h3⟩:=qel (n:=n) (by omega) (by omega)
   by_cases hn:n<0
   ·rw [decide_eq_true hn]
    exact vEq (qhA (by rw [h2];omega) (by rw [h3,wrU]))
   ·rw [decide_eq_false hn]
    exact vEq (qhA (by rw [h2];omega) (by rw [h3,wrU])))
 ·cases h
def ΓQ2:Orc:=qah 371 qLL ΓQ1
theorem OkQ2:ΓQ2.Ok Tryz.prog:=qaa OkQ1 qBd
theorem quG (a b:Int):runG ΓQ2 L0 Tryz.prog Tryz.f373 [.v (Wd a b)] M0=bif inU (IntKind.u64.wrap (-1 - b))&&inU 1 then some (.v (pW (wv (IntKind.i64.wrap (-1 - a)) (IntKind.u64.wrap (-1 - b))+wv 0 1)),M0) else none:=by kernel_rfl
def qrU (vs:List Value):Option (Bool×Value) :=
 match vs with
 | [.agg ⟨[.int .i64 a,.int .u64 b]⟩]=>some (inU b,pW (- wv a b))
 | _=>none
theorem qrT:CtV 373 qrU:=by
 intro vs r h
 unfold qrU at h
 split at h
 ·rename_i a b
  obtain ⟨h1,rfl⟩:=qac h
  refine qaA (vs:=[Wd a b]) (Λ:=L0) (m':=M0) OkQ2 Tryz.func373 rfl l00 ?_
  exact (quG a b).trans (by
   obtain ⟨e1,e2⟩:=qMo a b h1
   rw [e1,show inU 1=true from rfl]
   refine vEq (qF4 ?_)
   rw [show wv 0 1=1 from rfl]
   omega)
 ·cases h
def ΓQ3:Orc:=qah 373 qrU ΓQ2
theorem OkQ3:ΓQ3.Ok Tryz.prog:=qaa OkQ2 qrT
theorem qzg (a b c d:Int):runG ΓQ3 L0 Tryz.prog Tryz.f357 [.v (Wd a b),.v (Wd c d)] M0 =
 (bif decide (a<c) then some (.v (I (-1)),M0) else (bif a==c then (bif decide (b<d) then some (.v (I (-1)),M0) else (bif a==c&&(b==d&&true) then some (.v (I 0),M0) else some (.v (I 1),M0))) else (bif a==c&&(b==d&&true) then some (.v (I 0),M0) else some (.v (I 1),M0)))):=by kernel_rfl
def qBf (vs:List Value):Option (Bool×Value) :=
 match vs with
 | [.agg ⟨[.int .i64 a,.int .u64 b]⟩,.agg ⟨[.int .i64 c,.int .u64 d]⟩]=>some (inW a b&&inW c d,I (qgU (wv a b) (wv c d)))
 | _=>none
theorem qwm:CtV 357 qBf:=by
 intro vs r h
 unfold qBf at h
 split at h
 ·rename_i a b c d
  obtain ⟨h1,rfl⟩:=qac h
  refine qaA (vs:=[Wd a b,Wd c d]) (Λ:=L0) (m':=M0) OkQ3 Tryz.func357 rfl l00 ?_
  exact (qzg a b c d).trans (by
   rw [Bool.and_eq_true] at h1
   rw [← cmpR h1.1 h1.2]
   cases decide (a<c)<;>cases a==c<;>cases decide (b<d)<;>cases b==d<;>rfl)
 ·cases h
def ΓQ4:Orc:=qah 357 qBf ΓQ3
theorem OkQ4:ΓQ4.Ok Tryz.prog:=qaa OkQ3 qwm
def qCD:Code:=qaH (Tryz.f358.body.getD .skip) 0
theorem qz6:qak (Tryz.f358.body.getD .skip)=[qCD]:=by kernel_rfl
theorem qvy:qak qCD=[]:=by kernel_rfl
def kMu:List Bool:=qam 36 [1,4,5,6,7,8]
def xMu:List Bool:=qam 36 [1,4,5,6]
def KMu (e:Ex) (st:St):Option (Ex×St):=some (e,qav 0 0 xMu st)
def MMu (oa ob xa xb ya yb:Int):Mem:=⟨[[.v (I oa),.v (UU ob)],[.v (I xa),.v (UU xb)],[.v (I ya),.v (UU yb)]],[true,true,true],[]⟩
def HMu (b n oa ob i xa xb ya yb:Int):St:=mk kMu [.v (I b),.ptr 0 0,.ptr 1 0,.ptr 2 0,.v (UU n),.v (I i)] (MMu oa ob xa xb ya yb)
def XMu (b oa ob xa xb ya yb:Int):St:=mk xMu [.v (I b),.ptr 0 0,.ptr 1 0,.ptr 2 0] (MMu oa ob xa xb ya yb)
theorem qEc (b n oa ob i xa xb ya yb:Int) (k:Nat):qaj ΓQ4 Tryz.prog L0 (qav 0 0 kMu) qCD (k+1) (HMu b n oa ob i xa xb ya yb) KMu =
 bif decide (i<64) then (bif decide (i<0) then none else (bif bu n i==1 then (bif inU yb&&inU xb then (bif inU xb&&inU xb then qaj ΓQ4 Tryz.prog L0 (qav 0 0 kMu) qCD k (HMu b n oa ob (IntKind.i64.wrap (i+1)) (pHi (wv xa xb+wv xa xb)) (pLo (wv xa xb+wv xa xb)) (pHi (wv ya yb+wv xa xb)) (pLo (wv ya yb+wv xa xb))) KMu else none) else none)
  else (bif inU xb&&inU xb then qaj ΓQ4 Tryz.prog L0 (qav 0 0 kMu) qCD k (HMu b n oa ob (IntKind.i64.wrap (i+1)) (pHi (wv xa xb+wv xa xb)) (pLo (wv xa xb+wv xa xb)) ya yb) KMu else none))) else some (.exit 0,XMu b oa ob xa xb ya yb):=by kernel_rfl
def GMu (vals:List SV) (m:Mem):Option (Bool×Ex×St) :=
 match vals,m with
 | [.v (.int .i64 b),.ptr 0 0,.ptr 1 0,.ptr 2 0,.v (.int .u64 n),.v (.int .i64 i)],⟨[[.v (.int .i64 oa),.v (.int .u64 ob)],[.v (.int .i64 xa),.v (.int .u64 xb)],[.v (.int .i64 ya),.v (.int .u64 yb)]],[true,true,true],[]⟩ =>
  some (inW xa xb&&(inU n&&(i==0&&(ya==0&&yb==0))),.exit 0,XMu b oa ob (pHi (wv xa xb*2 ^ 64)) (pLo (wv xa xb*2 ^ 64)) (pHi (wv xa xb*(n % 2 ^ 64))) (pLo (wv xa xb*(n % 2 ^ 64))))
 | _,_=>none
def ΛMu:qao:=fun _ st=>qeb 0 0 kMu GMu st
theorem qvN (z:Base) (z1:z.L.length=0) (z2:z.U.length=0):qas ΛMu Tryz.prog z qCD:=by
 refine qaF (Λ:=L0) (kx:=fun _=>xMu) OkQ4 mixed z1 z2 (fun b hb=>by rw [qvy] at hb;cases hb) (G:=GMu) (fun _=>rfl) ?_
 intro vals m e st' h
 unfold GMu at h
 split at h
 ·rename_i b n i oa ob xa xb ya yb
  obtain ⟨h1,rfl,rfl⟩:=qaf h
  simp only [Bool.and_eq_true,beq_iff_eq] at h1
  obtain ⟨g1,g2,rfl,rfl,rfl⟩:=h1
  rw [qbd] at g2
  have:=qzS n (wv xa xb) g2.1 g2.2 (fun k i xa xb ya yb=>qaj ΓQ4 Tryz.prog L0 (qav 0 0 kMu) qCD k (HMu b n oa ob i xa xb ya yb) KMu) (fun xa xb ya yb=>some (.exit 0,XMu b oa ob xa xb ya yb)) (fun k i xa xb ya yb=>qEc b n oa ob i xa xb ya yb k) 64 0 rfl
  refine ⟨65,?_⟩
  rw [Int.pow_zero,Int.mul_one,Int.emod_one,Int.mul_zero,(qxX g1).1,(qxX g1).2] at this
  exact this
 ·cases h
theorem qJ9 (a b:Int):runG ΓQ4 ΛMu Tryz.prog Tryz.f358 [.v (I a),.v (I b)] M0 =
 bif inI a then
  (bif inW (hiW a) (loW a)&&(inU (IntKind.u64.wrap b)&&((0:Int)==0&&((0:Int)==0&&(0:Int)==0))) then
   (bif decide (b<0) then
    (bif inU (pLo (wv (hiW a) (loW a)*2 ^ 64)) then
     (bif inU (pLo (wv (hiW a) (loW a)*(IntKind.u64.wrap b % 2 ^ 64)))&&inU (pLo (-wv (pHi (wv (hiW a) (loW a)*2 ^ 64)) (pLo (wv (hiW a) (loW a)*2 ^ 64)))) then
      some (.v (pW (wv (pHi (wv (hiW a) (loW a)*(IntKind.u64.wrap b % 2 ^ 64))) (pLo (wv (hiW a) (loW a)*(IntKind.u64.wrap b % 2 ^ 64)))+wv (pHi (-wv (pHi (wv (hiW a) (loW a)*2 ^ 64)) (pLo (wv (hiW a) (loW a)*2 ^ 64)))) (pLo (-wv (pHi (wv (hiW a) (loW a)*2 ^ 64)) (pLo (wv (hiW a) (loW a)*2 ^ 64)))))),M0)
     else none)
    else none)
   else some (.v (Wd (pHi (wv (hiW a) (loW a)*(IntKind.u64.wrap b % 2 ^ 64))) (pLo (wv (hiW a) (loW a)*(IntKind.u64.wrap b % 2 ^ 64)))),M0))
  else none)
 else none:=by kernel_rfl
def gMu (vs:List Value):Option (Bool×Value) :=
 match vs with
 | [.int .i64 a,.int .i64 b]=>some (inI a&&inI b,pW (a*b))
 | _=>none
theorem qGU:CtV 358 gMu:=by
 intro vs r h
 unfold gMu at h
 split at h
 ·rename_i a b
  obtain ⟨h1,rfl⟩:=qac h
  rw [Bool.and_eq_true] at h1
  obtain ⟨h1,h2⟩:=h1
  refine qaA (vs:=[I a,I b]) (Λ:=ΛMu) (m':=M0) OkQ4 Tryz.func358 rfl (fun z z1 z2=>qax (c:=Tryz.f358.body.getD .skip) qz6 (qvN z z1 z2)) ?_
  refine (qJ9 a b).trans ?_
  obtain ⟨e1,e2⟩:=qgM (qvm h1)
  rw [h1,e1,e2,qcQ,qgm,qgm,qgm]
  simp only [BEq.rfl,Bool.and_self,cond_true]
  rw [qa0] at h2
  have e64:(2:Int) ^ 64=18446744073709551616:=by decide
  rw [e64]
  have em:IntKind.u64.wrap b % 18446744073709551616=b % 18446744073709551616:=by rw [wrU];omega
  rw [em]
  by_cases hb:b<0
  ·simp only [hb,decide_true,cond_true]
   refine vEq (qF4 ?_)
   have q1:=qyE (a*(b % 18446744073709551616))
   have q2:=qyE (-wv (pHi (a*18446744073709551616)) (pLo (a*18446744073709551616)))
   have q3:=qyE (a*18446744073709551616)
   have:b % 18446744073709551616=b+18446744073709551616:=by omega
   rw [this,Int.mul_add] at q1 ⊢
   omega
  ·simp only [hb,decide_false,cond_false]
   have:b % 18446744073709551616=b:=by omega
   rw [this]
 ·cases h
def ΓQ5:Orc:=qah 358 gMu ΓQ4
theorem OkQ5:ΓQ5.Ok Tryz.prog:=qaa OkQ4 qGU
def ΓRf:Orc:=ΓQ5
theorem qPa:ΓRf.Ok Tryz.prog:=OkQ5
end Go.Proofs.YtainfdcfkgemhaaGreat
namespace Go.Proofs.YtainfdcfkgemhaaGreat
open Go Go.Proofs Go.Sx
set_option linter.unusedVariables false
theorem vB {x y:Bool} (h:x=y):(some (SV.v (Bo x),M0):Option (SV×Mem))=some (.v (Bo y),M0):=by rw [h]
theorem vI {x y:Int} (h:x=y):(some (SV.v (I x),M0):Option (SV×Mem))=some (.v (I y),M0):=by rw [h]
theorem qFG (x a b:Int):runG ΓRf L0 Tryz.prog Tryz.f333 [.v (I x),.v (I a),.v (I b)] M0 =
 (bif decide (a≤x) then some (.v (Bo (decide (x≤b))),M0) else some (.v (Bo false),M0)):=by kernel_rfl
def qMf (vs:List Value):Option (Bool×Value) :=
 match vs with
 | [.int .i64 x,.int .i64 a,.int .i64 b]=>some (true,Bo (decide (a≤x)&&decide (x≤b)))
 | _=>none
theorem qBX:CtV 333 qMf:=by
 intro vs r h
 unfold qMf at h
 split at h
 ·rename_i x a b
  obtain ⟨h1,rfl⟩:=qac h
  refine qaA (vs:=[I x,I a,I b]) (Λ:=L0) (m':=M0) qPa Tryz.func333 rfl l00 ?_
  exact (qFG x a b).trans (by cases decide (a≤x)<;>rfl)
 ·cases h
def ΓP1:Orc:=qah 333 qMf ΓRf
theorem OkP1:ΓP1.Ok Tryz.prog:=qaa qPa qBX
theorem qp3 (a1 a2:Int):runG ΓP1 L0 Tryz.prog Tryz.f295 [.v (.agg #[I a1,I a2])] M0 =
 (bif decide ((-1099511627776:Int)≤a1)&&decide (a1≤(1099511627776:Int)) then some (.v (Bo (decide ((-1099511627776:Int)≤a2)&&decide (a2≤(1099511627776:Int)))),M0) else some (.v (Bo false),M0)):=by kernel_rfl
def qlS (vs:List Value):Option (Bool×Value) :=
 match vs with
 | [.agg ⟨[.int .i64 a1,.int .i64 a2]⟩]=>some (true,Bo (plR a1 a2))
 | _=>none
theorem qoR:CtV 295 qlS:=by
 intro vs r h
 unfold qlS at h
 split at h
 ·rename_i a1 a2
  obtain ⟨h1,rfl⟩:=qac h
  refine qaA (vs:=[.agg #[I a1,I a2]]) (Λ:=L0) (m':=M0) OkP1 Tryz.func295 rfl l00 ?_
  exact (qp3 a1 a2).trans (by
   unfold plR
   by_cases h1:-1099511627776≤a1<;>by_cases h2:a1≤1099511627776<;>by_cases h3:-1099511627776≤a2<;>by_cases h4:a2≤1099511627776<;>simp [h1,h2,h3,h4])
 ·cases h
def ΓP2:Orc:=qah 295 qlS ΓP1
theorem OkP2:ΓP2.Ok Tryz.prog:=qaa OkP1 qoR
theorem qoc (a1 a2:Int):runG ΓP2 L0 Tryz.prog Tryz.f288 [.v (.agg #[I a1,I a2])] M0 =
 (bif decide (a1≥(-1099511627776:Int)) then (bif decide (a1≤(1099511627776:Int)) then (bif decide (a2≥(-1099511627776:Int)) then some (.v (Bo (decide (a2≤(1099511627776:Int)))),M0) else some (.v (Bo false),M0)) else some (.v (Bo false),M0)) else some (.v (Bo false),M0)):=by kernel_rfl
def qix (vs:List Value):Option (Bool×Value) :=
 match vs with
 | [.agg ⟨[.int .i64 a1,.int .i64 a2]⟩]=>some (true,Bo (plR a1 a2))
 | _=>none
theorem qlP:CtV 288 qix:=by
 intro vs r h
 unfold qix at h
 split at h
 ·rename_i a1 a2
  obtain ⟨h1,rfl⟩:=qac h
  refine qaA (vs:=[.agg #[I a1,I a2]]) (Λ:=L0) (m':=M0) OkP2 Tryz.func288 rfl l00 ?_
  exact (qoc a1 a2).trans (by
   unfold plR
   by_cases h1:-1099511627776≤a1<;>by_cases h2:a1≤1099511627776<;>by_cases h3:-1099511627776≤a2<;>by_cases h4:a2≤1099511627776<;>simp [h1,h2,h3,h4])
 ·cases h
def ΓP3:Orc:=qah 288 qix ΓP2
theorem OkP3:ΓP3.Ok Tryz.prog:=qaa OkP2 qlP
theorem qu8 (t:TypeId) (a1 a2 b1 b2:Int) (own mark:Bool):runG ΓP3 L0 Tryz.prog Tryz.f340 [.row 0] ⟨[],[],[.live ⟨t,[.num .i64,.num .i64],[[.n a1,.n a2],[.n b1,.n b2]],own,mark⟩]⟩=(bif !plR a1 a2 then some (.v (Bo false),⟨[],[],[.live ⟨t,[.num .i64,.num .i64],[[.n a1,.n a2],[.n b1,.n b2]],own,mark⟩]⟩) else (bif !plR b1 b2 then some (.v (Bo false),⟨[],[],[.live ⟨t,[.num .i64,.num .i64],[[.n a1,.n a2],[.n b1,.n b2]],own,mark⟩]⟩) else some (.v (Bo true),⟨[],[],[.live ⟨t,[.num .i64,.num .i64],[[.n a1,.n a2],[.n b1,.n b2]],own,mark⟩]⟩))):=by kernel_rfl
theorem qu7 (t:TypeId) (a1 a2 b1 b2 c1 c2:Int) (own mark:Bool):runG ΓP3 L0 Tryz.prog Tryz.f340 [.row 0] ⟨[],[],[.live ⟨t,[.num .i64,.num .i64],[[.n a1,.n a2],[.n b1,.n b2],[.n c1,.n c2]],own,mark⟩]⟩=(bif !plR a1 a2 then some (.v (Bo false),⟨[],[],[.live ⟨t,[.num .i64,.num .i64],[[.n a1,.n a2],[.n b1,.n b2],[.n c1,.n c2]],own,mark⟩]⟩) else (bif !plR b1 b2 then some (.v (Bo false),⟨[],[],[.live ⟨t,[.num .i64,.num .i64],[[.n a1,.n a2],[.n b1,.n b2],[.n c1,.n c2]],own,mark⟩]⟩) else (bif !plR c1 c2 then some (.v (Bo false),⟨[],[],[.live ⟨t,[.num .i64,.num .i64],[[.n a1,.n a2],[.n b1,.n b2],[.n c1,.n c2]],own,mark⟩]⟩) else some (.v (Bo true),⟨[],[],[.live ⟨t,[.num .i64,.num .i64],[[.n a1,.n a2],[.n b1,.n b2],[.n c1,.n c2]],own,mark⟩]⟩)))):=by kernel_rfl
theorem qu6 (t:TypeId) (a1 a2 b1 b2 c1 c2 d1 d2:Int) (own mark:Bool):runG ΓP3 L0 Tryz.prog Tryz.f340 [.row 0] ⟨[],[],[.live ⟨t,[.num .i64,.num .i64],[[.n a1,.n a2],[.n b1,.n b2],[.n c1,.n c2],[.n d1,.n d2]],own,mark⟩]⟩=(bif !plR a1 a2 then some (.v (Bo false),⟨[],[],[.live ⟨t,[.num .i64,.num .i64],[[.n a1,.n a2],[.n b1,.n b2],[.n c1,.n c2],[.n d1,.n d2]],own,mark⟩]⟩) else (bif !plR b1 b2 then some (.v (Bo false),⟨[],[],[.live ⟨t,[.num .i64,.num .i64],[[.n a1,.n a2],[.n b1,.n b2],[.n c1,.n c2],[.n d1,.n d2]],own,mark⟩]⟩) else (bif !plR c1 c2 then some (.v (Bo false),⟨[],[],[.live ⟨t,[.num .i64,.num .i64],[[.n a1,.n a2],[.n b1,.n b2],[.n c1,.n c2],[.n d1,.n d2]],own,mark⟩]⟩) else (bif !plR d1 d2 then some (.v (Bo false),⟨[],[],[.live ⟨t,[.num .i64,.num .i64],[[.n a1,.n a2],[.n b1,.n b2],[.n c1,.n c2],[.n d1,.n d2]],own,mark⟩]⟩) else some (.v (Bo true),⟨[],[],[.live ⟨t,[.num .i64,.num .i64],[[.n a1,.n a2],[.n b1,.n b2],[.n c1,.n c2],[.n d1,.n d2]],own,mark⟩]⟩))))):=by kernel_rfl
def qB8 (xs:List SV) (m:Mem):Option (Bool×Value) :=
 match xs,m with
 | [.row 0],⟨[],[],[.live ⟨t,[.num .i64,.num .i64],[[.n a1,.n a2],[.n b1,.n b2]],own,mark⟩]⟩=>some (true,Bo ((plR a1 a2&&plR b1 b2)))
 | [.row 0],⟨[],[],[.live ⟨t,[.num .i64,.num .i64],[[.n a1,.n a2],[.n b1,.n b2],[.n c1,.n c2]],own,mark⟩]⟩=>some (true,Bo ((plR a1 a2&&(plR b1 b2&&plR c1 c2))))
 | [.row 0],⟨[],[],[.live ⟨t,[.num .i64,.num .i64],[[.n a1,.n a2],[.n b1,.n b2],[.n c1,.n c2],[.n d1,.n d2]],own,mark⟩]⟩=>some (true,Bo ((plR a1 a2&&(plR b1 b2&&(plR c1 c2&&plR d1 d2)))))
 | _,_=>none
theorem qwG:CtR 340 qB8:=by
 intro xs m r h
 unfold qB8 at h
 split at h
 ·rename_i t a1 a2 b1 b2 own mark
  obtain ⟨h1,rfl⟩:=qac h
  refine qal (Λ:=L0) OkP3 Tryz.func340 rfl l00 ?_
  exact (qu8 t a1 a2 b1 b2 own mark).trans (by cases plR a1 a2<;>cases plR b1 b2<;>rfl)
 ·rename_i t a1 a2 b1 b2 c1 c2 own mark
  obtain ⟨h1,rfl⟩:=qac h
  refine qal (Λ:=L0) OkP3 Tryz.func340 rfl l00 ?_
  exact (qu7 t a1 a2 b1 b2 c1 c2 own mark).trans (by cases plR a1 a2<;>cases plR b1 b2<;>cases plR c1 c2<;>rfl)
 ·rename_i t a1 a2 b1 b2 c1 c2 d1 d2 own mark
  obtain ⟨h1,rfl⟩:=qac h
  refine qal (Λ:=L0) OkP3 Tryz.func340 rfl l00 ?_
  exact (qu6 t a1 a2 b1 b2 c1 c2 d1 d2 own mark).trans (by cases plR a1 a2<;>cases plR b1 b2<;>cases plR c1 c2<;>cases plR d1 d2<;>rfl)
 ·cases h
def ΓP4:Orc:=qay 340 qB8 ΓP3
theorem OkP4:ΓP4.Ok Tryz.prog:=qai OkP3 qwG
theorem qy4 (a1 a2 b1 b2 c1 c2:Int):runG ΓP4 L0 Tryz.prog Tryz.f341 [.v (.agg #[I a1,I a2]),.v (.agg #[I b1,I b2]),.v (.agg #[I c1,I c2])] M0 =
 (bif !(plR a1 a2&&(plR b1 b2&&plR c1 c2)) then some (.v (I 0),M0) else (bif inI (wI (b1 - a1))&&inI (wI (c2 - a2)) then (bif inI (wI (b2 - a2))&&inI (wI (c1 - a1)) then (bif inW (hiW (wI (b1 - a1)*wI (c2 - a2))) (loW (wI (b1 - a1)*wI (c2 - a2)))&&inW (hiW (wI (b2 - a2)*wI (c1 - a1))) (loW (wI (b2 - a2)*wI (c1 - a1))) then some (.v (I (qgU (wv (hiW (wI (b1 - a1)*wI (c2 - a2))) (loW (wI (b1 - a1)*wI (c2 - a2)))) (wv (hiW (wI (b2 - a2)*wI (c1 - a1))) (loW (wI (b2 - a2)*wI (c1 - a1)))))),M0) else none) else none) else none)):=by kernel_rfl
def qAF (vs:List Value):Option (Bool×Value) :=
 match vs with
 | [.agg ⟨[.int .i64 a1,.int .i64 a2]⟩,.agg ⟨[.int .i64 b1,.int .i64 b2]⟩,.agg ⟨[.int .i64 c1,.int .i64 c2]⟩]=>some (true,I (qbc a1 a2 b1 b2 c1 c2))
 | _=>none
theorem qwc:CtV 341 qAF:=by
 intro vs r h
 unfold qAF at h
 split at h
 ·rename_i a1 a2 b1 b2 c1 c2
  obtain ⟨h1,rfl⟩:=qac h
  refine qaA (vs:=[.agg #[I a1,I a2],.agg #[I b1,I b2],.agg #[I c1,I c2]]) (Λ:=L0) (m':=M0) OkP4 Tryz.func341 rfl l00 ?_
  exact (qy4 a1 a2 b1 b2 c1 c2).trans (by
   have m1:=qh9 (qaX (b1 - a1)) (qaX (c2 - a2))
   have m2:=qh9 (qaX (b2 - a2)) (qaX (c1 - a1))
   cases h:plR a1 a2&&(plR b1 b2&&plR c1 c2) with
   | false=>exact vI (by unfold qbc;rw [h];rfl)
   | true =>
    rw [← qgY h]
    have i1:inI (wI (b1 - a1))=true:=qaX _
    have i2:inI (wI (c2 - a2))=true:=qaX _
    have i3:inI (wI (b2 - a2))=true:=qaX _
    have i4:inI (wI (c1 - a1))=true:=qaX _
    have w1:wv (hiW (wI (b1 - a1)*wI (c2 - a2))) (loW (wI (b1 - a1)*wI (c2 - a2)))=wI (b1 - a1)*wI (c2 - a2):=(qgM m1).1
    have w2:wv (hiW (wI (b2 - a2)*wI (c1 - a1))) (loW (wI (b2 - a2)*wI (c1 - a1)))=wI (b2 - a2)*wI (c1 - a1):=(qgM m2).1
    rw [i1,i2,i3,i4,qnj,qnj,w1,w2]
    rfl)
 ·cases h
def ΓP5:Orc:=qah 341 qAF ΓP4
theorem qPk:ΓP5.Ok Tryz.prog:=qaa OkP4 qwc
theorem qJ6 (p1 p2 a1 a2 b1 b2:Int):runG ΓP5 L0 Tryz.prog Tryz.f304 [.v (.agg #[I p1,I p2]),.v (.agg #[I a1,I a2]),.v (.agg #[I b1,I b2])] M0 =
 (bif !(plR p1 p2&&(plR a1 a2&&plR b1 b2)) then some (.v (Bo false),M0) else (bif qbc a1 a2 b1 b2 p1 p2 != (0:Int) then some (.v (Bo false),M0) else (bif decide ((if b1<a1 then b1 else a1)≤p1)&&decide (p1≤if b1>a1 then b1 else a1) then some (.v (Bo (decide ((if b2<a2 then b2 else a2)≤p2)&&decide (p2≤if b2>a2 then b2 else a2))),M0) else some (.v (Bo false),M0)))):=by kernel_rfl
def gOn (vs:List Value):Option (Bool×Value) :=
 match vs with
 | [.agg ⟨[.int .i64 p1,.int .i64 p2]⟩,.agg ⟨[.int .i64 a1,.int .i64 a2]⟩,.agg ⟨[.int .i64 b1,.int .i64 b2]⟩]=>some (true,Bo (onB p1 p2 a1 a2 b1 b2))
 | _=>none
theorem qGT:CtV 304 gOn:=by
 intro vs r h
 unfold gOn at h
 split at h
 ·rename_i p1 p2 a1 a2 b1 b2
  obtain ⟨h1,rfl⟩:=qac h
  refine qaA (vs:=[.agg #[I p1,I p2],.agg #[I a1,I a2],.agg #[I b1,I b2]]) (Λ:=L0) (m':=M0) qPk Tryz.func304 rfl l00 ?_
  exact (qJ6 p1 p2 a1 a2 b1 b2).trans (by
   unfold onB btw
   cases plR p1 p2&&(plR a1 a2&&plR b1 b2) with
   | false=>rfl
   | true =>
    by_cases ht:qbc a1 a2 b1 b2 p1 p2=0
    ·rw [ht]
     cases decide ((if b1<a1 then b1 else a1)≤p1)&&decide (p1≤if b1>a1 then b1 else a1)<;>rfl
    ·rw [bne_iff_ne.2 ht,beq_eq_false_iff_ne.2 ht]
     rfl)
 ·cases h
def ΓP6:Orc:=qah 304 gOn ΓP5
theorem qPj:ΓP6.Ok Tryz.prog:=qaa qPk qGT
theorem qzq (a1 a2 b1 b2 c1 c2 d1 d2:Int):runG ΓP6 L0 Tryz.prog Tryz.f339 [.v (.agg #[I a1,I a2]),.v (.agg #[I b1,I b2]),.v (.agg #[I c1,I c2]),.v (.agg #[I d1,I d2])] M0 =
 (bif !(plR a1 a2&&(plR b1 b2&&(plR c1 c2&&plR d1 d2))) then some (.v (Bo false),M0) else (bif onB a1 a2 c1 c2 d1 d2 then some (.v (Bo true),M0) else (bif onB b1 b2 c1 c2 d1 d2 then some (.v (Bo true),M0) else (bif onB c1 c2 a1 a2 b1 b2 then some (.v (Bo true),M0) else (bif onB d1 d2 a1 a2 b1 b2 then some (.v (Bo true),M0) else (bif decide (wI (qbc a1 a2 b1 b2 c1 c2*qbc a1 a2 b1 b2 d1 d2)<(0:Int)) then some (.v (Bo (decide (wI (qbc c1 c2 d1 d2 a1 a2*qbc c1 c2 d1 d2 b1 b2)<(0:Int)))),M0) else some (.v (Bo false),M0))))))):=by kernel_rfl
def qBy (vs:List Value):Option (Bool×Value) :=
 match vs with
 | [.agg ⟨[.int .i64 a1,.int .i64 a2]⟩,.agg ⟨[.int .i64 b1,.int .i64 b2]⟩,.agg ⟨[.int .i64 c1,.int .i64 c2]⟩,.agg ⟨[.int .i64 d1,.int .i64 d2]⟩]=>some (true,Bo (qcb a1 a2 b1 b2 c1 c2 d1 d2))
 | _=>none
theorem qwu:CtV 339 qBy:=by
 intro vs r h
 unfold qBy at h
 split at h
 ·rename_i a1 a2 b1 b2 c1 c2 d1 d2
  obtain ⟨h1,rfl⟩:=qac h
  refine qaA (vs:=[.agg #[I a1,I a2],.agg #[I b1,I b2],.agg #[I c1,I c2],.agg #[I d1,I d2]]) (Λ:=L0) (m':=M0) qPj Tryz.func339 rfl l00 ?_
  exact (qzq a1 a2 b1 b2 c1 c2 d1 d2).trans (by
   unfold qcb qsU
   cases plR a1 a2&&(plR b1 b2&&(plR c1 c2&&plR d1 d2))
   ·rfl
   cases onB a1 a2 c1 c2 d1 d2
   ·cases onB b1 b2 c1 c2 d1 d2
    ·cases onB c1 c2 a1 a2 b1 b2
     ·cases onB d1 d2 a1 a2 b1 b2
      ·cases decide (wI (qbc a1 a2 b1 b2 c1 c2*qbc a1 a2 b1 b2 d1 d2)<0)<;>rfl
      ·rfl
     ·rfl
    ·rfl
   ·rfl)
 ·cases h
def ΓP7:Orc:=qah 339 qBy ΓP6
theorem OkP7:ΓP7.Ok Tryz.prog:=qaa qPj qwu
def ΓP8:Orc:=ΓP7
theorem qPi:ΓP8.Ok Tryz.prog:=OkP7
theorem quC (a1 a2 b1 b2 c1 c2:Int):runG ΓP8 L0 Tryz.prog Tryz.f332 [.v (.agg #[I a1,I a2]),.v (.agg #[I b1,I b2]),.v (.agg #[I c1,I c2])] M0 =
 (bif !plR a1 a2 then some (.v (I 0),M0) else (bif !plR b1 b2 then some (.v (I 0),M0) else (bif !plR c1 c2 then some (.v (I 0),M0) else (bif inI (wI (b1 - a1))&&inI (wI (c2 - a2)) then (bif inI (wI (b2 - a2))&&inI (wI (c1 - a1)) then (bif inW (pHi (wI (b1 - a1)*wI (c2 - a2))) (pLo (wI (b1 - a1)*wI (c2 - a2)))&&inW (pHi (wI (b2 - a2)*wI (c1 - a1))) (pLo (wI (b2 - a2)*wI (c1 - a1))) then some (.v (I (qgU (wv (pHi (wI (b1 - a1)*wI (c2 - a2))) (pLo (wI (b1 - a1)*wI (c2 - a2)))) (wv (pHi (wI (b2 - a2)*wI (c1 - a1))) (pLo (wI (b2 - a2)*wI (c1 - a1)))))),M0) else none) else none) else none)))):=by kernel_rfl
def qrO (vs:List Value):Option (Bool×Value) :=
 match vs with
 | [.agg ⟨[.int .i64 a1,.int .i64 a2]⟩,.agg ⟨[.int .i64 b1,.int .i64 b2]⟩,.agg ⟨[.int .i64 c1,.int .i64 c2]⟩]=>some (true,I (qbc a1 a2 b1 b2 c1 c2))
 | _=>none
theorem qrN:CtV 332 qrO:=by
 intro vs r h
 unfold qrO at h
 split at h
 ·rename_i a1 a2 b1 b2 c1 c2
  obtain ⟨h1,rfl⟩:=qac h
  refine qaA (vs:=[.agg #[I a1,I a2],.agg #[I b1,I b2],.agg #[I c1,I c2]]) (Λ:=L0) (m':=M0) qPi Tryz.func332 rfl l00 ?_
  exact (quC a1 a2 b1 b2 c1 c2).trans (by
   have m1:=qh9 (qaX (b1 - a1)) (qaX (c2 - a2))
   have m2:=qh9 (qaX (b2 - a2)) (qaX (c1 - a1))
   cases hA:plR a1 a2 with
   | false=>exact vI (by unfold qbc;rw [hA];rfl)
   | true =>
   cases hB:plR b1 b2 with
   | false=>exact vI (by unfold qbc;rw [hA,hB];rfl)
   | true =>
   cases hC:plR c1 c2 with
   | false=>exact vI (by unfold qbc;rw [hA,hB,hC];rfl)
   | true =>
    rw [← qgY (show (plR a1 a2&&(plR b1 b2&&plR c1 c2))=true by rw [hA,hB,hC];rfl)]
    have i1:inI (wI (b1 - a1))=true:=qaX _
    have i2:inI (wI (c2 - a2))=true:=qaX _
    have i3:inI (wI (b2 - a2))=true:=qaX _
    have i4:inI (wI (c1 - a1))=true:=qaX _
    have p1:pHi (wI (b1 - a1)*wI (c2 - a2))=hiW (wI (b1 - a1)*wI (c2 - a2))∧pLo (wI (b1 - a1)*wI (c2 - a2))=loW (wI (b1 - a1)*wI (c2 - a2)):=qOb m1
    have p2:pHi (wI (b2 - a2)*wI (c1 - a1))=hiW (wI (b2 - a2)*wI (c1 - a1))∧pLo (wI (b2 - a2)*wI (c1 - a1))=loW (wI (b2 - a2)*wI (c1 - a1)):=qOb m2
    have w1:wv (hiW (wI (b1 - a1)*wI (c2 - a2))) (loW (wI (b1 - a1)*wI (c2 - a2)))=wI (b1 - a1)*wI (c2 - a2):=(qgM m1).1
    have w2:wv (hiW (wI (b2 - a2)*wI (c1 - a1))) (loW (wI (b2 - a2)*wI (c1 - a1)))=wI (b2 - a2)*wI (c1 - a1):=(qgM m2).1
    rw [p1.1,p1.2,p2.1,p2.2,i1,i2,i3,i4,qnj,qnj,w1,w2]
    rfl)
 ·cases h
def ΓP9:Orc:=qah 332 qrO ΓP8
theorem qPh:ΓP9.Ok Tryz.prog:=qaa qPi qrN
theorem qE2 (p1 p2 a1 a2 b1 b2:Int):runG ΓP9 L0 Tryz.prog Tryz.f290 [.v (.agg #[I p1,I p2]),.v (.agg #[I a1,I a2]),.v (.agg #[I b1,I b2])] M0 =
 (bif !plR a1 a2 then some (.v (Bo false),M0) else (bif !plR b1 b2 then some (.v (Bo false),M0) else (bif !plR p1 p2 then some (.v (Bo false),M0) else (bif qbc a1 a2 b1 b2 p1 p2 != (0:Int) then some (.v (Bo false),M0) else (bif decide (p1≥if b1<a1 then b1 else a1) then (bif decide (p1≤if b1>a1 then b1 else a1) then (bif decide (p2≥if b2<a2 then b2 else a2) then some (.v (Bo (decide (p2≤if b2>a2 then b2 else a2))),M0) else some (.v (Bo false),M0)) else some (.v (Bo false),M0)) else some (.v (Bo false),M0)))))):=by kernel_rfl
def qLK (vs:List Value):Option (Bool×Value) :=
 match vs with
 | [.agg ⟨[.int .i64 p1,.int .i64 p2]⟩,.agg ⟨[.int .i64 a1,.int .i64 a2]⟩,.agg ⟨[.int .i64 b1,.int .i64 b2]⟩]=>some (true,Bo (onB p1 p2 a1 a2 b1 b2))
 | _=>none
theorem qBc:CtV 290 qLK:=by
 intro vs r h
 unfold qLK at h
 split at h
 ·rename_i p1 p2 a1 a2 b1 b2
  obtain ⟨h1,rfl⟩:=qac h
  refine qaA (vs:=[.agg #[I p1,I p2],.agg #[I a1,I a2],.agg #[I b1,I b2]]) (Λ:=L0) (m':=M0) qPh Tryz.func290 rfl l00 ?_
  exact (qE2 p1 p2 a1 a2 b1 b2).trans (by
   unfold onB btw
   cases plR a1 a2
   ·cases plR p1 p2<;>rfl
   cases plR b1 b2
   ·cases plR p1 p2<;>rfl
   cases plR p1 p2
   ·rfl
   by_cases ht:qbc a1 a2 b1 b2 p1 p2=0
   ·rw [ht]
    have e1:decide (p1≥if b1<a1 then b1 else a1)=decide ((if b1<a1 then b1 else a1)≤p1):=rfl
    have e2:decide (p2≥if b2<a2 then b2 else a2)=decide ((if b2<a2 then b2 else a2)≤p2):=rfl
    rw [e1,e2]
    cases decide ((if b1<a1 then b1 else a1)≤p1)<;>cases decide (p1≤if b1>a1 then b1 else a1)<;>cases decide ((if b2<a2 then b2 else a2)≤p2)<;>rfl
   ·rw [bne_iff_ne.2 ht,beq_eq_false_iff_ne.2 ht]
    rfl)
 ·cases h
def ΓP10:Orc:=qah 290 qLK ΓP9
theorem qIo:ΓP10.Ok Tryz.prog:=qaa qPh qBc
theorem quF (a1 a2 b1 b2 c1 c2 d1 d2:Int):runG ΓP10 L0 Tryz.prog Tryz.f291 [.v (.agg #[I a1,I a2]),.v (.agg #[I b1,I b2]),.v (.agg #[I c1,I c2]),.v (.agg #[I d1,I d2])] M0 =
 (bif !plR a1 a2 then some (.v (Bo false),M0) else (bif !plR b1 b2 then some (.v (Bo false),M0) else (bif !plR c1 c2 then some (.v (Bo false),M0) else (bif !plR d1 d2 then some (.v (Bo false),M0) else (bif onB a1 a2 c1 c2 d1 d2 then some (.v (Bo true),M0) else (bif onB b1 b2 c1 c2 d1 d2 then some (.v (Bo true),M0) else (bif onB c1 c2 a1 a2 b1 b2 then some (.v (Bo true),M0) else (bif onB d1 d2 a1 a2 b1 b2 then some (.v (Bo true),M0) else (bif decide (wI (qbc a1 a2 b1 b2 c1 c2*qbc a1 a2 b1 b2 d1 d2)<(0:Int)) then some (.v (Bo (decide (wI (qbc c1 c2 d1 d2 a1 a2*qbc c1 c2 d1 d2 b1 b2)<(0:Int)))),M0) else some (.v (Bo false),M0)))))))))):=by kernel_rfl
def qrS (vs:List Value):Option (Bool×Value) :=
 match vs with
 | [.agg ⟨[.int .i64 a1,.int .i64 a2]⟩,.agg ⟨[.int .i64 b1,.int .i64 b2]⟩,.agg ⟨[.int .i64 c1,.int .i64 c2]⟩,.agg ⟨[.int .i64 d1,.int .i64 d2]⟩]=>some (true,Bo (qcb a1 a2 b1 b2 c1 c2 d1 d2))
 | _=>none
theorem qrR:CtV 291 qrS:=by
 intro vs r h
 unfold qrS at h
 split at h
 ·rename_i a1 a2 b1 b2 c1 c2 d1 d2
  obtain ⟨h1,rfl⟩:=qac h
  refine qaA (vs:=[.agg #[I a1,I a2],.agg #[I b1,I b2],.agg #[I c1,I c2],.agg #[I d1,I d2]]) (Λ:=L0) (m':=M0) qIo Tryz.func291 rfl l00 ?_
  exact (quF a1 a2 b1 b2 c1 c2 d1 d2).trans (by
   unfold qcb qsU
   cases plR a1 a2
   ·rfl
   cases plR b1 b2
   ·rfl
   cases plR c1 c2
   ·rfl
   cases plR d1 d2
   ·rfl
   cases onB a1 a2 c1 c2 d1 d2
   ·cases onB b1 b2 c1 c2 d1 d2
    ·cases onB c1 c2 a1 a2 b1 b2
     ·cases onB d1 d2 a1 a2 b1 b2
      ·cases decide (wI (qbc a1 a2 b1 b2 c1 c2*qbc a1 a2 b1 b2 d1 d2)<0)<;>rfl
      ·rfl
     ·rfl
    ·rfl
   ·rfl)
 ·cases h
def ΓP11:Orc:=qah 291 qrS ΓP10
theorem qNv:ΓP11.Ok Tryz.prog:=qaa qIo qrR
def ΓPt:Orc:=ΓP11
theorem qPg:ΓPt.Ok Tryz.prog:=qNv
end Go.Proofs.YtainfdcfkgemhaaGreat
namespace Go.Proofs.YtainfdcfkgemhaaGreat
open Go Go.Proofs Go.Sx
set_option linter.unusedVariables false
theorem qKg (a b n:Int):runG ΓPt L0 Tryz.prog Tryz.f370 [.v (Wd a b),.v (UU n)] M0 =
 (bif inU n&&inU n then (bif decide (n*n / (18446744073709551616:Int)<IntKind.u64.wrap a) then some (.v (Bo true),M0) else (bif n*n / (18446744073709551616:Int)==IntKind.u64.wrap a then some (.v (Bo (decide (n*n % (18446744073709551616:Int)≤b))),M0) else some (.v (Bo false),M0))) else none):=by kernel_rfl
def gHS (vs:List Value):Option (Bool×Value) :=
 match vs with
 | [.agg ⟨[.int .i64 a,.int .u64 b]⟩,.int .u64 n]=>some (inW a b&&(decide (0≤a)&&inU n),Bo (decide (n*n≤wv a b)))
 | _=>none
theorem qG1:CtV 370 gHS:=by
 intro vs r h
 unfold gHS at h
 split at h
 ·rename_i a b n
  obtain ⟨h1,rfl⟩:=qac h
  refine qaA (vs:=[Wd a b,UU n]) (Λ:=L0) (m':=M0) qPg Tryz.func370 rfl l00 ?_
  exact (qKg a b n).trans (by
   simp only [Bool.and_eq_true,decide_eq_true_eq] at h1
   obtain ⟨g1,g2,g3⟩:=h1
   rw [g3]
   simp only [Bool.and_self,cond_true]
   rw [qce] at g1
   rw [wrU]
   have ea:a % 18446744073709551616=a:=by omega
   rw [ea]
   unfold wv
   by_cases c1:n*n / 18446744073709551616<a
   ·rw [decide_eq_true c1,decide_eq_true (show n*n≤a*18446744073709551616+b by omega)]
    rfl
   ·rw [decide_eq_false c1]
    by_cases c2:n*n / 18446744073709551616=a
    ·rw [beq_iff_eq.2 c2]
     refine vEq ?_
     show Bo _=Bo _
     rw [decide_eq_decide.2 (show n*n % 18446744073709551616≤b↔n*n≤a*18446744073709551616+b by omega)]
    ·rw [beq_eq_false_iff_ne.2 c2,decide_eq_false (show ¬ n*n≤a*18446744073709551616+b by omega)]
     rfl)
 ·cases h
def ΓT1:Orc:=qah 370 gHS ΓPt
theorem OkT1:ΓT1.Ok Tryz.prog:=qaa qPg qG1
def qCz:Code:=qaH (Tryz.f356.body.getD .skip) 0
theorem qzX:qak (Tryz.f356.body.getD .skip)=[qCz]:=by kernel_rfl
theorem qvu:qak qCz=[]:=by kernel_rfl
def kSq:List Bool:=qam 21 [1,4,5]
def xSq:List Bool:=qam 21 [4]
def KSq (e:Ex) (st:St):Option (Ex×St):=some (e,qav 0 0 xSq st)
def MSq (a b:Int):Mem:=⟨[[.v (I a),.v (UU b)]],[true],[]⟩
def HSq (a b r q:Int):St:=mk kSq [.ptr 0 0,.v (UU r),.v (UU q)] (MSq a b)
def XSq (r:Int):St:=mk xSq [.v (UU r)] M0
theorem qEa (a b r q:Int) (k:Nat):qaj ΓT1 Tryz.prog L0 (qav 0 0 kSq) qCz (k+1) (HSq a b r q) KSq =
 bif decide (q>0) then (bif inW a b&&(decide (0≤a)&&inU (orU r q)) then (bif decide (orU r q*orU r q≤wv a b) then qaj ΓT1 Tryz.prog L0 (qav 0 0 kSq) qCz k (HSq a b (orU r q) (q.fdiv (2 ^ 1))) KSq else qaj ΓT1 Tryz.prog L0 (qav 0 0 kSq) qCz k (HSq a b r (q.fdiv (2 ^ 1))) KSq) else none) else some (.exit 0,XSq r):=by kernel_rfl
def GSq (vals:List SV) (m:Mem):Option (Bool×Ex×St) :=
 match vals,m with
 | [.ptr 0 0,.v (.int .u64 r),.v (.int .u64 q)],⟨[[.v (.int .i64 a),.v (.int .u64 b)]],[true],[]⟩ =>
  some (inW a b&&(decide (0≤a)&&(r==0&&q==9223372036854775808)),.exit 0,XSq (sqr (wv a b) 64 0))
 | _,_=>none
def ΛSq:qao:=fun _ st=>qeb 0 0 kSq GSq st
theorem qvC (z:Base) (z1:z.L.length=0) (z2:z.U.length=0):qas ΛSq Tryz.prog z qCz:=by
 refine qaF (Λ:=L0) (kx:=fun _=>xSq) OkT1 mixed z1 z2 (fun b hb=>by rw [qvu] at hb;cases hb) (G:=GSq) (fun _=>rfl) ?_
 intro vals m e st' h
 unfold GSq at h
 split at h
 ·rename_i r q a b
  obtain ⟨h1,rfl,rfl⟩:=qaf h
  simp only [Bool.and_eq_true,beq_iff_eq,decide_eq_true_eq] at h1
  obtain ⟨g1,g2,rfl,rfl⟩:=h1
  exact ⟨65,qtY (wv a b) (fun x=>inW a b&&(decide (0≤a)&&inU x)) (fun x hx=>by simp [g1,g2,hx]) (fun m r q=>qaj ΓT1 Tryz.prog L0 (qav 0 0 kSq) qCz m (HSq a b r q) KSq) (fun r=>some (.exit 0,XSq r)) (fun m r q=>qEa a b r q m) 63 0 (by decide) (by decide) (by decide)⟩
 ·cases h
theorem qJZ (a b:Int):runG ΓT1 ΛSq Tryz.prog Tryz.f356 [.v (Wd a b)] M0 =
 bif decide (a<0) then some (.v (.tuple #[UU 0,Bo false]),M0)
 else bif inW a b&&(decide (0≤a)&&((0:Int)==0&&(9223372036854775808:Int)==9223372036854775808)) then some (.v (.tuple #[UU (sqr (wv a b) 64 0),Bo true]),M0) else none:=by kernel_rfl
def gSq (vs:List Value):Option (Bool×Value) :=
 match vs with
 | [.agg ⟨[.int .i64 a,.int .u64 b]⟩]=>some (inW a b,.tuple #[UU (rtW (wv a b)),Bo (decide (0≤wv a b))])
 | _=>none
theorem qGO:CtV 356 gSq:=by
 intro vs r h
 unfold gSq at h
 split at h
 ·rename_i a b
  obtain ⟨h1,rfl⟩:=qac h
  refine qaA (vs:=[Wd a b]) (Λ:=ΛSq) (m':=M0) OkT1 Tryz.func356 rfl (fun z z1 z2=>qax (c:=Tryz.f356.body.getD .skip) qzX (qvC z z1 z2)) ?_
  refine (qJZ a b).trans ?_
  have h':=h1
  rw [qce] at h'
  by_cases ha:a<0
  ·have e1:wv a b<0:=by unfold wv;omega
   have e2:¬ 0≤wv a b:=by omega
   simp [ha,rtW,e1,e2]
  ·have e1:¬ wv a b<0:=by unfold wv;omega
   have e2:0≤wv a b:=by omega
   have e3:0≤a:=by omega
   simp [ha,rtW,e1,e2,e3,h1]
 ·cases h
def ΓT2:Orc:=qah 356 gSq ΓT1
theorem OkT2:ΓT2.Ok Tryz.prog:=qaa OkT1 qGO
theorem quV (a b:Int) (t:Bool):runG ΓT2 L0 Tryz.prog Tryz.f324 [.v (Wd a b),.v (Bo t)] M0 =
 (bif !t then some (.v (.tuple #[(I 0),(Bo false)]),M0) else (bif inW a b then (bif !decide ((0:Int)≤wv a b) then some (.v (.tuple #[(I 0),(Bo false)]),M0) else (bif decide (rtW (wv a b)>(9223372036854775807:Int)) then some (.v (.tuple #[(I 0),(Bo false)]),M0) else some (.v (.tuple #[(I (wI (rtW (wv a b)))),(Bo true)]),M0))) else none)):=by kernel_rfl
def qsf (vs:List Value):Option (Bool×Value) :=
 match vs with
 | [.agg ⟨[.int .i64 a,.int .u64 b]⟩,.bool t]=>some (inW a b&&(inI (wv a b)&&t),.tuple #[I (rtW (wv a b)),Bo (decide (0≤wv a b))])
 | _=>none
theorem qFS {n:Int} (h:inI n=true):0≤rtW n∧rtW n<4294967296:=by
 rw [qa0] at h
 refine ⟨qop (by omega),?_⟩
 rcases (by omega:n<0∨0≤n) with h1|h1
 ·rw [qla h1];decide
 ·obtain ⟨s0,_,s2,_⟩:=qhU n h1 (by omega)
  rcases (by omega:rtW n<4294967296∨4294967296≤rtW n) with h2|h2
  ·exact h2
  ·have:=Int.mul_le_mul h2 h2 (by decide) s0
   omega
theorem qse:CtV 324 qsf:=by
 intro vs r h
 unfold qsf at h
 split at h
 ·rename_i a b t
  obtain ⟨h1,rfl⟩:=qac h
  refine qaA (vs:=[Wd a b,Bo t]) (Λ:=L0) (m':=M0) OkT2 Tryz.func324 rfl l00 ?_
  exact (quV a b t).trans (by
   simp only [Bool.and_eq_true] at h1
   obtain ⟨g1,g2,rfl⟩:=h1
   obtain ⟨r0,r1⟩:=qFS g2
   rw [g1]
   simp only [Bool.not_true,cond_false,cond_true]
   by_cases hn:0≤wv a b
   ·rw [decide_eq_true hn,decide_eq_false (show ¬ rtW (wv a b)>9223372036854775807 by omega),qaw (by omega)]
    rfl
   ·rw [decide_eq_false hn,qla (by omega)]
    rfl)
 ·cases h
def ΓT3:Orc:=qah 324 qsf ΓT2
theorem OkT3:ΓT3.Ok Tryz.prog:=qaa OkT2 qse
theorem quT (n:Int):runG ΓT3 L0 Tryz.prog Tryz.f260 [.v (I n)] M0 =
 (bif inI n then (bif inW (hiW n) (loW n)&&(inI (wv (hiW n) (loW n))&&true) then some (.v (.tuple #[(I (rtW (wv (hiW n) (loW n)))),(Bo (decide ((0:Int)≤wv (hiW n) (loW n))))]),M0) else none) else none):=by kernel_rfl
def qsb (vs:List Value):Option (Bool×Value) :=
 match vs with
 | [.int .i64 n]=>some (inI n,.tuple #[I (rtW n),Bo (decide (0≤n))])
 | _=>none
theorem qsa:CtV 260 qsb:=by
 intro vs r h
 unfold qsb at h
 split at h
 ·rename_i n
  obtain ⟨h1,rfl⟩:=qac h
  refine qaA (vs:=[I n]) (Λ:=L0) (m':=M0) OkT3 Tryz.func260 rfl l00 ?_
  exact (quT n).trans (by
   obtain ⟨e1,e2⟩:=qgM (qvm h1)
   rw [h1,e2,e1,h1]
   rfl)
 ·cases h
def ΓT4:Orc:=qah 260 qsb ΓT3
theorem qO5:ΓT4.Ok Tryz.prog:=qaa OkT3 qsa
def clI (n lo hi:Int):Int:=bif decide (n<lo) then lo else bif decide (n>hi) then hi else n
theorem qqj (n lo hi:Int):runG ΓT4 L0 Tryz.prog Tryz.f216 [.v (I n),.v (I lo),.v (I hi)] M0 =
 (bif decide (n<lo) then some (.v (I lo),M0) else (bif decide (n>hi) then some (.v (I hi),M0) else some (.v (I n),M0))):=by kernel_rfl
def ql3 (vs:List Value):Option (Bool×Value) :=
 match vs with
 | [.int .i64 n,.int .i64 lo,.int .i64 hi]=>some (true,I (clI n lo hi))
 | _=>none
theorem qoY:CtV 216 ql3:=by
 intro vs r h
 unfold ql3 at h
 split at h
 ·rename_i n lo hi
  obtain ⟨h1,rfl⟩:=qac h
  refine qaA (vs:=[I n,I lo,I hi]) (Λ:=L0) (m':=M0) qO5 Tryz.func216 rfl l00 ?_
  exact (qqj n lo hi).trans (by
   unfold clI
   cases decide (n<lo)<;>cases decide (n>hi)<;>rfl)
 ·cases h
def ΓT5:Orc:=qah 216 ql3 ΓT4
theorem OkT5:ΓT5.Ok Tryz.prog:=qaa qO5 qoY
def ΓRt:Orc:=ΓT5
theorem qO8:ΓRt.Ok Tryz.prog:=OkT5
end Go.Proofs.YtainfdcfkgemhaaGreat
namespace Go.Proofs.YtainfdcfkgemhaaGreat
open Go Go.Proofs Go.Sx
set_option linter.unusedVariables false
theorem qKy {z v g:Int} (h:frX z v g=true):wI (wI (v*v)+wI (wI ((2:Int)*g)*z))=v*v+2*g*z∧inI (v*v+2*g*z)=true:=by
 obtain ⟨n1,n2⟩:=frN h
 have hx:=qcR.1 h
 refine ⟨?_,by rw [qa0];omega⟩
 rw [qaw (n:=2*g) (by omega),qaw (n:=v*v) (by omega),qaw (n:=2*g*z) (by omega),qaw (by omega)]
theorem qKz {z v g:Int} (h:frX z v g=true) (hz:¬ z<0):wI ((wI (v+rtW (v*v+2*g*z))).tdiv g)=tmF z v g:=by
 obtain ⟨s,e,h0,h1,h2,h3,h4⟩:=qhD h (by omega)
 obtain ⟨n1,n2⟩:=frN h
 have hx:=qcR.1 h
 have gz:0≤2*g*z:=Int.mul_nonneg (by omega) (by omega)
 have es:rtW (v*v+2*g*z)=s:=qzD (by omega) h0 h3 h4
 have t1:=qcz h
 have t2:=qtO h
 obtain ⟨r0,r1⟩:=qFS (n:=v*v+2*g*z) (by rw [qa0];omega)
 rw [es] at r1 ⊢
 rw [qaw (n:=v+s) (by omega),Int.tdiv_eq_ediv_of_nonneg (by omega),← e,qaw (by omega)]
theorem qwH {z v g d c:Int} (h:frR z v g=true) (h1:-2048≤d) (h2:d≤2048) (h3:-2048≤c) (h4:c≤2048):frX (z+d) (v+c) g=true:=by
 rw [ql8] at h;rw [qcR];omega
theorem qGa (z v g:Int):(bif decide (z≥(-2147483648:Int)) then (bif decide (z≤(2147483648:Int)) then (bif decide (v≥(-131072:Int)) then (bif decide (v≤(131072:Int)) then (bif decide (g≥(1:Int)) then some (.v (Bo (decide (g≤(100:Int)))),M0) else some (.v (Bo false),M0)) else some (.v (Bo false),M0)) else some (.v (Bo false),M0)) else some (.v (Bo false),M0)) else some (.v (Bo false),M0))=(some (SV.v (Bo (frR z v g)),M0):Option (SV×Mem)):=by
 unfold frR
 by_cases h1:-2147483648≤z<;>by_cases h2:z≤2147483648<;>by_cases h3:-131072≤v<;>by_cases h4:v≤131072<;>by_cases h5:1≤g<;>by_cases h6:g≤100<;>simp [h1,h2,h3,h4,h5,h6]
theorem qFx (z:Int) (v:Int) (g:Int):runG ΓRt L0 Tryz.prog Tryz.f292 [.v (I z),.v (I v),.v (I g)] M0 =
 (bif decide (z≥(-2147483648:Int)) then (bif decide (z≤(2147483648:Int)) then (bif decide (v≥(-131072:Int)) then (bif decide (v≤(131072:Int)) then (bif decide (g≥(1:Int)) then some (.v (Bo (decide (g≤(100:Int)))),M0) else some (.v (Bo false),M0)) else some (.v (Bo false),M0)) else some (.v (Bo false),M0)) else some (.v (Bo false),M0)) else some (.v (Bo false),M0)):=by kernel_rfl
def qL6 (vs:List Value):Option (Bool×Value) :=
 match vs with
 | [.int .i64 z,.int .i64 v,.int .i64 g]=>some (true,Bo (frR z v g))
 | _=>none
theorem qBL:CtV 292 qL6:=by
 intro vs r h
 unfold qL6 at h
 split at h
 ·rename_i z v g
  obtain ⟨h1,rfl⟩:=qac h
  refine qaA (vs:=[I z,I v,I g]) (Λ:=L0) (m':=M0) qO8 Tryz.func292 rfl l00 ?_
  exact (qFx z v g).trans (qGa z v g)
 ·cases h
def ΓA1:Orc:=qah 292 qL6 ΓRt
theorem OkA1:ΓA1.Ok Tryz.prog:=qaa qO8 qBL
def ΓA2:Orc:=ΓA1
theorem OkA2:ΓA2.Ok Tryz.prog:=OkA1
theorem qFy (z:Int) (v:Int) (g:Int):runG ΓA2 L0 Tryz.prog Tryz.f293 [.v (I z),.v (I v),.v (I g)] M0 =
 (bif decide (z<(0:Int)) then some (.v (I 0),M0) else (bif inI (wI (wI (v*v)+wI (wI ((2:Int)*g)*z))) then (bif g==(0:Int) then none else some (.v (I (wI ((wI (v+rtW (wI (wI (v*v)+wI (wI ((2:Int)*g)*z))))).tdiv g))),M0)) else none)):=by kernel_rfl
def qL7 (vs:List Value):Option (Bool×Value) :=
 match vs with
 | [.int .i64 z,.int .i64 v,.int .i64 g]=>some (frX z v g,I (tmF z v g))
 | _=>none
theorem qBM:CtV 293 qL7:=by
 intro vs r h
 unfold qL7 at h
 split at h
 ·rename_i z v g
  obtain ⟨h1,rfl⟩:=qac h
  refine qaA (vs:=[I z,I v,I g]) (Λ:=L0) (m':=M0) OkA2 Tryz.func293 rfl l00 ?_
  exact (qFy z v g).trans (by
   obtain ⟨e1,e2⟩:=qKy h1
   by_cases hz:z<0
   ·rw [decide_eq_true hz]
    unfold tmF
    rw [decide_eq_true hz]
    rfl
   ·rw [decide_eq_false hz,e1,e2,beq_eq_false_iff_ne.2 (show g≠0 by have:=qcR.1 h1;omega),qKz h1 hz]
    rfl)
 ·cases h
def ΓA3:Orc:=qah 293 qL7 ΓA2
theorem OkA3:ΓA3.Ok Tryz.prog:=qaa OkA2 qBM
def ΓA4:Orc:=ΓA3
theorem OkA4:ΓA4.Ok Tryz.prog:=OkA3
def ΓA5:Orc:=ΓA4
theorem OkA5:ΓA5.Ok Tryz.prog:=OkA4
def ΓA6:Orc:=ΓA5
theorem OkA6:ΓA6.Ok Tryz.prog:=OkA5
def ΓA7:Orc:=ΓA6
theorem OkA7:ΓA7.Ok Tryz.prog:=OkA6
def ΓA8:Orc:=ΓA7
theorem OkA8:ΓA8.Ok Tryz.prog:=OkA7
theorem quU (z:Int) (v:Int) (g:Int) (e:Int):runG ΓA8 L0 Tryz.prog Tryz.f232 [.v (I z),.v (I v),.v (I g),.v (I e)] M0 =
 (bif !frR z v g then some (.v (.tuple #[(I 0),(I 0),(Bo false)]),M0) else (bif decide (e<(0:Int)) then some (.v (.tuple #[(I 0),(I 0),(Bo false)]),M0) else (bif decide (e>(2048:Int)) then some (.v (.tuple #[(I 0),(I 0),(Bo false)]),M0) else (bif frX (wI (z - e)) (wI (v - e)) g then (bif frX (wI (z+e)) (wI (v+e)) g then some (.v (.tuple #[(I (tmF (wI (z - e)) (wI (v - e)) g)),(I (wI (tmF (wI (z+e)) (wI (v+e)) g+(2:Int)))),(Bo true)]),M0) else none) else none)))):=by kernel_rfl
def qsd (vs:List Value):Option (Bool×Value) :=
 match vs with
 | [.int .i64 z,.int .i64 v,.int .i64 g,.int .i64 e]=>some (true,.tuple #[I (bif frR z v g&&decide (0≤e∧e≤2048) then tmF (z - e) (v - e) g else 0),I (bif frR z v g&&decide (0≤e∧e≤2048) then tmF (z+e) (v+e) g+2 else 0),Bo (frR z v g&&decide (0≤e∧e≤2048))])
 | _=>none
theorem qsc:CtV 232 qsd:=by
 intro vs r h
 unfold qsd at h
 split at h
 ·rename_i z v g e
  obtain ⟨h1,rfl⟩:=qac h
  refine qaA (vs:=[I z,I v,I g,I e]) (Λ:=L0) (m':=M0) OkA8 Tryz.func232 rfl l00 ?_
  exact (quU z v g e).trans (by
   cases h:frR z v g
   ·rfl
   ·simp only [Bool.not_true,cond_false,Bool.true_and]
    by_cases h2:e<0
    ·rw [decide_eq_true h2,decide_eq_false (show ¬ (0≤e∧e≤2048) by omega)];rfl
    ·by_cases h3:e>2048
     ·rw [decide_eq_false h2,decide_eq_true h3,decide_eq_false (show ¬ (0≤e∧e≤2048) by omega)];rfl
     ·have hx:=ql8.1 h
      have k1:frX (z - e) (v - e) g=true:=by rw [Int.sub_eq_add_neg,Int.sub_eq_add_neg];exact qwH h (by omega) (by omega) (by omega) (by omega)
      have k2:frX (z+e) (v+e) g=true:=qwH h (by omega) (by omega) (by omega) (by omega)
      have k3:=qcz k2
      have k4:=qtO k2
      rw [decide_eq_false h2,decide_eq_false h3,decide_eq_true (show (0≤e∧e≤2048) by omega),qaw (n:=z - e) (by omega),qaw (n:=v - e) (by omega),qaw (n:=z+e) (by omega),qaw (n:=v+e) (by omega),k1,k2,qaw (n:=tmF (z+e) (v+e) g+2) (by omega)];rfl)
 ·cases h
def ΓA9:Orc:=qah 232 qsd ΓA8
theorem OkA9:ΓA9.Ok Tryz.prog:=qaa OkA8 qsc
def ΓA10:Orc:=ΓA9
theorem qN6:ΓA10.Ok Tryz.prog:=OkA9
def ΓA11:Orc:=ΓA10
theorem qN5:ΓA11.Ok Tryz.prog:=qN6
def ΓFa:Orc:=ΓA11
theorem qPD:ΓFa.Ok Tryz.prog:=qN5
end Go.Proofs.YtainfdcfkgemhaaGreat
namespace Go.Proofs.YtainfdcfkgemhaaGreat
open Go Go.Proofs Go.Sx
set_option linter.unusedVariables false
def ofG (x y n:Int):Bool:=decide (0≤n∧n≤4096)&&(decide (-1099511623680≤x∧x≤1099511623680)&&decide (-1099511623680≤y∧y≤1099511623680))
def boR (a b c d:Int):Bool:=plR a b&&(plR c d&&(decide (a≤c)&&decide (b≤d)))
def upB (n m:Int):Bool:=decide (n≥wI (0 - m))&&decide (n≤m)
theorem qhC {n m:Int} (h0:0≤m) (h1:m<9223372036854775808):upB n m=true↔-m≤n∧n≤m:=by
 unfold upB
 rw [qaw (n:=0 - m) (by omega),Bool.and_eq_true,decide_eq_true_iff,decide_eq_true_iff]
 omega
def nvR (x y vx vy:Int):Bool:=upB x 2147483648&&(upB y 2147483648&&(upB vx 131072&&upB vy 131072))
theorem qeS {x y vx vy:Int}:nvR x y vx vy=true↔(-2147483648≤x∧x≤2147483648)∧(-2147483648≤y∧y≤2147483648)∧(-131072≤vx∧vx≤131072)∧-131072≤vy∧vy≤131072:=by
 unfold nvR
 rw [Bool.and_eq_true,Bool.and_eq_true,Bool.and_eq_true,qhC (by decide) (by decide),qhC (by decide) (by decide),qhC (by decide) (by decide),qhC (by decide) (by decide)]
def rcG (x y vx vy f t:Int):Bool:=decide (-4294967296≤x∧x≤4294967296)&&(decide (-4294967296≤y∧y≤4294967296)&&(decide (-262144≤vx∧vx≤262144)&&(decide (-262144≤vy∧vy≤262144)&&(decide (-4096≤f∧f≤4096)&&decide (0≤t∧t≤4194304)))))
theorem qqA {x y vx vy f t:Int}:rcG x y vx vy f t=true↔(-4294967296≤x∧x≤4294967296)∧(-4294967296≤y∧y≤4294967296)∧(-262144≤vx∧vx≤262144)∧(-262144≤vy∧vy≤262144)∧(-4096≤f∧f≤4096)∧0≤t∧t≤4194304:=by
 unfold rcG
 simp only [Bool.and_eq_true,decide_eq_true_eq]
theorem qxV {x v f t:Int} (h1:-4294967296≤x∧x≤4294967296) (h2:-262144≤v∧v≤262144) (h3:-4096≤f∧f≤4096) (h4:0≤t∧t≤4194304):wI (x+wI (wI (v+f)*t))=x+(v+f)*t∧-1129576398848≤x+(v+f)*t∧x+(v+f)*t≤1129576398848:=by
 have p:=qF9 (a:=v+f) (b:=t) (A:=266240) (B:=4194304) (by omega) (by omega) (by omega) (by omega)
 rw [qaw (n:=v+f) (by omega),qaw (n:=(v+f)*t) (by omega),qaw (by omega)]
 omega
def qv2 (a b c d x y:Int):Bool:=boR a b c d&&(plR x y&&(decide (x≥a)&&(decide (x≤c)&&(decide (y≥b)&&decide (y≤d)))))
def qDh (a b c d a' b' c' d':Int):Bool:=boR a b c d&&(qv2 a' b' c' d' a b&&qv2 a' b' c' d' c d)
theorem qmk {a b c d:Int}:boR a b c d=true↔plR a b=true∧plR c d=true∧a≤c∧b≤d:=by
 unfold boR
 simp only [Bool.and_eq_true,decide_eq_true_eq]
theorem qnl {a b c d x y:Int}:qv2 a b c d x y=true↔boR a b c d=true∧plR x y=true∧a≤x∧x≤c∧b≤y∧y≤d:=by
 unfold qv2
 simp only [Bool.and_eq_true,decide_eq_true_eq]
theorem qqU {x y n:Int}:ofG x y n=true↔(0≤n∧n≤4096)∧(-1099511623680≤x∧x≤1099511623680)∧(-1099511623680≤y∧y≤1099511623680):=by
 unfold ofG
 simp only [Bool.and_eq_true,decide_eq_true_eq]
theorem qkq {n lo hi:Int} (h1:lo≤n) (h2:n≤hi):clI n lo hi=n:=by
 unfold clI
 rw [decide_eq_false (show ¬ n<lo by omega),decide_eq_false (show ¬ n>hi by omega)]
 rfl
theorem qFO (a:Int) (b:Int) (c:Int) (d:Int):runG ΓFa L0 Tryz.prog Tryz.f237 [.v (.agg #[I a,I b,I c,I d])] M0 =
 (bif plR a b then (bif plR c d then (bif decide (a≤c) then some (.v (Bo (decide (b≤d))),M0) else some (.v (Bo false),M0)) else some (.v (Bo false),M0)) else some (.v (Bo false),M0)):=by kernel_rfl
def qMi (vs:List Value):Option (Bool×Value) :=
 match vs with
 | [.agg ⟨[.int .i64 a,.int .i64 b,.int .i64 c,.int .i64 d]⟩]=>some (true,Bo (boR a b c d))
 | _=>none
theorem qB2:CtV 237 qMi:=by
 intro vs r h
 unfold qMi at h
 split at h
 ·rename_i a b c d
  obtain ⟨h1,rfl⟩:=qac h
  refine qaA (vs:=[.agg #[I a,I b,I c,I d]]) (Λ:=L0) (m':=M0) qPD Tryz.func237 rfl l00 ?_
  exact (qFO a b c d).trans (by unfold boR;cases plR a b<;>cases plR c d<;>cases decide (a≤c)<;>rfl)
 ·cases h
def ΓB1:Orc:=qah 237 qMi ΓFa
theorem OkB1:ΓB1.Ok Tryz.prog:=qaa qPD qB2
def ΓB2:Orc:=ΓB1
theorem OkB2:ΓB2.Ok Tryz.prog:=OkB1
def ΓB3:Orc:=ΓB2
theorem OkB3:ΓB3.Ok Tryz.prog:=OkB2
def ΓB4:Orc:=ΓB3
theorem qP0:ΓB4.Ok Tryz.prog:=OkB3
theorem qFR (x:Int) (y:Int):runG ΓB4 L0 Tryz.prog Tryz.f296 [.v (I x),.v (I y)] M0 =
 some (.v (.agg #[(I (clI x (-1099511627776:Int) (1099511627776:Int))),(I (clI y (-1099511627776:Int) (1099511627776:Int)))]),M0):=by kernel_rfl
def qMl (vs:List Value):Option (Bool×Value) :=
 match vs with
 | [.int .i64 x,.int .i64 y]=>some (true,.agg #[I (clI x (-1099511627776) 1099511627776),I (clI y (-1099511627776) 1099511627776)])
 | _=>none
theorem qB5:CtV 296 qMl:=by
 intro vs r h
 unfold qMl at h
 split at h
 ·rename_i x y
  obtain ⟨h1,rfl⟩:=qac h
  refine qaA (vs:=[I x,I y]) (Λ:=L0) (m':=M0) qP0 Tryz.func296 rfl l00 ?_
  exact (qFR x y).trans (rfl)
 ·cases h
def ΓB5:Orc:=qah 296 qMl ΓB4
theorem qPZ:ΓB5.Ok Tryz.prog:=qaa qP0 qB5
theorem qFP (x:Int) (y:Int) (n:Int):runG ΓB5 L0 Tryz.prog Tryz.f234 [.v (.agg #[I x,I y]),.v (I n)] M0 =
 (bif !plR x y then some (.v (.agg #[(I 0),(I 0),(I 0),(I 0)]),M0) else some (.v (.agg #[(I (clI (wI (x - clI n (0:Int) (2199023255552:Int))) (-1099511627776:Int) (1099511627776:Int))),(I (clI (wI (y - clI n (0:Int) (2199023255552:Int))) (-1099511627776:Int) (1099511627776:Int))),(I (clI (wI (x+clI n (0:Int) (2199023255552:Int))) (-1099511627776:Int) (1099511627776:Int))),(I (clI (wI (y+clI n (0:Int) (2199023255552:Int))) (-1099511627776:Int) (1099511627776:Int)))]),M0)):=by kernel_rfl
def qMj (vs:List Value):Option (Bool×Value) :=
 match vs with
 | [.agg ⟨[.int .i64 x,.int .i64 y]⟩,.int .i64 n]=>some (ofG x y n,.agg #[I (x - n),I (y - n),I (x+n),I (y+n)])
 | _=>none
theorem qB3:CtV 234 qMj:=by
 intro vs r h
 unfold qMj at h
 split at h
 ·rename_i x y n
  obtain ⟨h1,rfl⟩:=qac h
  refine qaA (vs:=[.agg #[I x,I y],I n]) (Λ:=L0) (m':=M0) qPZ Tryz.func234 rfl l00 ?_
  exact (qFP x y n).trans (by
   obtain ⟨h2,h3,h4⟩:=qqU.1 h1
   rw [qh1.2 (by omega),qkq (n:=n) (by omega) (by omega),qaw (n:=x - n) (by omega),qaw (n:=y - n) (by omega),qaw (n:=x+n) (by omega),qaw (n:=y+n) (by omega),qkq (n:=x - n) (by omega) (by omega),qkq (n:=y - n) (by omega) (by omega),qkq (n:=x+n) (by omega) (by omega),qkq (n:=y+n) (by omega) (by omega)]
   rfl)
 ·cases h
def ΓB6:Orc:=qah 234 qMj ΓB5
theorem qPY:ΓB6.Ok Tryz.prog:=qaa qPZ qB3
theorem qFQ (a:Int) (b:Int) (c:Int) (d:Int) (a':Int) (b':Int) (c':Int) (d':Int):runG ΓB6 L0 Tryz.prog Tryz.f236 [.v (.agg #[I a,I b,I c,I d]),.v (.agg #[I a',I b',I c',I d'])] M0 =
 (bif boR a b c d then (bif boR a' b' c' d' then some (.v (.agg #[(I (if a'<a then a' else a)),(I (if b'<b then b' else b)),(I (if c'>c then c' else c)),(I (if d'>d then d' else d))]),M0) else (bif boR a b c d then some (.v (.agg #[(I a),(I b),(I c),(I d)]),M0) else (bif boR a' b' c' d' then some (.v (.agg #[(I a'),(I b'),(I c'),(I d')]),M0) else some (.v (.agg #[(I 0),(I 0),(I 0),(I 0)]),M0)))) else (bif boR a b c d then some (.v (.agg #[(I a),(I b),(I c),(I d)]),M0) else (bif boR a' b' c' d' then some (.v (.agg #[(I a'),(I b'),(I c'),(I d')]),M0) else some (.v (.agg #[(I 0),(I 0),(I 0),(I 0)]),M0)))):=by kernel_rfl
def qMk (vs:List Value):Option (Bool×Value) :=
 match vs with
 | [.agg ⟨[.int .i64 a,.int .i64 b,.int .i64 c,.int .i64 d]⟩,.agg ⟨[.int .i64 a',.int .i64 b',.int .i64 c',.int .i64 d']⟩]=>some (boR a b c d&&boR a' b' c' d',Value.agg #[I (mn a a'),I (mn b b'),I (mx c c'),I (mx d d')])
 | _=>none
theorem qB4:CtV 236 qMk:=by
 intro vs r h
 unfold qMk at h
 split at h
 ·rename_i a b c d a' b' c' d'
  obtain ⟨h1,rfl⟩:=qac h
  refine qaA (vs:=[.agg #[I a,I b,I c,I d],.agg #[I a',I b',I c',I d']]) (Λ:=L0) (m':=M0) qPY Tryz.func236 rfl l00 ?_
  exact (qFQ a b c d a' b' c' d').trans (by
   rw [Bool.and_eq_true] at h1
   rw [h1.1,h1.2]
   rfl)
 ·cases h
def ΓB7:Orc:=qah 236 qMk ΓB6
theorem qPX:ΓB7.Ok Tryz.prog:=qaa qPY qB4
theorem qFr (n:Int) (m:Int):runG ΓB7 L0 Tryz.prog Tryz.f294 [.v (I n),.v (I m)] M0 =
 (bif decide (n≥wI ((0:Int) - m)) then some (.v (Bo (decide (n≤m))),M0) else some (.v (Bo false),M0)):=by kernel_rfl
def qL0 (vs:List Value):Option (Bool×Value) :=
 match vs with
 | [.int .i64 n,.int .i64 m]=>some (true,Bo (upB n m))
 | _=>none
theorem qBD:CtV 294 qL0:=by
 intro vs r h
 unfold qL0 at h
 split at h
 ·rename_i n m
  obtain ⟨h1,rfl⟩:=qac h
  refine qaA (vs:=[I n,I m]) (Λ:=L0) (m':=M0) qPX Tryz.func294 rfl l00 ?_
  exact (qFr n m).trans (by unfold upB;cases decide (n≥wI (0 - m))<;>rfl)
 ·cases h
def ΓB8:Orc:=qah 294 qL0 ΓB7
theorem qPW:ΓB8.Ok Tryz.prog:=qaa qPX qBD
theorem qFs (p:Int) (q:Int) (x:Int) (y:Int) (z:Int) (vx:Int) (vy:Int) (vz:Int):runG ΓB8 L0 Tryz.prog Tryz.f233 [.v (.agg #[I p,I q,I x,I y,I z,I vx,I vy,I vz])] M0 =
 (bif upB x (2147483648:Int) then (bif upB y (2147483648:Int) then (bif upB vx (131072:Int) then some (.v (Bo (upB vy (131072:Int))),M0) else some (.v (Bo false),M0)) else some (.v (Bo false),M0)) else some (.v (Bo false),M0)):=by kernel_rfl
def qL1 (vs:List Value):Option (Bool×Value) :=
 match vs with
 | [.agg ⟨[.int .i64 p,.int .i64 q,.int .i64 x,.int .i64 y,.int .i64 z,.int .i64 vx,.int .i64 vy,.int .i64 vz]⟩]=>some (true,Bo (nvR x y vx vy))
 | _=>none
theorem qBE:CtV 233 qL1:=by
 intro vs r h
 unfold qL1 at h
 split at h
 ·rename_i p q x y z vx vy vz
  obtain ⟨h1,rfl⟩:=qac h
  refine qaA (vs:=[.agg #[I p,I q,I x,I y,I z,I vx,I vy,I vz]]) (Λ:=L0) (m':=M0) qPW Tryz.func233 rfl l00 ?_
  exact (qFs p q x y z vx vy vz).trans (by unfold nvR;cases upB x 2147483648<;>cases upB y 2147483648<;>cases upB vx 131072<;>rfl)
 ·cases h
def ΓB9:Orc:=qah 233 qL1 ΓB8
theorem qPV:ΓB9.Ok Tryz.prog:=qaa qPW qBE
theorem qFt (p:Int) (q:Int) (x:Int) (y:Int) (z:Int) (vx:Int) (vy:Int) (vz:Int) (f:Int) (t:Int):runG ΓB9 L0 Tryz.prog Tryz.f235 [.v (.agg #[I p,I q,I x,I y,I z,I vx,I vy,I vz]),.v (I f),.v (I t)] M0 =
 some (.v (.agg #[(I (wI (x+wI (wI (vx+f)*t)))),(I (wI (y+wI (wI (vy+f)*t))))]),M0):=by kernel_rfl
def qL2 (vs:List Value):Option (Bool×Value) :=
 match vs with
 | [.agg ⟨[.int .i64 p,.int .i64 q,.int .i64 x,.int .i64 y,.int .i64 z,.int .i64 vx,.int .i64 vy,.int .i64 vz]⟩,.int .i64 f,.int .i64 t]=>some (rcG x y vx vy f t,Value.agg #[I (x+(vx+f)*t),I (y+(vy+f)*t)])
 | _=>none
theorem qBF:CtV 235 qL2:=by
 intro vs r h
 unfold qL2 at h
 split at h
 ·rename_i p q x y z vx vy vz f t
  obtain ⟨h1,rfl⟩:=qac h
  refine qaA (vs:=[.agg #[I p,I q,I x,I y,I z,I vx,I vy,I vz],I f,I t]) (Λ:=L0) (m':=M0) qPV Tryz.func235 rfl l00 ?_
  exact (qFt p q x y z vx vy vz f t).trans (by
   obtain ⟨h2,h3,h4,h5,h6,h7⟩:=qqA.1 h1
   rw [(qxV h2 h4 h6 h7).1,(qxV h3 h5 h6 h7).1])
 ·cases h
def ΓB10:Orc:=qah 235 qL2 ΓB9
theorem qN4:ΓB10.Ok Tryz.prog:=qaa qPV qBF
def ΓB11:Orc:=ΓB10
theorem qN3:ΓB11.Ok Tryz.prog:=qN4
def ΓBx:Orc:=ΓB11
theorem qJk:ΓBx.Ok Tryz.prog:=qN3
end Go.Proofs.YtainfdcfkgemhaaGreat
namespace Go.Proofs.YtainfdcfkgemhaaGreat
open Go Go.Proofs Go.Sx
set_option linter.unusedVariables false
def oLo (x y n c:Int):Int:=bif plR x y then clI (wI (c - clI n 0 2199023255552)) (-1099511627776) 1099511627776 else 0
def oHi (x y n c:Int):Int:=bif plR x y then clI (wI (c+clI n 0 2199023255552)) (-1099511627776) 1099511627776 else 0
def pick (A B:Bool) (m x y:Int):Int:=bif A&&B then m else bif A then x else bif B then y else 0
def jn1 (a b c d a' b' c' d':Int):Int:=pick (boR a b c d) (boR a' b' c' d') (mn a a') a a'
def jn2 (a b c d a' b' c' d':Int):Int:=pick (boR a b c d) (boR a' b' c' d') (mn b b') b b'
def jn3 (a b c d a' b' c' d':Int):Int:=pick (boR a b c d) (boR a' b' c' d') (mx c c') c c'
def jn4 (a b c d a' b' c' d':Int):Int:=pick (boR a b c d) (boR a' b' c' d') (mx d d') d d'
theorem qGC (a b c d a' b' c' d':Int):(boR a b c d&&(boR a' b' c' d'&&(decide (a'≤a)&&(decide (b'≤b)&&(decide (c≤c')&&decide (d≤d'))))))=qDh a b c d a' b' c' d':=by
 rw [Bool.eq_iff_iff]
 unfold qDh
 simp only [Bool.and_eq_true,decide_eq_true_eq,qnl]
 constructor
 ·rintro ⟨h1,h2,h3,h4,h5,h6⟩
  obtain ⟨p1,p2,p3,p4⟩:=qmk.1 h1
  exact ⟨h1,⟨h2,p1,h3,by omega,h4,by omega⟩,h2,p2,by omega,h5,by omega,h6⟩
 ·rintro ⟨h1,⟨h2,p1,h3,_,h4,_⟩,_,p2,_,h5,_,h6⟩
  exact ⟨h1,h2,h3,h4,h5,h6⟩
theorem qGB (a b c d x y:Int):qDh x y x y a b c d=qv2 a b c d x y:=by
 rw [Bool.eq_iff_iff]
 unfold qDh
 simp only [Bool.and_eq_true,qnl,qmk]
 constructor
 ·rintro ⟨h1,h2,h3⟩
  exact h2
 ·intro h
  exact ⟨⟨h.2.1,h.2.1,Int.le_refl _,Int.le_refl _⟩,h,h⟩
theorem qEt (x:Int) (y:Int) (n:Int):runG ΓBx L0 Tryz.prog Tryz.f234 [.v (.agg #[I x,I y]),.v (I n)] M0 =
 (bif !plR x y then some (.v (.agg #[(I 0),(I 0),(I 0),(I 0)]),M0) else some (.v (.agg #[(I (clI (wI (x - clI n (0:Int) (2199023255552:Int))) (-1099511627776:Int) (1099511627776:Int))),(I (clI (wI (y - clI n (0:Int) (2199023255552:Int))) (-1099511627776:Int) (1099511627776:Int))),(I (clI (wI (x+clI n (0:Int) (2199023255552:Int))) (-1099511627776:Int) (1099511627776:Int))),(I (clI (wI (y+clI n (0:Int) (2199023255552:Int))) (-1099511627776:Int) (1099511627776:Int)))]),M0)):=by kernel_rfl
def qLd (vs:List Value):Option (Bool×Value) :=
 match vs with
 | [.agg ⟨[.int .i64 x,.int .i64 y]⟩,.int .i64 n]=>some (true,.agg #[I (oLo x y n x),I (oLo x y n y),I (oHi x y n x),I (oHi x y n y)])
 | _=>none
theorem qAA:CtV 234 qLd:=by
 intro vs r h
 unfold qLd at h
 split at h
 ·rename_i x y n
  obtain ⟨h1,rfl⟩:=qac h
  refine qaA (vs:=[.agg #[I x,I y],I n]) (Λ:=L0) (m':=M0) qJk Tryz.func234 rfl l00 ?_
  exact (qEt x y n).trans (by unfold oLo oHi;cases plR x y<;>rfl)
 ·cases h
def ΓU1:Orc:=qah 234 qLd ΓBx
theorem OkU1:ΓU1.Ok Tryz.prog:=qaa qJk qAA
def ΓU2:Orc:=ΓU1
theorem OkU2:ΓU2.Ok Tryz.prog:=OkU1
def ΓU3:Orc:=ΓU2
theorem qO4:ΓU3.Ok Tryz.prog:=OkU2
theorem qEu (a:Int) (b:Int) (c:Int) (d:Int) (a':Int) (b':Int) (c':Int) (d':Int):runG ΓU3 L0 Tryz.prog Tryz.f236 [.v (.agg #[I a,I b,I c,I d]),.v (.agg #[I a',I b',I c',I d'])] M0 =
 (bif boR a b c d then (bif boR a' b' c' d' then some (.v (.agg #[(I (if a'<a then a' else a)),(I (if b'<b then b' else b)),(I (if c'>c then c' else c)),(I (if d'>d then d' else d))]),M0) else (bif boR a b c d then some (.v (.agg #[(I a),(I b),(I c),(I d)]),M0) else (bif boR a' b' c' d' then some (.v (.agg #[(I a'),(I b'),(I c'),(I d')]),M0) else some (.v (.agg #[(I 0),(I 0),(I 0),(I 0)]),M0)))) else (bif boR a b c d then some (.v (.agg #[(I a),(I b),(I c),(I d)]),M0) else (bif boR a' b' c' d' then some (.v (.agg #[(I a'),(I b'),(I c'),(I d')]),M0) else some (.v (.agg #[(I 0),(I 0),(I 0),(I 0)]),M0)))):=by kernel_rfl
def qLe (vs:List Value):Option (Bool×Value) :=
 match vs with
 | [.agg ⟨[.int .i64 a,.int .i64 b,.int .i64 c,.int .i64 d]⟩,.agg ⟨[.int .i64 a',.int .i64 b',.int .i64 c',.int .i64 d']⟩]=>some (true,Value.agg #[I (jn1 a b c d a' b' c' d'),I (jn2 a b c d a' b' c' d'),I (jn3 a b c d a' b' c' d'),I (jn4 a b c d a' b' c' d')])
 | _=>none
theorem qAB:CtV 236 qLe:=by
 intro vs r h
 unfold qLe at h
 split at h
 ·rename_i a b c d a' b' c' d'
  obtain ⟨h1,rfl⟩:=qac h
  refine qaA (vs:=[.agg #[I a,I b,I c,I d],.agg #[I a',I b',I c',I d']]) (Λ:=L0) (m':=M0) qO4 Tryz.func236 rfl l00 ?_
  exact (qEu a b c d a' b' c' d').trans (by unfold jn1 jn2 jn3 jn4 pick;cases boR a b c d<;>cases boR a' b' c' d'<;>rfl)
 ·cases h
def ΓU4:Orc:=qah 236 qLe ΓU3
theorem OkU4:ΓU4.Ok Tryz.prog:=qaa qO4 qAB
def ΓU5:Orc:=ΓU4
theorem qO3:ΓU5.Ok Tryz.prog:=OkU4
theorem qEv (a:Int) (b:Int) (c:Int) (d:Int) (a':Int) (b':Int) (c':Int) (d':Int):runG ΓU5 L0 Tryz.prog Tryz.f337 [.v (.agg #[I a,I b,I c,I d]),.v (.agg #[I a',I b',I c',I d'])] M0 =
 (bif !boR a b c d then some (.v (Bo false),M0) else (bif !boR a' b' c' d' then some (.v (Bo false),M0) else (bif decide (a'≤a) then (bif decide (b'≤b) then (bif decide (c≤c') then some (.v (Bo (decide (d≤d'))),M0) else some (.v (Bo false),M0)) else some (.v (Bo false),M0)) else some (.v (Bo false),M0)))):=by kernel_rfl
def qLf (vs:List Value):Option (Bool×Value) :=
 match vs with
 | [.agg ⟨[.int .i64 a,.int .i64 b,.int .i64 c,.int .i64 d]⟩,.agg ⟨[.int .i64 a',.int .i64 b',.int .i64 c',.int .i64 d']⟩]=>some (true,Bo (qDh a b c d a' b' c' d'))
 | _=>none
theorem qAC:CtV 337 qLf:=by
 intro vs r h
 unfold qLf at h
 split at h
 ·rename_i a b c d a' b' c' d'
  obtain ⟨h1,rfl⟩:=qac h
  refine qaA (vs:=[.agg #[I a,I b,I c,I d],.agg #[I a',I b',I c',I d']]) (Λ:=L0) (m':=M0) qO3 Tryz.func337 rfl l00 ?_
  exact (qEv a b c d a' b' c' d').trans (by rw [← qGC];cases boR a b c d<;>cases boR a' b' c' d'<;>cases decide (a'≤a)<;>cases decide (b'≤b)<;>cases decide (c≤c')<;>rfl)
 ·cases h
def ΓU6:Orc:=qah 337 qLf ΓU5
theorem qO2:ΓU6.Ok Tryz.prog:=qaa qO3 qAC
theorem qy3 (a:Int) (b:Int) (c:Int) (d:Int) (x:Int) (y:Int):runG ΓU6 L0 Tryz.prog Tryz.f300 [.v (.agg #[I a,I b,I c,I d]),.v (.agg #[I x,I y])] M0 =
 some (.v (Bo (qDh x y x y a b c d)),M0):=by kernel_rfl
def qAD (vs:List Value):Option (Bool×Value) :=
 match vs with
 | [.agg ⟨[.int .i64 a,.int .i64 b,.int .i64 c,.int .i64 d]⟩,.agg ⟨[.int .i64 x,.int .i64 y]⟩]=>some (true,Bo (qv2 a b c d x y))
 | _=>none
theorem qwb:CtV 300 qAD:=by
 intro vs r h
 unfold qAD at h
 split at h
 ·rename_i a b c d x y
  obtain ⟨h1,rfl⟩:=qac h
  refine qaA (vs:=[.agg #[I a,I b,I c,I d],.agg #[I x,I y]]) (Λ:=L0) (m':=M0) qO2 Tryz.func300 rfl l00 ?_
  exact (qy3 a b c d x y).trans (vB (qGB a b c d x y))
 ·cases h
def ΓU7:Orc:=qah 300 qAD ΓU6
theorem OkU7:ΓU7.Ok Tryz.prog:=qaa qO2 qwb
def ΓU8:Orc:=ΓU7
theorem OkU8:ΓU8.Ok Tryz.prog:=OkU7
def ΓBo:Orc:=ΓU8
theorem qJl:ΓBo.Ok Tryz.prog:=OkU8
end Go.Proofs.YtainfdcfkgemhaaGreat
