/-
  What is known of this program: the atomics,names;contracts of wide,of point,of box over values,and of the document's.
-/
import Derived.Test.YtainfdcfkgemhaaGreatSx
import Derived.Test.YtainfdcfkgemhaaGreatProg
import Derived.Lib.Strings
import Derived.Lib.Walk
import Derived.Lib.BufferWrite
import Derived.Lib.UnsafeStr
import Derived.Laws.MakeOwn
import Derived.WalkKit
import Derived.Test.YtainfdcfkgemhaaGreatSw
set_option maxRecDepth 100000
noncomputable section
open Go.Proofs.Tryz
namespace Go.Proofs.YtainfdcfkgemhaaGreat
open Go Go.Proofs Go.Sx Go.RowKit
abbrev aM (n:FuncId) (g:List SV->Mem->Option (Bool×SV×Mem)):Prop:=∀ xs m r m',g xs m=some (true,r,m')->bB prog n xs m r m'
abbrev bi (n:FuncId) (g:List SV->Mem->Option (Bool×Value)):Prop:=∀ xs m r,g xs m=some (true,r)->bB prog n xs m (.v r) m
abbrev am (n:FuncId) (g:List Value->Option (Bool×Value)):Prop:=∀ vs r,g vs=some (true,r)->∀ m,bB prog n (vs.map .v) m (.v r) m
theorem mixed:prog.follows .mixedOrders=true:=by kernel_rfl
theorem names:pL prog=true:=by kernel_rfl
def M0:Mem:=⟨[],[],[]⟩
def I (x:Int):Value:=.int .i64 x
def S (s:ByteArray):Value:=.string s
def Bo (b:Bool):Value:=.bool b
def U8 (x:Int):Value:=.int .u8 x
def bO (x:Int):Value:=.int .u16 x
def ci (x:Int):Value:=.int .u32 x
theorem SP:Ext prog 331 (Extern.Atomic.loadT (.int .i64)):=⟨fun args w=>run_callFunc_extern func331 (by kernel_rfl) (by kernel_rfl) (by kernel_rfl) (by kernel_rfl) args w⟩
def LU:FuncId->List SV->Mem->Option (Bool×Value):=CB 331 .i64
theorem qal:∀ f xs m r,LU f xs m=some (true,r)->bB prog f xs m (.v r) m:=qcz SP
theorem SQ:Ext prog 342 (Extern.Atomic.casT (.int .i64)):=⟨fun args w=>run_callFunc_extern func342 (by kernel_rfl) (by kernel_rfl) (by kernel_rfl) (by kernel_rfl) args w⟩
def PF:FuncId->List SV->Mem->Option (Bool×SV×Mem):=Hp 342 .i64
theorem qhl:∀ f xs m r m',PF f xs m=some (true,r,m')->bB prog f xs m r m':=qhg SQ
set_option maxHeartbeats 4000000 in
theorem qg9 (s:ByteArray) (w:World) (hs:s.size<=281474976710656) :
  Calls prog 226 #[.string s] w fun e w'=>e=.returned (.string s)/\Kp w w':=by
 have fr:∀ {w w':World},Below w.heap.size w w'->Kp w w':=fun h=>⟨h,fun p hp=>h.frozen hp⟩
 by_cases h0:s.size=0
 ·obtain rfl:s=⟨#[]⟩:=ByteArray.ext (Array.eq_empty_of_size_eq_zero h0)
  go_enter func226,Tryz.ntmps226
  go_wp2
  go_ret
  exact ⟨rfl,fr (Below.refl _ _)⟩
 ·obtain ⟨ti,hti,tz,ts,tb⟩:∃ i,prog.info? 5=some i/\i.zero=some (.int .u8 0)/\i.size=1/\i.bytes=1:=⟨_,rfl,rfl,rfl,rfl⟩
  have one:(prog.info? 5).map (·.size)=some 1:=by rw [hti];simp [ts]
  have cells1:prog.cellsOf 5=1:=by simp [Program.cellsOf,hti,ts]
  generalize hM:madeCells (Value.int .u8 0).cells (((s.size:Nat):Int).toNat*ti.size)=M
  have sizeM:M.size=s.size:=by rw [<- hM,size_madeCells,ts];simp
  have making:∀ W:World,(Instr.makeSlice 109 (.int .i64 (s.size:Int)) (.int .i64 (s.size:Int))).run prog W=.ok (.slice (some ⟨W.heap.size,0,none⟩) s.size s.size) (W.alloc (.cells M 5)):=by
   intro W
   have:=run_make (P:=prog) W 109 5 ti (.int .u8 0) Tryz.underlying109 hti tz .i64 .i64 (s.size:Int) (s.size:Int) (by omega) (by omega) (by rw [tb];omega) (by omega)
   rw [hM] at this
   simpa using this
  have copying:=Lib.run_copy_row_string (P:=prog) (w.alloc (.cells M 5)) 109 9 3 5 w.heap.size 0 s.size s.size s M 5 Tryz.underlying109 one (heap_alloc_new w _) (Nat.le_refl _) (by omega)
  generalize hY:(M.toList.take 0++Lib.byteCells s.data.toList++M.toList.drop (0+s.size)).toArray=Y at copying
  have listY:Y.toList=Lib.byteCells s.data.toList:=by
   rw [<- hY,List.toList_toArray,List.take_zero,List.nil_append,List.drop_of_length_le (by rw [Array.length_toList];omega),List.append_nil]
  have sizeY:Y.size=s.size:=by rw [<- Array.length_toList,listY,Lib.byteCells_length,<- Lib.size_eq]
  have there:((w.alloc (.cells M 5)).setRow w.heap.size Y).heap[w.heap.size]?=some (.cells Y 5 (0,0)):=setRow_heap _ _ M _ 5 (0,0) (heap_alloc_new w _)
  have some1:s.data.toList≠[]:=fun e=>h0 (by rw [Lib.size_eq,e];rfl)
  have sharing:=Lib.run_unsafeString_row (P:=prog) ((w.alloc (.cells M 5)).setRow w.heap.size Y) 269 3 9 5 Tryz.underlying269 cells1 w.heap.size Y.size (by unfold World.shape?;rw [there]) s.data.toList some1 (by rw [<- Lib.size_eq];omega) (by rw [<- Lib.size_eq];omega)
   (fun j x hx=>Lib.cells_of_row there Y.size j _ (by rw [List.take_of_length_le (by rw [Array.length_toList];exact Nat.le_refl _),listY];simp [Lib.byteCells,hx]))
  rw [<- Lib.size_eq] at sharing
  clear hM hY
  go_enter func226,Tryz.ntmps226
  go_wp2
  go_ret
  have b1:Below w.heap.size w (w.alloc (.cells M 5)):=(Below.refl _ w).alloc (Nat.le_refl _) _
  have b2:Below w.heap.size (w.alloc (.cells M 5)) ((w.alloc (.cells M 5)).setRow w.heap.size Y):=⟨rfl,rfl,rfl,by simp,fun k hk=>setRow_other _ _ _ _ (by omega)⟩
  exact ⟨rfl,fr (Lib.below_freeze (b1.trans b2) (p:=⟨w.heap.size,0,none⟩) (Nat.le_refl _) _)⟩
def Gq (vs:List Value):Option (Bool×Value) :=
 match vs with
 | [.string s]=>some (Nat.ble s.size 281474976710656,S s)
 | _=>none
theorem qfO:am 226 Gq:=by
 intro vs r h
 unfold Gq at h
 split at h
 ·rename_i s
  obtain ⟨h1,rfl⟩:=ab h
  exact Hq prog fun w=>.inr ⟨n8 func226 rfl (nz names func226 rfl) w,qg9 s w (Nat.le_of_ble_eq_true h1)⟩
 ·cases h
def Kh:FuncId->List Value->Option (Bool×Value):=vD 226 Gq
theorem S7:H7 prog Kh:=KB qfO
def good:List TypeId :=
 284 ::
 151 ::
 56 ::
 172 ::
 238 ::
 41 ::
 46 ::
 162 ::
 277 ::
 399 ::
 436 ::
 52 ::
 []
def sh (f:FuncId):Bool :=
 Nat.beq f 267 ||
 false
theorem qc2:good.all (qm prog)=true:=by kernel_rfl
def ΓA:Orc:=qJ (rC Kh) { call:=PF,eqv:=G9 prog good,rd:=LU,unr:=8,wr:=sh }
theorem Sm:ΓA.Ok prog:=Qd ⟨qhl,qal,fun t xs ys r h w op x y hop=>qgG qc2 t xs ys r h w op x y hop,fun _ _ _ _ _ _ h=>by cases h⟩ S7
theorem af {Γ:Orc} {Λ:bg} (hΓ:Γ.Ok prog) {f:FuncId} {fn:Func} {c:Code} (hf:prog.funcs[f]?=some fn) (hb:fn.body=some c) {xs:List SV} {m m':Mem} {r:SV}
 (hL:∀ z,z.L.length=m.blk.length->z.U.length=m.rows.length->∀ b∈aL c,a9 Λ prog z b) (h:runG Γ Λ prog fn xs m=some (r,m')):bB prog f xs m r m':=Ht hΓ mixed names hf hb hL h
theorem ak {Γ:Orc} {Λ:bg} (hΓ:Γ.Ok prog) {f:FuncId} {fn:Func} {c:Code} (hf:prog.funcs[f]?=some fn) (hb:fn.body=some c) {vs:List Value} {r:Value} {m':Mem}
 (hL:∀ z:Base,z.L.length=0->z.U.length=0->∀ b∈aL c,a9 Λ prog z b) (h:runG Γ Λ prog fn (vs.map .v) M0=some (.v r,m')):∀ m,bB prog f (vs.map .v) m (.v r) m:=S6 hΓ mixed names hf hb hL h
end Go.Proofs.YtainfdcfkgemhaaGreat
namespace Go.Proofs.YtainfdcfkgemhaaGreat
open Go Go.Proofs Go.Sx
def MC (a b:Int):Mem:=⟨[[.v (I a),.v (I b)]],[true],[]⟩
def aR (x y:Int):Int:=if (if y<x then y else x)>0 then (if y<x then y else x) else 0
def Fs (xs:List SV) (m:Mem):Option (Bool×Value) :=
 match xs,m with
 | [.ptr 0 1],⟨[[.v (.int .i64 _),.v (.int .i64 b)]],[true],[]⟩=>some (true,I b)
 | _,_=>none
theorem qeU:bi 284 Fs:=by
 intro xs m r h
 unfold Fs at h
 split at h
 ·rename_i a b
  obtain ⟨_,rfl⟩:=ab h
  refine af (Λ:=L0) Sm func284 rfl (fun z _ _=>aV (by kernel_rfl) z) ?_
  kernel_rfl
 ·cases h
def ΓC1:Orc:=aQ 284 Fs ΓA
theorem Sf:ΓC1.Ok prog:=aJ Sm qeU
def Gs (vs:List Value):Option (Bool×Value) :=
 match vs with
 | [.int .i64 x,.int .i64 y]=>some (true,I (aR x y))
 | _=>none
theorem qfR:am 118 Gs:=by
 intro vs r h
 unfold Gs at h
 split at h
 ·rename_i x y
  obtain ⟨_,rfl⟩:=ab h
  refine ak (Λ:=L0) (m':=M0) Sf func118 rfl (fun z _ _=>aV (by kernel_rfl) z) ?_
  kernel_rfl
 ·cases h
def ΓC2:Orc:=ah 118 Gs ΓC1
theorem I9:ΓC2.Ok prog:=ac Sf qfR
def Dv (xs:List SV) (m:Mem):Option (Bool×Value) :=
 match xs,m with
 | [.ptr 0 0],⟨[[.v (.int .i64 _),.v (.int .i64 b)]],[true],[]⟩=>some (true,I b)
 | [.v (.pointer none)],_=>some (true,I 0)
 | _,_=>none
theorem qdk:bi 221 Dv:=by
 intro xs m r h
 unfold Dv at h
 split at h
 ·rename_i a b
  obtain ⟨_,rfl⟩:=ab h
  refine af (Λ:=L0) I9 func221 rfl (fun z _ _=>aV (by kernel_rfl) z) ?_
  kernel_rfl
 ·obtain ⟨_,rfl⟩:=ab h
  refine ak (vs:=[.pointer none]) (Λ:=L0) (m':=M0) I9 func221 rfl (fun z _ _=>aV (by kernel_rfl) z) ?_ m
  kernel_rfl
 ·cases h
def ΓC3:Orc:=aQ 221 Dv ΓC2
theorem Sd:ΓC3.Ok prog:=aJ I9 qdk
def Gx (xs:List SV) (m:Mem):Option (Bool×SV×Mem) :=
 match xs,m with
 | [.ptr 0 1,.v (.int .i64 x),.v (.int .i64 y)],⟨[[.v (.int .i64 a),.v (.int .i64 b)]],[true],[]⟩=>some (true,.v (Bo (b==x)),MC a (bif b==x then y else b))
 | _,_=>none
theorem qfW:aM 307 Gx:=by
 intro xs m r m' h
 unfold Gx at h
 split at h
 ·rename_i x y a b
  obtain ⟨_,rfl,rfl⟩:=an h
  refine af (Λ:=L0) Sd func307 rfl (fun z _ _=>aV (by kernel_rfl) z) ?_
  kernel_rfl
 ·cases h
def ΓC4:Orc:=aw 307 Gx ΓC3
theorem Sc:ΓC4.Ok prog:=aq Sd qfW
def EH (xs:List SV) (m:Mem):Option (Bool×Value) :=
 match xs,m with
 | [.ptr 0 0,.v (.int .i64 v),.v (.int .i64 n)],⟨[[.v (.int .i64 a),.v (.int .i64 _)]],[true],[]⟩=>some (true,I (wI (v+aR n (wI (a - v)))))
 | _,_=>none
theorem qeg:bi 306 EH:=by
 intro xs m r h
 unfold EH at h
 split at h
 ·rename_i v n a b
  obtain ⟨_,rfl⟩:=ab h
  refine af (Λ:=L0) Sc func306 rfl (fun z _ _=>aV (by kernel_rfl) z) ?_
  kernel_rfl
 ·cases h
def ΓC5:Orc:=aQ 306 EH ΓC4
theorem I8:ΓC5.Ok prog:=aJ Sc qeg
def ao (a v n:Int):Int:=wI (v+aR n (wI (a - v)))
def sH:List Bool:=aE 24 [0,1]
def sG:List Bool:=aE 24 [4]
def tU:Code:=cH (f242.body.getD .skip) 0
theorem qbT:aL (f242.body.getD .skip)=[tU]:=by kernel_rfl
theorem qbS:aL tU=[]:=by kernel_rfl
theorem Un (a v n:Int) (k:Nat):au ΓC5 prog L0 (aj 1 0 sH) tU (k+1) (mk sH [.ptr 0 0,.v (I n)] (MC a v)) (fun e st=>some (e,aj 1 0 sG st)) =
 bif v==v then some (.ret,mk sG [.v (I (ao a v n))] (MC a (bif v==v then ao a v n else v))) else
  au ΓC5 prog L0 (aj 1 0 sH) tU k (mk sH [.ptr 0 0,.v (I n)] (MC a (bif v==v then ao a v n else v))) (fun e st=>some (e,aj 1 0 sG st)):=by kernel_rfl
def JQ (vals:List SV) (m:Mem):Option (Bool×Ex×St) :=
 match vals,m with
 | [.ptr 0 0,.v (.int .i64 n)],⟨[[.v (.int .i64 a),.v (.int .i64 v)]],[true],[]⟩=>some (true,.ret,mk sG [.v (I (ao a v n))] (MC a (ao a v n)))
 | _,_=>none
def ΛAdd:bg:=fun _ st=>dg 1 0 sH JQ st
theorem qcr (z:Base) (h1:z.L.length=1) (h2:z.U.length=0):a9 ΛAdd prog z tU:=by
 refine d9 (Λ:=L0) (kx:=fun _=>sG) I8 mixed h1 h2 (fun b hb=>by rw [qbS] at hb;cases hb) (G:=JQ) (fun _=>rfl) ?_
 intro vals m e st' h
 unfold JQ at h
 split at h
 ·rename_i n a v
  obtain ⟨_,rfl,rfl⟩:=an h
  refine ⟨1,(Un a v n 0).trans ?_⟩
  simp only [beq_self_eq_true,cond_true]
 ·cases h
def GV (xs:List SV) (m:Mem):Option (Bool×SV×Mem) :=
 match xs,m with
 | [.ptr 0 0,.v (.int .i64 n)],⟨[[.v (.int .i64 a),.v (.int .i64 v)]],[true],[]⟩=>some (true,.v (I (ao a v n)),MC a (ao a v n))
 | _,_=>none
theorem qgh:aM 242 GV:=by
 intro xs m r m' h
 unfold GV at h
 split at h
 ·rename_i n a v
  obtain ⟨_,rfl,rfl⟩:=an h
  refine af (Λ:=ΛAdd) I8 func242 rfl (fun z h1 h2=>bX (c:=f242.body.getD .skip) qbT (qcr z h1 h2)) ?_
  kernel_rfl
 ·cases h
def ΓC6:Orc:=aw 242 GV ΓC5
theorem Sb:ΓC6.Ok prog:=aq I8 qgh
def Fa (xs:List SV) (m:Mem):Option (Bool×SV×Mem) :=
 match xs,m with
 | [.v (.int .i64 n)],⟨[],[],[]⟩=>some (true,.ptr 0 0,MC (aR n 1000000) 0)
 | _,_=>none
theorem qeF:aM 60 Fa:=by
 intro xs m r m' h
 unfold Fa at h
 split at h
 ·rename_i n
  obtain ⟨_,rfl,rfl⟩:=an h
  refine af (Λ:=L0) Sb func60 rfl (fun z _ _=>aV (by kernel_rfl) z) ?_
  kernel_rfl
 ·cases h
def ΓC:Orc:=aw 60 Fa ΓC6
theorem Aa:ΓC.Ok prog:=aq Sb qeF
end Go.Proofs.YtainfdcfkgemhaaGreat
namespace Go.Proofs.YtainfdcfkgemhaaGreat
open Go Go.Proofs Go.Sx
set_option linter.unusedVariables false
abbrev UU (x:Int):Value:=.int .u64 x
theorem kc {a b:Value} (h:a=b):(some (SV.v a,M0):Option (SV×Mem))=some (.v b,M0):=by rw [h]
theorem CI (c:Code) (z:Base):∀ b∈aL c,a9 L0 prog z b:=fun b _ st t h=>by cases h
theorem ai {c:Code} {p q:Base->Prop}:∀ z,p z->q z->∀ b∈aL c,a9 L0 prog z b:=fun z _ _=>CI _ z
def GU (vs:List Value):Option (Bool×Value) :=
 match vs with
 | [.int .u64 x,.int .u64 y,.int .u64 c]=>some (decide (0<=x/\0<=y/\0<=c/\c<=1),.tuple #[UU (gA x y c),UU (fq x y c)])
 | _=>none
theorem qgi:am 354 GU:=by
 intro vs r h
 unfold GU at h
 split at h
 ·rename_i x y c
  obtain ⟨h1,rfl⟩:=ab h
  refine Hq prog fun w=>.inl ?_
  have hc:0<=x/\0<=y/\0<=c/\c<=1:=by simpa using h1
  rw [run_callFunc_extern func354 (by kernel_rfl) (by kernel_rfl) (by kernel_rfl) (e:=add64Entry) (by kernel_rfl)]
  rw [show (List.toArray [Value.int .u64 x,.int .u64 y,.int .u64 c])=#[Value.int .u64 x,.int .u64 y,.int .u64 c] from rfl,run_add64 x y c hc.1 hc.2.1 hc.2.2.1 hc.2.2.2]
  rfl
 ·cases h
def ΓW1:Orc:=ah 354 GU ΓC
theorem qiZ:ΓW1.Ok prog:=ac Aa qgi
def ΓW2:Orc:=ΓW1
theorem QW:ΓW2.Ok prog:=qiZ
theorem U3 (a b:Int):runG ΓW2 L0 prog f355 [.v (Wd a b)] M0=some (.v (Bo (decide (a<0))),M0):=by kernel_rfl
def Dm (vs:List Value):Option (Bool×Value) :=
 match vs with
 | [.agg ⟨[.int .i64 a,.int .u64 b]⟩]=>some (true,Bo (decide (a<0)))
 | _=>none
theorem qdb:am 355 Dm:=by
 intro vs r h
 unfold Dm at h
 split at h
 ·rename_i a b
  obtain ⟨h1,rfl⟩:=ab h
  refine ak (vs:=[Wd a b]) (Λ:=L0) (m':=M0) QW func355 rfl ai ?_
  exact (U3 a b).trans (rfl)
 ·cases h
def ΓW3:Orc:=ah 355 Dm ΓW2
theorem QV:ΓW3.Ok prog:=ac QW qdb
theorem XM (a:Int):runG ΓW3 L0 prog f379 [.v (I a)] M0=some (.v (Bo (a != a)),M0):=by kernel_rfl
def Fc (vs:List Value):Option (Bool×Value) :=
 match vs with
 | [.int .i64 a]=>some (true,Bo false)
 | _=>none
theorem qeH:am 379 Fc:=by
 intro vs r h
 unfold Fc at h
 split at h
 ·rename_i a
  obtain ⟨h1,rfl⟩:=ab h
  refine ak (vs:=[I a]) (Λ:=L0) (m':=M0) QV func379 rfl ai ?_
  exact (XM a).trans (by simp)
 ·cases h
def ΓW4:Orc:=ah 379 Fc ΓW3
theorem QU:ΓW4.Ok prog:=ac QV qeH
theorem XL (a:Int):runG ΓW4 L0 prog f380 [.v (UU a)] M0=some (.v (Bo (a != a)),M0):=by kernel_rfl
def Fb (vs:List Value):Option (Bool×Value) :=
 match vs with
 | [.int .u64 a]=>some (true,Bo false)
 | _=>none
theorem qeG:am 380 Fb:=by
 intro vs r h
 unfold Fb at h
 split at h
 ·rename_i a
  obtain ⟨h1,rfl⟩:=ab h
  refine ak (vs:=[UU a]) (Λ:=L0) (m':=M0) QU func380 rfl ai ?_
  exact (XL a).trans (by simp)
 ·cases h
def ΓW5:Orc:=ah 380 Fb ΓW4
theorem QT:ΓW5.Ok prog:=ac QU qeG
theorem XS (x y:Int):runG ΓW5 L0 prog f185 [.v (UU x),.v (UU y)] M0 =
 (let U:=IntKind.u64.wrap;let A:=fun z:Int=>U ((BitVec.ofInt 64 z &&& BitVec.ofInt 64 4294967295).toNat:Int);let S:=fun z:Int=>z.fdiv (2 ^ 32);let w0:=U (A x*A y);let t:=U (U (S x*A y)+S w0);let w1:=U (A t+U (A x*S y));some (.v (.tuple #[UU (U (U (U (S x*S y)+S t)+S w1)),UU (U (x*y))]),M0)):=by kernel_rfl
def yq (vs:List Value):Option (Bool×Value) :=
 match vs with
 | [.int .u64 x,.int .u64 y]=>some (c6 x&&c6 y,.tuple #[UU (x*y / 18446744073709551616),UU (x*y % 18446744073709551616)])
 | _=>none
theorem yp:am 185 yq:=by
 intro vs r h
 unfold yq at h
 split at h
 ·rename_i x y
  obtain ⟨h1,rfl⟩:=ab h
  refine ak (vs:=[UU x,UU y]) (Λ:=L0) (m':=M0) QT func185 rfl ai ?_
  exact (XS x y).trans (by
   rw [Bool.and_eq_true] at h1
   obtain ⟨e1,e2⟩:=qa7 x y h1.1 h1.2
   exact kc (by show Value.tuple #[UU _,UU _]=_;rw [e1,e2]))
 ·cases h
def ΓW6:Orc:=ah 185 yq ΓW5
theorem Iy:ΓW6.Ok prog:=ac QT yp
theorem Lu (x y:Int):runG ΓW6 L0 prog f116 [.v (UU x),.v (UU y)] M0=bif c6 x&&c6 y then some (.v (.tuple #[UU (x*y / 18446744073709551616),UU (x*y % 18446744073709551616)]),M0) else none:=by kernel_rfl
def Fh (vs:List Value):Option (Bool×Value) :=
 match vs with
 | [.int .u64 x,.int .u64 y]=>some (c6 x&&c6 y,.tuple #[UU (x*y / 18446744073709551616),UU (x*y % 18446744073709551616)])
 | _=>none
theorem qeM:am 116 Fh:=by
 intro vs r h
 unfold Fh at h
 split at h
 ·rename_i x y
  obtain ⟨h1,rfl⟩:=ab h
  refine ak (vs:=[UU x,UU y]) (Λ:=L0) (m':=M0) Iy func116 rfl ai ?_
  exact (Lu x y).trans (by rw [h1];rfl)
 ·cases h
def ΓW7:Orc:=ah 116 Fh ΓW6
theorem QS:ΓW7.Ok prog:=ac Iy qeM
theorem Y9 (x y:Int):runG ΓW7 L0 prog f368 [.v (I x),.v (I y)] M0=bif decide (x<y) then some (.v (I (-1)),M0) else (bif decide (x>y) then some (.v (I 1),M0) else some (.v (I 0),M0)):=by kernel_rfl
def Gm (vs:List Value):Option (Bool×Value) :=
 match vs with
 | [.int .i64 x,.int .i64 y]=>some (true,I (eT x y))
 | _=>none
theorem qfM:am 368 Gm:=by
 intro vs r h
 unfold Gm at h
 split at h
 ·rename_i x y
  obtain ⟨h1,rfl⟩:=ab h
  refine ak (vs:=[I x,I y]) (Λ:=L0) (m':=M0) QS func368 rfl ai ?_
  exact (Y9 x y).trans (by
   unfold eT
   cases decide (x<y)
   ·show _=some (SV.v (I (bif decide (x>y) then 1 else 0)),M0)
    cases decide (x>y)<;>rfl
   ·rfl)
 ·cases h
def ΓW8:Orc:=ah 368 Gm ΓW7
theorem QR:ΓW8.Ok prog:=ac QS qfM
theorem Y8 (x y:Int):runG ΓW8 L0 prog f369 [.v (UU x),.v (UU y)] M0=bif decide (x<y) then some (.v (I (-1)),M0) else (bif decide (x>y) then some (.v (I 1),M0) else some (.v (I 0),M0)):=by kernel_rfl
def Gl (vs:List Value):Option (Bool×Value) :=
 match vs with
 | [.int .u64 x,.int .u64 y]=>some (true,I (eT x y))
 | _=>none
theorem qfL:am 369 Gl:=by
 intro vs r h
 unfold Gl at h
 split at h
 ·rename_i x y
  obtain ⟨h1,rfl⟩:=ab h
  refine ak (vs:=[UU x,UU y]) (Λ:=L0) (m':=M0) QR func369 rfl ai ?_
  exact (Y8 x y).trans (by
   unfold eT
   cases decide (x<y)
   ·show _=some (SV.v (I (bif decide (x>y) then 1 else 0)),M0)
    cases decide (x>y)<;>rfl
   ·rfl)
 ·cases h
def ΓW9:Orc:=ah 369 Gl ΓW8
theorem QQ:ΓW9.Ok prog:=ac QR qfL
theorem U2 (n:Int):runG ΓW9 L0 prog f322 [.v (I n)] M0=some (.v (Wd (n.fdiv (2 ^ 63)) (IntKind.u64.wrap n)),M0):=by kernel_rfl
def Dl (vs:List Value):Option (Bool×Value) :=
 match vs with
 | [.int .i64 n]=>some (bD n,Wn n)
 | _=>none
theorem qda:am 322 Dl:=by
 intro vs r h
 unfold Dl at h
 split at h
 ·rename_i n
  obtain ⟨h1,rfl⟩:=ab h
  refine ak (vs:=[I n]) (Λ:=L0) (m':=M0) QQ func322 rfl ai ?_
  exact (U2 n).trans (by
   rw [eP] at h1
   obtain ⟨_,h2,h3⟩:=nq (n:=n) (by omega) (by omega)
   refine kc (rn ?_ ?_)
   ·rw [h2,Int.fdiv_eq_ediv_of_nonneg _ (by decide),show (2:Int) ^ 63=9223372036854775808 from by decide]
    omega
   ·rw [h3,wrU])
 ·cases h
def ΓW10:Orc:=ah 322 Dl ΓW9
theorem Q2:ΓW10.Ok prog:=ac QQ qda
theorem U7 (a b c d:Int):runG ΓW10 L0 prog f321 [.v (Wd a b),.v (Wd c d)] M0 =
 (bif decide ((0:Int)<=b/\(0:Int)<=d/\(0:Int)<=(0:Int)/\(0:Int)<=(1:Int)) then (bif decide ((0:Int)<=IntKind.u64.wrap a/\(0:Int)<=IntKind.u64.wrap c/\(0:Int)<=fq b d (0:Int)/\fq b d (0:Int)<=(1:Int)) then (bif decide (a<(0:Int))==decide (c<(0:Int)) then (bif !decide (wI (gA (IntKind.u64.wrap a) (IntKind.u64.wrap c) (fq b d (0:Int)))<(0:Int))==decide (a<(0:Int)) then some (.v (.tuple #[(.agg #[(I 0),(.int .u64 0)]),(Bo false)]),M0) else some (.v (.tuple #[(.agg #[(I (wI (gA (IntKind.u64.wrap a) (IntKind.u64.wrap c) (fq b d (0:Int))))),(.int .u64 (gA b d (0:Int)))]),(Bo true)]),M0)) else some (.v (.tuple #[(.agg #[(I (wI (gA (IntKind.u64.wrap a) (IntKind.u64.wrap c) (fq b d (0:Int))))),(.int .u64 (gA b d (0:Int)))]),(Bo true)]),M0)) else none) else none):=by kernel_rfl
def Dq (vs:List Value):Option (Bool×Value) :=
 match vs with
 | [.agg ⟨[.int .i64 a,.int .u64 b]⟩,.agg ⟨[.int .i64 c,.int .u64 d]⟩]=>some (cI a b&&cI c d,.tuple #[Wn (wv a b+wv c d),Bo (dm (wv a b+wv c d))])
 | _=>none
theorem qdf:am 321 Dq:=by
 intro vs r h
 unfold Dq at h
 split at h
 ·rename_i a b c d
  obtain ⟨h1,rfl⟩:=ab h
  refine ak (vs:=[Wd a b,Wd c d]) (Λ:=L0) (m':=M0) Q2 func321 rfl ai ?_
  exact (U7 a b c d).trans (by
   rw [Bool.and_eq_true] at h1
   obtain ⟨⟨k0,k1⟩,k2,k3⟩:=qh2 a b c d h1.1 h1.2
   have i1:=kM.1 h1.1
   have i2:=kM.1 h1.2
   have u1:=jO.1 (xz a)
   have u2:=jO.1 (xz c)
   rw [decide_eq_true (show (0:Int)<=b/\(0:Int)<=d/\(0:Int)<=0/\(0:Int)<=1 by omega),decide_eq_true (show (0:Int)<=IntKind.u64.wrap a/\(0:Int)<=IntKind.u64.wrap c/\(0:Int)<=fq b d 0/\fq b d 0<=(1:Int) by omega)]
   simp only [cond_true]
   cases ho:dm (wv a b+wv c d) with
   | true =>
    obtain ⟨e1,e2⟩:=k3 ho
    rw [ho,Bool.not_true] at k2
    cases hs:decide (a<0)==decide (c<0) with
    | false=>exact kc (AL e1 e2 rfl)
    | true =>
     rw [hs,Bool.true_and] at k2
     have k2':(!decide (wI (gA (IntKind.u64.wrap a) (IntKind.u64.wrap c) (fq b d 0))<0)==decide (a<0))=false:=k2
     rw [k2']
     exact kc (AL e1 e2 rfl)
   | false =>
    rw [ho,Bool.not_false,Bool.and_eq_true] at k2
    have k2':(!decide (wI (gA (IntKind.u64.wrap a) (IntKind.u64.wrap c) (fq b d 0))<0)==decide (a<0))=true:=k2.2
    rw [k2.1,k2']
    obtain ⟨_,e1,e2⟩:=qaS (n:=wv a b+wv c d) (by have:=of_decide_eq_false ho;omega)
    exact kc (AL e1.symm e2.symm rfl))
 ·cases h
def ΓW11:Orc:=ah 321 Dq ΓW10
theorem Q1:ΓW11.Ok prog:=ac Q2 qdf
theorem U5 (a b:Int):runG ΓW11 L0 prog f323 [.v (Wd a b)] M0 =
 (bif bD (wI b) then (bif !(bF (wI b)==a&&(bH (wI b)==b&&true)) then some (.v (.tuple #[(I 0),(Bo false)]),M0) else some (.v (.tuple #[(I (wI b)),(Bo true)]),M0)) else none):=by kernel_rfl
def Do (vs:List Value):Option (Bool×Value) :=
 match vs with
 | [.agg ⟨[.int .i64 a,.int .u64 b]⟩]=>some (cI a b,.tuple #[I (jv (wv a b)),Bo (bD (wv a b))])
 | _=>none
theorem qdd:am 323 Do:=by
 intro vs r h
 unfold Do at h
 split at h
 ·rename_i a b
  obtain ⟨h1,rfl⟩:=ab h
  refine ak (vs:=[Wd a b]) (Λ:=L0) (m':=M0) Q1 func323 rfl ai ?_
  exact (U5 a b).trans (by
   obtain ⟨k1,k2,k3⟩:=qcN a b h1
   have k2':(bF (wI b)==a&&(bH (wI b)==b&&true))=bD (wv a b):=k2
   rw [show bD (wI b)=true from k1,k2']
   cases hq:bD (wv a b) with
   | true=>exact kc (inB ((k3 hq).trans (by simp [jv,hq])) rfl)
   | false=>exact kc (inB (by simp [jv,hq]) rfl))
 ·cases h
def ΓW12:Orc:=ah 323 Do ΓW11
theorem Q0:ΓW12.Ok prog:=ac Q1 qdd
theorem U6 (a b c d:Int):runG ΓW12 L0 prog f353 [.v (Wd a b),.v (Wd c d)] M0 =
 (bif eT a c != (0:Int) then some (.v (I (eT a c)),M0) else some (.v (I (eT b d)),M0)):=by kernel_rfl
def Dp (vs:List Value):Option (Bool×Value) :=
 match vs with
 | [.agg ⟨[.int .i64 a,.int .u64 b]⟩,.agg ⟨[.int .i64 c,.int .u64 d]⟩]=>some (cI a b&&cI c d,I (eT (wv a b) (wv c d)))
 | _=>none
theorem qde:am 353 Dp:=by
 intro vs r h
 unfold Dp at h
 split at h
 ·rename_i a b c d
  obtain ⟨h1,rfl⟩:=ab h
  refine ak (vs:=[Wd a b,Wd c d]) (Λ:=L0) (m':=M0) Q0 func353 rfl ai ?_
  exact (U6 a b c d).trans (by
   rw [Bool.and_eq_true] at h1
   rw [<- qha h1.1 h1.2]
   cases eT a c != 0<;>rfl)
 ·cases h
def ΓW13:Orc:=ah 353 Dp ΓW12
theorem QZ:ΓW13.Ok prog:=ac Q0 qde
theorem U4 (a b:Int):runG ΓW13 L0 prog f316 [.v (I a),.v (I b)] M0 =
 (bif c6 (IntKind.u64.wrap a)&&c6 (IntKind.u64.wrap b) then (bif decide (a<(0:Int)) then (bif decide (b<(0:Int)) then some (.v (.agg #[(I (wI (IntKind.u64.wrap (IntKind.u64.wrap (IntKind.u64.wrap a*IntKind.u64.wrap b / (18446744073709551616:Int) - IntKind.u64.wrap b) - IntKind.u64.wrap a)))),(.int .u64 (IntKind.u64.wrap a*IntKind.u64.wrap b % (18446744073709551616:Int)))]),M0) else some (.v (.agg #[(I (wI (IntKind.u64.wrap (IntKind.u64.wrap a*IntKind.u64.wrap b / (18446744073709551616:Int) - IntKind.u64.wrap b)))),(.int .u64 (IntKind.u64.wrap a*IntKind.u64.wrap b % (18446744073709551616:Int)))]),M0)) else (bif decide (b<(0:Int)) then some (.v (.agg #[(I (wI (IntKind.u64.wrap (IntKind.u64.wrap a*IntKind.u64.wrap b / (18446744073709551616:Int) - IntKind.u64.wrap a)))),(.int .u64 (IntKind.u64.wrap a*IntKind.u64.wrap b % (18446744073709551616:Int)))]),M0) else some (.v (.agg #[(I (wI (IntKind.u64.wrap a*IntKind.u64.wrap b / (18446744073709551616:Int)))),(.int .u64 (IntKind.u64.wrap a*IntKind.u64.wrap b % (18446744073709551616:Int)))]),M0))) else none):=by kernel_rfl
def Dn (vs:List Value):Option (Bool×Value) :=
 match vs with
 | [.int .i64 a,.int .i64 b]=>some (bD a&&bD b,Wn (a*b))
 | _=>none
theorem qdc:am 316 Dn:=by
 intro vs r h
 unfold Dn at h
 split at h
 ·rename_i a b
  obtain ⟨h1,rfl⟩:=ab h
  refine ak (vs:=[I a,I b]) (Λ:=L0) (m':=M0) QZ func316 rfl ai ?_
  exact (U4 a b).trans (by
   rw [xz,xz]
   rw [Bool.and_eq_true] at h1
   have k:=qa5 a b h1.1 h1.2
   refine Eq.trans ?_ (kc k)
   cases decide (a<0)<;>cases decide (b<0)<;>rfl)
 ·cases h
def ΓW14:Orc:=ah 316 Dn ΓW13
theorem QY:ΓW14.Ok prog:=ac QZ qdc
theorem YS (a b:Int) (o:Bool):runG ΓW14 L0 prog f320 [.v (Wd a b),.v (Bo o)] M0 =
 (bif !o then some (.v (.tuple #[(I 0),(Bo false)]),M0) else (bif cI a b then some (.v (.tuple #[(I (jv (wv a b))),(Bo (bD (wv a b)))]),M0) else none)):=by kernel_rfl
def F6 (vs:List Value):Option (Bool×Value) :=
 match vs with
 | [.agg ⟨[.int .i64 a,.int .u64 b]⟩,.bool o]=>some (cI a b,.tuple #[I (bif o then jv (wv a b) else 0),Bo (o&&bD (wv a b))])
 | _=>none
theorem qfv:am 320 F6:=by
 intro vs r h
 unfold F6 at h
 split at h
 ·rename_i a b o
  obtain ⟨h1,rfl⟩:=ab h
  refine ak (vs:=[Wd a b,Bo o]) (Λ:=L0) (m':=M0) QY func320 rfl ai ?_
  exact (YS a b o).trans (by
   cases o with
   | false=>rfl
   | true=>rw [h1];rfl)
 ·cases h
def ΓW15:Orc:=ah 320 F6 ΓW14
theorem QX:ΓW15.Ok prog:=ac QY qfv
theorem YV (a b:Int):runG ΓW15 L0 prog f261 [.v (I a),.v (I b)] M0 =
 (bif bD a then (bif bD b then (bif cI (bF a) (bH a)&&cI (bF b) (bH b) then (bif cI (bF (wv (bF a) (bH a)+wv (bF b) (bH b))) (bH (wv (bF a) (bH a)+wv (bF b) (bH b))) then some (.v (.tuple #[(I (bif dm (wv (bF a) (bH a)+wv (bF b) (bH b)) then jv (wv (bF (wv (bF a) (bH a)+wv (bF b) (bH b))) (bH (wv (bF a) (bH a)+wv (bF b) (bH b)))) else (0:Int))),(Bo (dm (wv (bF a) (bH a)+wv (bF b) (bH b))&&bD (wv (bF (wv (bF a) (bH a)+wv (bF b) (bH b))) (bH (wv (bF a) (bH a)+wv (bF b) (bH b))))))]),M0) else none) else none) else none) else none):=by kernel_rfl
def F8 (vs:List Value):Option (Bool×Value) :=
 match vs with
 | [.int .i64 a,.int .i64 b]=>some (bD a&&bD b,.tuple #[I (jv (a+b)),Bo (bD (a+b))])
 | _=>none
theorem qfx:am 261 F8:=by
 intro vs r h
 unfold F8 at h
 split at h
 ·rename_i a b
  obtain ⟨h1,rfl⟩:=ab h
  refine ak (vs:=[I a,I b]) (Λ:=L0) (m':=M0) QX func261 rfl ai ?_
  exact (YV a b).trans (by
   rw [Bool.and_eq_true] at h1
   have i1:=eP.1 h1.1
   have i2:=eP.1 h1.2
   obtain ⟨o,_,_⟩:=nq (n:=a+b) (by omega) (by omega)
   obtain ⟨e1,e2⟩:=mX (Ck h1.1)
   obtain ⟨e3,e4⟩:=mX (Ck h1.2)
   obtain ⟨e5,e6⟩:=mX o
   rw [h1.1,h1.2,e1,e2,e3,e4,o,e5,e6]
   rfl)
 ·cases h
def ΓW16:Orc:=ah 261 F8 ΓW15
theorem qiY:ΓW16.Ok prog:=ac QX qfx
def ΓWd:Orc:=ΓW16
theorem qiX:ΓWd.Ok prog:=qiY
end Go.Proofs.YtainfdcfkgemhaaGreat
namespace Go.Proofs.YtainfdcfkgemhaaGreat
open Go Go.Proofs Go.Sx
set_option linter.unusedVariables false
def ΓR1:Orc:=ΓWd
theorem OkR1:ΓR1.Ok prog:=qiX
def ΓR2:Orc:=ΓR1
theorem OkR2:ΓR2.Ok prog:=OkR1
end Go.Proofs.YtainfdcfkgemhaaGreat
namespace Go.Proofs.YtainfdcfkgemhaaGreat
open Go Go.Proofs Go.Sx
set_option linter.unusedVariables false
def ΓQ1:Orc:=ΓR2
theorem OkQ1:ΓQ1.Ok prog:=OkR2
def ΓQ2:Orc:=ΓQ1
theorem OkQ2:ΓQ2.Ok prog:=OkQ1
def ΓQ3:Orc:=ΓQ2
theorem OkQ3:ΓQ3.Ok prog:=OkQ2
def ΓQ4:Orc:=ΓQ3
theorem OkQ4:ΓQ4.Ok prog:=OkQ3
def ΓQ5:Orc:=ΓQ4
theorem OkQ5:ΓQ5.Ok prog:=OkQ4
def ΓRf:Orc:=ΓQ5
theorem Rc:ΓRf.Ok prog:=OkQ5
end Go.Proofs.YtainfdcfkgemhaaGreat
namespace Go.Proofs.YtainfdcfkgemhaaGreat
open Go Go.Proofs Go.Sx
set_option linter.unusedVariables false
theorem vB {x y:Bool} (h:x=y):(some (SV.v (Bo x),M0):Option (SV×Mem))=some (.v (Bo y),M0):=by rw [h]
theorem vI {x y:Int} (h:x=y):(some (SV.v (I x),M0):Option (SV×Mem))=some (.v (I y),M0):=by rw [h]
theorem Zu (x a b:Int):runG ΓRf L0 prog f333 [.v (I x),.v (I a),.v (I b)] M0 =
 (bif decide (a<=x) then some (.v (Bo (decide (x<=b))),M0) else some (.v (Bo false),M0)):=by kernel_rfl
def GD (vs:List Value):Option (Bool×Value) :=
 match vs with
 | [.int .i64 x,.int .i64 a,.int .i64 b]=>some (true,Bo (decide (a<=x)&&decide (x<=b)))
 | _=>none
theorem qf0:am 333 GD:=by
 intro vs r h
 unfold GD at h
 split at h
 ·rename_i x a b
  obtain ⟨h1,rfl⟩:=ab h
  refine ak (vs:=[I x,I a,I b]) (Λ:=L0) (m':=M0) Rc func333 rfl ai ?_
  exact (Zu x a b).trans (by cases decide (a<=x)<;>rfl)
 ·cases h
def ΓP1:Orc:=ah 333 GD ΓRf
theorem OkP1:ΓP1.Ok prog:=ac Rc qf0
theorem Xt (a1 a2:Int):runG ΓP1 L0 prog f295 [.v (.agg #[I a1,I a2])] M0 =
 (bif decide ((-1099511627776:Int)<=a1)&&decide (a1<=(1099511627776:Int)) then some (.v (Bo (decide ((-1099511627776:Int)<=a2)&&decide (a2<=(1099511627776:Int)))),M0) else some (.v (Bo false),M0)):=by kernel_rfl
def ET (vs:List Value):Option (Bool×Value) :=
 match vs with
 | [.agg ⟨[.int .i64 a1,.int .i64 a2]⟩]=>some (true,Bo (plR a1 a2))
 | _=>none
theorem qes:am 295 ET:=by
 intro vs r h
 unfold ET at h
 split at h
 ·rename_i a1 a2
  obtain ⟨h1,rfl⟩:=ab h
  refine ak (vs:=[.agg #[I a1,I a2]]) (Λ:=L0) (m':=M0) OkP1 func295 rfl ai ?_
  exact (Xt a1 a2).trans (by
   unfold plR
   by_cases h1:-1099511627776<=a1<;>by_cases h2:a1<=1099511627776<;>by_cases h3:-1099511627776<=a2<;>by_cases h4:a2<=1099511627776<;>simp [h1,h2,h3,h4])
 ·cases h
def ΓP2:Orc:=ah 295 ET ΓP1
theorem OkP2:ΓP2.Ok prog:=ac OkP1 qes
def ΓP3:Orc:=ΓP2
theorem OkP3:ΓP3.Ok prog:=OkP2
theorem ZO (t:TypeId) (a1 a2 b1 b2:Int) (own mark:Bool):runG ΓP3 L0 prog f340 [.row 0] ⟨[],[],[.live ⟨t,[.num .i64,.num .i64],[[.n a1,.n a2],[.n b1,.n b2]],own,mark⟩]⟩=(bif !plR a1 a2 then some (.v (Bo false),⟨[],[],[.live ⟨t,[.num .i64,.num .i64],[[.n a1,.n a2],[.n b1,.n b2]],own,mark⟩]⟩) else (bif !plR b1 b2 then some (.v (Bo false),⟨[],[],[.live ⟨t,[.num .i64,.num .i64],[[.n a1,.n a2],[.n b1,.n b2]],own,mark⟩]⟩) else some (.v (Bo true),⟨[],[],[.live ⟨t,[.num .i64,.num .i64],[[.n a1,.n a2],[.n b1,.n b2]],own,mark⟩]⟩))):=by kernel_rfl
theorem ZN (t:TypeId) (a1 a2 b1 b2 c1 c2:Int) (own mark:Bool):runG ΓP3 L0 prog f340 [.row 0] ⟨[],[],[.live ⟨t,[.num .i64,.num .i64],[[.n a1,.n a2],[.n b1,.n b2],[.n c1,.n c2]],own,mark⟩]⟩=(bif !plR a1 a2 then some (.v (Bo false),⟨[],[],[.live ⟨t,[.num .i64,.num .i64],[[.n a1,.n a2],[.n b1,.n b2],[.n c1,.n c2]],own,mark⟩]⟩) else (bif !plR b1 b2 then some (.v (Bo false),⟨[],[],[.live ⟨t,[.num .i64,.num .i64],[[.n a1,.n a2],[.n b1,.n b2],[.n c1,.n c2]],own,mark⟩]⟩) else (bif !plR c1 c2 then some (.v (Bo false),⟨[],[],[.live ⟨t,[.num .i64,.num .i64],[[.n a1,.n a2],[.n b1,.n b2],[.n c1,.n c2]],own,mark⟩]⟩) else some (.v (Bo true),⟨[],[],[.live ⟨t,[.num .i64,.num .i64],[[.n a1,.n a2],[.n b1,.n b2],[.n c1,.n c2]],own,mark⟩]⟩)))):=by kernel_rfl
theorem ZM (t:TypeId) (a1 a2 b1 b2 c1 c2 d1 d2:Int) (own mark:Bool):runG ΓP3 L0 prog f340 [.row 0] ⟨[],[],[.live ⟨t,[.num .i64,.num .i64],[[.n a1,.n a2],[.n b1,.n b2],[.n c1,.n c2],[.n d1,.n d2]],own,mark⟩]⟩=(bif !plR a1 a2 then some (.v (Bo false),⟨[],[],[.live ⟨t,[.num .i64,.num .i64],[[.n a1,.n a2],[.n b1,.n b2],[.n c1,.n c2],[.n d1,.n d2]],own,mark⟩]⟩) else (bif !plR b1 b2 then some (.v (Bo false),⟨[],[],[.live ⟨t,[.num .i64,.num .i64],[[.n a1,.n a2],[.n b1,.n b2],[.n c1,.n c2],[.n d1,.n d2]],own,mark⟩]⟩) else (bif !plR c1 c2 then some (.v (Bo false),⟨[],[],[.live ⟨t,[.num .i64,.num .i64],[[.n a1,.n a2],[.n b1,.n b2],[.n c1,.n c2],[.n d1,.n d2]],own,mark⟩]⟩) else (bif !plR d1 d2 then some (.v (Bo false),⟨[],[],[.live ⟨t,[.num .i64,.num .i64],[[.n a1,.n a2],[.n b1,.n b2],[.n c1,.n c2],[.n d1,.n d2]],own,mark⟩]⟩) else some (.v (Bo true),⟨[],[],[.live ⟨t,[.num .i64,.num .i64],[[.n a1,.n a2],[.n b1,.n b2],[.n c1,.n c2],[.n d1,.n d2]],own,mark⟩]⟩))))):=by kernel_rfl
def GT (xs:List SV) (m:Mem):Option (Bool×Value) :=
 match xs,m with
 | [.row 0],⟨[],[],[.live ⟨t,[.num .i64,.num .i64],[[.n a1,.n a2],[.n b1,.n b2]],own,mark⟩]⟩=>some (true,Bo ((plR a1 a2&&plR b1 b2)))
 | [.row 0],⟨[],[],[.live ⟨t,[.num .i64,.num .i64],[[.n a1,.n a2],[.n b1,.n b2],[.n c1,.n c2]],own,mark⟩]⟩=>some (true,Bo ((plR a1 a2&&(plR b1 b2&&plR c1 c2))))
 | [.row 0],⟨[],[],[.live ⟨t,[.num .i64,.num .i64],[[.n a1,.n a2],[.n b1,.n b2],[.n c1,.n c2],[.n d1,.n d2]],own,mark⟩]⟩=>some (true,Bo ((plR a1 a2&&(plR b1 b2&&(plR c1 c2&&plR d1 d2)))))
 | _,_=>none
theorem qgg:bi 340 GT:=by
 intro xs m r h
 unfold GT at h
 split at h
 ·rename_i t a1 a2 b1 b2 own mark
  obtain ⟨h1,rfl⟩:=ab h
  refine af (Λ:=L0) OkP3 func340 rfl ai ?_
  exact (ZO t a1 a2 b1 b2 own mark).trans (by cases plR a1 a2<;>cases plR b1 b2<;>rfl)
 ·rename_i t a1 a2 b1 b2 c1 c2 own mark
  obtain ⟨h1,rfl⟩:=ab h
  refine af (Λ:=L0) OkP3 func340 rfl ai ?_
  exact (ZN t a1 a2 b1 b2 c1 c2 own mark).trans (by cases plR a1 a2<;>cases plR b1 b2<;>cases plR c1 c2<;>rfl)
 ·rename_i t a1 a2 b1 b2 c1 c2 d1 d2 own mark
  obtain ⟨h1,rfl⟩:=ab h
  refine af (Λ:=L0) OkP3 func340 rfl ai ?_
  exact (ZM t a1 a2 b1 b2 c1 c2 d1 d2 own mark).trans (by cases plR a1 a2<;>cases plR b1 b2<;>cases plR c1 c2<;>cases plR d1 d2<;>rfl)
 ·cases h
def ΓP4:Orc:=aQ 340 GT ΓP3
theorem OkP4:ΓP4.Ok prog:=aJ OkP3 qgg
theorem Vv (a1 a2 b1 b2 c1 c2:Int):runG ΓP4 L0 prog f341 [.v (.agg #[I a1,I a2]),.v (.agg #[I b1,I b2]),.v (.agg #[I c1,I c2])] M0 =
 (bif !(plR a1 a2&&(plR b1 b2&&plR c1 c2)) then some (.v (I 0),M0) else (bif bD (wI (b1 - a1))&&bD (wI (c2 - a2)) then (bif bD (wI (b2 - a2))&&bD (wI (c1 - a1)) then (bif cI (bF (wI (b1 - a1)*wI (c2 - a2))) (bH (wI (b1 - a1)*wI (c2 - a2)))&&cI (bF (wI (b2 - a2)*wI (c1 - a1))) (bH (wI (b2 - a2)*wI (c1 - a1))) then some (.v (I (eT (wv (bF (wI (b1 - a1)*wI (c2 - a2))) (bH (wI (b1 - a1)*wI (c2 - a2)))) (wv (bF (wI (b2 - a2)*wI (c1 - a1))) (bH (wI (b2 - a2)*wI (c1 - a1)))))),M0) else none) else none) else none)):=by kernel_rfl
def DI (vs:List Value):Option (Bool×Value) :=
 match vs with
 | [.agg ⟨[.int .i64 a1,.int .i64 a2]⟩,.agg ⟨[.int .i64 b1,.int .i64 b2]⟩,.agg ⟨[.int .i64 c1,.int .i64 c2]⟩]=>some (true,I (dP a1 a2 b1 b2 c1 c2))
 | _=>none
theorem qdu:am 341 DI:=by
 intro vs r h
 unfold DI at h
 split at h
 ·rename_i a1 a2 b1 b2 c1 c2
  obtain ⟨h1,rfl⟩:=ab h
  refine ak (vs:=[.agg #[I a1,I a2],.agg #[I b1,I b2],.agg #[I c1,I c2]]) (Λ:=L0) (m':=M0) OkP4 func341 rfl ai ?_
  exact (Vv a1 a2 b1 b2 c1 c2).trans (by
   have m1:=Mk (me (b1 - a1)) (me (c2 - a2))
   have m2:=Mk (me (b2 - a2)) (me (c1 - a1))
   cases h:plR a1 a2&&(plR b1 b2&&plR c1 c2) with
   | false=>exact vI (by unfold dP;rw [h];rfl)
   | true =>
    rw [<- Ty h]
    have i1:bD (wI (b1 - a1))=true:=me _
    have i2:bD (wI (c2 - a2))=true:=me _
    have i3:bD (wI (b2 - a2))=true:=me _
    have i4:bD (wI (c1 - a1))=true:=me _
    have w1:wv (bF (wI (b1 - a1)*wI (c2 - a2))) (bH (wI (b1 - a1)*wI (c2 - a2)))=wI (b1 - a1)*wI (c2 - a2):=(mX m1).1
    have w2:wv (bF (wI (b2 - a2)*wI (c1 - a1))) (bH (wI (b2 - a2)*wI (c1 - a1)))=wI (b2 - a2)*wI (c1 - a1):=(mX m2).1
    rw [i1,i2,i3,i4,NF,NF,w1,w2]
    rfl)
 ·cases h
def ΓP5:Orc:=ah 341 DI ΓP4
theorem RB:ΓP5.Ok prog:=ac OkP4 qdu
theorem XD (p1 p2 a1 a2 b1 b2:Int):runG ΓP5 L0 prog f304 [.v (.agg #[I p1,I p2]),.v (.agg #[I a1,I a2]),.v (.agg #[I b1,I b2])] M0 =
 (bif !(plR p1 p2&&(plR a1 a2&&plR b1 b2)) then some (.v (Bo false),M0) else (bif dP a1 a2 b1 b2 p1 p2 != (0:Int) then some (.v (Bo false),M0) else (bif decide ((if b1<a1 then b1 else a1)<=p1)&&decide (p1<=if b1>a1 then b1 else a1) then some (.v (Bo (decide ((if b2<a2 then b2 else a2)<=p2)&&decide (p2<=if b2>a2 then b2 else a2))),M0) else some (.v (Bo false),M0)))):=by kernel_rfl
def E1 (vs:List Value):Option (Bool×Value) :=
 match vs with
 | [.agg ⟨[.int .i64 p1,.int .i64 p2]⟩,.agg ⟨[.int .i64 a1,.int .i64 a2]⟩,.agg ⟨[.int .i64 b1,.int .i64 b2]⟩]=>some (true,Bo (cp p1 p2 a1 a2 b1 b2))
 | _=>none
theorem qeA:am 304 E1:=by
 intro vs r h
 unfold E1 at h
 split at h
 ·rename_i p1 p2 a1 a2 b1 b2
  obtain ⟨h1,rfl⟩:=ab h
  refine ak (vs:=[.agg #[I p1,I p2],.agg #[I a1,I a2],.agg #[I b1,I b2]]) (Λ:=L0) (m':=M0) RB func304 rfl ai ?_
  exact (XD p1 p2 a1 a2 b1 b2).trans (by
   unfold cp HE
   cases plR p1 p2&&(plR a1 a2&&plR b1 b2) with
   | false=>rfl
   | true =>
    by_cases ht:dP a1 a2 b1 b2 p1 p2=0
    ·rw [ht]
     cases decide ((if b1<a1 then b1 else a1)<=p1)&&decide (p1<=if b1>a1 then b1 else a1)<;>rfl
    ·rw [bne_iff_ne.2 ht,beq_eq_false_iff_ne.2 ht]
     rfl)
 ·cases h
def ΓP6:Orc:=ah 304 E1 ΓP5
theorem RA:ΓP6.Ok prog:=ac RB qeA
theorem XZ (a1 a2 b1 b2 c1 c2 d1 d2:Int):runG ΓP6 L0 prog f339 [.v (.agg #[I a1,I a2]),.v (.agg #[I b1,I b2]),.v (.agg #[I c1,I c2]),.v (.agg #[I d1,I d2])] M0 =
 (bif !(plR a1 a2&&(plR b1 b2&&(plR c1 c2&&plR d1 d2))) then some (.v (Bo false),M0) else (bif cp a1 a2 c1 c2 d1 d2 then some (.v (Bo true),M0) else (bif cp b1 b2 c1 c2 d1 d2 then some (.v (Bo true),M0) else (bif cp c1 c2 a1 a2 b1 b2 then some (.v (Bo true),M0) else (bif cp d1 d2 a1 a2 b1 b2 then some (.v (Bo true),M0) else (bif decide (wI (dP a1 a2 b1 b2 c1 c2*dP a1 a2 b1 b2 d1 d2)<(0:Int)) then some (.v (Bo (decide (wI (dP c1 c2 d1 d2 a1 a2*dP c1 c2 d1 d2 b1 b2)<(0:Int)))),M0) else some (.v (Bo false),M0))))))):=by kernel_rfl
def Fp (vs:List Value):Option (Bool×Value) :=
 match vs with
 | [.agg ⟨[.int .i64 a1,.int .i64 a2]⟩,.agg ⟨[.int .i64 b1,.int .i64 b2]⟩,.agg ⟨[.int .i64 c1,.int .i64 c2]⟩,.agg ⟨[.int .i64 d1,.int .i64 d2]⟩]=>some (true,Bo (eK a1 a2 b1 b2 c1 c2 d1 d2))
 | _=>none
theorem qeS:am 339 Fp:=by
 intro vs r h
 unfold Fp at h
 split at h
 ·rename_i a1 a2 b1 b2 c1 c2 d1 d2
  obtain ⟨h1,rfl⟩:=ab h
  refine ak (vs:=[.agg #[I a1,I a2],.agg #[I b1,I b2],.agg #[I c1,I c2],.agg #[I d1,I d2]]) (Λ:=L0) (m':=M0) RA func339 rfl ai ?_
  exact (XZ a1 a2 b1 b2 c1 c2 d1 d2).trans (by
   unfold eK Pi
   cases plR a1 a2&&(plR b1 b2&&(plR c1 c2&&plR d1 d2))
   ·rfl
   cases cp a1 a2 c1 c2 d1 d2
   ·cases cp b1 b2 c1 c2 d1 d2
    ·cases cp c1 c2 a1 a2 b1 b2
     ·cases cp d1 d2 a1 a2 b1 b2
      ·cases decide (wI (dP a1 a2 b1 b2 c1 c2*dP a1 a2 b1 b2 d1 d2)<0)<;>rfl
      ·rfl
     ·rfl
    ·rfl
   ·rfl)
 ·cases h
def ΓP7:Orc:=ah 339 Fp ΓP6
theorem qju:ΓP7.Ok prog:=ac RA qeS
def ΓP8:Orc:=ΓP7
theorem qjt:ΓP8.Ok prog:=qju
def ΓP9:Orc:=ΓP8
theorem qjs:ΓP9.Ok prog:=qjt
def ΓP10:Orc:=ΓP9
theorem qjw:ΓP10.Ok prog:=qjs
def ΓP11:Orc:=ΓP10
theorem qjv:ΓP11.Ok prog:=qjw
def ΓPt:Orc:=ΓP11
theorem Rr:ΓPt.Ok prog:=qjv
end Go.Proofs.YtainfdcfkgemhaaGreat
namespace Go.Proofs.YtainfdcfkgemhaaGreat
open Go Go.Proofs Go.Sx
set_option linter.unusedVariables false
theorem Yt (a b n:Int):runG ΓPt L0 prog f370 [.v (Wd a b),.v (UU n)] M0 =
 (bif c6 n&&c6 n then (bif decide (n*n / (18446744073709551616:Int)<IntKind.u64.wrap a) then some (.v (Bo true),M0) else (bif n*n / (18446744073709551616:Int)==IntKind.u64.wrap a then some (.v (Bo (decide (n*n % (18446744073709551616:Int)<=b))),M0) else some (.v (Bo false),M0))) else none):=by kernel_rfl
def FO (vs:List Value):Option (Bool×Value) :=
 match vs with
 | [.agg ⟨[.int .i64 a,.int .u64 b]⟩,.int .u64 n]=>some (cI a b&&(decide (0<=a)&&c6 n),Bo (decide (n*n<=wv a b)))
 | _=>none
theorem qff:am 370 FO:=by
 intro vs r h
 unfold FO at h
 split at h
 ·rename_i a b n
  obtain ⟨h1,rfl⟩:=ab h
  refine ak (vs:=[Wd a b,UU n]) (Λ:=L0) (m':=M0) Rr func370 rfl ai ?_
  exact (Yt a b n).trans (by
   simp only [Bool.and_eq_true,decide_eq_true_eq] at h1
   obtain ⟨g1,g2,g3⟩:=h1
   rw [g3]
   simp only [Bool.and_self,cond_true]
   rw [kM] at g1
   rw [wrU]
   have ea:a % 18446744073709551616=a:=by omega
   rw [ea]
   unfold wv
   by_cases c1:n*n / 18446744073709551616<a
   ·rw [decide_eq_true c1,decide_eq_true (show n*n<=a*18446744073709551616+b by omega)]
    rfl
   ·rw [decide_eq_false c1]
    by_cases c2:n*n / 18446744073709551616=a
    ·rw [beq_iff_eq.2 c2]
     refine kc ?_
     show Bo _=Bo _
     rw [decide_eq_decide.2 (show n*n % 18446744073709551616<=b↔n*n<=a*18446744073709551616+b by omega)]
    ·rw [beq_eq_false_iff_ne.2 c2,decide_eq_false (show ¬ n*n<=a*18446744073709551616+b by omega)]
     rfl)
 ·cases h
def ΓT1:Orc:=ah 370 FO ΓPt
theorem OkT1:ΓT1.Ok prog:=ac Rr qff
def ou:Code:=cH (f356.body.getD .skip) 0
theorem qbq:aL (f356.body.getD .skip)=[ou]:=by kernel_rfl
theorem qbp:aL ou=[]:=by kernel_rfl
def pP:List Bool:=aE 21 [1,4,5]
def AD:List Bool:=aE 21 [4]
def Ae (e:Ex) (st:St):Option (Ex×St):=some (e,aj 0 0 AD st)
def MSq (a b:Int):Mem:=⟨[[.v (I a),.v (UU b)]],[true],[]⟩
def Ag (a b r q:Int):St:=mk pP [.ptr 0 0,.v (UU r),.v (UU q)] (MSq a b)
def H3 (r:Int):St:=mk AD [.v (UU r)] M0
theorem T6 (a b r q:Int) (k:Nat):au ΓT1 prog L0 (aj 0 0 pP) ou (k+1) (Ag a b r q) Ae =
 bif decide (q>0) then (bif cI a b&&(decide (0<=a)&&c6 (jC r q)) then (bif decide (jC r q*jC r q<=wv a b) then au ΓT1 prog L0 (aj 0 0 pP) ou k (Ag a b (jC r q) (q.fdiv (2 ^ 1))) Ae else au ΓT1 prog L0 (aj 0 0 pP) ou k (Ag a b r (q.fdiv (2 ^ 1))) Ae) else none) else some (.exit 0,H3 r):=by kernel_rfl
def Js (vals:List SV) (m:Mem):Option (Bool×Ex×St) :=
 match vals,m with
 | [.ptr 0 0,.v (.int .u64 r),.v (.int .u64 q)],⟨[[.v (.int .i64 a),.v (.int .u64 b)]],[true],[]⟩ =>
  some (cI a b&&(decide (0<=a)&&(r==0&&q==9223372036854775808)),.exit 0,H3 (eZ (wv a b) 64 0))
 | _,_=>none
def ΛSq:bg:=fun _ st=>dg 0 0 pP Js st
theorem qb8 (z:Base) (z1:z.L.length=0) (z2:z.U.length=0):a9 ΛSq prog z ou:=by
 refine d9 (Λ:=L0) (kx:=fun _=>AD) OkT1 mixed z1 z2 (fun b hb=>by rw [qbp] at hb;cases hb) (G:=Js) (fun _=>rfl) ?_
 intro vals m e st' h
 unfold Js at h
 split at h
 ·rename_i r q a b
  obtain ⟨h1,rfl,rfl⟩:=an h
  simp only [Bool.and_eq_true,beq_iff_eq,decide_eq_true_eq] at h1
  obtain ⟨g1,g2,rfl,rfl⟩:=h1
  exact ⟨65,Uo (wv a b) (fun x=>cI a b&&(decide (0<=a)&&c6 x)) (fun x hx=>by simp [g1,g2,hx]) (fun m r q=>au ΓT1 prog L0 (aj 0 0 pP) ou m (Ag a b r q) Ae) (fun r=>some (.exit 0,H3 r)) (fun m r q=>T6 a b r q m) 63 0 (by decide) (by decide) (by decide)⟩
 ·cases h
theorem V3 (a b:Int):runG ΓT1 ΛSq prog f356 [.v (Wd a b)] M0 =
 bif decide (a<0) then some (.v (.tuple #[UU 0,Bo false]),M0)
 else bif cI a b&&(decide (0<=a)&&((0:Int)==0&&(9223372036854775808:Int)==9223372036854775808)) then some (.v (.tuple #[UU (eZ (wv a b) 64 0),Bo true]),M0) else none:=by kernel_rfl
def D0 (vs:List Value):Option (Bool×Value) :=
 match vs with
 | [.agg ⟨[.int .i64 a,.int .u64 b]⟩]=>some (cI a b,.tuple #[UU (bS (wv a b)),Bo (decide (0<=wv a b))])
 | _=>none
theorem qdI:am 356 D0:=by
 intro vs r h
 unfold D0 at h
 split at h
 ·rename_i a b
  obtain ⟨h1,rfl⟩:=ab h
  refine ak (vs:=[Wd a b]) (Λ:=ΛSq) (m':=M0) OkT1 func356 rfl (fun z z1 z2=>bX (c:=f356.body.getD .skip) qbq (qb8 z z1 z2)) ?_
  refine (V3 a b).trans ?_
  have h':=h1
  rw [kM] at h'
  by_cases ha:a<0
  ·have e1:wv a b<0:=by unfold wv;omega
   have e2:¬ 0<=wv a b:=by omega
   simp [ha,bS,e1,e2]
  ·have e1:¬ wv a b<0:=by unfold wv;omega
   have e2:0<=wv a b:=by omega
   have e3:0<=a:=by omega
   simp [ha,bS,e1,e2,e3,h1]
 ·cases h
def ΓT2:Orc:=ah 356 D0 ΓT1
theorem OkT2:ΓT2.Ok prog:=ac OkT1 qdI
theorem YP (a b:Int) (t:Bool):runG ΓT2 L0 prog f324 [.v (Wd a b),.v (Bo t)] M0 =
 (bif !t then some (.v (.tuple #[(I 0),(Bo false)]),M0) else (bif cI a b then (bif !decide ((0:Int)<=wv a b) then some (.v (.tuple #[(I 0),(Bo false)]),M0) else (bif decide (bS (wv a b)>(9223372036854775807:Int)) then some (.v (.tuple #[(I 0),(Bo false)]),M0) else some (.v (.tuple #[(I (wI (bS (wv a b)))),(Bo true)]),M0))) else none)):=by kernel_rfl
def F4 (vs:List Value):Option (Bool×Value) :=
 match vs with
 | [.agg ⟨[.int .i64 a,.int .u64 b]⟩,.bool t]=>some (cI a b&&(bD (wv a b)&&t),.tuple #[I (bS (wv a b)),Bo (decide (0<=wv a b))])
 | _=>none
theorem Lz {n:Int} (h:bD n=true):0<=bS n/\bS n<4294967296:=by
 rw [eP] at h
 refine ⟨ZQ (by omega),?_⟩
 rcases (by omega:n<0\/0<=n) with h1|h1
 ·rw [BP h1];decide
 ·obtain ⟨s0,_,s2,_⟩:=wc n h1 (by omega)
  rcases (by omega:bS n<4294967296\/4294967296<=bS n) with h2|h2
  ·exact h2
  ·have:=Int.mul_le_mul h2 h2 (by decide) s0
   omega
theorem qft:am 324 F4:=by
 intro vs r h
 unfold F4 at h
 split at h
 ·rename_i a b t
  obtain ⟨h1,rfl⟩:=ab h
  refine ak (vs:=[Wd a b,Bo t]) (Λ:=L0) (m':=M0) OkT2 func324 rfl ai ?_
  exact (YP a b t).trans (by
   simp only [Bool.and_eq_true] at h1
   obtain ⟨g1,g2,rfl⟩:=h1
   obtain ⟨r0,r1⟩:=Lz g2
   rw [g1]
   simp only [Bool.not_true,cond_false,cond_true]
   by_cases hn:0<=wv a b
   ·rw [decide_eq_true hn,decide_eq_false (show ¬ bS (wv a b)>9223372036854775807 by omega),aC (by omega)]
    rfl
   ·rw [decide_eq_false hn,BP (by omega)]
    rfl)
 ·cases h
def ΓT3:Orc:=ah 324 F4 ΓT2
theorem OkT3:ΓT3.Ok prog:=ac OkT2 qft
theorem YN (n:Int):runG ΓT3 L0 prog f260 [.v (I n)] M0 =
 (bif bD n then (bif cI (bF n) (bH n)&&(bD (wv (bF n) (bH n))&&true) then some (.v (.tuple #[(I (bS (wv (bF n) (bH n)))),(Bo (decide ((0:Int)<=wv (bF n) (bH n))))]),M0) else none) else none):=by kernel_rfl
def F2 (vs:List Value):Option (Bool×Value) :=
 match vs with
 | [.int .i64 n]=>some (bD n,.tuple #[I (bS n),Bo (decide (0<=n))])
 | _=>none
theorem qfr:am 260 F2:=by
 intro vs r h
 unfold F2 at h
 split at h
 ·rename_i n
  obtain ⟨h1,rfl⟩:=ab h
  refine ak (vs:=[I n]) (Λ:=L0) (m':=M0) OkT3 func260 rfl ai ?_
  exact (YN n).trans (by
   obtain ⟨e1,e2⟩:=mX (Ck h1)
   rw [h1,e2,e1,h1]
   rfl)
 ·cases h
def ΓT4:Orc:=ah 260 F2 ΓT3
theorem OkT4:ΓT4.Ok prog:=ac OkT3 qfr
def cz (n lo hi:Int):Int:=bif decide (n<lo) then lo else bif decide (n>hi) then hi else n
theorem YU (n lo hi:Int):runG ΓT4 L0 prog f216 [.v (I n),.v (I lo),.v (I hi)] M0 =
 (bif decide (n<lo) then some (.v (I lo),M0) else (bif decide (n>hi) then some (.v (I hi),M0) else some (.v (I n),M0))):=by kernel_rfl
def F7 (vs:List Value):Option (Bool×Value) :=
 match vs with
 | [.int .i64 n,.int .i64 lo,.int .i64 hi]=>some (true,I (cz n lo hi))
 | _=>none
theorem qfw:am 216 F7:=by
 intro vs r h
 unfold F7 at h
 split at h
 ·rename_i n lo hi
  obtain ⟨h1,rfl⟩:=ab h
  refine ak (vs:=[I n,I lo,I hi]) (Λ:=L0) (m':=M0) OkT4 func216 rfl ai ?_
  exact (YU n lo hi).trans (by
   unfold cz
   cases decide (n<lo)<;>cases decide (n>hi)<;>rfl)
 ·cases h
def ΓT5:Orc:=ah 216 F7 ΓT4
theorem OkT5:ΓT5.Ok prog:=ac OkT4 qfw
def ΓRt:Orc:=ΓT5
theorem Ra:ΓRt.Ok prog:=OkT5
end Go.Proofs.YtainfdcfkgemhaaGreat
namespace Go.Proofs.YtainfdcfkgemhaaGreat
open Go Go.Proofs Go.Sx
set_option linter.unusedVariables false
theorem Z3 {z v g:Int} (h:ed z v g=true):wI (wI (v*v)+wI (wI ((2:Int)*g)*z))=v*v+2*g*z/\bD (v*v+2*g*z)=true:=by
 obtain ⟨n1,n2⟩:=yE h
 have hx:=kS.1 h
 refine ⟨?_,by rw [eP];omega⟩
 rw [aC (n:=2*g) (by omega),aC (n:=v*v) (by omega),aC (n:=2*g*z) (by omega),aC (by omega)]
theorem Z4 {z v g:Int} (h:ed z v g=true) (hz:¬ z<0):wI ((wI (v+bS (v*v+2*g*z))).tdiv g)=bw z v g:=by
 obtain ⟨s,e,h0,h1,h2,h3,h4⟩:=vq h (by omega)
 obtain ⟨n1,n2⟩:=yE h
 have hx:=kS.1 h
 have gz:0<=2*g*z:=Int.mul_nonneg (by omega) (by omega)
 have es:bS (v*v+2*g*z)=s:=ZP (by omega) h0 h3 h4
 have t1:=o4 h
 have t2:=vt h
 obtain ⟨r0,r1⟩:=Lz (n:=v*v+2*g*z) (by rw [eP];omega)
 rw [es] at r1 ⊢
 rw [aC (n:=v+s) (by omega),Int.tdiv_eq_ediv_of_nonneg (by omega),<- e,aC (by omega)]
theorem yC {z v g d c:Int} (h:bT z v g=true) (h1:-2048<=d) (h2:d<=2048) (h3:-2048<=c) (h4:c<=2048):ed (z+d) (v+c) g=true:=by
 rw [yD] at h;rw [kS];omega
theorem qbc (z v g:Int):(bif decide (z>=(-2147483648:Int)) then (bif decide (z<=(2147483648:Int)) then (bif decide (v>=(-131072:Int)) then (bif decide (v<=(131072:Int)) then (bif decide (g>=(1:Int)) then some (.v (Bo (decide (g<=(100:Int)))),M0) else some (.v (Bo false),M0)) else some (.v (Bo false),M0)) else some (.v (Bo false),M0)) else some (.v (Bo false),M0)) else some (.v (Bo false),M0))=(some (SV.v (Bo (bT z v g)),M0):Option (SV×Mem)):=by
 unfold bT
 by_cases h1:-2147483648<=z<;>by_cases h2:z<=2147483648<;>by_cases h3:-131072<=v<;>by_cases h4:v<=131072<;>by_cases h5:1<=g<;>by_cases h6:g<=100<;>simp [h1,h2,h3,h4,h5,h6]
theorem YH (z:Int) (v:Int) (g:Int):runG ΓRt L0 prog f292 [.v (I z),.v (I v),.v (I g)] M0 =
 (bif decide (z>=(-2147483648:Int)) then (bif decide (z<=(2147483648:Int)) then (bif decide (v>=(-131072:Int)) then (bif decide (v<=(131072:Int)) then (bif decide (g>=(1:Int)) then some (.v (Bo (decide (g<=(100:Int)))),M0) else some (.v (Bo false),M0)) else some (.v (Bo false),M0)) else some (.v (Bo false),M0)) else some (.v (Bo false),M0)) else some (.v (Bo false),M0)):=by kernel_rfl
def FZ (vs:List Value):Option (Bool×Value) :=
 match vs with
 | [.int .i64 z,.int .i64 v,.int .i64 g]=>some (true,Bo (bT z v g))
 | _=>none
theorem qfo:am 292 FZ:=by
 intro vs r h
 unfold FZ at h
 split at h
 ·rename_i z v g
  obtain ⟨h1,rfl⟩:=ab h
  refine ak (vs:=[I z,I v,I g]) (Λ:=L0) (m':=M0) Ra func292 rfl ai ?_
  exact (YH z v g).trans (qbc z v g)
 ·cases h
def ΓA1:Orc:=ah 292 FZ ΓRt
theorem OkA1:ΓA1.Ok prog:=ac Ra qfo
def ΓA2:Orc:=ΓA1
theorem OkA2:ΓA2.Ok prog:=OkA1
theorem YI (z:Int) (v:Int) (g:Int):runG ΓA2 L0 prog f293 [.v (I z),.v (I v),.v (I g)] M0 =
 (bif decide (z<(0:Int)) then some (.v (I 0),M0) else (bif bD (wI (wI (v*v)+wI (wI ((2:Int)*g)*z))) then (bif g==(0:Int) then none else some (.v (I (wI ((wI (v+bS (wI (wI (v*v)+wI (wI ((2:Int)*g)*z))))).tdiv g))),M0)) else none)):=by kernel_rfl
def F0 (vs:List Value):Option (Bool×Value) :=
 match vs with
 | [.int .i64 z,.int .i64 v,.int .i64 g]=>some (ed z v g,I (bw z v g))
 | _=>none
theorem qfp:am 293 F0:=by
 intro vs r h
 unfold F0 at h
 split at h
 ·rename_i z v g
  obtain ⟨h1,rfl⟩:=ab h
  refine ak (vs:=[I z,I v,I g]) (Λ:=L0) (m':=M0) OkA2 func293 rfl ai ?_
  exact (YI z v g).trans (by
   obtain ⟨e1,e2⟩:=Z3 h1
   by_cases hz:z<0
   ·rw [decide_eq_true hz]
    unfold bw
    rw [decide_eq_true hz]
    rfl
   ·rw [decide_eq_false hz,e1,e2,beq_eq_false_iff_ne.2 (show g≠0 by have:=kS.1 h1;omega),Z4 h1 hz]
    rfl)
 ·cases h
def ΓA3:Orc:=ah 293 F0 ΓA2
theorem OkA3:ΓA3.Ok prog:=ac OkA2 qfp
def ΓA4:Orc:=ΓA3
theorem OkA4:ΓA4.Ok prog:=OkA3
def ΓA5:Orc:=ΓA4
theorem OkA5:ΓA5.Ok prog:=OkA4
def ΓA6:Orc:=ΓA5
theorem OkA6:ΓA6.Ok prog:=OkA5
def ΓA7:Orc:=ΓA6
theorem OkA7:ΓA7.Ok prog:=OkA6
def ΓA8:Orc:=ΓA7
theorem OkA8:ΓA8.Ok prog:=OkA7
theorem YO (z:Int) (v:Int) (g:Int) (e:Int):runG ΓA8 L0 prog f232 [.v (I z),.v (I v),.v (I g),.v (I e)] M0 =
 (bif !bT z v g then some (.v (.tuple #[(I 0),(I 0),(Bo false)]),M0) else (bif decide (e<(0:Int)) then some (.v (.tuple #[(I 0),(I 0),(Bo false)]),M0) else (bif decide (e>(2048:Int)) then some (.v (.tuple #[(I 0),(I 0),(Bo false)]),M0) else (bif ed (wI (z - e)) (wI (v - e)) g then (bif ed (wI (z+e)) (wI (v+e)) g then some (.v (.tuple #[(I (bw (wI (z - e)) (wI (v - e)) g)),(I (wI (bw (wI (z+e)) (wI (v+e)) g+(2:Int)))),(Bo true)]),M0) else none) else none)))):=by kernel_rfl
def F3 (vs:List Value):Option (Bool×Value) :=
 match vs with
 | [.int .i64 z,.int .i64 v,.int .i64 g,.int .i64 e]=>some (true,.tuple #[I (bif bT z v g&&decide (0<=e/\e<=2048) then bw (z - e) (v - e) g else 0),I (bif bT z v g&&decide (0<=e/\e<=2048) then bw (z+e) (v+e) g+2 else 0),Bo (bT z v g&&decide (0<=e/\e<=2048))])
 | _=>none
theorem qfs:am 232 F3:=by
 intro vs r h
 unfold F3 at h
 split at h
 ·rename_i z v g e
  obtain ⟨h1,rfl⟩:=ab h
  refine ak (vs:=[I z,I v,I g,I e]) (Λ:=L0) (m':=M0) OkA8 func232 rfl ai ?_
  exact (YO z v g e).trans (by
   cases h:bT z v g
   ·rfl
   ·simp only [Bool.not_true,cond_false,Bool.true_and]
    by_cases h2:e<0
    ·rw [decide_eq_true h2,decide_eq_false (show ¬ (0<=e/\e<=2048) by omega)];rfl
    ·by_cases h3:e>2048
     ·rw [decide_eq_false h2,decide_eq_true h3,decide_eq_false (show ¬ (0<=e/\e<=2048) by omega)];rfl
     ·have hx:=yD.1 h
      have k1:ed (z - e) (v - e) g=true:=by rw [Int.sub_eq_add_neg,Int.sub_eq_add_neg];exact yC h (by omega) (by omega) (by omega) (by omega)
      have k2:ed (z+e) (v+e) g=true:=yC h (by omega) (by omega) (by omega) (by omega)
      have k3:=o4 k2
      have k4:=vt k2
      rw [decide_eq_false h2,decide_eq_false h3,decide_eq_true (show (0<=e/\e<=2048) by omega),aC (n:=z - e) (by omega),aC (n:=v - e) (by omega),aC (n:=z+e) (by omega),aC (n:=v+e) (by omega),k1,k2,aC (n:=bw (z+e) (v+e) g+2) (by omega)];rfl)
 ·cases h
def ΓA9:Orc:=ah 232 F3 ΓA8
theorem qj4:ΓA9.Ok prog:=ac OkA8 qfs
def ΓA10:Orc:=ΓA9
theorem qj6:ΓA10.Ok prog:=qj4
def ΓA11:Orc:=ΓA10
theorem qj5:ΓA11.Ok prog:=qj6
def ΓFa:Orc:=ΓA11
theorem RX:ΓFa.Ok prog:=qj5
end Go.Proofs.YtainfdcfkgemhaaGreat
namespace Go.Proofs.YtainfdcfkgemhaaGreat
open Go Go.Proofs Go.Sx
set_option linter.unusedVariables false
def kz (x y n:Int):Bool:=decide (0<=n/\n<=4096)&&(decide (-1099511623680<=x/\x<=1099511623680)&&decide (-1099511623680<=y/\y<=1099511623680))
def a8 (a b c d:Int):Bool:=plR a b&&(plR c d&&(decide (a<=c)&&decide (b<=d)))
def fF (n m:Int):Bool:=decide (n>=wI (0 - m))&&decide (n<=m)
theorem uY {n m:Int} (h0:0<=m) (h1:m<9223372036854775808):fF n m=true↔-m<=n/\n<=m:=by
 unfold fF
 rw [aC (n:=0 - m) (by omega),Bool.and_eq_true,decide_eq_true_iff,decide_eq_true_iff]
 omega
def gk (x y vx vy:Int):Bool:=fF x 2147483648&&(fF y 2147483648&&(fF vx 131072&&fF vy 131072))
theorem nu {x y vx vy:Int}:gk x y vx vy=true↔(-2147483648<=x/\x<=2147483648)/\(-2147483648<=y/\y<=2147483648)/\(-131072<=vx/\vx<=131072)/\-131072<=vy/\vy<=131072:=by
 unfold gk
 rw [Bool.and_eq_true,Bool.and_eq_true,Bool.and_eq_true,uY (by decide) (by decide),uY (by decide) (by decide),uY (by decide) (by decide),uY (by decide) (by decide)]
def kq (x y vx vy f t:Int):Bool:=decide (-4294967296<=x/\x<=4294967296)&&(decide (-4294967296<=y/\y<=4294967296)&&(decide (-262144<=vx/\vx<=262144)&&(decide (-262144<=vy/\vy<=262144)&&(decide (-4096<=f/\f<=4096)&&decide (0<=t/\t<=4194304)))))
theorem LS {x y vx vy f t:Int}:kq x y vx vy f t=true↔(-4294967296<=x/\x<=4294967296)/\(-4294967296<=y/\y<=4294967296)/\(-262144<=vx/\vx<=262144)/\(-262144<=vy/\vy<=262144)/\(-4096<=f/\f<=4096)/\0<=t/\t<=4194304:=by
 unfold kq
 simp only [Bool.and_eq_true,decide_eq_true_eq]
theorem LO {x v f t:Int} (h1:-4294967296<=x/\x<=4294967296) (h2:-262144<=v/\v<=262144) (h3:-4096<=f/\f<=4096) (h4:0<=t/\t<=4194304):wI (x+wI (wI (v+f)*t))=x+(v+f)*t/\-1129576398848<=x+(v+f)*t/\x+(v+f)*t<=1129576398848:=by
 have p:=sg (a:=v+f) (b:=t) (A:=266240) (B:=4194304) (by omega) (by omega) (by omega) (by omega)
 rw [aC (n:=v+f) (by omega),aC (n:=(v+f)*t) (by omega),aC (by omega)]
 omega
def kQ (a b c d x y:Int):Bool:=a8 a b c d&&(plR x y&&(decide (x>=a)&&(decide (x<=c)&&(decide (y>=b)&&decide (y<=d)))))
def pT (a b c d a' b' c' d':Int):Bool:=a8 a b c d&&(kQ a' b' c' d' a b&&kQ a' b' c' d' c d)
theorem HJ {a b c d:Int}:a8 a b c d=true↔plR a b=true/\plR c d=true/\a<=c/\b<=d:=by
 unfold a8
 simp only [Bool.and_eq_true,decide_eq_true_eq]
theorem NN {a b c d x y:Int}:kQ a b c d x y=true↔a8 a b c d=true/\plR x y=true/\a<=x/\x<=c/\b<=y/\y<=d:=by
 unfold kQ
 simp only [Bool.and_eq_true,decide_eq_true_eq]
theorem Mr {x y n:Int}:kz x y n=true↔(0<=n/\n<=4096)/\(-1099511623680<=x/\x<=1099511623680)/\(-1099511623680<=y/\y<=1099511623680):=by
 unfold kz
 simp only [Bool.and_eq_true,decide_eq_true_eq]
theorem tH {n lo hi:Int} (h1:lo<=n) (h2:n<=hi):cz n lo hi=n:=by
 unfold cz
 rw [decide_eq_false (show ¬ n<lo by omega),decide_eq_false (show ¬ n>hi by omega)]
 rfl
theorem ZF (a:Int) (b:Int) (c:Int) (d:Int):runG ΓFa L0 prog f237 [.v (.agg #[I a,I b,I c,I d])] M0 =
 (bif plR a b then (bif plR c d then (bif decide (a<=c) then some (.v (Bo (decide (b<=d))),M0) else some (.v (Bo false),M0)) else some (.v (Bo false),M0)) else some (.v (Bo false),M0)):=by kernel_rfl
def GL (vs:List Value):Option (Bool×Value) :=
 match vs with
 | [.agg ⟨[.int .i64 a,.int .i64 b,.int .i64 c,.int .i64 d]⟩]=>some (true,Bo (a8 a b c d))
 | _=>none
theorem qf8:am 237 GL:=by
 intro vs r h
 unfold GL at h
 split at h
 ·rename_i a b c d
  obtain ⟨h1,rfl⟩:=ab h
  refine ak (vs:=[.agg #[I a,I b,I c,I d]]) (Λ:=L0) (m':=M0) RX func237 rfl ai ?_
  exact (ZF a b c d).trans (by unfold a8;cases plR a b<;>cases plR c d<;>cases decide (a<=c)<;>rfl)
 ·cases h
def ΓB1:Orc:=ah 237 GL ΓFa
theorem qj3:ΓB1.Ok prog:=ac RX qf8
def ΓB2:Orc:=ΓB1
theorem qj0:ΓB2.Ok prog:=qj3
def ΓB3:Orc:=ΓB2
theorem qjZ:ΓB3.Ok prog:=qj0
def ΓB4:Orc:=ΓB3
theorem Sl:ΓB4.Ok prog:=qjZ
theorem ZI (x:Int) (y:Int):runG ΓB4 L0 prog f296 [.v (I x),.v (I y)] M0 =
 some (.v (.agg #[(I (cz x (-1099511627776:Int) (1099511627776:Int))),(I (cz y (-1099511627776:Int) (1099511627776:Int)))]),M0):=by kernel_rfl
def GO (vs:List Value):Option (Bool×Value) :=
 match vs with
 | [.int .i64 x,.int .i64 y]=>some (true,.agg #[I (cz x (-1099511627776) 1099511627776),I (cz y (-1099511627776) 1099511627776)])
 | _=>none
theorem qgb:am 296 GO:=by
 intro vs r h
 unfold GO at h
 split at h
 ·rename_i x y
  obtain ⟨h1,rfl⟩:=ab h
  refine ak (vs:=[I x,I y]) (Λ:=L0) (m':=M0) Sl func296 rfl ai ?_
  exact (ZI x y).trans (rfl)
 ·cases h
def ΓB5:Orc:=ah 296 GO ΓB4
theorem Sk:ΓB5.Ok prog:=ac Sl qgb
theorem ZG (x:Int) (y:Int) (n:Int):runG ΓB5 L0 prog f234 [.v (.agg #[I x,I y]),.v (I n)] M0 =
 (bif !plR x y then some (.v (.agg #[(I 0),(I 0),(I 0),(I 0)]),M0) else some (.v (.agg #[(I (cz (wI (x - cz n (0:Int) (2199023255552:Int))) (-1099511627776:Int) (1099511627776:Int))),(I (cz (wI (y - cz n (0:Int) (2199023255552:Int))) (-1099511627776:Int) (1099511627776:Int))),(I (cz (wI (x+cz n (0:Int) (2199023255552:Int))) (-1099511627776:Int) (1099511627776:Int))),(I (cz (wI (y+cz n (0:Int) (2199023255552:Int))) (-1099511627776:Int) (1099511627776:Int)))]),M0)):=by kernel_rfl
def GM (vs:List Value):Option (Bool×Value) :=
 match vs with
 | [.agg ⟨[.int .i64 x,.int .i64 y]⟩,.int .i64 n]=>some (kz x y n,.agg #[I (x - n),I (y - n),I (x+n),I (y+n)])
 | _=>none
theorem qf9:am 234 GM:=by
 intro vs r h
 unfold GM at h
 split at h
 ·rename_i x y n
  obtain ⟨h1,rfl⟩:=ab h
  refine ak (vs:=[.agg #[I x,I y],I n]) (Λ:=L0) (m':=M0) Sk func234 rfl ai ?_
  exact (ZG x y n).trans (by
   obtain ⟨h2,h3,h4⟩:=Mr.1 h1
   rw [wA.2 (by omega),tH (n:=n) (by omega) (by omega),aC (n:=x - n) (by omega),aC (n:=y - n) (by omega),aC (n:=x+n) (by omega),aC (n:=y+n) (by omega),tH (n:=x - n) (by omega) (by omega),tH (n:=y - n) (by omega) (by omega),tH (n:=x+n) (by omega) (by omega),tH (n:=y+n) (by omega) (by omega)]
   rfl)
 ·cases h
def ΓB6:Orc:=ah 234 GM ΓB5
theorem Sj:ΓB6.Ok prog:=ac Sk qf9
theorem ZH (a:Int) (b:Int) (c:Int) (d:Int) (a':Int) (b':Int) (c':Int) (d':Int):runG ΓB6 L0 prog f236 [.v (.agg #[I a,I b,I c,I d]),.v (.agg #[I a',I b',I c',I d'])] M0 =
 (bif a8 a b c d then (bif a8 a' b' c' d' then some (.v (.agg #[(I (if a'<a then a' else a)),(I (if b'<b then b' else b)),(I (if c'>c then c' else c)),(I (if d'>d then d' else d))]),M0) else (bif a8 a b c d then some (.v (.agg #[(I a),(I b),(I c),(I d)]),M0) else (bif a8 a' b' c' d' then some (.v (.agg #[(I a'),(I b'),(I c'),(I d')]),M0) else some (.v (.agg #[(I 0),(I 0),(I 0),(I 0)]),M0)))) else (bif a8 a b c d then some (.v (.agg #[(I a),(I b),(I c),(I d)]),M0) else (bif a8 a' b' c' d' then some (.v (.agg #[(I a'),(I b'),(I c'),(I d')]),M0) else some (.v (.agg #[(I 0),(I 0),(I 0),(I 0)]),M0)))):=by kernel_rfl
def GN (vs:List Value):Option (Bool×Value) :=
 match vs with
 | [.agg ⟨[.int .i64 a,.int .i64 b,.int .i64 c,.int .i64 d]⟩,.agg ⟨[.int .i64 a',.int .i64 b',.int .i64 c',.int .i64 d']⟩]=>some (a8 a b c d&&a8 a' b' c' d',Value.agg #[I (mn a a'),I (mn b b'),I (mx c c'),I (mx d d')])
 | _=>none
theorem qga:am 236 GN:=by
 intro vs r h
 unfold GN at h
 split at h
 ·rename_i a b c d a' b' c' d'
  obtain ⟨h1,rfl⟩:=ab h
  refine ak (vs:=[.agg #[I a,I b,I c,I d],.agg #[I a',I b',I c',I d']]) (Λ:=L0) (m':=M0) Sj func236 rfl ai ?_
  exact (ZH a b c d a' b' c' d').trans (by
   rw [Bool.and_eq_true] at h1
   rw [h1.1,h1.2]
   rfl)
 ·cases h
def ΓB7:Orc:=ah 236 GN ΓB6
theorem Si:ΓB7.Ok prog:=ac Sj qga
theorem Yj (n:Int) (m:Int):runG ΓB7 L0 prog f294 [.v (I n),.v (I m)] M0 =
 (bif decide (n>=wI ((0:Int) - m)) then some (.v (Bo (decide (n<=m))),M0) else some (.v (Bo false),M0)):=by kernel_rfl
def FD (vs:List Value):Option (Bool×Value) :=
 match vs with
 | [.int .i64 n,.int .i64 m]=>some (true,Bo (fF n m))
 | _=>none
theorem qe7:am 294 FD:=by
 intro vs r h
 unfold FD at h
 split at h
 ·rename_i n m
  obtain ⟨h1,rfl⟩:=ab h
  refine ak (vs:=[I n,I m]) (Λ:=L0) (m':=M0) Si func294 rfl ai ?_
  exact (Yj n m).trans (by unfold fF;cases decide (n>=wI (0 - m))<;>rfl)
 ·cases h
def ΓB8:Orc:=ah 294 FD ΓB7
theorem Sh:ΓB8.Ok prog:=ac Si qe7
theorem Yk (p:Int) (q:Int) (x:Int) (y:Int) (z:Int) (vx:Int) (vy:Int) (vz:Int):runG ΓB8 L0 prog f233 [.v (.agg #[I p,I q,I x,I y,I z,I vx,I vy,I vz])] M0 =
 (bif fF x (2147483648:Int) then (bif fF y (2147483648:Int) then (bif fF vx (131072:Int) then some (.v (Bo (fF vy (131072:Int))),M0) else some (.v (Bo false),M0)) else some (.v (Bo false),M0)) else some (.v (Bo false),M0)):=by kernel_rfl
def FE (vs:List Value):Option (Bool×Value) :=
 match vs with
 | [.agg ⟨[.int .i64 p,.int .i64 q,.int .i64 x,.int .i64 y,.int .i64 z,.int .i64 vx,.int .i64 vy,.int .i64 vz]⟩]=>some (true,Bo (gk x y vx vy))
 | _=>none
theorem qe8:am 233 FE:=by
 intro vs r h
 unfold FE at h
 split at h
 ·rename_i p q x y z vx vy vz
  obtain ⟨h1,rfl⟩:=ab h
  refine ak (vs:=[.agg #[I p,I q,I x,I y,I z,I vx,I vy,I vz]]) (Λ:=L0) (m':=M0) Sh func233 rfl ai ?_
  exact (Yk p q x y z vx vy vz).trans (by unfold gk;cases fF x 2147483648<;>cases fF y 2147483648<;>cases fF vx 131072<;>rfl)
 ·cases h
def ΓB9:Orc:=ah 233 FE ΓB8
theorem Sg:ΓB9.Ok prog:=ac Sh qe8
theorem Yl (p:Int) (q:Int) (x:Int) (y:Int) (z:Int) (vx:Int) (vy:Int) (vz:Int) (f:Int) (t:Int):runG ΓB9 L0 prog f235 [.v (.agg #[I p,I q,I x,I y,I z,I vx,I vy,I vz]),.v (I f),.v (I t)] M0 =
 some (.v (.agg #[(I (wI (x+wI (wI (vx+f)*t)))),(I (wI (y+wI (wI (vy+f)*t))))]),M0):=by kernel_rfl
def FF (vs:List Value):Option (Bool×Value) :=
 match vs with
 | [.agg ⟨[.int .i64 p,.int .i64 q,.int .i64 x,.int .i64 y,.int .i64 z,.int .i64 vx,.int .i64 vy,.int .i64 vz]⟩,.int .i64 f,.int .i64 t]=>some (kq x y vx vy f t,Value.agg #[I (x+(vx+f)*t),I (y+(vy+f)*t)])
 | _=>none
theorem qe9:am 235 FF:=by
 intro vs r h
 unfold FF at h
 split at h
 ·rename_i p q x y z vx vy vz f t
  obtain ⟨h1,rfl⟩:=ab h
  refine ak (vs:=[.agg #[I p,I q,I x,I y,I z,I vx,I vy,I vz],I f,I t]) (Λ:=L0) (m':=M0) Sg func235 rfl ai ?_
  exact (Yl p q x y z vx vy vz f t).trans (by
   obtain ⟨h2,h3,h4,h5,h6,h7⟩:=LS.1 h1
   rw [(LO h2 h4 h6 h7).1,(LO h3 h5 h6 h7).1])
 ·cases h
def ΓB10:Orc:=ah 235 FF ΓB9
theorem qj2:ΓB10.Ok prog:=ac Sg qe9
def ΓB11:Orc:=ΓB10
theorem qj1:ΓB11.Ok prog:=qj2
def ΓBx:Orc:=ΓB11
theorem Ac:ΓBx.Ok prog:=qj1
end Go.Proofs.YtainfdcfkgemhaaGreat
namespace Go.Proofs.YtainfdcfkgemhaaGreat
open Go Go.Proofs Go.Sx
set_option linter.unusedVariables false
def Cm (x y n c:Int):Int:=bif plR x y then cz (wI (c - cz n 0 2199023255552)) (-1099511627776) 1099511627776 else 0
def Cn (x y n c:Int):Int:=bif plR x y then cz (wI (c+cz n 0 2199023255552)) (-1099511627776) 1099511627776 else 0
def pick (A B:Bool) (m x y:Int):Int:=bif A&&B then m else bif A then x else bif B then y else 0
def Nr (a b c d a' b' c' d':Int):Int:=pick (a8 a b c d) (a8 a' b' c' d') (mn a a') a a'
def Nq (a b c d a' b' c' d':Int):Int:=pick (a8 a b c d) (a8 a' b' c' d') (mn b b') b b'
def Np (a b c d a' b' c' d':Int):Int:=pick (a8 a b c d) (a8 a' b' c' d') (mx c c') c c'
def Nn (a b c d a' b' c' d':Int):Int:=pick (a8 a b c d) (a8 a' b' c' d') (mx d d') d d'
theorem qcT (a b c d a' b' c' d':Int):(a8 a b c d&&(a8 a' b' c' d'&&(decide (a'<=a)&&(decide (b'<=b)&&(decide (c<=c')&&decide (d<=d'))))))=pT a b c d a' b' c' d':=by
 rw [Bool.eq_iff_iff]
 unfold pT
 simp only [Bool.and_eq_true,decide_eq_true_eq,NN]
 constructor
 ·rintro ⟨h1,h2,h3,h4,h5,h6⟩
  obtain ⟨p1,p2,p3,p4⟩:=HJ.1 h1
  exact ⟨h1,⟨h2,p1,h3,by omega,h4,by omega⟩,h2,p2,by omega,h5,by omega,h6⟩
 ·rintro ⟨h1,⟨h2,p1,h3,_,h4,_⟩,_,p2,_,h5,_,h6⟩
  exact ⟨h1,h2,h3,h4,h5,h6⟩
theorem qcS (a b c d x y:Int):pT x y x y a b c d=kQ a b c d x y:=by
 rw [Bool.eq_iff_iff]
 unfold pT
 simp only [Bool.and_eq_true,NN,HJ]
 constructor
 ·rintro ⟨h1,h2,h3⟩
  exact h2
 ·intro h
  exact ⟨⟨h.2.1,h.2.1,Int.le_refl _,Int.le_refl _⟩,h,h⟩
theorem Vm (x:Int) (y:Int) (n:Int):runG ΓBx L0 prog f234 [.v (.agg #[I x,I y]),.v (I n)] M0 =
 (bif !plR x y then some (.v (.agg #[(I 0),(I 0),(I 0),(I 0)]),M0) else some (.v (.agg #[(I (cz (wI (x - cz n (0:Int) (2199023255552:Int))) (-1099511627776:Int) (1099511627776:Int))),(I (cz (wI (y - cz n (0:Int) (2199023255552:Int))) (-1099511627776:Int) (1099511627776:Int))),(I (cz (wI (x+cz n (0:Int) (2199023255552:Int))) (-1099511627776:Int) (1099511627776:Int))),(I (cz (wI (y+cz n (0:Int) (2199023255552:Int))) (-1099511627776:Int) (1099511627776:Int)))]),M0)):=by kernel_rfl
def DB (vs:List Value):Option (Bool×Value) :=
 match vs with
 | [.agg ⟨[.int .i64 x,.int .i64 y]⟩,.int .i64 n]=>some (true,.agg #[I (Cm x y n x),I (Cm x y n y),I (Cn x y n x),I (Cn x y n y)])
 | _=>none
theorem qdn:am 234 DB:=by
 intro vs r h
 unfold DB at h
 split at h
 ·rename_i x y n
  obtain ⟨h1,rfl⟩:=ab h
  refine ak (vs:=[.agg #[I x,I y],I n]) (Λ:=L0) (m':=M0) Ac func234 rfl ai ?_
  exact (Vm x y n).trans (by unfold Cm Cn;cases plR x y<;>rfl)
 ·cases h
def ΓU1:Orc:=ah 234 DB ΓBx
theorem qi4:ΓU1.Ok prog:=ac Ac qdn
def ΓU2:Orc:=ΓU1
theorem qi3:ΓU2.Ok prog:=qi4
def ΓU3:Orc:=ΓU2
theorem Q5:ΓU3.Ok prog:=qi3
theorem Vo (a:Int) (b:Int) (c:Int) (d:Int) (a':Int) (b':Int) (c':Int) (d':Int):runG ΓU3 L0 prog f236 [.v (.agg #[I a,I b,I c,I d]),.v (.agg #[I a',I b',I c',I d'])] M0 =
 (bif a8 a b c d then (bif a8 a' b' c' d' then some (.v (.agg #[(I (if a'<a then a' else a)),(I (if b'<b then b' else b)),(I (if c'>c then c' else c)),(I (if d'>d then d' else d))]),M0) else (bif a8 a b c d then some (.v (.agg #[(I a),(I b),(I c),(I d)]),M0) else (bif a8 a' b' c' d' then some (.v (.agg #[(I a'),(I b'),(I c'),(I d')]),M0) else some (.v (.agg #[(I 0),(I 0),(I 0),(I 0)]),M0)))) else (bif a8 a b c d then some (.v (.agg #[(I a),(I b),(I c),(I d)]),M0) else (bif a8 a' b' c' d' then some (.v (.agg #[(I a'),(I b'),(I c'),(I d')]),M0) else some (.v (.agg #[(I 0),(I 0),(I 0),(I 0)]),M0)))):=by kernel_rfl
def DC (vs:List Value):Option (Bool×Value) :=
 match vs with
 | [.agg ⟨[.int .i64 a,.int .i64 b,.int .i64 c,.int .i64 d]⟩,.agg ⟨[.int .i64 a',.int .i64 b',.int .i64 c',.int .i64 d']⟩]=>some (true,Value.agg #[I (Nr a b c d a' b' c' d'),I (Nq a b c d a' b' c' d'),I (Np a b c d a' b' c' d'),I (Nn a b c d a' b' c' d')])
 | _=>none
theorem qdo:am 236 DC:=by
 intro vs r h
 unfold DC at h
 split at h
 ·rename_i a b c d a' b' c' d'
  obtain ⟨h1,rfl⟩:=ab h
  refine ak (vs:=[.agg #[I a,I b,I c,I d],.agg #[I a',I b',I c',I d']]) (Λ:=L0) (m':=M0) Q5 func236 rfl ai ?_
  exact (Vo a b c d a' b' c' d').trans (by unfold Nr Nq Np Nn pick;cases a8 a b c d<;>cases a8 a' b' c' d'<;>rfl)
 ·cases h
def ΓU4:Orc:=ah 236 DC ΓU3
theorem qi2:ΓU4.Ok prog:=ac Q5 qdo
def ΓU5:Orc:=ΓU4
theorem Q4:ΓU5.Ok prog:=qi2
theorem Vp (a:Int) (b:Int) (c:Int) (d:Int) (a':Int) (b':Int) (c':Int) (d':Int):runG ΓU5 L0 prog f337 [.v (.agg #[I a,I b,I c,I d]),.v (.agg #[I a',I b',I c',I d'])] M0 =
 (bif !a8 a b c d then some (.v (Bo false),M0) else (bif !a8 a' b' c' d' then some (.v (Bo false),M0) else (bif decide (a'<=a) then (bif decide (b'<=b) then (bif decide (c<=c') then some (.v (Bo (decide (d<=d'))),M0) else some (.v (Bo false),M0)) else some (.v (Bo false),M0)) else some (.v (Bo false),M0)))):=by kernel_rfl
def DD (vs:List Value):Option (Bool×Value) :=
 match vs with
 | [.agg ⟨[.int .i64 a,.int .i64 b,.int .i64 c,.int .i64 d]⟩,.agg ⟨[.int .i64 a',.int .i64 b',.int .i64 c',.int .i64 d']⟩]=>some (true,Bo (pT a b c d a' b' c' d'))
 | _=>none
theorem qdp:am 337 DD:=by
 intro vs r h
 unfold DD at h
 split at h
 ·rename_i a b c d a' b' c' d'
  obtain ⟨h1,rfl⟩:=ab h
  refine ak (vs:=[.agg #[I a,I b,I c,I d],.agg #[I a',I b',I c',I d']]) (Λ:=L0) (m':=M0) Q4 func337 rfl ai ?_
  exact (Vp a b c d a' b' c' d').trans (by rw [<- qcT];cases a8 a b c d<;>cases a8 a' b' c' d'<;>cases decide (a'<=a)<;>cases decide (b'<=b)<;>cases decide (c<=c')<;>rfl)
 ·cases h
def ΓU6:Orc:=ah 337 DD ΓU5
theorem Q3:ΓU6.Ok prog:=ac Q4 qdp
theorem Vq (a:Int) (b:Int) (c:Int) (d:Int) (x:Int) (y:Int):runG ΓU6 L0 prog f300 [.v (.agg #[I a,I b,I c,I d]),.v (.agg #[I x,I y])] M0 =
 some (.v (Bo (pT x y x y a b c d)),M0):=by kernel_rfl
def DE (vs:List Value):Option (Bool×Value) :=
 match vs with
 | [.agg ⟨[.int .i64 a,.int .i64 b,.int .i64 c,.int .i64 d]⟩,.agg ⟨[.int .i64 x,.int .i64 y]⟩]=>some (true,Bo (kQ a b c d x y))
 | _=>none
theorem qdq:am 300 DE:=by
 intro vs r h
 unfold DE at h
 split at h
 ·rename_i a b c d x y
  obtain ⟨h1,rfl⟩:=ab h
  refine ak (vs:=[.agg #[I a,I b,I c,I d],.agg #[I x,I y]]) (Λ:=L0) (m':=M0) Q3 func300 rfl ai ?_
  exact (Vq a b c d x y).trans (vB (qcS a b c d x y))
 ·cases h
def ΓU7:Orc:=ah 300 DE ΓU6
theorem qi1:ΓU7.Ok prog:=ac Q3 qdq
def ΓU8:Orc:=ΓU7
theorem qi0:ΓU8.Ok prog:=qi1
def ΓBo:Orc:=ΓU8
theorem Ja:ΓBo.Ok prog:=qi0
end Go.Proofs.YtainfdcfkgemhaaGreat
