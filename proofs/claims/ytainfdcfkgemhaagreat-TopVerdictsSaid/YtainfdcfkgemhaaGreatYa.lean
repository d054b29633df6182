/-
  What is known of this program: the atomics,names;contracts of wide,of point,of box over values,and of the document's.
-/
import Derived.Test.YtainfdcfkgemhaaGreatSx
import Derived.Test.YtainfdcfkgemhaaGreatProg
import Derived.Lib.Strings
import Derived.Lib.Walk
import Derived.Lib.BufferWrite
import Derived.Lib.UnsafeStr
import Derived.Laws.MakeOwn
import Derived.WalkKit
import Derived.Test.YtainfdcfkgemhaaGreatSw
set_option maxRecDepth 100000
noncomputable section
open Go.Proofs.Tryz
namespace Go.Proofs.YtainfdcfkgemhaaGreat
open Go Go.Proofs Go.Sx Go.RowKit
abbrev aT (n:FuncId) (g:List SV->Mem->Option (Bool×SV×Mem)):Prop:=∀ xs m r m',g xs m=some (true,r,m')->bq prog n xs m r m'
abbrev bi (n:FuncId) (g:List SV->Mem->Option (Bool×Value)):Prop:=∀ xs m r,g xs m=some (true,r)->bq prog n xs m (.v r) m
abbrev an (n:FuncId) (g:List Value->Option (Bool×Value)):Prop:=∀ vs r,g vs=some (true,r)->∀ m,bq prog n (vs.map .v) m (.v r) m
theorem mixed:prog.follows .mixedOrders=true:=by kernel_rfl
theorem names:np prog=true:=by kernel_rfl
def M0:Mem:=⟨[],[],[]⟩
def I (x:Int):Value:=.int .i64 x
def S (s:ByteArray):Value:=.string s
def Bo (b:Bool):Value:=.bool b
def U8 (x:Int):Value:=.int .u8 x
def bJ (x:Int):Value:=.int .u16 x
def bV (x:Int):Value:=.int .u32 x
theorem Te:Ext prog 331 (Extern.Atomic.loadT (.int .i64)):=⟨fun args w=>run_callFunc_extern func331 (by kernel_rfl) (by kernel_rfl) (by kernel_rfl) (by kernel_rfl) args w⟩
def Ml:FuncId->List SV->Mem->Option (Bool×Value):=CJ 331 .i64
theorem qaD:∀ f xs m r,Ml f xs m=some (true,r)->bq prog f xs m (.v r) m:=qc5 Te
theorem Tf:Ext prog 342 (Extern.Atomic.casT (.int .i64)):=⟨fun args w=>run_callFunc_extern func342 (by kernel_rfl) (by kernel_rfl) (by kernel_rfl) (by kernel_rfl) args w⟩
def PL:FuncId->List SV->Mem->Option (Bool×SV×Mem):=HG 342 .i64
theorem qhY:∀ f xs m r m',PL f xs m=some (true,r,m')->bq prog f xs m r m':=qhT Tf
set_option maxHeartbeats 4000000 in
theorem qhJ (s:ByteArray) (w:World) (hs:s.size<=281474976710656) :
  Calls prog 226 #[.string s] w fun e w'=>e=.returned (.string s)/\Kp w w':=by
 have fr:∀ {w w':World},Below w.heap.size w w'->Kp w w':=fun h=>⟨h,fun p hp=>h.frozen hp⟩
 by_cases h0:s.size=0
 ·obtain rfl:s=⟨#[]⟩:=ByteArray.ext (Array.eq_empty_of_size_eq_zero h0)
  go_enter func226,Tryz.ntmps226
  go_wp2
  go_ret
  exact ⟨rfl,fr (Below.refl _ _)⟩
 ·obtain ⟨ti,hti,tz,ts,tb⟩:∃ i,prog.info? 5=some i/\i.zero=some (.int .u8 0)/\i.size=1/\i.bytes=1:=⟨_,rfl,rfl,rfl,rfl⟩
  have one:(prog.info? 5).map (·.size)=some 1:=by rw [hti];simp [ts]
  have cells1:prog.cellsOf 5=1:=by simp [Program.cellsOf,hti,ts]
  generalize hM:madeCells (Value.int .u8 0).cells (((s.size:Nat):Int).toNat*ti.size)=M
  have sizeM:M.size=s.size:=by rw [<- hM,size_madeCells,ts];simp
  have making:∀ W:World,(Instr.makeSlice 109 (.int .i64 (s.size:Int)) (.int .i64 (s.size:Int))).run prog W=.ok (.slice (some ⟨W.heap.size,0,none⟩) s.size s.size) (W.alloc (.cells M 5)):=by
   intro W
   have:=run_make (P:=prog) W 109 5 ti (.int .u8 0) Tryz.underlying109 hti tz .i64 .i64 (s.size:Int) (s.size:Int) (by omega) (by omega) (by rw [tb];omega) (by omega)
   rw [hM] at this
   simpa using this
  have copying:=Lib.run_copy_row_string (P:=prog) (w.alloc (.cells M 5)) 109 9 3 5 w.heap.size 0 s.size s.size s M 5 Tryz.underlying109 one (heap_alloc_new w _) (Nat.le_refl _) (by omega)
  generalize hY:(M.toList.take 0++Lib.byteCells s.data.toList++M.toList.drop (0+s.size)).toArray=Y at copying
  have listY:Y.toList=Lib.byteCells s.data.toList:=by
   rw [<- hY,List.toList_toArray,List.take_zero,List.nil_append,List.drop_of_length_le (by rw [Array.length_toList];omega),List.append_nil]
  have sizeY:Y.size=s.size:=by rw [<- Array.length_toList,listY,Lib.byteCells_length,<- Lib.size_eq]
  have there:((w.alloc (.cells M 5)).setRow w.heap.size Y).heap[w.heap.size]?=some (.cells Y 5 (0,0)):=setRow_heap _ _ M _ 5 (0,0) (heap_alloc_new w _)
  have some1:s.data.toList≠[]:=fun e=>h0 (by rw [Lib.size_eq,e];rfl)
  have sharing:=Lib.run_unsafeString_row (P:=prog) ((w.alloc (.cells M 5)).setRow w.heap.size Y) 269 3 9 5 Tryz.underlying269 cells1 w.heap.size Y.size (by unfold World.shape?;rw [there]) s.data.toList some1 (by rw [<- Lib.size_eq];omega) (by rw [<- Lib.size_eq];omega)
   (fun j x hx=>Lib.cells_of_row there Y.size j _ (by rw [List.take_of_length_le (by rw [Array.length_toList];exact Nat.le_refl _),listY];simp [Lib.byteCells,hx]))
  rw [<- Lib.size_eq] at sharing
  clear hM hY
  go_enter func226,Tryz.ntmps226
  go_wp2
  go_ret
  have b1:Below w.heap.size w (w.alloc (.cells M 5)):=(Below.refl _ w).alloc (Nat.le_refl _) _
  have b2:Below w.heap.size (w.alloc (.cells M 5)) ((w.alloc (.cells M 5)).setRow w.heap.size Y):=⟨rfl,rfl,rfl,by simp,fun k hk=>setRow_other _ _ _ _ (by omega)⟩
  exact ⟨rfl,fr (Lib.below_freeze (b1.trans b2) (p:=⟨w.heap.size,0,none⟩) (Nat.le_refl _) _)⟩
def GC (vs:List Value):Option (Bool×Value) :=
 match vs with
 | [.string s]=>some (Nat.ble s.size 281474976710656,S s)
 | _=>none
theorem qgu:an 226 GC:=by
 intro vs r h
 unfold GC at h
 split at h
 ·rename_i s
  obtain ⟨h1,rfl⟩:=aa h
  exact HH prog fun w=>.inr ⟨n9 func226 rfl (nm names func226 rfl) w,qhJ s w (Nat.le_of_ble_eq_true h1)⟩
 ·cases h
def Kz:FuncId->List Value->Option (Bool×Value):=vi 226 GC
theorem Tw:Ie prog Kz:=KY qgu
def good:List TypeId :=
 284 ::
 151 ::
 56 ::
 172 ::
 238 ::
 41 ::
 46 ::
 162 ::
 277 ::
 399 ::
 436 ::
 52 ::
 []
def sS (f:FuncId):Bool :=
 Nat.beq f 381 ||
 Nat.beq f 267 ||
 false
theorem qdz:good.all (qu prog)=true:=by kernel_rfl
def ΓA:Orc:=qP (sf Kz) { call:=PL,eqv:=Hl prog good,rd:=Ml,unr:=8,wr:=sS }
theorem SK:ΓA.Ok prog:=Qw ⟨qhY,qaD,fun t xs ys r h w op x y hop=>qhp qdz t xs ys r h w op x y hop,fun _ _ _ _ _ _ h=>by cases h⟩ Tw
theorem aj {Γ:Orc} {Λ:aV} (hΓ:Γ.Ok prog) {f:FuncId} {fn:Func} {c:Code} (hf:prog.funcs[f]?=some fn) (hb:fn.body=some c) {xs:List SV} {m m':Mem} {r:SV}
 (hL:∀ z,z.L.length=m.blk.length->z.U.length=m.rows.length->∀ b∈loopsOf c,aQ Λ prog z b) (h:runG Γ Λ prog fn xs m=some (r,m')):bq prog f xs m r m':=zg hΓ mixed names hf hb hL h
theorem am {Γ:Orc} {Λ:aV} (hΓ:Γ.Ok prog) {f:FuncId} {fn:Func} {c:Code} (hf:prog.funcs[f]?=some fn) (hb:fn.body=some c) {vs:List Value} {r:Value} {m':Mem}
 (hL:∀ z:Base,z.L.length=0->z.U.length=0->∀ b∈loopsOf c,aQ Λ prog z b) (h:runG Γ Λ prog fn (vs.map .v) M0=some (.v r,m')):∀ m,bq prog f (vs.map .v) m (.v r) m:=Tu hΓ mixed names hf hb hL h
end Go.Proofs.YtainfdcfkgemhaaGreat
namespace Go.Proofs.YtainfdcfkgemhaaGreat
open Go Go.Proofs Go.Sx
def MC (a b:Int):Mem:=⟨[[.v (I a),.v (I b)]],[true],[]⟩
def aK (x y:Int):Int:=if (if y<x then y else x)>0 then (if y<x then y else x) else 0
def FG (xs:List SV) (m:Mem):Option (Bool×Value) :=
 match xs,m with
 | [.ptr 0 1],⟨[[.v (.int .i64 _),.v (.int .i64 b)]],[true],[]⟩=>some (true,I b)
 | _,_=>none
theorem qfA:bi 284 FG:=by
 intro xs m r h
 unfold FG at h
 split at h
 ·rename_i a b
  obtain ⟨_,rfl⟩:=aa h
  refine aj (Λ:=L0) SK func284 rfl (fun z _ _=>noLoops (by kernel_rfl) z) ?_
  kernel_rfl
 ·cases h
def ΓC1:Orc:=aR 284 FG ΓA
theorem SD:ΓC1.Ok prog:=aL SK qfA
def GE (vs:List Value):Option (Bool×Value) :=
 match vs with
 | [.int .i64 x,.int .i64 y]=>some (true,I (aK x y))
 | _=>none
theorem qgx:an 118 GE:=by
 intro vs r h
 unfold GE at h
 split at h
 ·rename_i x y
  obtain ⟨_,rfl⟩:=aa h
  refine am (Λ:=L0) (m':=M0) SD func118 rfl (fun z _ _=>noLoops (by kernel_rfl) z) ?_
  kernel_rfl
 ·cases h
def ΓC2:Orc:=ah 118 GE ΓC1
theorem Jc:ΓC2.Ok prog:=ac SD qgx
def DC (xs:List SV) (m:Mem):Option (Bool×Value) :=
 match xs,m with
 | [.ptr 0 0],⟨[[.v (.int .i64 _),.v (.int .i64 b)]],[true],[]⟩=>some (true,I b)
 | [.v (.pointer none)],_=>some (true,I 0)
 | _,_=>none
theorem qdP:bi 221 DC:=by
 intro xs m r h
 unfold DC at h
 split at h
 ·rename_i a b
  obtain ⟨_,rfl⟩:=aa h
  refine aj (Λ:=L0) Jc func221 rfl (fun z _ _=>noLoops (by kernel_rfl) z) ?_
  kernel_rfl
 ·obtain ⟨_,rfl⟩:=aa h
  refine am (vs:=[.pointer none]) (Λ:=L0) (m':=M0) Jc func221 rfl (fun z _ _=>noLoops (by kernel_rfl) z) ?_ m
  kernel_rfl
 ·cases h
def ΓC3:Orc:=aR 221 DC ΓC2
theorem SC:ΓC3.Ok prog:=aL Jc qdP
def GJ (xs:List SV) (m:Mem):Option (Bool×SV×Mem) :=
 match xs,m with
 | [.ptr 0 1,.v (.int .i64 x),.v (.int .i64 y)],⟨[[.v (.int .i64 a),.v (.int .i64 b)]],[true],[]⟩=>some (true,.v (Bo (b==x)),MC a (bif b==x then y else b))
 | _,_=>none
theorem qgC:aT 307 GJ:=by
 intro xs m r m' h
 unfold GJ at h
 split at h
 ·rename_i x y a b
  obtain ⟨_,rfl,rfl⟩:=az h
  refine aj (Λ:=L0) SC func307 rfl (fun z _ _=>noLoops (by kernel_rfl) z) ?_
  kernel_rfl
 ·cases h
def ΓC4:Orc:=aE 307 GJ ΓC3
theorem SB:ΓC4.Ok prog:=aA SC qgC
def EQ (xs:List SV) (m:Mem):Option (Bool×Value) :=
 match xs,m with
 | [.ptr 0 0,.v (.int .i64 v),.v (.int .i64 n)],⟨[[.v (.int .i64 a),.v (.int .i64 _)]],[true],[]⟩=>some (true,I (wI (v+aK n (wI (a - v)))))
 | _,_=>none
theorem qeQ:bi 306 EQ:=by
 intro xs m r h
 unfold EQ at h
 split at h
 ·rename_i v n a b
  obtain ⟨_,rfl⟩:=aa h
  refine aj (Λ:=L0) SB func306 rfl (fun z _ _=>noLoops (by kernel_rfl) z) ?_
  kernel_rfl
 ·cases h
def ΓC5:Orc:=aR 306 EQ ΓC4
theorem Jb:ΓC5.Ok prog:=aL SB qeQ
def au (a v n:Int):Int:=wI (v+aK n (wI (a - v)))
def ta:List Bool:=aB 24 [0,1]
def s9:List Bool:=aB 24 [4]
def t9:Code:=bX (f242.body.getD .skip) 0
theorem qck:loopsOf (f242.body.getD .skip)=[t9]:=by kernel_rfl
theorem qcj:loopsOf t9=[]:=by kernel_rfl
theorem UQ (a v n:Int) (k:Nat):ao ΓC5 prog L0 (ab 1 0 ta) t9 (k+1) (mk ta [.ptr 0 0,.v (I n)] (MC a v)) (fun e st=>some (e,ab 1 0 s9 st)) =
 bif v==v then some (.ret,mk s9 [.v (I (au a v n))] (MC a (bif v==v then au a v n else v))) else
  ao ΓC5 prog L0 (ab 1 0 ta) t9 k (mk ta [.ptr 0 0,.v (I n)] (MC a (bif v==v then au a v n else v))) (fun e st=>some (e,ab 1 0 s9 st)):=by kernel_rfl
def J5 (vals:List SV) (m:Mem):Option (Bool×Ex×St) :=
 match vals,m with
 | [.ptr 0 0,.v (.int .i64 n)],⟨[[.v (.int .i64 a),.v (.int .i64 v)]],[true],[]⟩=>some (true,.ret,mk s9 [.v (I (au a v n))] (MC a (au a v n)))
 | _,_=>none
def ΛAdd:aV:=fun _ st=>cE 1 0 ta J5 st
theorem qcY (z:Base) (h1:z.L.length=1) (h2:z.U.length=0):aQ ΛAdd prog z t9:=by
 refine di (Λ:=L0) (kx:=fun _=>s9) Jb mixed h1 h2 (fun b hb=>by rw [qcj] at hb;cases hb) (G:=J5) (fun _=>rfl) ?_
 intro vals m e st' h
 unfold J5 at h
 split at h
 ·rename_i n a v
  obtain ⟨_,rfl,rfl⟩:=az h
  refine ⟨1,(UQ a v n 0).trans ?_⟩
  simp only [beq_self_eq_true,cond_true]
 ·cases h
def G8 (xs:List SV) (m:Mem):Option (Bool×SV×Mem) :=
 match xs,m with
 | [.ptr 0 0,.v (.int .i64 n)],⟨[[.v (.int .i64 a),.v (.int .i64 v)]],[true],[]⟩=>some (true,.v (I (au a v n)),MC a (au a v n))
 | _,_=>none
theorem qgZ:aT 242 G8:=by
 intro xs m r m' h
 unfold G8 at h
 split at h
 ·rename_i n a v
  obtain ⟨_,rfl,rfl⟩:=az h
  refine aj (Λ:=ΛAdd) Jb func242 rfl (fun z h1 h2=>bW (c:=f242.body.getD .skip) qck (qcY z h1 h2)) ?_
  kernel_rfl
 ·cases h
def ΓC6:Orc:=aE 242 G8 ΓC5
theorem Sz:ΓC6.Ok prog:=aA Jb qgZ
def Fr (xs:List SV) (m:Mem):Option (Bool×SV×Mem) :=
 match xs,m with
 | [.v (.int .i64 n)],⟨[],[],[]⟩=>some (true,.ptr 0 0,MC (aK n 1000000) 0)
 | _,_=>none
theorem qfl:aT 60 Fr:=by
 intro xs m r m' h
 unfold Fr at h
 split at h
 ·rename_i n
  obtain ⟨_,rfl,rfl⟩:=az h
  refine aj (Λ:=L0) Sz func60 rfl (fun z _ _=>noLoops (by kernel_rfl) z) ?_
  kernel_rfl
 ·cases h
def ΓC:Orc:=aE 60 Fr ΓC6
theorem Ad:ΓC.Ok prog:=aA Sz qfl
end Go.Proofs.YtainfdcfkgemhaaGreat
namespace Go.Proofs.YtainfdcfkgemhaaGreat
open Go Go.Proofs Go.Sx
set_option linter.unusedVariables false
abbrev UU (x:Int):Value:=.int .u64 x
theorem fW {a b:Value} (h:a=b):(some (SV.v a,M0):Option (SV×Mem))=some (.v b,M0):=by rw [h]
theorem CU (c:Code) (z:Base):∀ b∈loopsOf c,aQ L0 prog z b:=fun b _ st t h=>by cases h
theorem af {c:Code} {p q:Base->Prop}:∀ z,p z->q z->∀ b∈loopsOf c,aQ L0 prog z b:=fun z _ _=>CU _ z
def G7 (vs:List Value):Option (Bool×Value) :=
 match vs with
 | [.int .u64 x,.int .u64 y,.int .u64 c]=>some (decide (0<=x/\0<=y/\0<=c/\c<=1),.tuple #[UU (gj x y c),UU (fh x y c)])
 | _=>none
theorem qg0:an 354 G7:=by
 intro vs r h
 unfold G7 at h
 split at h
 ·rename_i x y c
  obtain ⟨h1,rfl⟩:=aa h
  refine HH prog fun w=>.inl ?_
  have hc:0<=x/\0<=y/\0<=c/\c<=1:=by simpa using h1
  rw [run_callFunc_extern func354 (by kernel_rfl) (by kernel_rfl) (by kernel_rfl) (e:=add64Entry) (by kernel_rfl)]
  rw [show (List.toArray [Value.int .u64 x,.int .u64 y,.int .u64 c])=#[Value.int .u64 x,.int .u64 y,.int .u64 c] from rfl,run_add64 x y c hc.1 hc.2.1 hc.2.2.1 hc.2.2.2]
  rfl
 ·cases h
def ΓW1:Orc:=ah 354 G7 ΓC
theorem qjs:ΓW1.Ok prog:=ac Ad qg0
def ΓW2:Orc:=ΓW1
theorem Rm:ΓW2.Ok prog:=qjs
theorem Vr (a b:Int):runG ΓW2 L0 prog f355 [.v (Wd a b)] M0=some (.v (Bo (decide (a<0))),M0):=by kernel_rfl
def Dt (vs:List Value):Option (Bool×Value) :=
 match vs with
 | [.agg ⟨[.int .i64 a,.int .u64 b]⟩]=>some (true,Bo (decide (a<0)))
 | _=>none
theorem qdG:an 355 Dt:=by
 intro vs r h
 unfold Dt at h
 split at h
 ·rename_i a b
  obtain ⟨h1,rfl⟩:=aa h
  refine am (vs:=[Wd a b]) (Λ:=L0) (m':=M0) Rm func355 rfl af ?_
  exact (Vr a b).trans (rfl)
 ·cases h
def ΓW3:Orc:=ah 355 Dt ΓW2
theorem Rk:ΓW3.Ok prog:=ac Rm qdG
theorem Yc (a:Int):runG ΓW3 L0 prog f379 [.v (I a)] M0=some (.v (Bo (a != a)),M0):=by kernel_rfl
def Ft (vs:List Value):Option (Bool×Value) :=
 match vs with
 | [.int .i64 a]=>some (true,Bo false)
 | _=>none
theorem qfn:an 379 Ft:=by
 intro vs r h
 unfold Ft at h
 split at h
 ·rename_i a
  obtain ⟨h1,rfl⟩:=aa h
  refine am (vs:=[I a]) (Λ:=L0) (m':=M0) Rk func379 rfl af ?_
  exact (Yc a).trans (by simp)
 ·cases h
def ΓW4:Orc:=ah 379 Ft ΓW3
theorem Rj:ΓW4.Ok prog:=ac Rk qfn
theorem Yb (a:Int):runG ΓW4 L0 prog f380 [.v (UU a)] M0=some (.v (Bo (a != a)),M0):=by kernel_rfl
def Fs (vs:List Value):Option (Bool×Value) :=
 match vs with
 | [.int .u64 a]=>some (true,Bo false)
 | _=>none
theorem qfm:an 380 Fs:=by
 intro vs r h
 unfold Fs at h
 split at h
 ·rename_i a
  obtain ⟨h1,rfl⟩:=aa h
  refine am (vs:=[UU a]) (Λ:=L0) (m':=M0) Rj func380 rfl af ?_
  exact (Yb a).trans (by simp)
 ·cases h
def ΓW5:Orc:=ah 380 Fs ΓW4
theorem Ri:ΓW5.Ok prog:=ac Rj qfm
theorem Yi (x y:Int):runG ΓW5 L0 prog f185 [.v (UU x),.v (UU y)] M0 =
 (let U:=IntKind.u64.wrap;let A:=fun z:Int=>U ((BitVec.ofInt 64 z &&& BitVec.ofInt 64 4294967295).toNat:Int);let S:=fun z:Int=>z.fdiv (2 ^ 32);let w0:=U (A x*A y);let t:=U (U (S x*A y)+S w0);let w1:=U (A t+U (A x*S y));some (.v (.tuple #[UU (U (U (U (S x*S y)+S t)+S w1)),UU (U (x*y))]),M0)):=by kernel_rfl
def ye (vs:List Value):Option (Bool×Value) :=
 match vs with
 | [.int .u64 x,.int .u64 y]=>some (a8 x&&a8 y,.tuple #[UU (x*y / 18446744073709551616),UU (x*y % 18446744073709551616)])
 | _=>none
theorem yd:an 185 ye:=by
 intro vs r h
 unfold ye at h
 split at h
 ·rename_i x y
  obtain ⟨h1,rfl⟩:=aa h
  refine am (vs:=[UU x,UU y]) (Λ:=L0) (m':=M0) Ri func185 rfl af ?_
  exact (Yi x y).trans (by
   rw [Bool.and_eq_true] at h1
   obtain ⟨e1,e2⟩:=qbs x y h1.1 h1.2
   exact fW (by show Value.tuple #[UU _,UU _]=_;rw [e1,e2]))
 ·cases h
def ΓW6:Orc:=ah 185 ye ΓW5
theorem IC:ΓW6.Ok prog:=ac Ri yd
theorem LS (x y:Int):runG ΓW6 L0 prog f116 [.v (UU x),.v (UU y)] M0=bif a8 x&&a8 y then some (.v (.tuple #[UU (x*y / 18446744073709551616),UU (x*y % 18446744073709551616)]),M0) else none:=by kernel_rfl
def Fy (vs:List Value):Option (Bool×Value) :=
 match vs with
 | [.int .u64 x,.int .u64 y]=>some (a8 x&&a8 y,.tuple #[UU (x*y / 18446744073709551616),UU (x*y % 18446744073709551616)])
 | _=>none
theorem qfs:an 116 Fy:=by
 intro vs r h
 unfold Fy at h
 split at h
 ·rename_i x y
  obtain ⟨h1,rfl⟩:=aa h
  refine am (vs:=[UU x,UU y]) (Λ:=L0) (m':=M0) IC func116 rfl af ?_
  exact (LS x y).trans (by rw [h1];rfl)
 ·cases h
def ΓW7:Orc:=ah 116 Fy ΓW6
theorem Rh:ΓW7.Ok prog:=ac IC qfs
theorem Zv (x y:Int):runG ΓW7 L0 prog f368 [.v (I x),.v (I y)] M0=bif decide (x<y) then some (.v (I (-1)),M0) else (bif decide (x>y) then some (.v (I 1),M0) else some (.v (I 0),M0)):=by kernel_rfl
def Gz (vs:List Value):Option (Bool×Value) :=
 match vs with
 | [.int .i64 x,.int .i64 y]=>some (true,I (cw x y))
 | _=>none
theorem qgs:an 368 Gz:=by
 intro vs r h
 unfold Gz at h
 split at h
 ·rename_i x y
  obtain ⟨h1,rfl⟩:=aa h
  refine am (vs:=[I x,I y]) (Λ:=L0) (m':=M0) Rh func368 rfl af ?_
  exact (Zv x y).trans (by
   unfold cw
   cases decide (x<y)
   ·show _=some (SV.v (I (bif decide (x>y) then 1 else 0)),M0)
    cases decide (x>y)<;>rfl
   ·rfl)
 ·cases h
def ΓW8:Orc:=ah 368 Gz ΓW7
theorem Rg:ΓW8.Ok prog:=ac Rh qgs
theorem Zu (x y:Int):runG ΓW8 L0 prog f369 [.v (UU x),.v (UU y)] M0=bif decide (x<y) then some (.v (I (-1)),M0) else (bif decide (x>y) then some (.v (I 1),M0) else some (.v (I 0),M0)):=by kernel_rfl
def Gy (vs:List Value):Option (Bool×Value) :=
 match vs with
 | [.int .u64 x,.int .u64 y]=>some (true,I (cw x y))
 | _=>none
theorem qgr:an 369 Gy:=by
 intro vs r h
 unfold Gy at h
 split at h
 ·rename_i x y
  obtain ⟨h1,rfl⟩:=aa h
  refine am (vs:=[UU x,UU y]) (Λ:=L0) (m':=M0) Rg func369 rfl af ?_
  exact (Zu x y).trans (by
   unfold cw
   cases decide (x<y)
   ·show _=some (SV.v (I (bif decide (x>y) then 1 else 0)),M0)
    cases decide (x>y)<;>rfl
   ·rfl)
 ·cases h
def ΓW9:Orc:=ah 369 Gy ΓW8
theorem Rf:ΓW9.Ok prog:=ac Rg qgr
theorem Vq (n:Int):runG ΓW9 L0 prog f322 [.v (I n)] M0=some (.v (Wd (n.fdiv (2 ^ 63)) (IntKind.u64.wrap n)),M0):=by kernel_rfl
def Ds (vs:List Value):Option (Bool×Value) :=
 match vs with
 | [.int .i64 n]=>some (bd n,Wn n)
 | _=>none
theorem qdF:an 322 Ds:=by
 intro vs r h
 unfold Ds at h
 split at h
 ·rename_i n
  obtain ⟨h1,rfl⟩:=aa h
  refine am (vs:=[I n]) (Λ:=L0) (m':=M0) Rf func322 rfl af ?_
  exact (Vq n).trans (by
   rw [dX] at h1
   obtain ⟨_,h2,h3⟩:=km (n:=n) (by omega) (by omega)
   refine fW (j8 ?_ ?_)
   ·rw [h2,Int.fdiv_eq_ediv_of_nonneg _ (by decide),show (2:Int) ^ 63=9223372036854775808 from by decide]
    omega
   ·rw [h3,wrU])
 ·cases h
def ΓW10:Orc:=ah 322 Ds ΓW9
theorem Rs:ΓW10.Ok prog:=ac Rf qdF
theorem Vv (a b c d:Int):runG ΓW10 L0 prog f321 [.v (Wd a b),.v (Wd c d)] M0 =
 (bif decide ((0:Int)<=b/\(0:Int)<=d/\(0:Int)<=(0:Int)/\(0:Int)<=(1:Int)) then (bif decide ((0:Int)<=IntKind.u64.wrap a/\(0:Int)<=IntKind.u64.wrap c/\(0:Int)<=fh b d (0:Int)/\fh b d (0:Int)<=(1:Int)) then (bif decide (a<(0:Int))==decide (c<(0:Int)) then (bif !decide (wI (gj (IntKind.u64.wrap a) (IntKind.u64.wrap c) (fh b d (0:Int)))<(0:Int))==decide (a<(0:Int)) then some (.v (.tuple #[(.agg #[(I 0),(.int .u64 0)]),(Bo false)]),M0) else some (.v (.tuple #[(.agg #[(I (wI (gj (IntKind.u64.wrap a) (IntKind.u64.wrap c) (fh b d (0:Int))))),(.int .u64 (gj b d (0:Int)))]),(Bo true)]),M0)) else some (.v (.tuple #[(.agg #[(I (wI (gj (IntKind.u64.wrap a) (IntKind.u64.wrap c) (fh b d (0:Int))))),(.int .u64 (gj b d (0:Int)))]),(Bo true)]),M0)) else none) else none):=by kernel_rfl
def Dx (vs:List Value):Option (Bool×Value) :=
 match vs with
 | [.agg ⟨[.int .i64 a,.int .u64 b]⟩,.agg ⟨[.int .i64 c,.int .u64 d]⟩]=>some (bO a b&&bO c d,.tuple #[Wn (wv a b+wv c d),Bo (okW (wv a b+wv c d))])
 | _=>none
theorem qdK:an 321 Dx:=by
 intro vs r h
 unfold Dx at h
 split at h
 ·rename_i a b c d
  obtain ⟨h1,rfl⟩:=aa h
  refine am (vs:=[Wd a b,Wd c d]) (Λ:=L0) (m':=M0) Rs func321 rfl af ?_
  exact (Vv a b c d).trans (by
   rw [Bool.and_eq_true] at h1
   obtain ⟨⟨k0,k1⟩,k2,k3⟩:=qiz a b c d h1.1 h1.2
   have i1:=iI.1 h1.1
   have i2:=iI.1 h1.2
   have u1:=eV.1 (nJ a)
   have u2:=eV.1 (nJ c)
   rw [decide_eq_true (show (0:Int)<=b/\(0:Int)<=d/\(0:Int)<=0/\(0:Int)<=1 by omega),decide_eq_true (show (0:Int)<=IntKind.u64.wrap a/\(0:Int)<=IntKind.u64.wrap c/\(0:Int)<=fh b d 0/\fh b d 0<=(1:Int) by omega)]
   simp only [cond_true]
   cases ho:okW (wv a b+wv c d) with
   | true =>
    obtain ⟨e1,e2⟩:=k3 ho
    rw [ho,Bool.not_true] at k2
    cases hs:decide (a<0)==decide (c<0) with
    | false=>exact fW (AS e1 e2 rfl)
    | true =>
     rw [hs,Bool.true_and] at k2
     have k2':(!decide (wI (gj (IntKind.u64.wrap a) (IntKind.u64.wrap c) (fh b d 0))<0)==decide (a<0))=false:=k2
     rw [k2']
     exact fW (AS e1 e2 rfl)
   | false =>
    rw [ho,Bool.not_false,Bool.and_eq_true] at k2
    have k2':(!decide (wI (gj (IntKind.u64.wrap a) (IntKind.u64.wrap c) (fh b d 0))<0)==decide (a<0))=true:=k2.2
    rw [k2.1,k2']
    obtain ⟨_,e1,e2⟩:=qa7 (n:=wv a b+wv c d) (by have:=of_decide_eq_false ho;omega)
    exact fW (AS e1.symm e2.symm rfl))
 ·cases h
def ΓW11:Orc:=ah 321 Dx ΓW10
theorem Rr:ΓW11.Ok prog:=ac Rs qdK
theorem Vt (a b:Int):runG ΓW11 L0 prog f323 [.v (Wd a b)] M0 =
 (bif bd (wI b) then (bif !(aY (wI b)==a&&(aZ (wI b)==b&&true)) then some (.v (.tuple #[(I 0),(Bo false)]),M0) else some (.v (.tuple #[(I (wI b)),(Bo true)]),M0)) else none):=by kernel_rfl
def Dv (vs:List Value):Option (Bool×Value) :=
 match vs with
 | [.agg ⟨[.int .i64 a,.int .u64 b]⟩]=>some (bO a b,.tuple #[I (je (wv a b)),Bo (bd (wv a b))])
 | _=>none
theorem qdI:an 323 Dv:=by
 intro vs r h
 unfold Dv at h
 split at h
 ·rename_i a b
  obtain ⟨h1,rfl⟩:=aa h
  refine am (vs:=[Wd a b]) (Λ:=L0) (m':=M0) Rr func323 rfl af ?_
  exact (Vt a b).trans (by
   obtain ⟨k1,k2,k3⟩:=qdk a b h1
   have k2':(aY (wI b)==a&&(aZ (wI b)==b&&true))=bd (wv a b):=k2
   rw [show bd (wI b)=true from k1,k2']
   cases hq:bd (wv a b) with
   | true=>exact fW (inB ((k3 hq).trans (by simp [je,hq])) rfl)
   | false=>exact fW (inB (by simp [je,hq]) rfl))
 ·cases h
def ΓW12:Orc:=ah 323 Dv ΓW11
theorem Rq:ΓW12.Ok prog:=ac Rr qdI
theorem Vu (a b c d:Int):runG ΓW12 L0 prog f353 [.v (Wd a b),.v (Wd c d)] M0 =
 (bif cw a c != (0:Int) then some (.v (I (cw a c)),M0) else some (.v (I (cw b d)),M0)):=by kernel_rfl
def Dw (vs:List Value):Option (Bool×Value) :=
 match vs with
 | [.agg ⟨[.int .i64 a,.int .u64 b]⟩,.agg ⟨[.int .i64 c,.int .u64 d]⟩]=>some (bO a b&&bO c d,I (cw (wv a b) (wv c d)))
 | _=>none
theorem qdJ:an 353 Dw:=by
 intro vs r h
 unfold Dw at h
 split at h
 ·rename_i a b c d
  obtain ⟨h1,rfl⟩:=aa h
  refine am (vs:=[Wd a b,Wd c d]) (Λ:=L0) (m':=M0) Rq func353 rfl af ?_
  exact (Vu a b c d).trans (by
   rw [Bool.and_eq_true] at h1
   rw [<- qhK h1.1 h1.2]
   cases cw a c != 0<;>rfl)
 ·cases h
def ΓW13:Orc:=ah 353 Dw ΓW12
theorem Rp:ΓW13.Ok prog:=ac Rq qdJ
theorem Vs (a b:Int):runG ΓW13 L0 prog f316 [.v (I a),.v (I b)] M0 =
 (bif a8 (IntKind.u64.wrap a)&&a8 (IntKind.u64.wrap b) then (bif decide (a<(0:Int)) then (bif decide (b<(0:Int)) then some (.v (.agg #[(I (wI (IntKind.u64.wrap (IntKind.u64.wrap (IntKind.u64.wrap a*IntKind.u64.wrap b / (18446744073709551616:Int) - IntKind.u64.wrap b) - IntKind.u64.wrap a)))),(.int .u64 (IntKind.u64.wrap a*IntKind.u64.wrap b % (18446744073709551616:Int)))]),M0) else some (.v (.agg #[(I (wI (IntKind.u64.wrap (IntKind.u64.wrap a*IntKind.u64.wrap b / (18446744073709551616:Int) - IntKind.u64.wrap b)))),(.int .u64 (IntKind.u64.wrap a*IntKind.u64.wrap b % (18446744073709551616:Int)))]),M0)) else (bif decide (b<(0:Int)) then some (.v (.agg #[(I (wI (IntKind.u64.wrap (IntKind.u64.wrap a*IntKind.u64.wrap b / (18446744073709551616:Int) - IntKind.u64.wrap a)))),(.int .u64 (IntKind.u64.wrap a*IntKind.u64.wrap b % (18446744073709551616:Int)))]),M0) else some (.v (.agg #[(I (wI (IntKind.u64.wrap a*IntKind.u64.wrap b / (18446744073709551616:Int)))),(.int .u64 (IntKind.u64.wrap a*IntKind.u64.wrap b % (18446744073709551616:Int)))]),M0))) else none):=by kernel_rfl
def Du (vs:List Value):Option (Bool×Value) :=
 match vs with
 | [.int .i64 a,.int .i64 b]=>some (bd a&&bd b,Wn (a*b))
 | _=>none
theorem qdH:an 316 Du:=by
 intro vs r h
 unfold Du at h
 split at h
 ·rename_i a b
  obtain ⟨h1,rfl⟩:=aa h
  refine am (vs:=[I a,I b]) (Λ:=L0) (m':=M0) Rp func316 rfl af ?_
  exact (Vs a b).trans (by
   rw [nJ,nJ]
   rw [Bool.and_eq_true] at h1
   have k:=qbp a b h1.1 h1.2
   refine Eq.trans ?_ (fW k)
   cases decide (a<0)<;>cases decide (b<0)<;>rfl)
 ·cases h
def ΓW14:Orc:=ah 316 Du ΓW13
theorem Ro:ΓW14.Ok prog:=ac Rp qdH
theorem Ze (a b:Int) (o:Bool):runG ΓW14 L0 prog f320 [.v (Wd a b),.v (Bo o)] M0 =
 (bif !o then some (.v (.tuple #[(I 0),(Bo false)]),M0) else (bif bO a b then some (.v (.tuple #[(I (je (wv a b))),(Bo (bd (wv a b)))]),M0) else none)):=by kernel_rfl
def Gi (vs:List Value):Option (Bool×Value) :=
 match vs with
 | [.agg ⟨[.int .i64 a,.int .u64 b]⟩,.bool o]=>some (bO a b,.tuple #[I (bif o then je (wv a b) else 0),Bo (o&&bd (wv a b))])
 | _=>none
theorem qgb:an 320 Gi:=by
 intro vs r h
 unfold Gi at h
 split at h
 ·rename_i a b o
  obtain ⟨h1,rfl⟩:=aa h
  refine am (vs:=[Wd a b,Bo o]) (Λ:=L0) (m':=M0) Ro func320 rfl af ?_
  exact (Ze a b o).trans (by
   cases o with
   | false=>rfl
   | true=>rw [h1];rfl)
 ·cases h
def ΓW15:Orc:=ah 320 Gi ΓW14
theorem Rn:ΓW15.Ok prog:=ac Ro qgb
theorem Zh (a b:Int):runG ΓW15 L0 prog f261 [.v (I a),.v (I b)] M0 =
 (bif bd a then (bif bd b then (bif bO (aY a) (aZ a)&&bO (aY b) (aZ b) then (bif bO (aY (wv (aY a) (aZ a)+wv (aY b) (aZ b))) (aZ (wv (aY a) (aZ a)+wv (aY b) (aZ b))) then some (.v (.tuple #[(I (bif okW (wv (aY a) (aZ a)+wv (aY b) (aZ b)) then je (wv (aY (wv (aY a) (aZ a)+wv (aY b) (aZ b))) (aZ (wv (aY a) (aZ a)+wv (aY b) (aZ b)))) else (0:Int))),(Bo (okW (wv (aY a) (aZ a)+wv (aY b) (aZ b))&&bd (wv (aY (wv (aY a) (aZ a)+wv (aY b) (aZ b))) (aZ (wv (aY a) (aZ a)+wv (aY b) (aZ b))))))]),M0) else none) else none) else none) else none):=by kernel_rfl
def Gk (vs:List Value):Option (Bool×Value) :=
 match vs with
 | [.int .i64 a,.int .i64 b]=>some (bd a&&bd b,.tuple #[I (je (a+b)),Bo (bd (a+b))])
 | _=>none
theorem qgd:an 261 Gk:=by
 intro vs r h
 unfold Gk at h
 split at h
 ·rename_i a b
  obtain ⟨h1,rfl⟩:=aa h
  refine am (vs:=[I a,I b]) (Λ:=L0) (m':=M0) Rn func261 rfl af ?_
  exact (Zh a b).trans (by
   rw [Bool.and_eq_true] at h1
   have i1:=dX.1 h1.1
   have i2:=dX.1 h1.2
   obtain ⟨o,_,_⟩:=km (n:=a+b) (by omega) (by omega)
   obtain ⟨e1,e2⟩:=iY (wM h1.1)
   obtain ⟨e3,e4⟩:=iY (wM h1.2)
   obtain ⟨e5,e6⟩:=iY o
   rw [h1.1,h1.2,e1,e2,e3,e4,o,e5,e6]
   rfl)
 ·cases h
def ΓW16:Orc:=ah 261 Gk ΓW15
theorem qjr:ΓW16.Ok prog:=ac Rn qgd
def ΓWd:Orc:=ΓW16
theorem zZ:ΓWd.Ok prog:=qjr
end Go.Proofs.YtainfdcfkgemhaaGreat
namespace Go.Proofs.YtainfdcfkgemhaaGreat
open Go Go.Proofs Go.Sx
set_option linter.unusedVariables false
def MB (a b:Int) (R:List (List Dat)):Mem:=⟨[[.v (I a),.v (UU b)]],[true],[.live ⟨3,[.num .i64],R,true,false⟩]⟩
def uy (R:List (List Dat)):Mem:=⟨[],[],[.live ⟨3,[.num .i64],R,true,false⟩]⟩
def zx:Code:=f381.body.getD .skip
def ox:Code:=bX zx 0
def ow:Code:=bX zx 1
theorem qci:loopsOf zx=[ox,ow]:=by kernel_rfl
theorem qch:loopsOf ox=[]:=by kernel_rfl
theorem qcg:loopsOf ow=[]:=by kernel_rfl
theorem Ue:cH ox=3:=by kernel_rfl
theorem Ud:cH ow=7:=by kernel_rfl
def qa:List Bool:=aB 34 [1,3,4]
def rD:List Bool:=aB 34 [1,3]
def pZ:List Bool:=aB 34 [1,3,5]
def rC:List Bool:=aB 34 [3]
def Jn (e:Ex) (st:St):Option (Ex×St):=some (e,ab 0 0 rD st)
def Jm (e:Ex) (st:St):Option (Ex×St):=some (e,ab 0 0 rC st)
def Jv (a b i:Int) (R:List (List Dat)):St:=mk qa [.ptr 0 0,.row 0,.v (I i)] (MB a b R)
def Ju (a b i:Int) (R:List (List Dat)):St:=mk pZ [.ptr 0 0,.row 0,.v (I i)] (MB a b R)
theorem UP (a b i:Int) (R:List (List Dat)) (k:Nat):ao ΓWd prog L0 (ab 0 0 qa) ox (k+1) (Jv a b i R) Jn =
 bif decide (i<64) then (bif decide (i<0) then none else bif ke R.length then ao ΓWd prog L0 (ab 0 0 qa) ox k (Jv a b (IntKind.i64.wrap (i+1)) (R++[[.n (bx b i)]])) Jn else none) else some (.exit 0,mk rD [.ptr 0 0,.row 0] (MB a b R)):=by kernel_rfl
theorem UO (a b i:Int) (R:List (List Dat)) (k:Nat):ao ΓWd prog L0 (ab 0 0 pZ) ow (k+1) (Ju a b i R) Jm =
 bif decide (i<64) then (bif decide (i<0) then none else bif ke R.length then ao ΓWd prog L0 (ab 0 0 pZ) ow k (Ju a b (IntKind.i64.wrap (i+1)) (R++[[.n (bx (IntKind.u64.wrap a) i)]])) Jm else none) else some (.exit 2,mk rC [.row 0] (uy R)):=by kernel_rfl
def J4 (vals:List SV) (m:Mem):Option (Bool×Ex×St) :=
 match vals,m with
 | [.ptr 0 0,.row 0,.v (.int .i64 z)],⟨[[.v (.int .i64 a),.v (.int .u64 b)]],[true],[.live ⟨3,[.num .i64],[],true,false⟩]⟩=>some (a8 b&&(z==0),.exit 0,mk rD [.ptr 0 0,.row 0] (MB a b (aq (bl b 64))))
 | _,_=>none
def J3 (vals:List SV) (m:Mem):Option (Bool×Ex×St) :=
 match vals,m with
 | [.ptr 0 0,.row 0,.v (.int .i64 z)],⟨[[.v (.int .i64 a),.v (.int .u64 b)]],[true],[.live ⟨3,[.num .i64],R,true,false⟩]⟩=>some (a8 b&&(z==0&&eQ (R=aq (bl b 64))),.exit 2,mk rC [.row 0] (uy (aq (bl (wu a b) 128))))
 | _,_=>none
def ΛBits:aV:=fun body st=>match cH body with
 | 3=>cE 0 0 qa J4 st
 | 7=>cE 0 0 pZ J3 st
 | _=>none
theorem qcX (z:Base) (z1:z.L.length=0) (z2:z.U.length=0):aQ ΛBits prog z ox:=by
 refine di (Λ:=L0) (kx:=fun _=>rD) zZ mixed z1 z2 (fun b hb=>by rw [qch] at hb;cases hb) (keep:=qa) (G:=J4) (fun st=>by unfold ΛBits;rw [Ue];rfl) ?_
 intro vals m e st' h
 unfold J4 at h
 split at h
 ·rename_i z a b
  obtain ⟨h1,rfl,rfl⟩:=az h
  simp only [Bool.and_eq_true,beq_iff_eq] at h1
  obtain ⟨h1,rfl⟩:=h1
  rw [eV] at h1
  refine ⟨65,?_⟩
  exact P8 b h1.1 h1.2 (fun k i R=>ao ΓWd prog L0 (ab 0 0 qa) ox k (Jv a b i R) Jn) (fun R=>some (.exit 0,mk rD [.ptr 0 0,.row 0] (MB a b R))) (fun k i R=>UP a b i R k) [] (by simp) 64 0 rfl
 ·cases h
theorem qcW (z:Base) (z1:z.L.length=0) (z2:z.U.length=0):aQ ΛBits prog z ow:=by
 refine di (Λ:=L0) (kx:=fun _=>rC) zZ mixed z1 z2 (fun b hb=>by rw [qcg] at hb;cases hb) (keep:=pZ) (G:=J3) (fun st=>by unfold ΛBits;rw [Ud];rfl) ?_
 intro vals m e st' h
 unfold J3 at h
 split at h
 ·rename_i z a b R
  obtain ⟨h1,rfl,rfl⟩:=az h
  simp only [Bool.and_eq_true,beq_iff_eq,nH] at h1
  obtain ⟨h1,rfl,rfl⟩:=h1
  rw [eV] at h1
  have hu:=eV.1 (nJ a)
  refine ⟨65,?_⟩
  have:=P8 (IntKind.u64.wrap a) hu.1 hu.2 (fun k i R=>ao ΓWd prog L0 (ab 0 0 pZ) ow k (Ju a b i R) Jm) (fun R=>some (.exit 2,mk rC [.row 0] (uy R))) (fun k i R=>UO a b i R k) (bl b 64) (by rw [mq];omega) 64 0 rfl
  rw [show bl (IntKind.u64.wrap a) 0=[] from rfl,List.append_nil,qig _ _ h1.1 h1.2] at this
  exact this
 ·cases h
theorem ZU (a b:Int):runG ΓWd ΛBits prog f381 [.v (Wd a b)] M0 =
 bif a8 b&&((0:Int)==0) then (bif a8 b&&((0:Int)==0&&eQ (aq (bl b 64)=aq (bl b 64))) then some (.row 0,uy (aq (bl (wu a b) 128))) else none) else none:=by kernel_rfl
def GT (xs:List SV) (m:Mem):Option (Bool×SV×Mem) :=
 match xs,m with
 | [.v (.agg ⟨[.int .i64 a,.int .u64 b]⟩)],⟨[],[],[]⟩=>some (a8 b,.row 0,uy (aq (bl (wu a b) 128)))
 | _,_=>none
theorem qgK:aT 381 GT:=by
 intro xs m r m' h
 unfold GT at h
 split at h
 ·rename_i a b
  obtain ⟨h1,rfl,rfl⟩:=az h
  refine aj (Λ:=ΛBits) zZ func381 rfl (fun z z1 z2 c hc=>?_) ?_
  ·have hc':c∈loopsOf zx:=hc
   rw [qci] at hc'
   rcases List.mem_cons.1 hc' with rfl|hc'
   ·exact qcX z z1 z2
   ·rw [List.mem_singleton] at hc'
    subst hc';exact qcW z z1 z2
  ·exact (ZU a b).trans (by rw [h1,beq_self_eq_true,C7 (show aq (bl b 64)=aq (bl b 64) from rfl)];rfl)
 ·cases h
def ΓR1:Orc:=aE 381 GT ΓWd
theorem OkR1:ΓR1.Ok prog:=aA zZ qgK
def MV (lo:Int) (e:TypeId) (R:List (List Dat)) (own mark:Bool):Mem:=⟨[[.v (I 0),.v (UU 0)],[.v (I 0),.v (UU lo)]],[true,true],[.live ⟨e,[.num .i64],R,own,mark⟩]⟩
def kQ:Code:=bX (f382.body.getD .skip) 0
theorem qbD:loopsOf (f382.body.getD .skip)=[kQ]:=by kernel_rfl
theorem qbC:loopsOf kQ=[]:=by kernel_rfl
def lR:List Bool:=aB 36 [0,2,3,4,5]
def AJ:List Bool:=aB 36 [2,3,4]
def rb (e:Ex) (st:St):Option (Ex×St):=some (e,ab 0 1 AJ st)
def rg (t:TypeId) (R:List (List Dat)) (own mark:Bool) (lo hi i:Int):St:=mk lR [.row 0,.ptr 0 0,.ptr 1 0,.v (UU hi),.v (I i)] (MV lo t R own mark)
def H7 (t:TypeId) (R:List (List Dat)) (own mark:Bool) (lo hi:Int):St:=mk AJ [.ptr 0 0,.ptr 1 0,.v (UU hi)] (MV lo t R own mark)
theorem Uu (t:TypeId) (R:List (List Dat)) (own mark:Bool) (lo hi i:Int) (k:Nat):ao ΓR1 prog L0 (ab 0 1 lR) kQ (k+1) (rg t R own mark lo hi i) rb =
 bif decide (i<64) then (bif eW R i then (bif jr R i then (bif decide (i<0) then none else bif eW R (IntKind.i64.wrap (64+i)) then (bif jr R (IntKind.i64.wrap (64+i)) then (bif decide (i<0) then none else ao ΓR1 prog L0 (ab 0 1 lR) kQ k (rg t R own mark (gT lo i) (gT hi i) (IntKind.i64.wrap (i+1))) rb) else ao ΓR1 prog L0 (ab 0 1 lR) kQ k (rg t R own mark (gT lo i) hi (IntKind.i64.wrap (i+1))) rb) else none)
  else (bif eW R (IntKind.i64.wrap (64+i)) then (bif jr R (IntKind.i64.wrap (64+i)) then (bif decide (i<0) then none else ao ΓR1 prog L0 (ab 0 1 lR) kQ k (rg t R own mark lo (gT hi i) (IntKind.i64.wrap (i+1))) rb) else ao ΓR1 prog L0 (ab 0 1 lR) kQ k (rg t R own mark lo hi (IntKind.i64.wrap (i+1))) rb) else none)) else none) else some (.exit 0,H7 t R own mark lo hi):=by kernel_rfl
def dp (R:List (List Dat)):List Int:=bY R
def Jy (vals:List SV) (m:Mem):Option (Bool×Ex×St) :=
 match vals,m with
 | [.row 0,.ptr 0 0,.ptr 1 0,.v (.int .u64 hi),.v (.int .i64 i)],⟨[[.v (.int .i64 0),.v (.int .u64 0)],[.v (.int .i64 0),.v (.int .u64 lo)]],[true,true],[.live ⟨t,[.num .i64],R,own,mark⟩]⟩ =>
  some (eQ (R.length=128/\R=aq (dp R))&&(hi==0&&(lo==0&&(i==0))),.exit 0,H7 t R own mark (fy (dp R) 64) (fG (dp R) 64))
 | _,_=>none
def ΛVal:aV:=fun _ st=>cE 0 1 lR Jy st
theorem qcw (z:Base) (z1:z.L.length=0) (z2:z.U.length=1):aQ ΛVal prog z kQ:=by
 refine di (Λ:=L0) (kx:=fun _=>AJ) OkR1 mixed z1 z2 (fun b hb=>by rw [qbC] at hb;cases hb) (G:=Jy) (fun _=>rfl) ?_
 intro vals m e st' h
 unfold Jy at h
 split at h
 ·rename_i hi i lo t R own mark
  obtain ⟨h1,rfl,rfl⟩:=az h
  simp only [Bool.and_eq_true,beq_iff_eq,nH] at h1
  obtain ⟨⟨h1,h2⟩,rfl,rfl,rfl⟩:=h1
  refine ⟨65,?_⟩
  have hl:(dp R).length=128:=by unfold dp bY;rw [List.length_map];exact h1
  have:=Tt (dp R) hl (fun k lo hi i=>ao ΓR1 prog L0 (ab 0 1 lR) kQ k (rg t (aq (dp R)) own mark lo hi i) rb) (fun lo hi=>some (.exit 0,H7 t (aq (dp R)) own mark lo hi)) (fun k lo hi i=>Uu t (aq (dp R)) own mark lo hi i k) 64 0 rfl
  rw [<- h2] at this
  exact this
 ·cases h
theorem VC (t:TypeId) (R:List (List Dat)) (own mark:Bool):runG ΓR1 ΛVal prog f382 [.row 0] ⟨[],[],[.live ⟨t,[.num .i64],R,own,mark⟩]⟩ =
 bif eQ (R.length=128/\R=aq (dp R))&&((0:Int)==0&&((0:Int)==0&&((0:Int)==0))) then some (.v (Wd (IntKind.i64.wrap (fG (dp R) 64)) (fy (dp R) 64)),⟨[],[],[.live ⟨t,[.num .i64],R,own,mark⟩]⟩) else none:=by kernel_rfl
def DD (xs:List SV) (m:Mem):Option (Bool×Value) :=
 match xs,m with
 | [.row 0],⟨[],[],[.live ⟨t,[.num .i64],R,own,mark⟩]⟩=>some (eQ (R.length=128/\R=aq (dp R)),Wd (IntKind.i64.wrap (fG (dp R) 64)) (fy (dp R) 64))
 | _,_=>none
theorem qdQ:bi 382 DD:=by
 intro xs m r h
 unfold DD at h
 split at h
 ·rename_i t R own mark
  obtain ⟨h1,rfl⟩:=aa h
  refine aj (Λ:=ΛVal) OkR1 func382 rfl (fun z z1 z2=>bW (c:=f382.body.getD .skip) qbD (qcw z z1 z2)) ?_
  exact (VC t R own mark).trans (by rw [h1];rfl)
 ·cases h
def ΓR2:Orc:=aR 382 DD ΓR1
theorem OkR2:ΓR2.Ok prog:=aL OkR1 qdQ
end Go.Proofs.YtainfdcfkgemhaaGreat
namespace Go.Proofs.YtainfdcfkgemhaaGreat
open Go Go.Proofs Go.Sx
set_option linter.unusedVariables false
def vN (R:List (List Dat)):RowS:=.live ⟨3,[.num .i64],R,true,false⟩
def qK:Code:=bX (f372.body.getD .skip) 0
theorem qb0:loopsOf (f372.body.getD .skip)=[qK]:=by kernel_rfl
theorem qbZ:loopsOf qK=[]:=by kernel_rfl
def s6:List Bool:=aB 39 [4,5,6,7,8,9]
def AL:List Bool:=aB 39 [4,7]
def Jk (e:Ex) (st:St):Option (Ex×St):=some (e,ab 0 0 AL st)
def MPl (X Y R:List (List Dat)):Mem:=⟨[[.v (I 0),.v (UU 0)]],[true],[vN X,vN Y,vN R]⟩
def Jr (X Y:List (List Dat)) (s i:Int) (R:List (List Dat)):St:=mk s6 [.ptr 0 0,.row 0,.row 1,.row 2,.v (I s),.v (I i)] (MPl X Y R)
def Ic (R:List (List Dat)):St:=mk AL [.ptr 0 0,.row 0] ⟨[[.v (I 0),.v (UU 0)]],[true],[vN R]⟩
theorem UD (X Y R:List (List Dat)) (s i:Int) (k:Nat):ao ΓR2 prog L0 (ab 0 0 s6) qK (k+1) (Jr X Y s i R) Jk =
 bif decide (i<128) then (bif eW X i then (bif eW Y i then (bif ke R.length then ao ΓR2 prog L0 (ab 0 0 s6) qK k (Jr X Y (IntKind.i64.wrap ((sm X Y s i).tdiv 2)) (IntKind.i64.wrap (i+1)) (R++[[.n ((sm X Y s i).tmod 2)]])) Jk else none) else none) else none) else some (.exit 0,Ic R):=by kernel_rfl
def JR (A B:Int) (vals:List SV) (m:Mem):Option (Bool×Ex×St) :=
 match vals,m with
 | [.ptr 0 0,.row 0,.row 1,.row 2,.v (.int .i64 s),.v (.int .i64 i)],⟨[[.v (.int .i64 0),.v (.int .u64 0)]],[true],[.live ⟨3,[.num .i64],X,true,false⟩,.live ⟨3,[.num .i64],Y,true,false⟩,.live ⟨3,[.num .i64],[],true,false⟩]⟩ =>
  some (eQ (X=aq (bl A 128)/\Y=aq (bl B 128))&&(s==0&&(i==0)),.exit 0,Ic (aq (bl (A+B) 128)))
 | _,_=>none
def ΛPl (A B:Int):aV:=fun _ st=>cE 0 0 s6 (JR A B) st
theorem qcM (A B:Int) (z:Base) (z1:z.L.length=0) (z2:z.U.length=0):aQ (ΛPl A B) prog z qK:=by
 refine di (Λ:=L0) (kx:=fun _=>AL) OkR2 mixed z1 z2 (fun b hb=>by rw [qbZ] at hb;cases hb) (G:=JR A B) (fun _=>rfl) ?_
 intro vals m e st' h
 unfold JR at h
 split at h
 ·rename_i s i X Y
  obtain ⟨h1,rfl,rfl⟩:=az h
  simp only [Bool.and_eq_true,beq_iff_eq,nH] at h1
  obtain ⟨⟨rfl,rfl⟩,rfl,rfl⟩:=h1
  refine ⟨129,?_⟩
  have:=qaK A B (fun k s i R=>ao ΓR2 prog L0 (ab 0 0 s6) qK k (Jr (aq (bl A 128)) (aq (bl B 128)) s i R) Jk) (fun R=>some (.exit 0,Ic R)) (fun k s i R=>UD (aq (bl A 128)) (aq (bl B 128)) R s i k) 128 0 rfl
  rw [qhB] at this
  exact this
 ·cases h
theorem XO (a b c d:Int):runG ΓR2 (ΛPl (wu a b) (wu c d)) prog f372 [.v (Wd a b),.v (Wd c d)] M0 =
 same (bif a8 b then (bif a8 d then (bif eQ (aq (bl (wu a b) 128)=aq (bl (wu a b) 128)/\aq (bl (wu c d) 128)=aq (bl (wu c d) 128))&&((0:Int)==0&&((0:Int)==0)) then (bif eQ ((aq (bl (wu a b+wu c d) 128)).length=128/\aq (bl (wu a b+wu c d) 128)=aq (dp (aq (bl (wu a b+wu c d) 128)))) then
  some (.v (Wd (IntKind.i64.wrap (fG (dp (aq (bl (wu a b+wu c d) 128))) 64)) (fy (dp (aq (bl (wu a b+wu c d) 128))) 64)),M0) else none) else none) else none) else none) (bif a8 b then (bif a8 d then (bif eQ (aq (bl (wu a b) 128)=aq (bl (wu a b) 128)/\aq (bl (wu c d) 128)=aq (bl (wu c d) 128))&&((0:Int)==0&&((0:Int)==0)) then (bif eQ ((aq (bl (wu a b+wu c d) 128)).length=128/\aq (bl (wu a b+wu c d) 128)=aq (dp (aq (bl (wu a b+wu c d) 128)))) then
  some (.v (Wd (IntKind.i64.wrap (fG (dp (aq (bl (wu a b+wu c d) 128))) 64)) (fy (dp (aq (bl (wu a b+wu c d) 128))) 64)),M0) else none) else none) else none) else none):=by kernel_rfl
def E8 (vs:List Value):Option (Bool×Value) :=
 match vs with
 | [.agg ⟨[.int .i64 a,.int .u64 b]⟩,.agg ⟨[.int .i64 c,.int .u64 d]⟩]=>some (a8 b&&a8 d,pW (wv a b+wv c d))
 | _=>none
theorem qe8:an 372 E8:=by
 intro vs r h
 unfold E8 at h
 split at h
 ·rename_i a b c d
  obtain ⟨h1,rfl⟩:=aa h
  rw [Bool.and_eq_true] at h1
  refine am (vs:=[Wd a b,Wd c d]) (Λ:=ΛPl (wu a b) (wu c d)) (m':=M0) OkR2 func372 rfl (fun z z1 z2=>bW (c:=f372.body.getD .skip) qb0 (qcM _ _ z z1 z2)) ?_
  refine (XO a b c d).trans ?_
  have e:dp (aq (bl (wu a b+wu c d) 128))=bl (wu a b+wu c d) 128:=Cy _
  rw [h1.1,h1.2,C7 ⟨rfl,rfl⟩,e,C7 ⟨by rw [na,mq],rfl⟩,fY]
  exact fW (qaJ a b c d)
 ·cases h
def ΓQ1:Orc:=ah 372 E8 ΓR2
theorem OkQ1:ΓQ1.Ok prog:=ac OkR2 qe8
theorem Xw (n:Int):runG ΓQ1 L0 prog f371 [.v (I n)] M0=bif decide (n<0) then some (.v (Wd (-1) (IntKind.u64.wrap n)),M0) else some (.v (Wd 0 (IntKind.u64.wrap n)),M0):=by kernel_rfl
def EX (vs:List Value):Option (Bool×Value) :=
 match vs with
 | [.int .i64 n]=>some (bd n,Wn n)
 | _=>none
theorem qeX:an 371 EX:=by
 intro vs r h
 unfold EX at h
 split at h
 ·rename_i n
  obtain ⟨h1,rfl⟩:=aa h
  refine am (vs:=[I n]) (Λ:=L0) (m':=M0) OkQ1 func371 rfl af ?_
  exact (Xw n).trans (by
   rw [dX] at h1
   obtain ⟨_,h2,h3⟩:=km (n:=n) (by omega) (by omega)
   by_cases hn:n<0
   ·rw [decide_eq_true hn]
    exact fW (j8 (by rw [h2];omega) (by rw [h3,wrU]))
   ·rw [decide_eq_false hn]
    exact fW (j8 (by rw [h2];omega) (by rw [h3,wrU])))
 ·cases h
def ΓQ2:Orc:=ah 371 EX ΓQ1
theorem OkQ2:ΓQ2.Ok prog:=ac OkQ1 qeX
theorem XC (a b:Int):runG ΓQ2 L0 prog f373 [.v (Wd a b)] M0=bif a8 (IntKind.u64.wrap (-1 - b))&&a8 1 then some (.v (pW (wv (IntKind.i64.wrap (-1 - a)) (IntKind.u64.wrap (-1 - b))+wv 0 1)),M0) else none:=by kernel_rfl
def E2 (vs:List Value):Option (Bool×Value) :=
 match vs with
 | [.agg ⟨[.int .i64 a,.int .u64 b]⟩]=>some (a8 b,pW (- wv a b))
 | _=>none
theorem qe2:an 373 E2:=by
 intro vs r h
 unfold E2 at h
 split at h
 ·rename_i a b
  obtain ⟨h1,rfl⟩:=aa h
  refine am (vs:=[Wd a b]) (Λ:=L0) (m':=M0) OkQ2 func373 rfl af ?_
  exact (XC a b).trans (by
   obtain ⟨e1,e2⟩:=qg5 a b h1
   rw [e1,show a8 1=true from rfl]
   refine fW (MH ?_)
   rw [show wv 0 1=1 from rfl]
   omega)
 ·cases h
def ΓQ3:Orc:=ah 373 E2 ΓQ2
theorem OkQ3:ΓQ3.Ok prog:=ac OkQ2 qe2
theorem XE (a b c d:Int):runG ΓQ3 L0 prog f357 [.v (Wd a b),.v (Wd c d)] M0 =
 (bif decide (a<c) then some (.v (I (-1)),M0) else (bif a==c then (bif decide (b<d) then some (.v (I (-1)),M0) else (bif a==c&&(b==d&&true) then some (.v (I 0),M0) else some (.v (I 1),M0))) else (bif a==c&&(b==d&&true) then some (.v (I 0),M0) else some (.v (I 1),M0)))):=by kernel_rfl
def E4 (vs:List Value):Option (Bool×Value) :=
 match vs with
 | [.agg ⟨[.int .i64 a,.int .u64 b]⟩,.agg ⟨[.int .i64 c,.int .u64 d]⟩]=>some (bO a b&&bO c d,I (cw (wv a b) (wv c d)))
 | _=>none
theorem qe4:an 357 E4:=by
 intro vs r h
 unfold E4 at h
 split at h
 ·rename_i a b c d
  obtain ⟨h1,rfl⟩:=aa h
  refine am (vs:=[Wd a b,Wd c d]) (Λ:=L0) (m':=M0) OkQ3 func357 rfl af ?_
  exact (XE a b c d).trans (by
   rw [Bool.and_eq_true] at h1
   rw [<- qhL h1.1 h1.2]
   cases decide (a<c)<;>cases a==c<;>cases decide (b<d)<;>cases b==d<;>rfl)
 ·cases h
def ΓQ4:Orc:=ah 357 E4 ΓQ3
theorem OkQ4:ΓQ4.Ok prog:=ac OkQ3 qe4
def ov:Code:=bX (f358.body.getD .skip) 0
theorem qb4:loopsOf (f358.body.getD .skip)=[ov]:=by kernel_rfl
theorem qb3:loopsOf ov=[]:=by kernel_rfl
def pV:List Bool:=aB 36 [1,4,5,6,7,8]
def AM:List Bool:=aB 36 [1,4,5,6]
def Aj (e:Ex) (st:St):Option (Ex×St):=some (e,ab 0 0 AM st)
def SN (oa ob xa xb ya yb:Int):Mem:=⟨[[.v (I oa),.v (UU ob)],[.v (I xa),.v (UU xb)],[.v (I ya),.v (UU yb)]],[true,true,true],[]⟩
def Am (b n oa ob i xa xb ya yb:Int):St:=mk pV [.v (I b),.ptr 0 0,.ptr 1 0,.ptr 2 0,.v (UU n),.v (I i)] (SN oa ob xa xb ya yb)
def Id (b oa ob xa xb ya yb:Int):St:=mk AM [.v (I b),.ptr 0 0,.ptr 1 0,.ptr 2 0] (SN oa ob xa xb ya yb)
theorem UF (b n oa ob i xa xb ya yb:Int) (k:Nat):ao ΓQ4 prog L0 (ab 0 0 pV) ov (k+1) (Am b n oa ob i xa xb ya yb) Aj =
 bif decide (i<64) then (bif decide (i<0) then none else (bif bu n i==1 then (bif a8 yb&&a8 xb then (bif a8 xb&&a8 xb then ao ΓQ4 prog L0 (ab 0 0 pV) ov k (Am b n oa ob (IntKind.i64.wrap (i+1)) (bI (wv xa xb+wv xa xb)) (bv (wv xa xb+wv xa xb)) (bI (wv ya yb+wv xa xb)) (bv (wv ya yb+wv xa xb))) Aj else none) else none)
  else (bif a8 xb&&a8 xb then ao ΓQ4 prog L0 (ab 0 0 pV) ov k (Am b n oa ob (IntKind.i64.wrap (i+1)) (bI (wv xa xb+wv xa xb)) (bv (wv xa xb+wv xa xb)) ya yb) Aj else none))) else some (.exit 0,Id b oa ob xa xb ya yb):=by kernel_rfl
def JT (vals:List SV) (m:Mem):Option (Bool×Ex×St) :=
 match vals,m with
 | [.v (.int .i64 b),.ptr 0 0,.ptr 1 0,.ptr 2 0,.v (.int .u64 n),.v (.int .i64 i)],⟨[[.v (.int .i64 oa),.v (.int .u64 ob)],[.v (.int .i64 xa),.v (.int .u64 xb)],[.v (.int .i64 ya),.v (.int .u64 yb)]],[true,true,true],[]⟩ =>
  some (bO xa xb&&(a8 n&&(i==0&&(ya==0&&yb==0))),.exit 0,Id b oa ob (bI (wv xa xb*2 ^ 64)) (bv (wv xa xb*2 ^ 64)) (bI (wv xa xb*(n % 2 ^ 64))) (bv (wv xa xb*(n % 2 ^ 64))))
 | _,_=>none
def ΛMu:aV:=fun _ st=>cE 0 0 pV JT st
theorem qcO (z:Base) (z1:z.L.length=0) (z2:z.U.length=0):aQ ΛMu prog z ov:=by
 refine di (Λ:=L0) (kx:=fun _=>AM) OkQ4 mixed z1 z2 (fun b hb=>by rw [qb3] at hb;cases hb) (G:=JT) (fun _=>rfl) ?_
 intro vals m e st' h
 unfold JT at h
 split at h
 ·rename_i b n i oa ob xa xb ya yb
  obtain ⟨h1,rfl,rfl⟩:=az h
  simp only [Bool.and_eq_true,beq_iff_eq] at h1
  obtain ⟨g1,g2,rfl,rfl,rfl⟩:=h1
  rw [eV] at g2
  have:=qbr n (wv xa xb) g2.1 g2.2 (fun k i xa xb ya yb=>ao ΓQ4 prog L0 (ab 0 0 pV) ov k (Am b n oa ob i xa xb ya yb) Aj) (fun xa xb ya yb=>some (.exit 0,Id b oa ob xa xb ya yb)) (fun k i xa xb ya yb=>UF b n oa ob i xa xb ya yb k) 64 0 rfl
  refine ⟨65,?_⟩
  rw [Int.pow_zero,Int.mul_one,Int.emod_one,Int.mul_zero,(ME g1).1,(ME g1).2] at this
  exact this
 ·cases h
theorem Yj (a b:Int):runG ΓQ4 ΛMu prog f358 [.v (I a),.v (I b)] M0 =
 bif bd a then
  (bif bO (aY a) (aZ a)&&(a8 (IntKind.u64.wrap b)&&((0:Int)==0&&((0:Int)==0&&(0:Int)==0))) then
   (bif decide (b<0) then
    (bif a8 (bv (wv (aY a) (aZ a)*2 ^ 64)) then
     (bif a8 (bv (wv (aY a) (aZ a)*(IntKind.u64.wrap b % 2 ^ 64)))&&a8 (bv (-wv (bI (wv (aY a) (aZ a)*2 ^ 64)) (bv (wv (aY a) (aZ a)*2 ^ 64)))) then
      some (.v (pW (wv (bI (wv (aY a) (aZ a)*(IntKind.u64.wrap b % 2 ^ 64))) (bv (wv (aY a) (aZ a)*(IntKind.u64.wrap b % 2 ^ 64)))+wv (bI (-wv (bI (wv (aY a) (aZ a)*2 ^ 64)) (bv (wv (aY a) (aZ a)*2 ^ 64)))) (bv (-wv (bI (wv (aY a) (aZ a)*2 ^ 64)) (bv (wv (aY a) (aZ a)*2 ^ 64)))))),M0)
     else none)
    else none)
   else some (.v (Wd (bI (wv (aY a) (aZ a)*(IntKind.u64.wrap b % 2 ^ 64))) (bv (wv (aY a) (aZ a)*(IntKind.u64.wrap b % 2 ^ 64)))),M0))
  else none)
 else none:=by kernel_rfl
def Fz (vs:List Value):Option (Bool×Value) :=
 match vs with
 | [.int .i64 a,.int .i64 b]=>some (bd a&&bd b,pW (a*b))
 | _=>none
theorem qft:an 358 Fz:=by
 intro vs r h
 unfold Fz at h
 split at h
 ·rename_i a b
  obtain ⟨h1,rfl⟩:=aa h
  rw [Bool.and_eq_true] at h1
  obtain ⟨h1,h2⟩:=h1
  refine am (vs:=[I a,I b]) (Λ:=ΛMu) (m':=M0) OkQ4 func358 rfl (fun z z1 z2=>bW (c:=f358.body.getD .skip) qb4 (qcO z z1 z2)) ?_
  refine (Yj a b).trans ?_
  obtain ⟨e1,e2⟩:=iY (wM h1)
  rw [h1,e1,e2,nJ,tg,tg,tg]
  simp only [BEq.rfl,Bool.and_self,cond_true]
  rw [dX] at h2
  have e64:(2:Int) ^ 64=18446744073709551616:=by decide
  rw [e64]
  have em:IntKind.u64.wrap b % 18446744073709551616=b % 18446744073709551616:=by rw [wrU];omega
  rw [em]
  by_cases hb:b<0
  ·simp only [hb,decide_true,cond_true]
   refine fW (MH ?_)
   have q1:=mJ (a*(b % 18446744073709551616))
   have q2:=mJ (-wv (bI (a*18446744073709551616)) (bv (a*18446744073709551616)))
   have q3:=mJ (a*18446744073709551616)
   have:b % 18446744073709551616=b+18446744073709551616:=by omega
   rw [this,Int.mul_add] at q1 ⊢
   omega
  ·simp only [hb,decide_false,cond_false]
   have:b % 18446744073709551616=b:=by omega
   rw [this]
 ·cases h
def ΓQ5:Orc:=ah 358 Fz ΓQ4
theorem OkQ5:ΓQ5.Ok prog:=ac OkQ4 qft
def ΓRf:Orc:=ΓQ5
theorem RC:ΓRf.Ok prog:=OkQ5
end Go.Proofs.YtainfdcfkgemhaaGreat
namespace Go.Proofs.YtainfdcfkgemhaaGreat
open Go Go.Proofs Go.Sx
set_option linter.unusedVariables false
theorem vB {x y:Bool} (h:x=y):(some (SV.v (Bo x),M0):Option (SV×Mem))=some (.v (Bo y),M0):=by rw [h]
theorem vI {x y:Int} (h:x=y):(some (SV.v (I x),M0):Option (SV×Mem))=some (.v (I y),M0):=by rw [h]
theorem ZQ (x a b:Int):runG ΓRf L0 prog f333 [.v (I x),.v (I a),.v (I b)] M0 =
 (bif decide (a<=x) then some (.v (Bo (decide (x<=b))),M0) else some (.v (Bo false),M0)):=by kernel_rfl
def GP (vs:List Value):Option (Bool×Value) :=
 match vs with
 | [.int .i64 x,.int .i64 a,.int .i64 b]=>some (true,Bo (decide (a<=x)&&decide (x<=b)))
 | _=>none
theorem qgG:an 333 GP:=by
 intro vs r h
 unfold GP at h
 split at h
 ·rename_i x a b
  obtain ⟨h1,rfl⟩:=aa h
  refine am (vs:=[I x,I a,I b]) (Λ:=L0) (m':=M0) RC func333 rfl af ?_
  exact (ZQ x a b).trans (by cases decide (a<=x)<;>rfl)
 ·cases h
def ΓP1:Orc:=ah 333 GP ΓRf
theorem OkP1:ΓP1.Ok prog:=ac RC qgG
theorem XS (a1 a2:Int):runG ΓP1 L0 prog f295 [.v (.agg #[I a1,I a2])] M0 =
 (bif decide ((-1099511627776:Int)<=a1)&&decide (a1<=(1099511627776:Int)) then some (.v (Bo (decide ((-1099511627776:Int)<=a2)&&decide (a2<=(1099511627776:Int)))),M0) else some (.v (Bo false),M0)):=by kernel_rfl
def E9 (vs:List Value):Option (Bool×Value) :=
 match vs with
 | [.agg ⟨[.int .i64 a1,.int .i64 a2]⟩]=>some (true,Bo (plR a1 a2))
 | _=>none
theorem qe9:an 295 E9:=by
 intro vs r h
 unfold E9 at h
 split at h
 ·rename_i a1 a2
  obtain ⟨h1,rfl⟩:=aa h
  refine am (vs:=[.agg #[I a1,I a2]]) (Λ:=L0) (m':=M0) OkP1 func295 rfl af ?_
  exact (XS a1 a2).trans (by
   unfold plR
   by_cases h1:-1099511627776<=a1<;>by_cases h2:a1<=1099511627776<;>by_cases h3:-1099511627776<=a2<;>by_cases h4:a2<=1099511627776<;>simp [h1,h2,h3,h4])
 ·cases h
def ΓP2:Orc:=ah 295 E9 ΓP1
theorem OkP2:ΓP2.Ok prog:=ac OkP1 qe9
theorem Xt (a1 a2:Int):runG ΓP2 L0 prog f288 [.v (.agg #[I a1,I a2])] M0 =
 (bif decide (a1>=(-1099511627776:Int)) then (bif decide (a1<=(1099511627776:Int)) then (bif decide (a2>=(-1099511627776:Int)) then some (.v (Bo (decide (a2<=(1099511627776:Int)))),M0) else some (.v (Bo false),M0)) else some (.v (Bo false),M0)) else some (.v (Bo false),M0)):=by kernel_rfl
def EV (vs:List Value):Option (Bool×Value) :=
 match vs with
 | [.agg ⟨[.int .i64 a1,.int .i64 a2]⟩]=>some (true,Bo (plR a1 a2))
 | _=>none
theorem qeV:an 288 EV:=by
 intro vs r h
 unfold EV at h
 split at h
 ·rename_i a1 a2
  obtain ⟨h1,rfl⟩:=aa h
  refine am (vs:=[.agg #[I a1,I a2]]) (Λ:=L0) (m':=M0) OkP2 func288 rfl af ?_
  exact (Xt a1 a2).trans (by
   unfold plR
   by_cases h1:-1099511627776<=a1<;>by_cases h2:a1<=1099511627776<;>by_cases h3:-1099511627776<=a2<;>by_cases h4:a2<=1099511627776<;>simp [h1,h2,h3,h4])
 ·cases h
def ΓP3:Orc:=ah 288 EV ΓP2
theorem OkP3:ΓP3.Ok prog:=ac OkP2 qeV
theorem qaa (t:TypeId) (a1 a2 b1 b2:Int) (own mark:Bool):runG ΓP3 L0 prog f340 [.row 0] ⟨[],[],[.live ⟨t,[.num .i64,.num .i64],[[.n a1,.n a2],[.n b1,.n b2]],own,mark⟩]⟩=(bif !plR a1 a2 then some (.v (Bo false),⟨[],[],[.live ⟨t,[.num .i64,.num .i64],[[.n a1,.n a2],[.n b1,.n b2]],own,mark⟩]⟩) else (bif !plR b1 b2 then some (.v (Bo false),⟨[],[],[.live ⟨t,[.num .i64,.num .i64],[[.n a1,.n a2],[.n b1,.n b2]],own,mark⟩]⟩) else some (.v (Bo true),⟨[],[],[.live ⟨t,[.num .i64,.num .i64],[[.n a1,.n a2],[.n b1,.n b2]],own,mark⟩]⟩))):=by kernel_rfl
theorem Z9 (t:TypeId) (a1 a2 b1 b2 c1 c2:Int) (own mark:Bool):runG ΓP3 L0 prog f340 [.row 0] ⟨[],[],[.live ⟨t,[.num .i64,.num .i64],[[.n a1,.n a2],[.n b1,.n b2],[.n c1,.n c2]],own,mark⟩]⟩=(bif !plR a1 a2 then some (.v (Bo false),⟨[],[],[.live ⟨t,[.num .i64,.num .i64],[[.n a1,.n a2],[.n b1,.n b2],[.n c1,.n c2]],own,mark⟩]⟩) else (bif !plR b1 b2 then some (.v (Bo false),⟨[],[],[.live ⟨t,[.num .i64,.num .i64],[[.n a1,.n a2],[.n b1,.n b2],[.n c1,.n c2]],own,mark⟩]⟩) else (bif !plR c1 c2 then some (.v (Bo false),⟨[],[],[.live ⟨t,[.num .i64,.num .i64],[[.n a1,.n a2],[.n b1,.n b2],[.n c1,.n c2]],own,mark⟩]⟩) else some (.v (Bo true),⟨[],[],[.live ⟨t,[.num .i64,.num .i64],[[.n a1,.n a2],[.n b1,.n b2],[.n c1,.n c2]],own,mark⟩]⟩)))):=by kernel_rfl
theorem Z8 (t:TypeId) (a1 a2 b1 b2 c1 c2 d1 d2:Int) (own mark:Bool):runG ΓP3 L0 prog f340 [.row 0] ⟨[],[],[.live ⟨t,[.num .i64,.num .i64],[[.n a1,.n a2],[.n b1,.n b2],[.n c1,.n c2],[.n d1,.n d2]],own,mark⟩]⟩=(bif !plR a1 a2 then some (.v (Bo false),⟨[],[],[.live ⟨t,[.num .i64,.num .i64],[[.n a1,.n a2],[.n b1,.n b2],[.n c1,.n c2],[.n d1,.n d2]],own,mark⟩]⟩) else (bif !plR b1 b2 then some (.v (Bo false),⟨[],[],[.live ⟨t,[.num .i64,.num .i64],[[.n a1,.n a2],[.n b1,.n b2],[.n c1,.n c2],[.n d1,.n d2]],own,mark⟩]⟩) else (bif !plR c1 c2 then some (.v (Bo false),⟨[],[],[.live ⟨t,[.num .i64,.num .i64],[[.n a1,.n a2],[.n b1,.n b2],[.n c1,.n c2],[.n d1,.n d2]],own,mark⟩]⟩) else (bif !plR d1 d2 then some (.v (Bo false),⟨[],[],[.live ⟨t,[.num .i64,.num .i64],[[.n a1,.n a2],[.n b1,.n b2],[.n c1,.n c2],[.n d1,.n d2]],own,mark⟩]⟩) else some (.v (Bo true),⟨[],[],[.live ⟨t,[.num .i64,.num .i64],[[.n a1,.n a2],[.n b1,.n b2],[.n c1,.n c2],[.n d1,.n d2]],own,mark⟩]⟩))))):=by kernel_rfl
def G6 (xs:List SV) (m:Mem):Option (Bool×Value) :=
 match xs,m with
 | [.row 0],⟨[],[],[.live ⟨t,[.num .i64,.num .i64],[[.n a1,.n a2],[.n b1,.n b2]],own,mark⟩]⟩=>some (true,Bo ((plR a1 a2&&plR b1 b2)))
 | [.row 0],⟨[],[],[.live ⟨t,[.num .i64,.num .i64],[[.n a1,.n a2],[.n b1,.n b2],[.n c1,.n c2]],own,mark⟩]⟩=>some (true,Bo ((plR a1 a2&&(plR b1 b2&&plR c1 c2))))
 | [.row 0],⟨[],[],[.live ⟨t,[.num .i64,.num .i64],[[.n a1,.n a2],[.n b1,.n b2],[.n c1,.n c2],[.n d1,.n d2]],own,mark⟩]⟩=>some (true,Bo ((plR a1 a2&&(plR b1 b2&&(plR c1 c2&&plR d1 d2)))))
 | _,_=>none
theorem qgY:bi 340 G6:=by
 intro xs m r h
 unfold G6 at h
 split at h
 ·rename_i t a1 a2 b1 b2 own mark
  obtain ⟨h1,rfl⟩:=aa h
  refine aj (Λ:=L0) OkP3 func340 rfl af ?_
  exact (qaa t a1 a2 b1 b2 own mark).trans (by cases plR a1 a2<;>cases plR b1 b2<;>rfl)
 ·rename_i t a1 a2 b1 b2 c1 c2 own mark
  obtain ⟨h1,rfl⟩:=aa h
  refine aj (Λ:=L0) OkP3 func340 rfl af ?_
  exact (Z9 t a1 a2 b1 b2 c1 c2 own mark).trans (by cases plR a1 a2<;>cases plR b1 b2<;>cases plR c1 c2<;>rfl)
 ·rename_i t a1 a2 b1 b2 c1 c2 d1 d2 own mark
  obtain ⟨h1,rfl⟩:=aa h
  refine aj (Λ:=L0) OkP3 func340 rfl af ?_
  exact (Z8 t a1 a2 b1 b2 c1 c2 d1 d2 own mark).trans (by cases plR a1 a2<;>cases plR b1 b2<;>cases plR c1 c2<;>cases plR d1 d2<;>rfl)
 ·cases h
def ΓP4:Orc:=aR 340 G6 ΓP3
theorem OkP4:ΓP4.Ok prog:=aL OkP3 qgY
theorem VR (a1 a2 b1 b2 c1 c2:Int):runG ΓP4 L0 prog f341 [.v (.agg #[I a1,I a2]),.v (.agg #[I b1,I b2]),.v (.agg #[I c1,I c2])] M0 =
 (bif !(plR a1 a2&&(plR b1 b2&&plR c1 c2)) then some (.v (I 0),M0) else (bif bd (wI (b1 - a1))&&bd (wI (c2 - a2)) then (bif bd (wI (b2 - a2))&&bd (wI (c1 - a1)) then (bif bO (aY (wI (b1 - a1)*wI (c2 - a2))) (aZ (wI (b1 - a1)*wI (c2 - a2)))&&bO (aY (wI (b2 - a2)*wI (c1 - a1))) (aZ (wI (b2 - a2)*wI (c1 - a1))) then some (.v (I (cw (wv (aY (wI (b1 - a1)*wI (c2 - a2))) (aZ (wI (b1 - a1)*wI (c2 - a2)))) (wv (aY (wI (b2 - a2)*wI (c1 - a1))) (aZ (wI (b2 - a2)*wI (c1 - a1)))))),M0) else none) else none) else none)):=by kernel_rfl
def DQ (vs:List Value):Option (Bool×Value) :=
 match vs with
 | [.agg ⟨[.int .i64 a1,.int .i64 a2]⟩,.agg ⟨[.int .i64 b1,.int .i64 b2]⟩,.agg ⟨[.int .i64 c1,.int .i64 c2]⟩]=>some (true,I (bC a1 a2 b1 b2 c1 c2))
 | _=>none
theorem qd1:an 341 DQ:=by
 intro vs r h
 unfold DQ at h
 split at h
 ·rename_i a1 a2 b1 b2 c1 c2
  obtain ⟨h1,rfl⟩:=aa h
  refine am (vs:=[.agg #[I a1,I a2],.agg #[I b1,I b2],.agg #[I c1,I c2]]) (Λ:=L0) (m':=M0) OkP4 func341 rfl af ?_
  exact (VR a1 a2 b1 b2 c1 c2).trans (by
   have m1:=wL (eX (b1 - a1)) (eX (c2 - a2))
   have m2:=wL (eX (b2 - a2)) (eX (c1 - a1))
   cases h:plR a1 a2&&(plR b1 b2&&plR c1 c2) with
   | false=>exact vI (by unfold bC;rw [h];rfl)
   | true =>
    rw [<- KO h]
    have i1:bd (wI (b1 - a1))=true:=eX _
    have i2:bd (wI (c2 - a2))=true:=eX _
    have i3:bd (wI (b2 - a2))=true:=eX _
    have i4:bd (wI (c1 - a1))=true:=eX _
    have w1:wv (aY (wI (b1 - a1)*wI (c2 - a2))) (aZ (wI (b1 - a1)*wI (c2 - a2)))=wI (b1 - a1)*wI (c2 - a2):=(iY m1).1
    have w2:wv (aY (wI (b2 - a2)*wI (c1 - a1))) (aZ (wI (b2 - a2)*wI (c1 - a1)))=wI (b2 - a2)*wI (c1 - a1):=(iY m2).1
    rw [i1,i2,i3,i4,xz,xz,w1,w2]
    rfl)
 ·cases h
def ΓP5:Orc:=ah 341 DQ ΓP4
theorem RU:ΓP5.Ok prog:=ac OkP4 qd1
theorem X3 (p1 p2 a1 a2 b1 b2:Int):runG ΓP5 L0 prog f304 [.v (.agg #[I p1,I p2]),.v (.agg #[I a1,I a2]),.v (.agg #[I b1,I b2])] M0 =
 (bif !(plR p1 p2&&(plR a1 a2&&plR b1 b2)) then some (.v (Bo false),M0) else (bif bC a1 a2 b1 b2 p1 p2 != (0:Int) then some (.v (Bo false),M0) else (bif decide ((if b1<a1 then b1 else a1)<=p1)&&decide (p1<=if b1>a1 then b1 else a1) then some (.v (Bo (decide ((if b2<a2 then b2 else a2)<=p2)&&decide (p2<=if b2>a2 then b2 else a2))),M0) else some (.v (Bo false),M0)))):=by kernel_rfl
def Fg (vs:List Value):Option (Bool×Value) :=
 match vs with
 | [.agg ⟨[.int .i64 p1,.int .i64 p2]⟩,.agg ⟨[.int .i64 a1,.int .i64 a2]⟩,.agg ⟨[.int .i64 b1,.int .i64 b2]⟩]=>some (true,Bo (onB p1 p2 a1 a2 b1 b2))
 | _=>none
theorem qfg:an 304 Fg:=by
 intro vs r h
 unfold Fg at h
 split at h
 ·rename_i p1 p2 a1 a2 b1 b2
  obtain ⟨h1,rfl⟩:=aa h
  refine am (vs:=[.agg #[I p1,I p2],.agg #[I a1,I a2],.agg #[I b1,I b2]]) (Λ:=L0) (m':=M0) RU func304 rfl af ?_
  exact (X3 p1 p2 a1 a2 b1 b2).trans (by
   unfold onB btw
   cases plR p1 p2&&(plR a1 a2&&plR b1 b2) with
   | false=>rfl
   | true =>
    by_cases ht:bC a1 a2 b1 b2 p1 p2=0
    ·rw [ht]
     cases decide ((if b1<a1 then b1 else a1)<=p1)&&decide (p1<=if b1>a1 then b1 else a1)<;>rfl
    ·rw [bne_iff_ne.2 ht,beq_eq_false_iff_ne.2 ht]
     rfl)
 ·cases h
def ΓP6:Orc:=ah 304 Fg ΓP5
theorem RT:ΓP6.Ok prog:=ac RU qfg
theorem Yo (a1 a2 b1 b2 c1 c2 d1 d2:Int):runG ΓP6 L0 prog f339 [.v (.agg #[I a1,I a2]),.v (.agg #[I b1,I b2]),.v (.agg #[I c1,I c2]),.v (.agg #[I d1,I d2])] M0 =
 (bif !(plR a1 a2&&(plR b1 b2&&(plR c1 c2&&plR d1 d2))) then some (.v (Bo false),M0) else (bif onB a1 a2 c1 c2 d1 d2 then some (.v (Bo true),M0) else (bif onB b1 b2 c1 c2 d1 d2 then some (.v (Bo true),M0) else (bif onB c1 c2 a1 a2 b1 b2 then some (.v (Bo true),M0) else (bif onB d1 d2 a1 a2 b1 b2 then some (.v (Bo true),M0) else (bif decide (wI (bC a1 a2 b1 b2 c1 c2*bC a1 a2 b1 b2 d1 d2)<(0:Int)) then some (.v (Bo (decide (wI (bC c1 c2 d1 d2 a1 a2*bC c1 c2 d1 d2 b1 b2)<(0:Int)))),M0) else some (.v (Bo false),M0))))))):=by kernel_rfl
def FE (vs:List Value):Option (Bool×Value) :=
 match vs with
 | [.agg ⟨[.int .i64 a1,.int .i64 a2]⟩,.agg ⟨[.int .i64 b1,.int .i64 b2]⟩,.agg ⟨[.int .i64 c1,.int .i64 c2]⟩,.agg ⟨[.int .i64 d1,.int .i64 d2]⟩]=>some (true,Bo (ch a1 a2 b1 b2 c1 c2 d1 d2))
 | _=>none
theorem qfy:an 339 FE:=by
 intro vs r h
 unfold FE at h
 split at h
 ·rename_i a1 a2 b1 b2 c1 c2 d1 d2
  obtain ⟨h1,rfl⟩:=aa h
  refine am (vs:=[.agg #[I a1,I a2],.agg #[I b1,I b2],.agg #[I c1,I c2],.agg #[I d1,I d2]]) (Λ:=L0) (m':=M0) RT func339 rfl af ?_
  exact (Yo a1 a2 b1 b2 c1 c2 d1 d2).trans (by
   unfold ch me
   cases plR a1 a2&&(plR b1 b2&&(plR c1 c2&&plR d1 d2))
   ·rfl
   cases onB a1 a2 c1 c2 d1 d2
   ·cases onB b1 b2 c1 c2 d1 d2
    ·cases onB c1 c2 a1 a2 b1 b2
     ·cases onB d1 d2 a1 a2 b1 b2
      ·cases decide (wI (bC a1 a2 b1 b2 c1 c2*bC a1 a2 b1 b2 d1 d2)<0)<;>rfl
      ·rfl
     ·rfl
    ·rfl
   ·rfl)
 ·cases h
def ΓP7:Orc:=ah 339 FE ΓP6
theorem qjT:ΓP7.Ok prog:=ac RT qfy
def ΓP8:Orc:=ΓP7
theorem RS:ΓP8.Ok prog:=qjT
theorem Xo (a1 a2 b1 b2 c1 c2:Int):runG ΓP8 L0 prog f332 [.v (.agg #[I a1,I a2]),.v (.agg #[I b1,I b2]),.v (.agg #[I c1,I c2])] M0 =
 (bif !plR a1 a2 then some (.v (I 0),M0) else (bif !plR b1 b2 then some (.v (I 0),M0) else (bif !plR c1 c2 then some (.v (I 0),M0) else (bif bd (wI (b1 - a1))&&bd (wI (c2 - a2)) then (bif bd (wI (b2 - a2))&&bd (wI (c1 - a1)) then (bif bO (bI (wI (b1 - a1)*wI (c2 - a2))) (bv (wI (b1 - a1)*wI (c2 - a2)))&&bO (bI (wI (b2 - a2)*wI (c1 - a1))) (bv (wI (b2 - a2)*wI (c1 - a1))) then some (.v (I (cw (wv (bI (wI (b1 - a1)*wI (c2 - a2))) (bv (wI (b1 - a1)*wI (c2 - a2)))) (wv (bI (wI (b2 - a2)*wI (c1 - a1))) (bv (wI (b2 - a2)*wI (c1 - a1)))))),M0) else none) else none) else none)))):=by kernel_rfl
def ER (vs:List Value):Option (Bool×Value) :=
 match vs with
 | [.agg ⟨[.int .i64 a1,.int .i64 a2]⟩,.agg ⟨[.int .i64 b1,.int .i64 b2]⟩,.agg ⟨[.int .i64 c1,.int .i64 c2]⟩]=>some (true,I (bC a1 a2 b1 b2 c1 c2))
 | _=>none
theorem qeR:an 332 ER:=by
 intro vs r h
 unfold ER at h
 split at h
 ·rename_i a1 a2 b1 b2 c1 c2
  obtain ⟨h1,rfl⟩:=aa h
  refine am (vs:=[.agg #[I a1,I a2],.agg #[I b1,I b2],.agg #[I c1,I c2]]) (Λ:=L0) (m':=M0) RS func332 rfl af ?_
  exact (Xo a1 a2 b1 b2 c1 c2).trans (by
   have m1:=wL (eX (b1 - a1)) (eX (c2 - a2))
   have m2:=wL (eX (b2 - a2)) (eX (c1 - a1))
   cases hA:plR a1 a2 with
   | false=>exact vI (by unfold bC;rw [hA];rfl)
   | true =>
   cases hB:plR b1 b2 with
   | false=>exact vI (by unfold bC;rw [hA,hB];rfl)
   | true =>
   cases hC:plR c1 c2 with
   | false=>exact vI (by unfold bC;rw [hA,hB,hC];rfl)
   | true =>
    rw [<- KO (show (plR a1 a2&&(plR b1 b2&&plR c1 c2))=true by rw [hA,hB,hC];rfl)]
    have i1:bd (wI (b1 - a1))=true:=eX _
    have i2:bd (wI (c2 - a2))=true:=eX _
    have i3:bd (wI (b2 - a2))=true:=eX _
    have i4:bd (wI (c1 - a1))=true:=eX _
    have p1:bI (wI (b1 - a1)*wI (c2 - a2))=aY (wI (b1 - a1)*wI (c2 - a2))/\bv (wI (b1 - a1)*wI (c2 - a2))=aZ (wI (b1 - a1)*wI (c2 - a2)):=MG m1
    have p2:bI (wI (b2 - a2)*wI (c1 - a1))=aY (wI (b2 - a2)*wI (c1 - a1))/\bv (wI (b2 - a2)*wI (c1 - a1))=aZ (wI (b2 - a2)*wI (c1 - a1)):=MG m2
    have w1:wv (aY (wI (b1 - a1)*wI (c2 - a2))) (aZ (wI (b1 - a1)*wI (c2 - a2)))=wI (b1 - a1)*wI (c2 - a2):=(iY m1).1
    have w2:wv (aY (wI (b2 - a2)*wI (c1 - a1))) (aZ (wI (b2 - a2)*wI (c1 - a1)))=wI (b2 - a2)*wI (c1 - a1):=(iY m2).1
    rw [p1.1,p1.2,p2.1,p2.2,i1,i2,i3,i4,xz,xz,w1,w2]
    rfl)
 ·cases h
def ΓP9:Orc:=ah 332 ER ΓP8
theorem RR:ΓP9.Ok prog:=ac RS qeR
theorem Xv (p1 p2 a1 a2 b1 b2:Int):runG ΓP9 L0 prog f290 [.v (.agg #[I p1,I p2]),.v (.agg #[I a1,I a2]),.v (.agg #[I b1,I b2])] M0 =
 (bif !plR a1 a2 then some (.v (Bo false),M0) else (bif !plR b1 b2 then some (.v (Bo false),M0) else (bif !plR p1 p2 then some (.v (Bo false),M0) else (bif bC a1 a2 b1 b2 p1 p2 != (0:Int) then some (.v (Bo false),M0) else (bif decide (p1>=if b1<a1 then b1 else a1) then (bif decide (p1<=if b1>a1 then b1 else a1) then (bif decide (p2>=if b2<a2 then b2 else a2) then some (.v (Bo (decide (p2<=if b2>a2 then b2 else a2))),M0) else some (.v (Bo false),M0)) else some (.v (Bo false),M0)) else some (.v (Bo false),M0)))))):=by kernel_rfl
def EW (vs:List Value):Option (Bool×Value) :=
 match vs with
 | [.agg ⟨[.int .i64 p1,.int .i64 p2]⟩,.agg ⟨[.int .i64 a1,.int .i64 a2]⟩,.agg ⟨[.int .i64 b1,.int .i64 b2]⟩]=>some (true,Bo (onB p1 p2 a1 a2 b1 b2))
 | _=>none
theorem qeW:an 290 EW:=by
 intro vs r h
 unfold EW at h
 split at h
 ·rename_i p1 p2 a1 a2 b1 b2
  obtain ⟨h1,rfl⟩:=aa h
  refine am (vs:=[.agg #[I p1,I p2],.agg #[I a1,I a2],.agg #[I b1,I b2]]) (Λ:=L0) (m':=M0) RR func290 rfl af ?_
  exact (Xv p1 p2 a1 a2 b1 b2).trans (by
   unfold onB btw
   cases plR a1 a2
   ·cases plR p1 p2<;>rfl
   cases plR b1 b2
   ·cases plR p1 p2<;>rfl
   cases plR p1 p2
   ·rfl
   by_cases ht:bC a1 a2 b1 b2 p1 p2=0
   ·rw [ht]
    have e1:decide (p1>=if b1<a1 then b1 else a1)=decide ((if b1<a1 then b1 else a1)<=p1):=rfl
    have e2:decide (p2>=if b2<a2 then b2 else a2)=decide ((if b2<a2 then b2 else a2)<=p2):=rfl
    rw [e1,e2]
    cases decide ((if b1<a1 then b1 else a1)<=p1)<;>cases decide (p1<=if b1>a1 then b1 else a1)<;>cases decide ((if b2<a2 then b2 else a2)<=p2)<;>rfl
   ·rw [bne_iff_ne.2 ht,beq_eq_false_iff_ne.2 ht]
    rfl)
 ·cases h
def ΓP10:Orc:=ah 290 EW ΓP9
theorem RV:ΓP10.Ok prog:=ac RR qeW
theorem XB (a1 a2 b1 b2 c1 c2 d1 d2:Int):runG ΓP10 L0 prog f291 [.v (.agg #[I a1,I a2]),.v (.agg #[I b1,I b2]),.v (.agg #[I c1,I c2]),.v (.agg #[I d1,I d2])] M0 =
 (bif !plR a1 a2 then some (.v (Bo false),M0) else (bif !plR b1 b2 then some (.v (Bo false),M0) else (bif !plR c1 c2 then some (.v (Bo false),M0) else (bif !plR d1 d2 then some (.v (Bo false),M0) else (bif onB a1 a2 c1 c2 d1 d2 then some (.v (Bo true),M0) else (bif onB b1 b2 c1 c2 d1 d2 then some (.v (Bo true),M0) else (bif onB c1 c2 a1 a2 b1 b2 then some (.v (Bo true),M0) else (bif onB d1 d2 a1 a2 b1 b2 then some (.v (Bo true),M0) else (bif decide (wI (bC a1 a2 b1 b2 c1 c2*bC a1 a2 b1 b2 d1 d2)<(0:Int)) then some (.v (Bo (decide (wI (bC c1 c2 d1 d2 a1 a2*bC c1 c2 d1 d2 b1 b2)<(0:Int)))),M0) else some (.v (Bo false),M0)))))))))):=by kernel_rfl
def E1 (vs:List Value):Option (Bool×Value) :=
 match vs with
 | [.agg ⟨[.int .i64 a1,.int .i64 a2]⟩,.agg ⟨[.int .i64 b1,.int .i64 b2]⟩,.agg ⟨[.int .i64 c1,.int .i64 c2]⟩,.agg ⟨[.int .i64 d1,.int .i64 d2]⟩]=>some (true,Bo (ch a1 a2 b1 b2 c1 c2 d1 d2))
 | _=>none
theorem qe1:an 291 E1:=by
 intro vs r h
 unfold E1 at h
 split at h
 ·rename_i a1 a2 b1 b2 c1 c2 d1 d2
  obtain ⟨h1,rfl⟩:=aa h
  refine am (vs:=[.agg #[I a1,I a2],.agg #[I b1,I b2],.agg #[I c1,I c2],.agg #[I d1,I d2]]) (Λ:=L0) (m':=M0) RV func291 rfl af ?_
  exact (XB a1 a2 b1 b2 c1 c2 d1 d2).trans (by
   unfold ch me
   cases plR a1 a2
   ·rfl
   cases plR b1 b2
   ·rfl
   cases plR c1 c2
   ·rfl
   cases plR d1 d2
   ·rfl
   cases onB a1 a2 c1 c2 d1 d2
   ·cases onB b1 b2 c1 c2 d1 d2
    ·cases onB c1 c2 a1 a2 b1 b2
     ·cases onB d1 d2 a1 a2 b1 b2
      ·cases decide (wI (bC a1 a2 b1 b2 c1 c2*bC a1 a2 b1 b2 d1 d2)<0)<;>rfl
      ·rfl
     ·rfl
    ·rfl
   ·rfl)
 ·cases h
def ΓP11:Orc:=ah 291 E1 ΓP10
theorem qjU:ΓP11.Ok prog:=ac RV qe1
def ΓPt:Orc:=ΓP11
theorem RQ:ΓPt.Ok prog:=qjU
end Go.Proofs.YtainfdcfkgemhaaGreat
namespace Go.Proofs.YtainfdcfkgemhaaGreat
open Go Go.Proofs Go.Sx
set_option linter.unusedVariables false
theorem YQ (a b n:Int):runG ΓPt L0 prog f370 [.v (Wd a b),.v (UU n)] M0 =
 (bif a8 n&&a8 n then (bif decide (n*n / (18446744073709551616:Int)<IntKind.u64.wrap a) then some (.v (Bo true),M0) else (bif n*n / (18446744073709551616:Int)==IntKind.u64.wrap a then some (.v (Bo (decide (n*n % (18446744073709551616:Int)<=b))),M0) else some (.v (Bo false),M0))) else none):=by kernel_rfl
def F1 (vs:List Value):Option (Bool×Value) :=
 match vs with
 | [.agg ⟨[.int .i64 a,.int .u64 b]⟩,.int .u64 n]=>some (bO a b&&(decide (0<=a)&&a8 n),Bo (decide (n*n<=wv a b)))
 | _=>none
theorem qfU:an 370 F1:=by
 intro vs r h
 unfold F1 at h
 split at h
 ·rename_i a b n
  obtain ⟨h1,rfl⟩:=aa h
  refine am (vs:=[Wd a b,UU n]) (Λ:=L0) (m':=M0) RQ func370 rfl af ?_
  exact (YQ a b n).trans (by
   simp only [Bool.and_eq_true,decide_eq_true_eq] at h1
   obtain ⟨g1,g2,g3⟩:=h1
   rw [g3]
   simp only [Bool.and_self,cond_true]
   rw [iI] at g1
   rw [wrU]
   have ea:a % 18446744073709551616=a:=by omega
   rw [ea]
   unfold wv
   by_cases c1:n*n / 18446744073709551616<a
   ·rw [decide_eq_true c1,decide_eq_true (show n*n<=a*18446744073709551616+b by omega)]
    rfl
   ·rw [decide_eq_false c1]
    by_cases c2:n*n / 18446744073709551616=a
    ·rw [beq_iff_eq.2 c2]
     refine fW ?_
     show Bo _=Bo _
     rw [decide_eq_decide.2 (show n*n % 18446744073709551616<=b↔n*n<=a*18446744073709551616+b by omega)]
    ·rw [beq_eq_false_iff_ne.2 c2,decide_eq_false (show ¬ n*n<=a*18446744073709551616+b by omega)]
     rfl)
 ·cases h
def ΓT1:Orc:=ah 370 F1 ΓPt
theorem OkT1:ΓT1.Ok prog:=ac RQ qfU
def oo:Code:=bX (f356.body.getD .skip) 0
theorem qbL:loopsOf (f356.body.getD .skip)=[oo]:=by kernel_rfl
theorem qbK:loopsOf oo=[]:=by kernel_rfl
def pU:List Bool:=aB 21 [1,4,5]
def AK:List Bool:=aB 21 [4]
def Ah (e:Ex) (st:St):Option (Ex×St):=some (e,ab 0 0 AK st)
def MSq (a b:Int):Mem:=⟨[[.v (I a),.v (UU b)]],[true],[]⟩
def Ak (a b r q:Int):St:=mk pU [.ptr 0 0,.v (UU r),.v (UU q)] (MSq a b)
def H8 (r:Int):St:=mk AK [.v (UU r)] M0
theorem Uy (a b r q:Int) (k:Nat):ao ΓT1 prog L0 (ab 0 0 pU) oo (k+1) (Ak a b r q) Ah =
 bif decide (q>0) then (bif bO a b&&(decide (0<=a)&&a8 (jp r q)) then (bif decide (jp r q*jp r q<=wv a b) then ao ΓT1 prog L0 (ab 0 0 pU) oo k (Ak a b (jp r q) (q.fdiv (2 ^ 1))) Ah else ao ΓT1 prog L0 (ab 0 0 pU) oo k (Ak a b r (q.fdiv (2 ^ 1))) Ah) else none) else some (.exit 0,H8 r):=by kernel_rfl
def JC (vals:List SV) (m:Mem):Option (Bool×Ex×St) :=
 match vals,m with
 | [.ptr 0 0,.v (.int .u64 r),.v (.int .u64 q)],⟨[[.v (.int .i64 a),.v (.int .u64 b)]],[true],[]⟩ =>
  some (bO a b&&(decide (0<=a)&&(r==0&&q==9223372036854775808)),.exit 0,H8 (eH (wv a b) 64 0))
 | _,_=>none
def ΛSq:aV:=fun _ st=>cE 0 0 pU JC st
theorem qcA (z:Base) (z1:z.L.length=0) (z2:z.U.length=0):aQ ΛSq prog z oo:=by
 refine di (Λ:=L0) (kx:=fun _=>AK) OkT1 mixed z1 z2 (fun b hb=>by rw [qbK] at hb;cases hb) (G:=JC) (fun _=>rfl) ?_
 intro vals m e st' h
 unfold JC at h
 split at h
 ·rename_i r q a b
  obtain ⟨h1,rfl,rfl⟩:=az h
  simp only [Bool.and_eq_true,beq_iff_eq,decide_eq_true_eq] at h1
  obtain ⟨g1,g2,rfl,rfl⟩:=h1
  exact ⟨65,UR (wv a b) (fun x=>bO a b&&(decide (0<=a)&&a8 x)) (fun x hx=>by simp [g1,g2,hx]) (fun m r q=>ao ΓT1 prog L0 (ab 0 0 pU) oo m (Ak a b r q) Ah) (fun r=>some (.exit 0,H8 r)) (fun m r q=>Uy a b r q m) 63 0 (by decide) (by decide) (by decide)⟩
 ·cases h
theorem Wq (a b:Int):runG ΓT1 ΛSq prog f356 [.v (Wd a b)] M0 =
 bif decide (a<0) then some (.v (.tuple #[UU 0,Bo false]),M0)
 else bif bO a b&&(decide (0<=a)&&((0:Int)==0&&(9223372036854775808:Int)==9223372036854775808)) then some (.v (.tuple #[UU (eH (wv a b) 64 0),Bo true]),M0) else none:=by kernel_rfl
def Eb (vs:List Value):Option (Bool×Value) :=
 match vs with
 | [.agg ⟨[.int .i64 a,.int .u64 b]⟩]=>some (bO a b,.tuple #[UU (bN (wv a b)),Bo (decide (0<=wv a b))])
 | _=>none
theorem qei:an 356 Eb:=by
 intro vs r h
 unfold Eb at h
 split at h
 ·rename_i a b
  obtain ⟨h1,rfl⟩:=aa h
  refine am (vs:=[Wd a b]) (Λ:=ΛSq) (m':=M0) OkT1 func356 rfl (fun z z1 z2=>bW (c:=f356.body.getD .skip) qbL (qcA z z1 z2)) ?_
  refine (Wq a b).trans ?_
  have h':=h1
  rw [iI] at h'
  by_cases ha:a<0
  ·have e1:wv a b<0:=by unfold wv;omega
   have e2:¬ 0<=wv a b:=by omega
   simp [ha,bN,e1,e2]
  ·have e1:¬ wv a b<0:=by unfold wv;omega
   have e2:0<=wv a b:=by omega
   have e3:0<=a:=by omega
   simp [ha,bN,e1,e2,e3,h1]
 ·cases h
def ΓT2:Orc:=ah 356 Eb ΓT1
theorem OkT2:ΓT2.Ok prog:=ac OkT1 qei
theorem Zb (a b:Int) (t:Bool):runG ΓT2 L0 prog f324 [.v (Wd a b),.v (Bo t)] M0 =
 (bif !t then some (.v (.tuple #[(I 0),(Bo false)]),M0) else (bif bO a b then (bif !decide ((0:Int)<=wv a b) then some (.v (.tuple #[(I 0),(Bo false)]),M0) else (bif decide (bN (wv a b)>(9223372036854775807:Int)) then some (.v (.tuple #[(I 0),(Bo false)]),M0) else some (.v (.tuple #[(I (wI (bN (wv a b)))),(Bo true)]),M0))) else none)):=by kernel_rfl
def Gg (vs:List Value):Option (Bool×Value) :=
 match vs with
 | [.agg ⟨[.int .i64 a,.int .u64 b]⟩,.bool t]=>some (bO a b&&(bd (wv a b)&&t),.tuple #[I (bN (wv a b)),Bo (decide (0<=wv a b))])
 | _=>none
theorem LW {n:Int} (h:bd n=true):0<=bN n/\bN n<4294967296:=by
 rw [dX] at h
 refine ⟨qac (by omega),?_⟩
 rcases (by omega:n<0\/0<=n) with h1|h1
 ·rw [BZ h1];decide
 ·obtain ⟨s0,_,s2,_⟩:=v9 n h1 (by omega)
  rcases (by omega:bN n<4294967296\/4294967296<=bN n) with h2|h2
  ·exact h2
  ·have:=Int.mul_le_mul h2 h2 (by decide) s0
   omega
theorem qf9:an 324 Gg:=by
 intro vs r h
 unfold Gg at h
 split at h
 ·rename_i a b t
  obtain ⟨h1,rfl⟩:=aa h
  refine am (vs:=[Wd a b,Bo t]) (Λ:=L0) (m':=M0) OkT2 func324 rfl af ?_
  exact (Zb a b t).trans (by
   simp only [Bool.and_eq_true] at h1
   obtain ⟨g1,g2,rfl⟩:=h1
   obtain ⟨r0,r1⟩:=LW g2
   rw [g1]
   simp only [Bool.not_true,cond_false,cond_true]
   by_cases hn:0<=wv a b
   ·rw [decide_eq_true hn,decide_eq_false (show ¬ bN (wv a b)>9223372036854775807 by omega),aM (by omega)]
    rfl
   ·rw [decide_eq_false hn,BZ (by omega)]
    rfl)
 ·cases h
def ΓT3:Orc:=ah 324 Gg ΓT2
theorem OkT3:ΓT3.Ok prog:=ac OkT2 qf9
theorem Y9 (n:Int):runG ΓT3 L0 prog f260 [.v (I n)] M0 =
 (bif bd n then (bif bO (aY n) (aZ n)&&(bd (wv (aY n) (aZ n))&&true) then some (.v (.tuple #[(I (bN (wv (aY n) (aZ n)))),(Bo (decide ((0:Int)<=wv (aY n) (aZ n))))]),M0) else none) else none):=by kernel_rfl
def Ge (vs:List Value):Option (Bool×Value) :=
 match vs with
 | [.int .i64 n]=>some (bd n,.tuple #[I (bN n),Bo (decide (0<=n))])
 | _=>none
theorem qf7:an 260 Ge:=by
 intro vs r h
 unfold Ge at h
 split at h
 ·rename_i n
  obtain ⟨h1,rfl⟩:=aa h
  refine am (vs:=[I n]) (Λ:=L0) (m':=M0) OkT3 func260 rfl af ?_
  exact (Y9 n).trans (by
   obtain ⟨e1,e2⟩:=iY (wM h1)
   rw [h1,e2,e1,h1]
   rfl)
 ·cases h
def ΓT4:Orc:=ah 260 Ge ΓT3
theorem Rw:ΓT4.Ok prog:=ac OkT3 qf7
def ci (n lo hi:Int):Int:=bif decide (n<lo) then lo else bif decide (n>hi) then hi else n
theorem Zg (n lo hi:Int):runG ΓT4 L0 prog f216 [.v (I n),.v (I lo),.v (I hi)] M0 =
 (bif decide (n<lo) then some (.v (I lo),M0) else (bif decide (n>hi) then some (.v (I hi),M0) else some (.v (I n),M0))):=by kernel_rfl
def Gj (vs:List Value):Option (Bool×Value) :=
 match vs with
 | [.int .i64 n,.int .i64 lo,.int .i64 hi]=>some (true,I (ci n lo hi))
 | _=>none
theorem qgc:an 216 Gj:=by
 intro vs r h
 unfold Gj at h
 split at h
 ·rename_i n lo hi
  obtain ⟨h1,rfl⟩:=aa h
  refine am (vs:=[I n,I lo,I hi]) (Λ:=L0) (m':=M0) Rw func216 rfl af ?_
  exact (Zg n lo hi).trans (by
   unfold ci
   cases decide (n<lo)<;>cases decide (n>hi)<;>rfl)
 ·cases h
def ΓT5:Orc:=ah 216 Gj ΓT4
theorem qjy:ΓT5.Ok prog:=ac Rw qgc
def ΓRt:Orc:=ΓT5
theorem RA:ΓRt.Ok prog:=qjy
end Go.Proofs.YtainfdcfkgemhaaGreat
namespace Go.Proofs.YtainfdcfkgemhaaGreat
open Go Go.Proofs Go.Sx
set_option linter.unusedVariables false
theorem qaq {z v g:Int} (h:dj z v g=true):wI (wI (v*v)+wI (wI ((2:Int)*g)*z))=v*v+2*g*z/\bd (v*v+2*g*z)=true:=by
 obtain ⟨n1,n2⟩:=yx h
 have hx:=kE.1 h
 refine ⟨?_,by rw [dX];omega⟩
 rw [aM (n:=2*g) (by omega),aM (n:=v*v) (by omega),aM (n:=2*g*z) (by omega),aM (by omega)]
theorem qar {z v g:Int} (h:dj z v g=true) (hz:¬ z<0):wI ((wI (v+bN (v*v+2*g*z))).tdiv g)=bn z v g:=by
 obtain ⟨s,e,h0,h1,h2,h3,h4⟩:=vf h (by omega)
 obtain ⟨n1,n2⟩:=yx h
 have hx:=kE.1 h
 have gz:0<=2*g*z:=Int.mul_nonneg (by omega) (by omega)
 have es:bN (v*v+2*g*z)=s:=qab (by omega) h0 h3 h4
 have t1:=oT h
 have t2:=vg h
 obtain ⟨r0,r1⟩:=LW (n:=v*v+2*g*z) (by rw [dX];omega)
 rw [es] at r1 ⊢
 rw [aM (n:=v+s) (by omega),Int.tdiv_eq_ediv_of_nonneg (by omega),<- e,aM (by omega)]
theorem lZ {z v g d c:Int} (h:bK z v g=true) (h1:-2048<=d) (h2:d<=2048) (h3:-2048<=c) (h4:c<=2048):dj (z+d) (v+c) g=true:=by
 rw [yw] at h;rw [kE];omega
theorem qby (z v g:Int):(bif decide (z>=(-2147483648:Int)) then (bif decide (z<=(2147483648:Int)) then (bif decide (v>=(-131072:Int)) then (bif decide (v<=(131072:Int)) then (bif decide (g>=(1:Int)) then some (.v (Bo (decide (g<=(100:Int)))),M0) else some (.v (Bo false),M0)) else some (.v (Bo false),M0)) else some (.v (Bo false),M0)) else some (.v (Bo false),M0)) else some (.v (Bo false),M0))=(some (SV.v (Bo (bK z v g)),M0):Option (SV×Mem)):=by
 unfold bK
 by_cases h1:-2147483648<=z<;>by_cases h2:z<=2147483648<;>by_cases h3:-131072<=v<;>by_cases h4:v<=131072<;>by_cases h5:1<=g<;>by_cases h6:g<=100<;>simp [h1,h2,h3,h4,h5,h6]
theorem Y3 (z:Int) (v:Int) (g:Int):runG ΓRt L0 prog f292 [.v (I z),.v (I v),.v (I g)] M0 =
 (bif decide (z>=(-2147483648:Int)) then (bif decide (z<=(2147483648:Int)) then (bif decide (v>=(-131072:Int)) then (bif decide (v<=(131072:Int)) then (bif decide (g>=(1:Int)) then some (.v (Bo (decide (g<=(100:Int)))),M0) else some (.v (Bo false),M0)) else some (.v (Bo false),M0)) else some (.v (Bo false),M0)) else some (.v (Bo false),M0)) else some (.v (Bo false),M0)):=by kernel_rfl
def Gb (vs:List Value):Option (Bool×Value) :=
 match vs with
 | [.int .i64 z,.int .i64 v,.int .i64 g]=>some (true,Bo (bK z v g))
 | _=>none
theorem qf4:an 292 Gb:=by
 intro vs r h
 unfold Gb at h
 split at h
 ·rename_i z v g
  obtain ⟨h1,rfl⟩:=aa h
  refine am (vs:=[I z,I v,I g]) (Λ:=L0) (m':=M0) RA func292 rfl af ?_
  exact (Y3 z v g).trans (qby z v g)
 ·cases h
def ΓA1:Orc:=ah 292 Gb ΓRt
theorem OkA1:ΓA1.Ok prog:=ac RA qf4
def ΓA2:Orc:=ΓA1
theorem OkA2:ΓA2.Ok prog:=OkA1
theorem Y4 (z:Int) (v:Int) (g:Int):runG ΓA2 L0 prog f293 [.v (I z),.v (I v),.v (I g)] M0 =
 (bif decide (z<(0:Int)) then some (.v (I 0),M0) else (bif bd (wI (wI (v*v)+wI (wI ((2:Int)*g)*z))) then (bif g==(0:Int) then none else some (.v (I (wI ((wI (v+bN (wI (wI (v*v)+wI (wI ((2:Int)*g)*z))))).tdiv g))),M0)) else none)):=by kernel_rfl
def Gc (vs:List Value):Option (Bool×Value) :=
 match vs with
 | [.int .i64 z,.int .i64 v,.int .i64 g]=>some (dj z v g,I (bn z v g))
 | _=>none
theorem qf5:an 293 Gc:=by
 intro vs r h
 unfold Gc at h
 split at h
 ·rename_i z v g
  obtain ⟨h1,rfl⟩:=aa h
  refine am (vs:=[I z,I v,I g]) (Λ:=L0) (m':=M0) OkA2 func293 rfl af ?_
  exact (Y4 z v g).trans (by
   obtain ⟨e1,e2⟩:=qaq h1
   by_cases hz:z<0
   ·rw [decide_eq_true hz]
    unfold bn
    rw [decide_eq_true hz]
    rfl
   ·rw [decide_eq_false hz,e1,e2,beq_eq_false_iff_ne.2 (show g≠0 by have:=kE.1 h1;omega),qar h1 hz]
    rfl)
 ·cases h
def ΓA3:Orc:=ah 293 Gc ΓA2
theorem OkA3:ΓA3.Ok prog:=ac OkA2 qf5
def ΓA4:Orc:=ΓA3
theorem OkA4:ΓA4.Ok prog:=OkA3
def ΓA5:Orc:=ΓA4
theorem OkA5:ΓA5.Ok prog:=OkA4
def ΓA6:Orc:=ΓA5
theorem OkA6:ΓA6.Ok prog:=OkA5
def ΓA7:Orc:=ΓA6
theorem OkA7:ΓA7.Ok prog:=OkA6
def ΓA8:Orc:=ΓA7
theorem OkA8:ΓA8.Ok prog:=OkA7
theorem Za (z:Int) (v:Int) (g:Int) (e:Int):runG ΓA8 L0 prog f232 [.v (I z),.v (I v),.v (I g),.v (I e)] M0 =
 (bif !bK z v g then some (.v (.tuple #[(I 0),(I 0),(Bo false)]),M0) else (bif decide (e<(0:Int)) then some (.v (.tuple #[(I 0),(I 0),(Bo false)]),M0) else (bif decide (e>(2048:Int)) then some (.v (.tuple #[(I 0),(I 0),(Bo false)]),M0) else (bif dj (wI (z - e)) (wI (v - e)) g then (bif dj (wI (z+e)) (wI (v+e)) g then some (.v (.tuple #[(I (bn (wI (z - e)) (wI (v - e)) g)),(I (wI (bn (wI (z+e)) (wI (v+e)) g+(2:Int)))),(Bo true)]),M0) else none) else none)))):=by kernel_rfl
def Gf (vs:List Value):Option (Bool×Value) :=
 match vs with
 | [.int .i64 z,.int .i64 v,.int .i64 g,.int .i64 e]=>some (true,.tuple #[I (bif bK z v g&&decide (0<=e/\e<=2048) then bn (z - e) (v - e) g else 0),I (bif bK z v g&&decide (0<=e/\e<=2048) then bn (z+e) (v+e) g+2 else 0),Bo (bK z v g&&decide (0<=e/\e<=2048))])
 | _=>none
theorem qf8:an 232 Gf:=by
 intro vs r h
 unfold Gf at h
 split at h
 ·rename_i z v g e
  obtain ⟨h1,rfl⟩:=aa h
  refine am (vs:=[I z,I v,I g,I e]) (Λ:=L0) (m':=M0) OkA8 func232 rfl af ?_
  exact (Za z v g e).trans (by
   cases h:bK z v g
   ·rfl
   ·simp only [Bool.not_true,cond_false,Bool.true_and]
    by_cases h2:e<0
    ·rw [decide_eq_true h2,decide_eq_false (show ¬ (0<=e/\e<=2048) by omega)];rfl
    ·by_cases h3:e>2048
     ·rw [decide_eq_false h2,decide_eq_true h3,decide_eq_false (show ¬ (0<=e/\e<=2048) by omega)];rfl
     ·have hx:=yw.1 h
      have k1:dj (z - e) (v - e) g=true:=by rw [Int.sub_eq_add_neg,Int.sub_eq_add_neg];exact lZ h (by omega) (by omega) (by omega) (by omega)
      have k2:dj (z+e) (v+e) g=true:=lZ h (by omega) (by omega) (by omega) (by omega)
      have k3:=oT k2
      have k4:=vg k2
      rw [decide_eq_false h2,decide_eq_false h3,decide_eq_true (show (0<=e/\e<=2048) by omega),aM (n:=z - e) (by omega),aM (n:=v - e) (by omega),aM (n:=z+e) (by omega),aM (n:=v+e) (by omega),k1,k2,aM (n:=bn (z+e) (v+e) g+2) (by omega)];rfl)
 ·cases h
def ΓA9:Orc:=ah 232 Gf ΓA8
theorem qkv:ΓA9.Ok prog:=ac OkA8 qf8
def ΓA10:Orc:=ΓA9
theorem qkx:ΓA10.Ok prog:=qkv
def ΓA11:Orc:=ΓA10
theorem qkw:ΓA11.Ok prog:=qkx
def ΓFa:Orc:=ΓA11
theorem Sh:ΓFa.Ok prog:=qkw
end Go.Proofs.YtainfdcfkgemhaaGreat
namespace Go.Proofs.YtainfdcfkgemhaaGreat
open Go Go.Proofs Go.Sx
set_option linter.unusedVariables false
def kp (x y n:Int):Bool:=decide (0<=n/\n<=4096)&&(decide (-1099511623680<=x/\x<=1099511623680)&&decide (-1099511623680<=y/\y<=1099511623680))
def aU (a b c d:Int):Bool:=plR a b&&(plR c d&&(decide (a<=c)&&decide (b<=d)))
def fm (n m:Int):Bool:=decide (n>=wI (0 - m))&&decide (n<=m)
theorem uV {n m:Int} (h0:0<=m) (h1:m<9223372036854775808):fm n m=true↔-m<=n/\n<=m:=by
 unfold fm
 rw [aM (n:=0 - m) (by omega),Bool.and_eq_true,decide_eq_true_iff,decide_eq_true_iff]
 omega
def fu (x y vx vy:Int):Bool:=fm x 2147483648&&(fm y 2147483648&&(fm vx 131072&&fm vy 131072))
theorem lP {x y vx vy:Int}:fu x y vx vy=true↔(-2147483648<=x/\x<=2147483648)/\(-2147483648<=y/\y<=2147483648)/\(-131072<=vx/\vx<=131072)/\-131072<=vy/\vy<=131072:=by
 unfold fu
 rw [Bool.and_eq_true,Bool.and_eq_true,Bool.and_eq_true,uV (by decide) (by decide),uV (by decide) (by decide),uV (by decide) (by decide),uV (by decide) (by decide)]
def kg (x y vx vy f t:Int):Bool:=decide (-4294967296<=x/\x<=4294967296)&&(decide (-4294967296<=y/\y<=4294967296)&&(decide (-262144<=vx/\vx<=262144)&&(decide (-262144<=vy/\vy<=262144)&&(decide (-4096<=f/\f<=4096)&&decide (0<=t/\t<=4194304)))))
theorem Mk {x y vx vy f t:Int}:kg x y vx vy f t=true↔(-4294967296<=x/\x<=4294967296)/\(-4294967296<=y/\y<=4294967296)/\(-262144<=vx/\vx<=262144)/\(-262144<=vy/\vy<=262144)/\(-4096<=f/\f<=4096)/\0<=t/\t<=4194304:=by
 unfold kg
 simp only [Bool.and_eq_true,decide_eq_true_eq]
theorem Mi {x v f t:Int} (h1:-4294967296<=x/\x<=4294967296) (h2:-262144<=v/\v<=262144) (h3:-4096<=f/\f<=4096) (h4:0<=t/\t<=4194304):wI (x+wI (wI (v+f)*t))=x+(v+f)*t/\-1129576398848<=x+(v+f)*t/\x+(v+f)*t<=1129576398848:=by
 have p:=sQ (a:=v+f) (b:=t) (A:=266240) (B:=4194304) (by omega) (by omega) (by omega) (by omega)
 rw [aM (n:=v+f) (by omega),aM (n:=(v+f)*t) (by omega),aM (by omega)]
 omega
def gX (a b c d x y:Int):Bool:=aU a b c d&&(plR x y&&(decide (x>=a)&&(decide (x<=c)&&(decide (y>=b)&&decide (y<=d)))))
def qe (a b c d a' b' c' d':Int):Bool:=aU a b c d&&(gX a' b' c' d' a b&&gX a' b' c' d' c d)
theorem zn {a b c d:Int}:aU a b c d=true↔plR a b=true/\plR c d=true/\a<=c/\b<=d:=by
 unfold aU
 simp only [Bool.and_eq_true,decide_eq_true_eq]
theorem N8 {a b c d x y:Int}:gX a b c d x y=true↔aU a b c d=true/\plR x y=true/\a<=x/\x<=c/\b<=y/\y<=d:=by
 unfold gX
 simp only [Bool.and_eq_true,decide_eq_true_eq]
theorem M4 {x y n:Int}:kp x y n=true↔(0<=n/\n<=4096)/\(-1099511623680<=x/\x<=1099511623680)/\(-1099511623680<=y/\y<=1099511623680):=by
 unfold kp
 simp only [Bool.and_eq_true,decide_eq_true_eq]
theorem tT {n lo hi:Int} (h1:lo<=n) (h2:n<=hi):ci n lo hi=n:=by
 unfold ci
 rw [decide_eq_false (show ¬ n<lo by omega),decide_eq_false (show ¬ n>hi by omega)]
 rfl
theorem ZZ (a:Int) (b:Int) (c:Int) (d:Int):runG ΓFa L0 prog f237 [.v (.agg #[I a,I b,I c,I d])] M0 =
 (bif plR a b then (bif plR c d then (bif decide (a<=c) then some (.v (Bo (decide (b<=d))),M0) else some (.v (Bo false),M0)) else some (.v (Bo false),M0)) else some (.v (Bo false),M0)):=by kernel_rfl
def GX (vs:List Value):Option (Bool×Value) :=
 match vs with
 | [.agg ⟨[.int .i64 a,.int .i64 b,.int .i64 c,.int .i64 d]⟩]=>some (true,Bo (aU a b c d))
 | _=>none
theorem qgP:an 237 GX:=by
 intro vs r h
 unfold GX at h
 split at h
 ·rename_i a b c d
  obtain ⟨h1,rfl⟩:=aa h
  refine am (vs:=[.agg #[I a,I b,I c,I d]]) (Λ:=L0) (m':=M0) Sh func237 rfl af ?_
  exact (ZZ a b c d).trans (by unfold aU;cases plR a b<;>cases plR c d<;>cases decide (a<=c)<;>rfl)
 ·cases h
def ΓB1:Orc:=ah 237 GX ΓFa
theorem qku:ΓB1.Ok prog:=ac Sh qgP
def ΓB2:Orc:=ΓB1
theorem qkr:ΓB2.Ok prog:=qku
def ΓB3:Orc:=ΓB2
theorem qkq:ΓB3.Ok prog:=qkr
def ΓB4:Orc:=ΓB3
theorem SJ:ΓB4.Ok prog:=qkq
theorem Z2 (x:Int) (y:Int):runG ΓB4 L0 prog f296 [.v (I x),.v (I y)] M0 =
 some (.v (.agg #[(I (ci x (-1099511627776:Int) (1099511627776:Int))),(I (ci y (-1099511627776:Int) (1099511627776:Int)))]),M0):=by kernel_rfl
def G0 (vs:List Value):Option (Bool×Value) :=
 match vs with
 | [.int .i64 x,.int .i64 y]=>some (true,.agg #[I (ci x (-1099511627776) 1099511627776),I (ci y (-1099511627776) 1099511627776)])
 | _=>none
theorem qgS:an 296 G0:=by
 intro vs r h
 unfold G0 at h
 split at h
 ·rename_i x y
  obtain ⟨h1,rfl⟩:=aa h
  refine am (vs:=[I x,I y]) (Λ:=L0) (m':=M0) SJ func296 rfl af ?_
  exact (Z2 x y).trans (rfl)
 ·cases h
def ΓB5:Orc:=ah 296 G0 ΓB4
theorem SI:ΓB5.Ok prog:=ac SJ qgS
theorem Z0 (x:Int) (y:Int) (n:Int):runG ΓB5 L0 prog f234 [.v (.agg #[I x,I y]),.v (I n)] M0 =
 (bif !plR x y then some (.v (.agg #[(I 0),(I 0),(I 0),(I 0)]),M0) else some (.v (.agg #[(I (ci (wI (x - ci n (0:Int) (2199023255552:Int))) (-1099511627776:Int) (1099511627776:Int))),(I (ci (wI (y - ci n (0:Int) (2199023255552:Int))) (-1099511627776:Int) (1099511627776:Int))),(I (ci (wI (x+ci n (0:Int) (2199023255552:Int))) (-1099511627776:Int) (1099511627776:Int))),(I (ci (wI (y+ci n (0:Int) (2199023255552:Int))) (-1099511627776:Int) (1099511627776:Int)))]),M0)):=by kernel_rfl
def GY (vs:List Value):Option (Bool×Value) :=
 match vs with
 | [.agg ⟨[.int .i64 x,.int .i64 y]⟩,.int .i64 n]=>some (kp x y n,.agg #[I (x - n),I (y - n),I (x+n),I (y+n)])
 | _=>none
theorem qgQ:an 234 GY:=by
 intro vs r h
 unfold GY at h
 split at h
 ·rename_i x y n
  obtain ⟨h1,rfl⟩:=aa h
  refine am (vs:=[.agg #[I x,I y],I n]) (Λ:=L0) (m':=M0) SI func234 rfl af ?_
  exact (Z0 x y n).trans (by
   obtain ⟨h2,h3,h4⟩:=M4.1 h1
   rw [iy.2 (by omega),tT (n:=n) (by omega) (by omega),aM (n:=x - n) (by omega),aM (n:=y - n) (by omega),aM (n:=x+n) (by omega),aM (n:=y+n) (by omega),tT (n:=x - n) (by omega) (by omega),tT (n:=y - n) (by omega) (by omega),tT (n:=x+n) (by omega) (by omega),tT (n:=y+n) (by omega) (by omega)]
   rfl)
 ·cases h
def ΓB6:Orc:=ah 234 GY ΓB5
theorem SH:ΓB6.Ok prog:=ac SI qgQ
theorem Z1 (a:Int) (b:Int) (c:Int) (d:Int) (a':Int) (b':Int) (c':Int) (d':Int):runG ΓB6 L0 prog f236 [.v (.agg #[I a,I b,I c,I d]),.v (.agg #[I a',I b',I c',I d'])] M0 =
 (bif aU a b c d then (bif aU a' b' c' d' then some (.v (.agg #[(I (if a'<a then a' else a)),(I (if b'<b then b' else b)),(I (if c'>c then c' else c)),(I (if d'>d then d' else d))]),M0) else (bif aU a b c d then some (.v (.agg #[(I a),(I b),(I c),(I d)]),M0) else (bif aU a' b' c' d' then some (.v (.agg #[(I a'),(I b'),(I c'),(I d')]),M0) else some (.v (.agg #[(I 0),(I 0),(I 0),(I 0)]),M0)))) else (bif aU a b c d then some (.v (.agg #[(I a),(I b),(I c),(I d)]),M0) else (bif aU a' b' c' d' then some (.v (.agg #[(I a'),(I b'),(I c'),(I d')]),M0) else some (.v (.agg #[(I 0),(I 0),(I 0),(I 0)]),M0)))):=by kernel_rfl
def GZ (vs:List Value):Option (Bool×Value) :=
 match vs with
 | [.agg ⟨[.int .i64 a,.int .i64 b,.int .i64 c,.int .i64 d]⟩,.agg ⟨[.int .i64 a',.int .i64 b',.int .i64 c',.int .i64 d']⟩]=>some (aU a b c d&&aU a' b' c' d',Value.agg #[I (mn a a'),I (mn b b'),I (mx c c'),I (mx d d')])
 | _=>none
theorem qgR:an 236 GZ:=by
 intro vs r h
 unfold GZ at h
 split at h
 ·rename_i a b c d a' b' c' d'
  obtain ⟨h1,rfl⟩:=aa h
  refine am (vs:=[.agg #[I a,I b,I c,I d],.agg #[I a',I b',I c',I d']]) (Λ:=L0) (m':=M0) SH func236 rfl af ?_
  exact (Z1 a b c d a' b' c' d').trans (by
   rw [Bool.and_eq_true] at h1
   rw [h1.1,h1.2]
   rfl)
 ·cases h
def ΓB7:Orc:=ah 236 GZ ΓB6
theorem SG:ΓB7.Ok prog:=ac SH qgR
theorem YH (n:Int) (m:Int):runG ΓB7 L0 prog f294 [.v (I n),.v (I m)] M0 =
 (bif decide (n>=wI ((0:Int) - m)) then some (.v (Bo (decide (n<=m))),M0) else some (.v (Bo false),M0)):=by kernel_rfl
def FS (vs:List Value):Option (Bool×Value) :=
 match vs with
 | [.int .i64 n,.int .i64 m]=>some (true,Bo (fm n m))
 | _=>none
theorem qfN:an 294 FS:=by
 intro vs r h
 unfold FS at h
 split at h
 ·rename_i n m
  obtain ⟨h1,rfl⟩:=aa h
  refine am (vs:=[I n,I m]) (Λ:=L0) (m':=M0) SG func294 rfl af ?_
  exact (YH n m).trans (by unfold fm;cases decide (n>=wI (0 - m))<;>rfl)
 ·cases h
def ΓB8:Orc:=ah 294 FS ΓB7
theorem SF:ΓB8.Ok prog:=ac SG qfN
theorem YI (p:Int) (q:Int) (x:Int) (y:Int) (z:Int) (vx:Int) (vy:Int) (vz:Int):runG ΓB8 L0 prog f233 [.v (.agg #[I p,I q,I x,I y,I z,I vx,I vy,I vz])] M0 =
 (bif fm x (2147483648:Int) then (bif fm y (2147483648:Int) then (bif fm vx (131072:Int) then some (.v (Bo (fm vy (131072:Int))),M0) else some (.v (Bo false),M0)) else some (.v (Bo false),M0)) else some (.v (Bo false),M0)):=by kernel_rfl
def FT (vs:List Value):Option (Bool×Value) :=
 match vs with
 | [.agg ⟨[.int .i64 p,.int .i64 q,.int .i64 x,.int .i64 y,.int .i64 z,.int .i64 vx,.int .i64 vy,.int .i64 vz]⟩]=>some (true,Bo (fu x y vx vy))
 | _=>none
theorem qfO:an 233 FT:=by
 intro vs r h
 unfold FT at h
 split at h
 ·rename_i p q x y z vx vy vz
  obtain ⟨h1,rfl⟩:=aa h
  refine am (vs:=[.agg #[I p,I q,I x,I y,I z,I vx,I vy,I vz]]) (Λ:=L0) (m':=M0) SF func233 rfl af ?_
  exact (YI p q x y z vx vy vz).trans (by unfold fu;cases fm x 2147483648<;>cases fm y 2147483648<;>cases fm vx 131072<;>rfl)
 ·cases h
def ΓB9:Orc:=ah 233 FT ΓB8
theorem SE:ΓB9.Ok prog:=ac SF qfO
theorem YJ (p:Int) (q:Int) (x:Int) (y:Int) (z:Int) (vx:Int) (vy:Int) (vz:Int) (f:Int) (t:Int):runG ΓB9 L0 prog f235 [.v (.agg #[I p,I q,I x,I y,I z,I vx,I vy,I vz]),.v (I f),.v (I t)] M0 =
 some (.v (.agg #[(I (wI (x+wI (wI (vx+f)*t)))),(I (wI (y+wI (wI (vy+f)*t))))]),M0):=by kernel_rfl
def FU (vs:List Value):Option (Bool×Value) :=
 match vs with
 | [.agg ⟨[.int .i64 p,.int .i64 q,.int .i64 x,.int .i64 y,.int .i64 z,.int .i64 vx,.int .i64 vy,.int .i64 vz]⟩,.int .i64 f,.int .i64 t]=>some (kg x y vx vy f t,Value.agg #[I (x+(vx+f)*t),I (y+(vy+f)*t)])
 | _=>none
theorem qfP:an 235 FU:=by
 intro vs r h
 unfold FU at h
 split at h
 ·rename_i p q x y z vx vy vz f t
  obtain ⟨h1,rfl⟩:=aa h
  refine am (vs:=[.agg #[I p,I q,I x,I y,I z,I vx,I vy,I vz],I f,I t]) (Λ:=L0) (m':=M0) SE func235 rfl af ?_
  exact (YJ p q x y z vx vy vz f t).trans (by
   obtain ⟨h2,h3,h4,h5,h6,h7⟩:=Mk.1 h1
   rw [(Mi h2 h4 h6 h7).1,(Mi h3 h5 h6 h7).1])
 ·cases h
def ΓB10:Orc:=ah 235 FU ΓB9
theorem qkt:ΓB10.Ok prog:=ac SE qfP
def ΓB11:Orc:=ΓB10
theorem qks:ΓB11.Ok prog:=qkt
def ΓBx:Orc:=ΓB11
theorem qZ:ΓBx.Ok prog:=qks
end Go.Proofs.YtainfdcfkgemhaaGreat
namespace Go.Proofs.YtainfdcfkgemhaaGreat
open Go Go.Proofs Go.Sx
set_option linter.unusedVariables false
def Cv (x y n c:Int):Int:=bif plR x y then ci (wI (c - ci n 0 2199023255552)) (-1099511627776) 1099511627776 else 0
def Cw (x y n c:Int):Int:=bif plR x y then ci (wI (c+ci n 0 2199023255552)) (-1099511627776) 1099511627776 else 0
def pick (A B:Bool) (m x y:Int):Int:=bif A&&B then m else bif A then x else bif B then y else 0
def NU (a b c d a' b' c' d':Int):Int:=pick (aU a b c d) (aU a' b' c' d') (mn a a') a a'
def NT (a b c d a' b' c' d':Int):Int:=pick (aU a b c d) (aU a' b' c' d') (mn b b') b b'
def NS (a b c d a' b' c' d':Int):Int:=pick (aU a b c d) (aU a' b' c' d') (mx c c') c c'
def NR (a b c d a' b' c' d':Int):Int:=pick (aU a b c d) (aU a' b' c' d') (mx d d') d d'
theorem qdq (a b c d a' b' c' d':Int):(aU a b c d&&(aU a' b' c' d'&&(decide (a'<=a)&&(decide (b'<=b)&&(decide (c<=c')&&decide (d<=d'))))))=qe a b c d a' b' c' d':=by
 rw [Bool.eq_iff_iff]
 unfold qe
 simp only [Bool.and_eq_true,decide_eq_true_eq,N8]
 constructor
 ·rintro ⟨h1,h2,h3,h4,h5,h6⟩
  obtain ⟨p1,p2,p3,p4⟩:=zn.1 h1
  exact ⟨h1,⟨h2,p1,h3,by omega,h4,by omega⟩,h2,p2,by omega,h5,by omega,h6⟩
 ·rintro ⟨h1,⟨h2,p1,h3,_,h4,_⟩,_,p2,_,h5,_,h6⟩
  exact ⟨h1,h2,h3,h4,h5,h6⟩
theorem qdp (a b c d x y:Int):qe x y x y a b c d=gX a b c d x y:=by
 rw [Bool.eq_iff_iff]
 unfold qe
 simp only [Bool.and_eq_true,N8,zn]
 constructor
 ·rintro ⟨h1,h2,h3⟩
  exact h2
 ·intro h
  exact ⟨⟨h.2.1,h.2.1,Int.le_refl _,Int.le_refl _⟩,h,h⟩
theorem VI (x:Int) (y:Int) (n:Int):runG ΓBx L0 prog f234 [.v (.agg #[I x,I y]),.v (I n)] M0 =
 (bif !plR x y then some (.v (.agg #[(I 0),(I 0),(I 0),(I 0)]),M0) else some (.v (.agg #[(I (ci (wI (x - ci n (0:Int) (2199023255552:Int))) (-1099511627776:Int) (1099511627776:Int))),(I (ci (wI (y - ci n (0:Int) (2199023255552:Int))) (-1099511627776:Int) (1099511627776:Int))),(I (ci (wI (x+ci n (0:Int) (2199023255552:Int))) (-1099511627776:Int) (1099511627776:Int))),(I (ci (wI (y+ci n (0:Int) (2199023255552:Int))) (-1099511627776:Int) (1099511627776:Int)))]),M0)):=by kernel_rfl
def DH (vs:List Value):Option (Bool×Value) :=
 match vs with
 | [.agg ⟨[.int .i64 x,.int .i64 y]⟩,.int .i64 n]=>some (true,.agg #[I (Cv x y n x),I (Cv x y n y),I (Cw x y n x),I (Cw x y n y)])
 | _=>none
theorem qdS:an 234 DH:=by
 intro vs r h
 unfold DH at h
 split at h
 ·rename_i x y n
  obtain ⟨h1,rfl⟩:=aa h
  refine am (vs:=[.agg #[I x,I y],I n]) (Λ:=L0) (m':=M0) qZ func234 rfl af ?_
  exact (VI x y n).trans (by unfold Cv Cw;cases plR x y<;>rfl)
 ·cases h
def ΓU1:Orc:=ah 234 DH ΓBx
theorem qjx:ΓU1.Ok prog:=ac qZ qdS
def ΓU2:Orc:=ΓU1
theorem qjw:ΓU2.Ok prog:=qjx
def ΓU3:Orc:=ΓU2
theorem Rv:ΓU3.Ok prog:=qjw
theorem VK (a:Int) (b:Int) (c:Int) (d:Int) (a':Int) (b':Int) (c':Int) (d':Int):runG ΓU3 L0 prog f236 [.v (.agg #[I a,I b,I c,I d]),.v (.agg #[I a',I b',I c',I d'])] M0 =
 (bif aU a b c d then (bif aU a' b' c' d' then some (.v (.agg #[(I (if a'<a then a' else a)),(I (if b'<b then b' else b)),(I (if c'>c then c' else c)),(I (if d'>d then d' else d))]),M0) else (bif aU a b c d then some (.v (.agg #[(I a),(I b),(I c),(I d)]),M0) else (bif aU a' b' c' d' then some (.v (.agg #[(I a'),(I b'),(I c'),(I d')]),M0) else some (.v (.agg #[(I 0),(I 0),(I 0),(I 0)]),M0)))) else (bif aU a b c d then some (.v (.agg #[(I a),(I b),(I c),(I d)]),M0) else (bif aU a' b' c' d' then some (.v (.agg #[(I a'),(I b'),(I c'),(I d')]),M0) else some (.v (.agg #[(I 0),(I 0),(I 0),(I 0)]),M0)))):=by kernel_rfl
def DJ (vs:List Value):Option (Bool×Value) :=
 match vs with
 | [.agg ⟨[.int .i64 a,.int .i64 b,.int .i64 c,.int .i64 d]⟩,.agg ⟨[.int .i64 a',.int .i64 b',.int .i64 c',.int .i64 d']⟩]=>some (true,Value.agg #[I (NU a b c d a' b' c' d'),I (NT a b c d a' b' c' d'),I (NS a b c d a' b' c' d'),I (NR a b c d a' b' c' d')])
 | _=>none
theorem qdU:an 236 DJ:=by
 intro vs r h
 unfold DJ at h
 split at h
 ·rename_i a b c d a' b' c' d'
  obtain ⟨h1,rfl⟩:=aa h
  refine am (vs:=[.agg #[I a,I b,I c,I d],.agg #[I a',I b',I c',I d']]) (Λ:=L0) (m':=M0) Rv func236 rfl af ?_
  exact (VK a b c d a' b' c' d').trans (by unfold NU NT NS NR pick;cases aU a b c d<;>cases aU a' b' c' d'<;>rfl)
 ·cases h
def ΓU4:Orc:=ah 236 DJ ΓU3
theorem qjv:ΓU4.Ok prog:=ac Rv qdU
def ΓU5:Orc:=ΓU4
theorem Ru:ΓU5.Ok prog:=qjv
theorem VL (a:Int) (b:Int) (c:Int) (d:Int) (a':Int) (b':Int) (c':Int) (d':Int):runG ΓU5 L0 prog f337 [.v (.agg #[I a,I b,I c,I d]),.v (.agg #[I a',I b',I c',I d'])] M0 =
 (bif !aU a b c d then some (.v (Bo false),M0) else (bif !aU a' b' c' d' then some (.v (Bo false),M0) else (bif decide (a'<=a) then (bif decide (b'<=b) then (bif decide (c<=c') then some (.v (Bo (decide (d<=d'))),M0) else some (.v (Bo false),M0)) else some (.v (Bo false),M0)) else some (.v (Bo false),M0)))):=by kernel_rfl
def DK (vs:List Value):Option (Bool×Value) :=
 match vs with
 | [.agg ⟨[.int .i64 a,.int .i64 b,.int .i64 c,.int .i64 d]⟩,.agg ⟨[.int .i64 a',.int .i64 b',.int .i64 c',.int .i64 d']⟩]=>some (true,Bo (qe a b c d a' b' c' d'))
 | _=>none
theorem qdV:an 337 DK:=by
 intro vs r h
 unfold DK at h
 split at h
 ·rename_i a b c d a' b' c' d'
  obtain ⟨h1,rfl⟩:=aa h
  refine am (vs:=[.agg #[I a,I b,I c,I d],.agg #[I a',I b',I c',I d']]) (Λ:=L0) (m':=M0) Ru func337 rfl af ?_
  exact (VL a b c d a' b' c' d').trans (by rw [<- qdq];cases aU a b c d<;>cases aU a' b' c' d'<;>cases decide (a'<=a)<;>cases decide (b'<=b)<;>cases decide (c<=c')<;>rfl)
 ·cases h
def ΓU6:Orc:=ah 337 DK ΓU5
theorem Rt:ΓU6.Ok prog:=ac Ru qdV
theorem VM (a:Int) (b:Int) (c:Int) (d:Int) (x:Int) (y:Int):runG ΓU6 L0 prog f300 [.v (.agg #[I a,I b,I c,I d]),.v (.agg #[I x,I y])] M0 =
 some (.v (Bo (qe x y x y a b c d)),M0):=by kernel_rfl
def DL (vs:List Value):Option (Bool×Value) :=
 match vs with
 | [.agg ⟨[.int .i64 a,.int .i64 b,.int .i64 c,.int .i64 d]⟩,.agg ⟨[.int .i64 x,.int .i64 y]⟩]=>some (true,Bo (gX a b c d x y))
 | _=>none
theorem qdW:an 300 DL:=by
 intro vs r h
 unfold DL at h
 split at h
 ·rename_i a b c d x y
  obtain ⟨h1,rfl⟩:=aa h
  refine am (vs:=[.agg #[I a,I b,I c,I d],.agg #[I x,I y]]) (Λ:=L0) (m':=M0) Rt func300 rfl af ?_
  exact (VM a b c d x y).trans (vB (qdp a b c d x y))
 ·cases h
def ΓU7:Orc:=ah 300 DL ΓU6
theorem qju:ΓU7.Ok prog:=ac Rt qdW
def ΓU8:Orc:=ΓU7
theorem qjt:ΓU8.Ok prog:=qju
def ΓBo:Orc:=ΓU8
theorem Ae:ΓBo.Ok prog:=qjt
end Go.Proofs.YtainfdcfkgemhaaGreat
