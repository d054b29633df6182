/-
  What is known of this program: the atomics,names;contracts of wide,of point,of box over values,and of the document's.
-/
import Derived.Test.YtainfdcfkgemhaaGreatSx
import Derived.Test.YtainfdcfkgemhaaGreatProg
import Derived.Lib.Strings
import Derived.Lib.Walk
import Derived.Lib.BufferWrite
import Derived.Lib.UnsafeStr
import Derived.Laws.MakeOwn
import Derived.WalkKit
import Derived.Test.YtainfdcfkgemhaaGreatSw
set_option maxRecDepth 100000
noncomputable section
open Go.Proofs.Tryz
namespace Go.Proofs.YtainfdcfkgemhaaGreat
open Go Go.Proofs Go.Sx Go.RowKit
abbrev aQ (n:FuncId) (g:List SV->Mem->Option (Bool×SV×Mem)):Prop:=∀ xs m r m',g xs m=some (true,r,m')->bB prog n xs m r m'
abbrev bk (n:FuncId) (g:List SV->Mem->Option (Bool×Value)):Prop:=∀ xs m r,g xs m=some (true,r)->bB prog n xs m (.v r) m
abbrev am (n:FuncId) (g:List Value->Option (Bool×Value)):Prop:=∀ vs r,g vs=some (true,r)->∀ m,bB prog n (vs.map .v) m (.v r) m
theorem mixed:prog.follows .mixedOrders=true:=by kernel_rfl
theorem names:pO prog=true:=by kernel_rfl
def M0:Mem:=⟨[],[],[]⟩
def I (x:Int):Value:=.int .i64 x
def S (s:ByteArray):Value:=.string s
def Bo (b:Bool):Value:=.bool b
def U8 (x:Int):Value:=.int .u8 x
def bN (x:Int):Value:=.int .u16 x
def cl (x:Int):Value:=.int .u32 x
theorem Td:Ext prog 331 (Extern.Atomic.loadT (.int .i64)):=⟨fun args w=>run_callFunc_extern func331 (by kernel_rfl) (by kernel_rfl) (by kernel_rfl) (by kernel_rfl) args w⟩
def L6:FuncId->List SV->Mem->Option (Bool×Value):=Cp 331 .i64
theorem qaQ:∀ f xs m r,L6 f xs m=some (true,r)->bB prog f xs m (.v r) m:=qdy Td
theorem Te:Ext prog 342 (Extern.Atomic.casT (.int .i64)):=⟨fun args w=>run_callFunc_extern func342 (by kernel_rfl) (by kernel_rfl) (by kernel_rfl) (by kernel_rfl) args w⟩
def PN:FuncId->List SV->Mem->Option (Bool×SV×Mem):=Hm 342 .i64
theorem qiG:∀ f xs m r m',PN f xs m=some (true,r,m')->bB prog f xs m r m':=qiB Te
set_option maxHeartbeats 4000000 in
theorem qit (s:ByteArray) (w:World) (hs:s.size<=281474976710656) :
  Calls prog 226 #[.string s] w fun e w'=>e=.returned (.string s)/\Kp w w':=by
 have fr:∀ {w w':World},Below w.heap.size w w'->Kp w w':=fun h=>⟨h,fun p hp=>h.frozen hp⟩
 by_cases h0:s.size=0
 ·obtain rfl:s=⟨#[]⟩:=ByteArray.ext (Array.eq_empty_of_size_eq_zero h0)
  go_enter func226,Tryz.ntmps226
  go_wp2
  go_ret
  exact ⟨rfl,fr (Below.refl _ _)⟩
 ·obtain ⟨ti,hti,tz,ts,tb⟩:∃ i,prog.info? 5=some i/\i.zero=some (.int .u8 0)/\i.size=1/\i.bytes=1:=⟨_,rfl,rfl,rfl,rfl⟩
  have one:(prog.info? 5).map (·.size)=some 1:=by rw [hti];simp [ts]
  have cells1:prog.cellsOf 5=1:=by simp [Program.cellsOf,hti,ts]
  generalize hM:madeCells (Value.int .u8 0).cells (((s.size:Nat):Int).toNat*ti.size)=M
  have sizeM:M.size=s.size:=by rw [<- hM,size_madeCells,ts];simp
  have making:∀ W:World,(Instr.makeSlice 109 (.int .i64 (s.size:Int)) (.int .i64 (s.size:Int))).run prog W=.ok (.slice (some ⟨W.heap.size,0,none⟩) s.size s.size) (W.alloc (.cells M 5)):=by
   intro W
   have:=run_make (P:=prog) W 109 5 ti (.int .u8 0) Tryz.underlying109 hti tz .i64 .i64 (s.size:Int) (s.size:Int) (by omega) (by omega) (by rw [tb];omega) (by omega)
   rw [hM] at this
   simpa using this
  have copying:=Lib.run_copy_row_string (P:=prog) (w.alloc (.cells M 5)) 109 9 3 5 w.heap.size 0 s.size s.size s M 5 Tryz.underlying109 one (heap_alloc_new w _) (Nat.le_refl _) (by omega)
  generalize hY:(M.toList.take 0++Lib.byteCells s.data.toList++M.toList.drop (0+s.size)).toArray=Y at copying
  have listY:Y.toList=Lib.byteCells s.data.toList:=by
   rw [<- hY,List.toList_toArray,List.take_zero,List.nil_append,List.drop_of_length_le (by rw [Array.length_toList];omega),List.append_nil]
  have sizeY:Y.size=s.size:=by rw [<- Array.length_toList,listY,Lib.byteCells_length,<- Lib.size_eq]
  have there:((w.alloc (.cells M 5)).setRow w.heap.size Y).heap[w.heap.size]?=some (.cells Y 5 (0,0)):=setRow_heap _ _ M _ 5 (0,0) (heap_alloc_new w _)
  have some1:s.data.toList≠[]:=fun e=>h0 (by rw [Lib.size_eq,e];rfl)
  have sharing:=Lib.run_unsafeString_row (P:=prog) ((w.alloc (.cells M 5)).setRow w.heap.size Y) 269 3 9 5 Tryz.underlying269 cells1 w.heap.size Y.size (by unfold World.shape?;rw [there]) s.data.toList some1 (by rw [<- Lib.size_eq];omega) (by rw [<- Lib.size_eq];omega)
   (fun j x hx=>Lib.cells_of_row there Y.size j _ (by rw [List.take_of_length_le (by rw [Array.length_toList];exact Nat.le_refl _),listY];simp [Lib.byteCells,hx]))
  rw [<- Lib.size_eq] at sharing
  clear hM hY
  go_enter func226,Tryz.ntmps226
  go_wp2
  go_ret
  have b1:Below w.heap.size w (w.alloc (.cells M 5)):=(Below.refl _ w).alloc (Nat.le_refl _) _
  have b2:Below w.heap.size (w.alloc (.cells M 5)) ((w.alloc (.cells M 5)).setRow w.heap.size Y):=⟨rfl,rfl,rfl,by simp,fun k hk=>setRow_other _ _ _ _ (by omega)⟩
  exact ⟨rfl,fr (Lib.below_freeze (b1.trans b2) (p:=⟨w.heap.size,0,none⟩) (Nat.le_refl _) _)⟩
def Gm (vs:List Value):Option (Bool×Value) :=
 match vs with
 | [.string s]=>some (Nat.ble s.size 281474976710656,S s)
 | _=>none
theorem qg3:am 226 Gm:=by
 intro vs r h
 unfold Gm at h
 split at h
 ·rename_i s
  obtain ⟨h1,rfl⟩:=ab h
  exact Hn prog fun w=>.inr ⟨ot func226 rfl (nF names func226 rfl) w,qit s w (Nat.le_of_ble_eq_true h1)⟩
 ·cases h
def Kn:FuncId->List Value->Option (Bool×Value):=vj 226 Gm
theorem Ty:H1 prog Kn:=KE qg3
def good:List TypeId :=
 284 ::
 151 ::
 56 ::
 172 ::
 238 ::
 41 ::
 46 ::
 162 ::
 277 ::
 399 ::
 436 ::
 52 ::
 []
def sJ (f:FuncId):Bool :=
 Nat.beq f 381 ||
 Nat.beq f 267 ||
 false
theorem qd1:good.all (kc prog)=true:=by kernel_rfl
def ΓA:Orc:=qV (rR Kn) { call:=PN,eqv:=yM prog good,rd:=L6,unr:=8,wr:=sJ }
theorem SI:ΓA.Ok prog:=Qp ⟨qiG,qaQ,fun t xs ys r h w op x y hop=>O5 qd1 t xs ys r h w op x y hop,fun _ _ _ _ _ _ h=>by cases h⟩ Ty
theorem aj {Γ:Orc} {Λ:aV} (hΓ:Γ.Ok prog) {f:FuncId} {fn:Func} {c:Code} (hf:prog.funcs[f]?=some fn) (hb:fn.body=some c) {xs:List SV} {m m':Mem} {r:SV}
 (hL:∀ z,z.L.length=m.blk.length->z.U.length=m.rows.length->∀ b∈aF c,aS Λ prog z b) (h:runG Γ Λ prog fn xs m=some (r,m')):bB prog f xs m r m':=Hp hΓ mixed names hf hb hL h
theorem ak {Γ:Orc} {Λ:aV} (hΓ:Γ.Ok prog) {f:FuncId} {fn:Func} {c:Code} (hf:prog.funcs[f]?=some fn) (hb:fn.body=some c) {vs:List Value} {r:Value} {m':Mem}
 (hL:∀ z:Base,z.L.length=0->z.U.length=0->∀ b∈aF c,aS Λ prog z b) (h:runG Γ Λ prog fn (vs.map .v) M0=some (.v r,m')):∀ m,bB prog f (vs.map .v) m (.v r) m:=Tx hΓ mixed names hf hb hL h
end Go.Proofs.YtainfdcfkgemhaaGreat
namespace Go.Proofs.YtainfdcfkgemhaaGreat
open Go Go.Proofs Go.Sx
def MC (a b:Int):Mem:=⟨[[.v (I a),.v (I b)]],[true],[]⟩
def aR (x y:Int):Int:=if (if y<x then y else x)>0 then (if y<x then y else x) else 0
def Fr (xs:List SV) (m:Mem):Option (Bool×Value) :=
 match xs,m with
 | [.ptr 0 1],⟨[[.v (.int .i64 _),.v (.int .i64 b)]],[true],[]⟩=>some (true,I b)
 | _,_=>none
theorem qf8:bk 284 Fr:=by
 intro xs m r h
 unfold Fr at h
 split at h
 ·rename_i a b
  obtain ⟨_,rfl⟩:=ab h
  refine aj (Λ:=L0) SI func284 rfl (fun z _ _=>bg (by kernel_rfl) z) ?_
  kernel_rfl
 ·cases h
def ΓC1:Orc:=aU 284 Fr ΓA
theorem SB:ΓC1.Ok prog:=aO SI qf8
def Gp (vs:List Value):Option (Bool×Value) :=
 match vs with
 | [.int .i64 x,.int .i64 y]=>some (true,I (aR x y))
 | _=>none
theorem qg6:am 118 Gp:=by
 intro vs r h
 unfold Gp at h
 split at h
 ·rename_i x y
  obtain ⟨_,rfl⟩:=ab h
  refine ak (Λ:=L0) (m':=M0) SB func118 rfl (fun z _ _=>bg (by kernel_rfl) z) ?_
  kernel_rfl
 ·cases h
def ΓC2:Orc:=ah 118 Gp ΓC1
theorem I3:ΓC2.Ok prog:=af SB qg6
def Do (xs:List SV) (m:Mem):Option (Bool×Value) :=
 match xs,m with
 | [.ptr 0 0],⟨[[.v (.int .i64 _),.v (.int .i64 b)]],[true],[]⟩=>some (true,I b)
 | [.v (.pointer none)],_=>some (true,I 0)
 | _,_=>none
theorem qel:bk 221 Do:=by
 intro xs m r h
 unfold Do at h
 split at h
 ·rename_i a b
  obtain ⟨_,rfl⟩:=ab h
  refine aj (Λ:=L0) I3 func221 rfl (fun z _ _=>bg (by kernel_rfl) z) ?_
  kernel_rfl
 ·obtain ⟨_,rfl⟩:=ab h
  refine ak (vs:=[.pointer none]) (Λ:=L0) (m':=M0) I3 func221 rfl (fun z _ _=>bg (by kernel_rfl) z) ?_ m
  kernel_rfl
 ·cases h
def ΓC3:Orc:=aU 221 Do ΓC2
theorem Sz:ΓC3.Ok prog:=aO I3 qel
def Gt (xs:List SV) (m:Mem):Option (Bool×SV×Mem) :=
 match xs,m with
 | [.ptr 0 1,.v (.int .i64 x),.v (.int .i64 y)],⟨[[.v (.int .i64 a),.v (.int .i64 b)]],[true],[]⟩=>some (true,.v (Bo (b==x)),MC a (bif b==x then y else b))
 | _,_=>none
theorem qha:aQ 307 Gt:=by
 intro xs m r m' h
 unfold Gt at h
 split at h
 ·rename_i x y a b
  obtain ⟨_,rfl,rfl⟩:=aw h
  refine aj (Λ:=L0) Sz func307 rfl (fun z _ _=>bg (by kernel_rfl) z) ?_
  kernel_rfl
 ·cases h
def ΓC4:Orc:=aC 307 Gt ΓC3
theorem Sy:ΓC4.Ok prog:=aA Sz qha
def Ey (xs:List SV) (m:Mem):Option (Bool×Value) :=
 match xs,m with
 | [.ptr 0 0,.v (.int .i64 v),.v (.int .i64 n)],⟨[[.v (.int .i64 a),.v (.int .i64 _)]],[true],[]⟩=>some (true,I (wI (v+aR n (wI (a - v)))))
 | _,_=>none
theorem qfi:bk 306 Ey:=by
 intro xs m r h
 unfold Ey at h
 split at h
 ·rename_i v n a b
  obtain ⟨_,rfl⟩:=ab h
  refine aj (Λ:=L0) Sy func306 rfl (fun z _ _=>bg (by kernel_rfl) z) ?_
  kernel_rfl
 ·cases h
def ΓC5:Orc:=aU 306 Ey ΓC4
theorem I2:ΓC5.Ok prog:=aO Sy qfi
def au (a v n:Int):Int:=wI (v+aR n (wI (a - v)))
def sZ:List Bool:=aB 24 [0,1]
def sY:List Bool:=aB 24 [4]
def uh:Code:=ch (f242.body.getD .skip) 0
theorem qcI:aF (f242.body.getD .skip)=[uh]:=by kernel_rfl
theorem qcH:aF uh=[]:=by kernel_rfl
theorem UT (a v n:Int) (k:Nat):an ΓC5 prog L0 (ac 1 0 sZ) uh (k+1) (mk sZ [.ptr 0 0,.v (I n)] (MC a v)) (fun e st=>some (e,ac 1 0 sY st)) =
 bif v==v then some (.ret,mk sY [.v (I (au a v n))] (MC a (bif v==v then au a v n else v))) else
  an ΓC5 prog L0 (ac 1 0 sZ) uh k (mk sZ [.ptr 0 0,.v (I n)] (MC a (bif v==v then au a v n else v))) (fun e st=>some (e,ac 1 0 sY st)):=by kernel_rfl
def JZ (vals:List SV) (m:Mem):Option (Bool×Ex×St) :=
 match vals,m with
 | [.ptr 0 0,.v (.int .i64 n)],⟨[[.v (.int .i64 a),.v (.int .i64 v)]],[true],[]⟩=>some (true,.ret,mk sY [.v (I (au a v n))] (MC a (au a v n)))
 | _,_=>none
def ΛAdd:aV:=fun _ st=>cJ 1 0 sZ JZ st
theorem qdp (z:Base) (h1:z.L.length=1) (h2:z.U.length=0):aS ΛAdd prog z uh:=by
 refine du (Λ:=L0) (kx:=fun _=>sY) I2 mixed h1 h2 (fun b hb=>by rw [qcH] at hb;cases hb) (G:=JZ) (fun _=>rfl) ?_
 intro vals m e st' h
 unfold JZ at h
 split at h
 ·rename_i n a v
  obtain ⟨_,rfl,rfl⟩:=aw h
  refine ⟨1,(UT a v n 0).trans ?_⟩
  simp only [beq_self_eq_true,cond_true]
 ·cases h
def GO (xs:List SV) (m:Mem):Option (Bool×SV×Mem) :=
 match xs,m with
 | [.ptr 0 0,.v (.int .i64 n)],⟨[[.v (.int .i64 a),.v (.int .i64 v)]],[true],[]⟩=>some (true,.v (I (au a v n)),MC a (au a v n))
 | _,_=>none
theorem qht:aQ 242 GO:=by
 intro xs m r m' h
 unfold GO at h
 split at h
 ·rename_i n a v
  obtain ⟨_,rfl,rfl⟩:=aw h
  refine aj (Λ:=ΛAdd) I2 func242 rfl (fun z h1 h2=>bR (c:=f242.body.getD .skip) qcI (qdp z h1 h2)) ?_
  kernel_rfl
 ·cases h
def ΓC6:Orc:=aC 242 GO ΓC5
theorem Sw:ΓC6.Ok prog:=aA I2 qht
def E9 (xs:List SV) (m:Mem):Option (Bool×SV×Mem) :=
 match xs,m with
 | [.v (.int .i64 n)],⟨[],[],[]⟩=>some (true,.ptr 0 0,MC (aR n 1000000) 0)
 | _,_=>none
theorem qfU:aQ 60 E9:=by
 intro xs m r m' h
 unfold E9 at h
 split at h
 ·rename_i n
  obtain ⟨_,rfl,rfl⟩:=aw h
  refine aj (Λ:=L0) Sw func60 rfl (fun z _ _=>bg (by kernel_rfl) z) ?_
  kernel_rfl
 ·cases h
def ΓC:Orc:=aC 60 E9 ΓC6
theorem zT:ΓC.Ok prog:=aA Sw qfU
end Go.Proofs.YtainfdcfkgemhaaGreat
namespace Go.Proofs.YtainfdcfkgemhaaGreat
open Go Go.Proofs Go.Sx
set_option linter.unusedVariables false
abbrev UU (x:Int):Value:=.int .u64 x
theorem gq {a b:Value} (h:a=b):(some (SV.v a,M0):Option (SV×Mem))=some (.v b,M0):=by rw [h]
theorem l0Ok' (c:Code) (z:Base):∀ b∈aF c,aS L0 prog z b:=fun b _ st t h=>by cases h
theorem ai {c:Code} {p q:Base->Prop}:∀ z,p z->q z->∀ b∈aF c,aS L0 prog z b:=fun z _ _=>l0Ok' _ z
def GN (vs:List Value):Option (Bool×Value) :=
 match vs with
 | [.int .u64 x,.int .u64 y,.int .u64 c]=>some (decide (0<=x/\0<=y/\0<=c/\c<=1),.tuple #[UU (gJ x y c),UU (fM x y c)])
 | _=>none
theorem qhu:am 354 GN:=by
 intro vs r h
 unfold GN at h
 split at h
 ·rename_i x y c
  obtain ⟨h1,rfl⟩:=ab h
  refine Hn prog fun w=>.inl ?_
  have hc:0<=x/\0<=y/\0<=c/\c<=1:=by simpa using h1
  rw [run_callFunc_extern func354 (by kernel_rfl) (by kernel_rfl) (by kernel_rfl) (e:=add64Entry) (by kernel_rfl)]
  rw [show (List.toArray [Value.int .u64 x,.int .u64 y,.int .u64 c])=#[Value.int .u64 x,.int .u64 y,.int .u64 c] from rfl,run_add64 x y c hc.1 hc.2.1 hc.2.2.1 hc.2.2.2]
  rfl
 ·cases h
def ΓW1:Orc:=ah 354 GN ΓC
theorem qkl:ΓW1.Ok prog:=af zT qhu
def ΓW2:Orc:=ΓW1
theorem Ra:ΓW2.Ok prog:=qkl
theorem VB (a b:Int):runG ΓW2 L0 prog f355 [.v (Wd a b)] M0=some (.v (Bo (decide (a<0))),M0):=by kernel_rfl
def Df (vs:List Value):Option (Bool×Value) :=
 match vs with
 | [.agg ⟨[.int .i64 a,.int .u64 b]⟩]=>some (true,Bo (decide (a<0)))
 | _=>none
theorem qec:am 355 Df:=by
 intro vs r h
 unfold Df at h
 split at h
 ·rename_i a b
  obtain ⟨h1,rfl⟩:=ab h
  refine ak (vs:=[Wd a b]) (Λ:=L0) (m':=M0) Ra func355 rfl ai ?_
  exact (VB a b).trans (rfl)
 ·cases h
def ΓW3:Orc:=ah 355 Df ΓW2
theorem Q9:ΓW3.Ok prog:=af Ra qec
theorem Yl (a:Int):runG ΓW3 L0 prog f379 [.v (I a)] M0=some (.v (Bo (a != a)),M0):=by kernel_rfl
def Fb (vs:List Value):Option (Bool×Value) :=
 match vs with
 | [.int .i64 a]=>some (true,Bo false)
 | _=>none
theorem qfW:am 379 Fb:=by
 intro vs r h
 unfold Fb at h
 split at h
 ·rename_i a
  obtain ⟨h1,rfl⟩:=ab h
  refine ak (vs:=[I a]) (Λ:=L0) (m':=M0) Q9 func379 rfl ai ?_
  exact (Yl a).trans (by simp)
 ·cases h
def ΓW4:Orc:=ah 379 Fb ΓW3
theorem Q8:ΓW4.Ok prog:=af Q9 qfW
theorem Yk (a:Int):runG ΓW4 L0 prog f380 [.v (UU a)] M0=some (.v (Bo (a != a)),M0):=by kernel_rfl
def Fa (vs:List Value):Option (Bool×Value) :=
 match vs with
 | [.int .u64 a]=>some (true,Bo false)
 | _=>none
theorem qfV:am 380 Fa:=by
 intro vs r h
 unfold Fa at h
 split at h
 ·rename_i a
  obtain ⟨h1,rfl⟩:=ab h
  refine ak (vs:=[UU a]) (Λ:=L0) (m':=M0) Q8 func380 rfl ai ?_
  exact (Yk a).trans (by simp)
 ·cases h
def ΓW5:Orc:=ah 380 Fa ΓW4
theorem Q7:ΓW5.Ok prog:=af Q8 qfV
theorem Yr (x y:Int):runG ΓW5 L0 prog f185 [.v (UU x),.v (UU y)] M0 =
 (let U:=IntKind.u64.wrap;let A:=fun z:Int=>U ((BitVec.ofInt 64 z &&& BitVec.ofInt 64 4294967295).toNat:Int);let S:=fun z:Int=>z.fdiv (2 ^ 32);let w0:=U (A x*A y);let t:=U (U (S x*A y)+S w0);let w1:=U (A t+U (A x*S y));some (.v (.tuple #[UU (U (U (U (S x*S y)+S t)+S w1)),UU (U (x*y))]),M0)):=by kernel_rfl
def xY (vs:List Value):Option (Bool×Value) :=
 match vs with
 | [.int .u64 x,.int .u64 y]=>some (a7 x&&a7 y,.tuple #[UU (x*y / 18446744073709551616),UU (x*y % 18446744073709551616)])
 | _=>none
theorem xX:am 185 xY:=by
 intro vs r h
 unfold xY at h
 split at h
 ·rename_i x y
  obtain ⟨h1,rfl⟩:=ab h
  refine ak (vs:=[UU x,UU y]) (Λ:=L0) (m':=M0) Q7 func185 rfl ai ?_
  exact (Yr x y).trans (by
   rw [Bool.and_eq_true] at h1
   obtain ⟨e1,e2⟩:=qbL x y h1.1 h1.2
   exact gq (by show Value.tuple #[UU _,UU _]=_;rw [e1,e2]))
 ·cases h
def ΓW6:Orc:=ah 185 xY ΓW5
theorem Iq:ΓW6.Ok prog:=af Q7 xX
theorem Ly (x y:Int):runG ΓW6 L0 prog f116 [.v (UU x),.v (UU y)] M0=bif a7 x&&a7 y then some (.v (.tuple #[UU (x*y / 18446744073709551616),UU (x*y % 18446744073709551616)]),M0) else none:=by kernel_rfl
def Fg (vs:List Value):Option (Bool×Value) :=
 match vs with
 | [.int .u64 x,.int .u64 y]=>some (a7 x&&a7 y,.tuple #[UU (x*y / 18446744073709551616),UU (x*y % 18446744073709551616)])
 | _=>none
theorem qf1:am 116 Fg:=by
 intro vs r h
 unfold Fg at h
 split at h
 ·rename_i x y
  obtain ⟨h1,rfl⟩:=ab h
  refine ak (vs:=[UU x,UU y]) (Λ:=L0) (m':=M0) Iq func116 rfl ai ?_
  exact (Ly x y).trans (by rw [h1];rfl)
 ·cases h
def ΓW7:Orc:=ah 116 Fg ΓW6
theorem Q6:ΓW7.Ok prog:=af Iq qf1
theorem ZH (x y:Int):runG ΓW7 L0 prog f368 [.v (I x),.v (I y)] M0=bif decide (x<y) then some (.v (I (-1)),M0) else (bif decide (x>y) then some (.v (I 1),M0) else some (.v (I 0),M0)):=by kernel_rfl
def Gj (vs:List Value):Option (Bool×Value) :=
 match vs with
 | [.int .i64 x,.int .i64 y]=>some (true,I (dY x y))
 | _=>none
theorem qg1:am 368 Gj:=by
 intro vs r h
 unfold Gj at h
 split at h
 ·rename_i x y
  obtain ⟨h1,rfl⟩:=ab h
  refine ak (vs:=[I x,I y]) (Λ:=L0) (m':=M0) Q6 func368 rfl ai ?_
  exact (ZH x y).trans (by
   unfold dY
   cases decide (x<y)
   ·show _=some (SV.v (I (bif decide (x>y) then 1 else 0)),M0)
    cases decide (x>y)<;>rfl
   ·rfl)
 ·cases h
def ΓW8:Orc:=ah 368 Gj ΓW7
theorem Q5:ΓW8.Ok prog:=af Q6 qg1
theorem ZG (x y:Int):runG ΓW8 L0 prog f369 [.v (UU x),.v (UU y)] M0=bif decide (x<y) then some (.v (I (-1)),M0) else (bif decide (x>y) then some (.v (I 1),M0) else some (.v (I 0),M0)):=by kernel_rfl
def Gi (vs:List Value):Option (Bool×Value) :=
 match vs with
 | [.int .u64 x,.int .u64 y]=>some (true,I (dY x y))
 | _=>none
theorem qg0:am 369 Gi:=by
 intro vs r h
 unfold Gi at h
 split at h
 ·rename_i x y
  obtain ⟨h1,rfl⟩:=ab h
  refine ak (vs:=[UU x,UU y]) (Λ:=L0) (m':=M0) Q5 func369 rfl ai ?_
  exact (ZG x y).trans (by
   unfold dY
   cases decide (x<y)
   ·show _=some (SV.v (I (bif decide (x>y) then 1 else 0)),M0)
    cases decide (x>y)<;>rfl
   ·rfl)
 ·cases h
def ΓW9:Orc:=ah 369 Gi ΓW8
theorem Q4:ΓW9.Ok prog:=af Q5 qg0
theorem VA (n:Int):runG ΓW9 L0 prog f322 [.v (I n)] M0=some (.v (Wd (n.fdiv (2 ^ 63)) (IntKind.u64.wrap n)),M0):=by kernel_rfl
def De (vs:List Value):Option (Bool×Value) :=
 match vs with
 | [.int .i64 n]=>some (bf n,Wn n)
 | _=>none
theorem qeb:am 322 De:=by
 intro vs r h
 unfold De at h
 split at h
 ·rename_i n
  obtain ⟨h1,rfl⟩:=ab h
  refine ak (vs:=[I n]) (Λ:=L0) (m':=M0) Q4 func322 rfl ai ?_
  exact (VA n).trans (by
   rw [ew] at h1
   obtain ⟨_,h2,h3⟩:=kH (n:=n) (by omega) (by omega)
   refine gq (kt ?_ ?_)
   ·rw [h2,Int.fdiv_eq_ediv_of_nonneg _ (by decide),show (2:Int) ^ 63=9223372036854775808 from by decide]
    omega
   ·rw [h3,wrU])
 ·cases h
def ΓW10:Orc:=ah 322 De ΓW9
theorem Rg:ΓW10.Ok prog:=af Q4 qeb
theorem VF (a b c d:Int):runG ΓW10 L0 prog f321 [.v (Wd a b),.v (Wd c d)] M0 =
 (bif decide ((0:Int)<=b/\(0:Int)<=d/\(0:Int)<=(0:Int)/\(0:Int)<=(1:Int)) then (bif decide ((0:Int)<=IntKind.u64.wrap a/\(0:Int)<=IntKind.u64.wrap c/\(0:Int)<=fM b d (0:Int)/\fM b d (0:Int)<=(1:Int)) then (bif decide (a<(0:Int))==decide (c<(0:Int)) then (bif !decide (wI (gJ (IntKind.u64.wrap a) (IntKind.u64.wrap c) (fM b d (0:Int)))<(0:Int))==decide (a<(0:Int)) then some (.v (.tuple #[(.agg #[(I 0),(.int .u64 0)]),(Bo false)]),M0) else some (.v (.tuple #[(.agg #[(I (wI (gJ (IntKind.u64.wrap a) (IntKind.u64.wrap c) (fM b d (0:Int))))),(.int .u64 (gJ b d (0:Int)))]),(Bo true)]),M0)) else some (.v (.tuple #[(.agg #[(I (wI (gJ (IntKind.u64.wrap a) (IntKind.u64.wrap c) (fM b d (0:Int))))),(.int .u64 (gJ b d (0:Int)))]),(Bo true)]),M0)) else none) else none):=by kernel_rfl
def Dj (vs:List Value):Option (Bool×Value) :=
 match vs with
 | [.agg ⟨[.int .i64 a,.int .u64 b]⟩,.agg ⟨[.int .i64 c,.int .u64 d]⟩]=>some (bV a b&&bV c d,.tuple #[Wn (wv a b+wv c d),Bo (c5 (wv a b+wv c d))])
 | _=>none
theorem qeg:am 321 Dj:=by
 intro vs r h
 unfold Dj at h
 split at h
 ·rename_i a b c d
  obtain ⟨h1,rfl⟩:=ab h
  refine ak (vs:=[Wd a b,Wd c d]) (Λ:=L0) (m':=M0) Rg func321 rfl ai ?_
  exact (VF a b c d).trans (by
   rw [Bool.and_eq_true] at h1
   obtain ⟨⟨k0,k1⟩,k2,k3⟩:=qjt a b c d h1.1 h1.2
   have i1:=jk.1 h1.1
   have i2:=jk.1 h1.2
   have u1:=fy.1 (nX a)
   have u2:=fy.1 (nX c)
   rw [decide_eq_true (show (0:Int)<=b/\(0:Int)<=d/\(0:Int)<=0/\(0:Int)<=1 by omega),decide_eq_true (show (0:Int)<=IntKind.u64.wrap a/\(0:Int)<=IntKind.u64.wrap c/\(0:Int)<=fM b d 0/\fM b d 0<=(1:Int) by omega)]
   simp only [cond_true]
   cases ho:c5 (wv a b+wv c d) with
   | true =>
    obtain ⟨e1,e2⟩:=k3 ho
    rw [ho,Bool.not_true] at k2
    cases hs:decide (a<0)==decide (c<0) with
    | false=>exact gq (AG e1 e2 rfl)
    | true =>
     rw [hs,Bool.true_and] at k2
     have k2':(!decide (wI (gJ (IntKind.u64.wrap a) (IntKind.u64.wrap c) (fM b d 0))<0)==decide (a<0))=false:=k2
     rw [k2']
     exact gq (AG e1 e2 rfl)
   | false =>
    rw [ho,Bool.not_false,Bool.and_eq_true] at k2
    have k2':(!decide (wI (gJ (IntKind.u64.wrap a) (IntKind.u64.wrap c) (fM b d 0))<0)==decide (a<0))=true:=k2.2
    rw [k2.1,k2']
    obtain ⟨_,e1,e2⟩:=qbt (n:=wv a b+wv c d) (by have:=of_decide_eq_false ho;omega)
    exact gq (AG e1.symm e2.symm rfl))
 ·cases h
def ΓW11:Orc:=ah 321 Dj ΓW10
theorem Rf:ΓW11.Ok prog:=af Rg qeg
theorem VD (a b:Int):runG ΓW11 L0 prog f323 [.v (Wd a b)] M0 =
 (bif bf (wI b) then (bif !(aY (wI b)==a&&(aZ (wI b)==b&&true)) then some (.v (.tuple #[(I 0),(Bo false)]),M0) else some (.v (.tuple #[(I (wI b)),(Bo true)]),M0)) else none):=by kernel_rfl
def Dh (vs:List Value):Option (Bool×Value) :=
 match vs with
 | [.agg ⟨[.int .i64 a,.int .u64 b]⟩]=>some (bV a b,.tuple #[I (jP (wv a b)),Bo (bf (wv a b))])
 | _=>none
theorem qee:am 323 Dh:=by
 intro vs r h
 unfold Dh at h
 split at h
 ·rename_i a b
  obtain ⟨h1,rfl⟩:=ab h
  refine ak (vs:=[Wd a b]) (Λ:=L0) (m':=M0) Rf func323 rfl ai ?_
  exact (VD a b).trans (by
   obtain ⟨k1,k2,k3⟩:=qdN a b h1
   have k2':(aY (wI b)==a&&(aZ (wI b)==b&&true))=bf (wv a b):=k2
   rw [show bf (wI b)=true from k1,k2']
   cases hq:bf (wv a b) with
   | true=>exact gq (inB ((k3 hq).trans (by simp [jP,hq])) rfl)
   | false=>exact gq (inB (by simp [jP,hq]) rfl))
 ·cases h
def ΓW12:Orc:=ah 323 Dh ΓW11
theorem Re:ΓW12.Ok prog:=af Rf qee
theorem VE (a b c d:Int):runG ΓW12 L0 prog f353 [.v (Wd a b),.v (Wd c d)] M0 =
 (bif dY a c != (0:Int) then some (.v (I (dY a c)),M0) else some (.v (I (dY b d)),M0)):=by kernel_rfl
def Di (vs:List Value):Option (Bool×Value) :=
 match vs with
 | [.agg ⟨[.int .i64 a,.int .u64 b]⟩,.agg ⟨[.int .i64 c,.int .u64 d]⟩]=>some (bV a b&&bV c d,I (dY (wv a b) (wv c d)))
 | _=>none
theorem qef:am 353 Di:=by
 intro vs r h
 unfold Di at h
 split at h
 ·rename_i a b c d
  obtain ⟨h1,rfl⟩:=ab h
  refine ak (vs:=[Wd a b,Wd c d]) (Λ:=L0) (m':=M0) Re func353 rfl ai ?_
  exact (VE a b c d).trans (by
   rw [Bool.and_eq_true] at h1
   rw [<- qiu h1.1 h1.2]
   cases dY a c != 0<;>rfl)
 ·cases h
def ΓW13:Orc:=ah 353 Di ΓW12
theorem Rd:ΓW13.Ok prog:=af Re qef
theorem VC (a b:Int):runG ΓW13 L0 prog f316 [.v (I a),.v (I b)] M0 =
 (bif a7 (IntKind.u64.wrap a)&&a7 (IntKind.u64.wrap b) then (bif decide (a<(0:Int)) then (bif decide (b<(0:Int)) then some (.v (.agg #[(I (wI (IntKind.u64.wrap (IntKind.u64.wrap (IntKind.u64.wrap a*IntKind.u64.wrap b / (18446744073709551616:Int) - IntKind.u64.wrap b) - IntKind.u64.wrap a)))),(.int .u64 (IntKind.u64.wrap a*IntKind.u64.wrap b % (18446744073709551616:Int)))]),M0) else some (.v (.agg #[(I (wI (IntKind.u64.wrap (IntKind.u64.wrap a*IntKind.u64.wrap b / (18446744073709551616:Int) - IntKind.u64.wrap b)))),(.int .u64 (IntKind.u64.wrap a*IntKind.u64.wrap b % (18446744073709551616:Int)))]),M0)) else (bif decide (b<(0:Int)) then some (.v (.agg #[(I (wI (IntKind.u64.wrap (IntKind.u64.wrap a*IntKind.u64.wrap b / (18446744073709551616:Int) - IntKind.u64.wrap a)))),(.int .u64 (IntKind.u64.wrap a*IntKind.u64.wrap b % (18446744073709551616:Int)))]),M0) else some (.v (.agg #[(I (wI (IntKind.u64.wrap a*IntKind.u64.wrap b / (18446744073709551616:Int)))),(.int .u64 (IntKind.u64.wrap a*IntKind.u64.wrap b % (18446744073709551616:Int)))]),M0))) else none):=by kernel_rfl
def Dg (vs:List Value):Option (Bool×Value) :=
 match vs with
 | [.int .i64 a,.int .i64 b]=>some (bf a&&bf b,Wn (a*b))
 | _=>none
theorem qed:am 316 Dg:=by
 intro vs r h
 unfold Dg at h
 split at h
 ·rename_i a b
  obtain ⟨h1,rfl⟩:=ab h
  refine ak (vs:=[I a,I b]) (Λ:=L0) (m':=M0) Rd func316 rfl ai ?_
  exact (VC a b).trans (by
   rw [nX,nX]
   rw [Bool.and_eq_true] at h1
   have k:=qbI a b h1.1 h1.2
   refine Eq.trans ?_ (gq k)
   cases decide (a<0)<;>cases decide (b<0)<;>rfl)
 ·cases h
def ΓW14:Orc:=ah 316 Dg ΓW13
theorem Rc:ΓW14.Ok prog:=af Rd qed
theorem Zp (a b:Int) (o:Bool):runG ΓW14 L0 prog f320 [.v (Wd a b),.v (Bo o)] M0 =
 (bif !o then some (.v (.tuple #[(I 0),(Bo false)]),M0) else (bif bV a b then some (.v (.tuple #[(I (jP (wv a b))),(Bo (bf (wv a b)))]),M0) else none)):=by kernel_rfl
def F2 (vs:List Value):Option (Bool×Value) :=
 match vs with
 | [.agg ⟨[.int .i64 a,.int .u64 b]⟩,.bool o]=>some (bV a b,.tuple #[I (bif o then jP (wv a b) else 0),Bo (o&&bf (wv a b))])
 | _=>none
theorem qgK:am 320 F2:=by
 intro vs r h
 unfold F2 at h
 split at h
 ·rename_i a b o
  obtain ⟨h1,rfl⟩:=ab h
  refine ak (vs:=[Wd a b,Bo o]) (Λ:=L0) (m':=M0) Rc func320 rfl ai ?_
  exact (Zp a b o).trans (by
   cases o with
   | false=>rfl
   | true=>rw [h1];rfl)
 ·cases h
def ΓW15:Orc:=ah 320 F2 ΓW14
theorem Rb:ΓW15.Ok prog:=af Rc qgK
theorem Zu (a b:Int):runG ΓW15 L0 prog f261 [.v (I a),.v (I b)] M0 =
 (bif bf a then (bif bf b then (bif bV (aY a) (aZ a)&&bV (aY b) (aZ b) then (bif bV (aY (wv (aY a) (aZ a)+wv (aY b) (aZ b))) (aZ (wv (aY a) (aZ a)+wv (aY b) (aZ b))) then some (.v (.tuple #[(I (bif c5 (wv (aY a) (aZ a)+wv (aY b) (aZ b)) then jP (wv (aY (wv (aY a) (aZ a)+wv (aY b) (aZ b))) (aZ (wv (aY a) (aZ a)+wv (aY b) (aZ b)))) else (0:Int))),(Bo (c5 (wv (aY a) (aZ a)+wv (aY b) (aZ b))&&bf (wv (aY (wv (aY a) (aZ a)+wv (aY b) (aZ b))) (aZ (wv (aY a) (aZ a)+wv (aY b) (aZ b))))))]),M0) else none) else none) else none) else none):=by kernel_rfl
def F5 (vs:List Value):Option (Bool×Value) :=
 match vs with
 | [.int .i64 a,.int .i64 b]=>some (bf a&&bf b,.tuple #[I (jP (a+b)),Bo (bf (a+b))])
 | _=>none
theorem qgN:am 261 F5:=by
 intro vs r h
 unfold F5 at h
 split at h
 ·rename_i a b
  obtain ⟨h1,rfl⟩:=ab h
  refine ak (vs:=[I a,I b]) (Λ:=L0) (m':=M0) Rb func261 rfl ai ?_
  exact (Zu a b).trans (by
   rw [Bool.and_eq_true] at h1
   have i1:=ew.1 h1.1
   have i2:=ew.1 h1.2
   obtain ⟨o,_,_⟩:=kH (n:=a+b) (by omega) (by omega)
   obtain ⟨e1,e2⟩:=jJ (wD h1.1)
   obtain ⟨e3,e4⟩:=jJ (wD h1.2)
   obtain ⟨e5,e6⟩:=jJ o
   rw [h1.1,h1.2,e1,e2,e3,e4,o,e5,e6]
   rfl)
 ·cases h
def ΓW16:Orc:=ah 261 F5 ΓW15
theorem qkk:ΓW16.Ok prog:=af Rb qgN
def ΓWd:Orc:=ΓW16
theorem zK:ΓWd.Ok prog:=qkk
end Go.Proofs.YtainfdcfkgemhaaGreat
namespace Go.Proofs.YtainfdcfkgemhaaGreat
open Go Go.Proofs Go.Sx
set_option linter.unusedVariables false
def MB (a b:Int) (R:List (List Dat)):Mem:=⟨[[.v (I a),.v (UU b)]],[true],[.live ⟨3,[.num .i64],R,true,false⟩]⟩
def uG (R:List (List Dat)):Mem:=⟨[],[],[.live ⟨3,[.num .i64],R,true,false⟩]⟩
def zm:Code:=f381.body.getD .skip
def oL:Code:=ch zm 0
def oK:Code:=ch zm 1
theorem qcG:aF zm=[oL,oK]:=by kernel_rfl
theorem qcF:aF oL=[]:=by kernel_rfl
theorem qcE:aF oK=[]:=by kernel_rfl
theorem Ua:eT oL=3:=by kernel_rfl
theorem T9:eT oK=7:=by kernel_rfl
def qb:List Bool:=aB 34 [1,3,4]
def rI:List Bool:=aB 34 [1,3]
def qa:List Bool:=aB 34 [1,3,5]
def rG:List Bool:=aB 34 [3]
def Jf (e:Ex) (st:St):Option (Ex×St):=some (e,ac 0 0 rI st)
def Je (e:Ex) (st:St):Option (Ex×St):=some (e,ac 0 0 rG st)
def Jn (a b i:Int) (R:List (List Dat)):St:=mk qb [.ptr 0 0,.row 0,.v (I i)] (MB a b R)
def Jm (a b i:Int) (R:List (List Dat)):St:=mk qa [.ptr 0 0,.row 0,.v (I i)] (MB a b R)
theorem US (a b i:Int) (R:List (List Dat)) (k:Nat):an ΓWd prog L0 (ac 0 0 qb) oL (k+1) (Jn a b i R) Jf =
 bif decide (i<64) then (bif decide (i<0) then none else bif kE R.length then an ΓWd prog L0 (ac 0 0 qb) oL k (Jn a b (IntKind.i64.wrap (i+1)) (R++[[.n (bx b i)]])) Jf else none) else some (.exit 0,mk rI [.ptr 0 0,.row 0] (MB a b R)):=by kernel_rfl
theorem UR (a b i:Int) (R:List (List Dat)) (k:Nat):an ΓWd prog L0 (ac 0 0 qa) oK (k+1) (Jm a b i R) Je =
 bif decide (i<64) then (bif decide (i<0) then none else bif kE R.length then an ΓWd prog L0 (ac 0 0 qa) oK k (Jm a b (IntKind.i64.wrap (i+1)) (R++[[.n (bx (IntKind.u64.wrap a) i)]])) Je else none) else some (.exit 2,mk rG [.row 0] (uG R)):=by kernel_rfl
def JY (vals:List SV) (m:Mem):Option (Bool×Ex×St) :=
 match vals,m with
 | [.ptr 0 0,.row 0,.v (.int .i64 z)],⟨[[.v (.int .i64 a),.v (.int .u64 b)]],[true],[.live ⟨3,[.num .i64],[],true,false⟩]⟩=>some (a7 b&&(z==0),.exit 0,mk rI [.ptr 0 0,.row 0] (MB a b (aq (bl b 64))))
 | _,_=>none
def JX (vals:List SV) (m:Mem):Option (Bool×Ex×St) :=
 match vals,m with
 | [.ptr 0 0,.row 0,.v (.int .i64 z)],⟨[[.v (.int .i64 a),.v (.int .u64 b)]],[true],[.live ⟨3,[.num .i64],R,true,false⟩]⟩=>some (a7 b&&(z==0&&dW (R=aq (bl b 64))),.exit 2,mk rG [.row 0] (uG (aq (bl (wu a b) 128))))
 | _,_=>none
def ΛBits:aV:=fun body st=>match eT body with
 | 3=>cJ 0 0 qb JY st
 | 7=>cJ 0 0 qa JX st
 | _=>none
theorem qdo (z:Base) (z1:z.L.length=0) (z2:z.U.length=0):aS ΛBits prog z oL:=by
 refine du (Λ:=L0) (kx:=fun _=>rI) zK mixed z1 z2 (fun b hb=>by rw [qcF] at hb;cases hb) (keep:=qb) (G:=JY) (fun st=>by unfold ΛBits;rw [Ua];rfl) ?_
 intro vals m e st' h
 unfold JY at h
 split at h
 ·rename_i z a b
  obtain ⟨h1,rfl,rfl⟩:=aw h
  simp only [Bool.and_eq_true,beq_iff_eq] at h1
  obtain ⟨h1,rfl⟩:=h1
  rw [fy] at h1
  refine ⟨65,?_⟩
  exact P2 b h1.1 h1.2 (fun k i R=>an ΓWd prog L0 (ac 0 0 qb) oL k (Jn a b i R) Jf) (fun R=>some (.exit 0,mk rI [.ptr 0 0,.row 0] (MB a b R))) (fun k i R=>US a b i R k) [] (by simp) 64 0 rfl
 ·cases h
theorem qdn (z:Base) (z1:z.L.length=0) (z2:z.U.length=0):aS ΛBits prog z oK:=by
 refine du (Λ:=L0) (kx:=fun _=>rG) zK mixed z1 z2 (fun b hb=>by rw [qcE] at hb;cases hb) (keep:=qa) (G:=JX) (fun st=>by unfold ΛBits;rw [T9];rfl) ?_
 intro vals m e st' h
 unfold JX at h
 split at h
 ·rename_i z a b R
  obtain ⟨h1,rfl,rfl⟩:=aw h
  simp only [Bool.and_eq_true,beq_iff_eq,iG] at h1
  obtain ⟨h1,rfl,rfl⟩:=h1
  rw [fy] at h1
  have hu:=fy.1 (nX a)
  refine ⟨65,?_⟩
  have:=P2 (IntKind.u64.wrap a) hu.1 hu.2 (fun k i R=>an ΓWd prog L0 (ac 0 0 qa) oK k (Jm a b i R) Je) (fun R=>some (.exit 2,mk rG [.row 0] (uG R))) (fun k i R=>UR a b i R k) (bl b 64) (by rw [mK];omega) 64 0 rfl
  rw [show bl (IntKind.u64.wrap a) 0=[] from rfl,List.append_nil,qi6 _ _ h1.1 h1.2] at this
  exact this
 ·cases h
theorem Z8 (a b:Int):runG ΓWd ΛBits prog f381 [.v (Wd a b)] M0 =
 bif a7 b&&((0:Int)==0) then (bif a7 b&&((0:Int)==0&&dW (aq (bl b 64)=aq (bl b 64))) then some (.row 0,uG (aq (bl (wu a b) 128))) else none) else none:=by kernel_rfl
def GC (xs:List SV) (m:Mem):Option (Bool×SV×Mem) :=
 match xs,m with
 | [.v (.agg ⟨[.int .i64 a,.int .u64 b]⟩)],⟨[],[],[]⟩=>some (a7 b,.row 0,uG (aq (bl (wu a b) 128)))
 | _,_=>none
theorem qhh:aQ 381 GC:=by
 intro xs m r m' h
 unfold GC at h
 split at h
 ·rename_i a b
  obtain ⟨h1,rfl,rfl⟩:=aw h
  refine aj (Λ:=ΛBits) zK func381 rfl (fun z z1 z2 c hc=>?_) ?_
  ·have hc':c∈aF zm:=hc
   rw [qcG] at hc'
   rcases List.mem_cons.1 hc' with rfl|hc'
   ·exact qdo z z1 z2
   ·rw [List.mem_singleton] at hc'
    subst hc';exact qdn z z1 z2
  ·exact (Z8 a b).trans (by rw [h1,beq_self_eq_true,CN (show aq (bl b 64)=aq (bl b 64) from rfl)];rfl)
 ·cases h
def ΓR1:Orc:=aC 381 GC ΓWd
theorem OkR1:ΓR1.Ok prog:=aA zK qhh
def MV (lo:Int) (e:TypeId) (R:List (List Dat)) (own mark:Bool):Mem:=⟨[[.v (I 0),.v (UU 0)],[.v (I 0),.v (UU lo)]],[true,true],[.live ⟨e,[.num .i64],R,own,mark⟩]⟩
def lu:Code:=ch (f382.body.getD .skip) 0
theorem qbX:aF (f382.body.getD .skip)=[lu]:=by kernel_rfl
theorem qbW:aF lu=[]:=by kernel_rfl
def mf:List Bool:=aB 36 [0,2,3,4,5]
def As:List Bool:=aB 36 [2,3,4]
def rb (e:Ex) (st:St):Option (Ex×St):=some (e,ac 0 1 As st)
def rh (t:TypeId) (R:List (List Dat)) (own mark:Bool) (lo hi i:Int):St:=mk mf [.row 0,.ptr 0 0,.ptr 1 0,.v (UU hi),.v (I i)] (MV lo t R own mark)
def HU (t:TypeId) (R:List (List Dat)) (own mark:Bool) (lo hi:Int):St:=mk As [.ptr 0 0,.ptr 1 0,.v (UU hi)] (MV lo t R own mark)
theorem Uw (t:TypeId) (R:List (List Dat)) (own mark:Bool) (lo hi i:Int) (k:Nat):an ΓR1 prog L0 (ac 0 1 mf) lu (k+1) (rh t R own mark lo hi i) rb =
 bif decide (i<64) then (bif fE R i then (bif jY R i then (bif decide (i<0) then none else bif fE R (IntKind.i64.wrap (64+i)) then (bif jY R (IntKind.i64.wrap (64+i)) then (bif decide (i<0) then none else an ΓR1 prog L0 (ac 0 1 mf) lu k (rh t R own mark (iy lo i) (iy hi i) (IntKind.i64.wrap (i+1))) rb) else an ΓR1 prog L0 (ac 0 1 mf) lu k (rh t R own mark (iy lo i) hi (IntKind.i64.wrap (i+1))) rb) else none)
  else (bif fE R (IntKind.i64.wrap (64+i)) then (bif jY R (IntKind.i64.wrap (64+i)) then (bif decide (i<0) then none else an ΓR1 prog L0 (ac 0 1 mf) lu k (rh t R own mark lo (iy hi i) (IntKind.i64.wrap (i+1))) rb) else an ΓR1 prog L0 (ac 0 1 mf) lu k (rh t R own mark lo hi (IntKind.i64.wrap (i+1))) rb) else none)) else none) else some (.exit 0,HU t R own mark lo hi):=by kernel_rfl
def dI (R:List (List Dat)):List Int:=cU R
def Jo (vals:List SV) (m:Mem):Option (Bool×Ex×St) :=
 match vals,m with
 | [.row 0,.ptr 0 0,.ptr 1 0,.v (.int .u64 hi),.v (.int .i64 i)],⟨[[.v (.int .i64 0),.v (.int .u64 0)],[.v (.int .i64 0),.v (.int .u64 lo)]],[true,true],[.live ⟨t,[.num .i64],R,own,mark⟩]⟩ =>
  some (dW (R.length=128/\R=aq (dI R))&&(hi==0&&(lo==0&&(i==0))),.exit 0,HU t R own mark (ga (dI R) 64) (gd (dI R) 64))
 | _,_=>none
def ΛVal:aV:=fun _ st=>cJ 0 1 mf Jo st
theorem qcU (z:Base) (z1:z.L.length=0) (z2:z.U.length=1):aS ΛVal prog z lu:=by
 refine du (Λ:=L0) (kx:=fun _=>As) OkR1 mixed z1 z2 (fun b hb=>by rw [qbW] at hb;cases hb) (G:=Jo) (fun _=>rfl) ?_
 intro vals m e st' h
 unfold Jo at h
 split at h
 ·rename_i hi i lo t R own mark
  obtain ⟨h1,rfl,rfl⟩:=aw h
  simp only [Bool.and_eq_true,beq_iff_eq,iG] at h1
  obtain ⟨⟨h1,h2⟩,rfl,rfl,rfl⟩:=h1
  refine ⟨65,?_⟩
  have hl:(dI R).length=128:=by unfold dI cU;rw [List.length_map];exact h1
  have:=Tw (dI R) hl (fun k lo hi i=>an ΓR1 prog L0 (ac 0 1 mf) lu k (rh t (aq (dI R)) own mark lo hi i) rb) (fun lo hi=>some (.exit 0,HU t (aq (dI R)) own mark lo hi)) (fun k lo hi i=>Uw t (aq (dI R)) own mark lo hi i k) 64 0 rfl
  rw [<- h2] at this
  exact this
 ·cases h
theorem VL (t:TypeId) (R:List (List Dat)) (own mark:Bool):runG ΓR1 ΛVal prog f382 [.row 0] ⟨[],[],[.live ⟨t,[.num .i64],R,own,mark⟩]⟩ =
 bif dW (R.length=128/\R=aq (dI R))&&((0:Int)==0&&((0:Int)==0&&((0:Int)==0))) then some (.v (Wd (IntKind.i64.wrap (gd (dI R) 64)) (ga (dI R) 64)),⟨[],[],[.live ⟨t,[.num .i64],R,own,mark⟩]⟩) else none:=by kernel_rfl
def Dp (xs:List SV) (m:Mem):Option (Bool×Value) :=
 match xs,m with
 | [.row 0],⟨[],[],[.live ⟨t,[.num .i64],R,own,mark⟩]⟩=>some (dW (R.length=128/\R=aq (dI R)),Wd (IntKind.i64.wrap (gd (dI R) 64)) (ga (dI R) 64))
 | _,_=>none
theorem qem:bk 382 Dp:=by
 intro xs m r h
 unfold Dp at h
 split at h
 ·rename_i t R own mark
  obtain ⟨h1,rfl⟩:=ab h
  refine aj (Λ:=ΛVal) OkR1 func382 rfl (fun z z1 z2=>bR (c:=f382.body.getD .skip) qbX (qcU z z1 z2)) ?_
  exact (VL t R own mark).trans (by rw [h1];rfl)
 ·cases h
def ΓR2:Orc:=aU 382 Dp ΓR1
theorem OkR2:ΓR2.Ok prog:=aO OkR1 qem
end Go.Proofs.YtainfdcfkgemhaaGreat
namespace Go.Proofs.YtainfdcfkgemhaaGreat
open Go Go.Proofs Go.Sx
set_option linter.unusedVariables false
def vF (R:List (List Dat)):RowS:=.live ⟨3,[.num .i64],R,true,false⟩
def qP:Code:=ch (f372.body.getD .skip) 0
theorem qcm:aF (f372.body.getD .skip)=[qP]:=by kernel_rfl
theorem qcl:aF qP=[]:=by kernel_rfl
def sV:List Bool:=aB 39 [4,5,6,7,8,9]
def Aw:List Bool:=aB 39 [4,7]
def Ja (e:Ex) (st:St):Option (Ex×St):=some (e,ac 0 0 Aw st)
def MPl (X Y R:List (List Dat)):Mem:=⟨[[.v (I 0),.v (UU 0)]],[true],[vF X,vF Y,vF R]⟩
def Jj (X Y:List (List Dat)) (s i:Int) (R:List (List Dat)):St:=mk sV [.ptr 0 0,.row 0,.row 1,.row 2,.v (I s),.v (I i)] (MPl X Y R)
def HZ (R:List (List Dat)):St:=mk Aw [.ptr 0 0,.row 0] ⟨[[.v (I 0),.v (UU 0)]],[true],[vF R]⟩
theorem UG (X Y R:List (List Dat)) (s i:Int) (k:Nat):an ΓR2 prog L0 (ac 0 0 sV) qP (k+1) (Jj X Y s i R) Ja =
 bif decide (i<128) then (bif fE X i then (bif fE Y i then (bif kE R.length then an ΓR2 prog L0 (ac 0 0 sV) qP k (Jj X Y (IntKind.i64.wrap ((sm X Y s i).tdiv 2)) (IntKind.i64.wrap (i+1)) (R++[[.n ((sm X Y s i).tmod 2)]])) Ja else none) else none) else none) else some (.exit 0,HZ R):=by kernel_rfl
def JJ (A B:Int) (vals:List SV) (m:Mem):Option (Bool×Ex×St) :=
 match vals,m with
 | [.ptr 0 0,.row 0,.row 1,.row 2,.v (.int .i64 s),.v (.int .i64 i)],⟨[[.v (.int .i64 0),.v (.int .u64 0)]],[true],[.live ⟨3,[.num .i64],X,true,false⟩,.live ⟨3,[.num .i64],Y,true,false⟩,.live ⟨3,[.num .i64],[],true,false⟩]⟩ =>
  some (dW (X=aq (bl A 128)/\Y=aq (bl B 128))&&(s==0&&(i==0)),.exit 0,HZ (aq (bl (A+B) 128)))
 | _,_=>none
def ΛPl (A B:Int):aV:=fun _ st=>cJ 0 0 sV (JJ A B) st
theorem qdb (A B:Int) (z:Base) (z1:z.L.length=0) (z2:z.U.length=0):aS (ΛPl A B) prog z qP:=by
 refine du (Λ:=L0) (kx:=fun _=>Aw) OkR2 mixed z1 z2 (fun b hb=>by rw [qcl] at hb;cases hb) (G:=JJ A B) (fun _=>rfl) ?_
 intro vals m e st' h
 unfold JJ at h
 split at h
 ·rename_i s i X Y
  obtain ⟨h1,rfl,rfl⟩:=aw h
  simp only [Bool.and_eq_true,beq_iff_eq,iG] at h1
  obtain ⟨⟨rfl,rfl⟩,rfl,rfl⟩:=h1
  refine ⟨129,?_⟩
  have:=qa1 A B (fun k s i R=>an ΓR2 prog L0 (ac 0 0 sV) qP k (Jj (aq (bl A 128)) (aq (bl B 128)) s i R) Ja) (fun R=>some (.exit 0,HZ R)) (fun k s i R=>UG (aq (bl A 128)) (aq (bl B 128)) R s i k) 128 0 rfl
  rw [qh7] at this
  exact this
 ·cases h
theorem XY (a b c d:Int):runG ΓR2 (ΛPl (wu a b) (wu c d)) prog f372 [.v (Wd a b),.v (Wd c d)] M0 =
 same (bif a7 b then (bif a7 d then (bif dW (aq (bl (wu a b) 128)=aq (bl (wu a b) 128)/\aq (bl (wu c d) 128)=aq (bl (wu c d) 128))&&((0:Int)==0&&((0:Int)==0)) then (bif dW ((aq (bl (wu a b+wu c d) 128)).length=128/\aq (bl (wu a b+wu c d) 128)=aq (dI (aq (bl (wu a b+wu c d) 128)))) then
  some (.v (Wd (IntKind.i64.wrap (gd (dI (aq (bl (wu a b+wu c d) 128))) 64)) (ga (dI (aq (bl (wu a b+wu c d) 128))) 64)),M0) else none) else none) else none) else none) (bif a7 b then (bif a7 d then (bif dW (aq (bl (wu a b) 128)=aq (bl (wu a b) 128)/\aq (bl (wu c d) 128)=aq (bl (wu c d) 128))&&((0:Int)==0&&((0:Int)==0)) then (bif dW ((aq (bl (wu a b+wu c d) 128)).length=128/\aq (bl (wu a b+wu c d) 128)=aq (dI (aq (bl (wu a b+wu c d) 128)))) then
  some (.v (Wd (IntKind.i64.wrap (gd (dI (aq (bl (wu a b+wu c d) 128))) 64)) (ga (dI (aq (bl (wu a b+wu c d) 128))) 64)),M0) else none) else none) else none) else none):=by kernel_rfl
def EU (vs:List Value):Option (Bool×Value) :=
 match vs with
 | [.agg ⟨[.int .i64 a,.int .u64 b]⟩,.agg ⟨[.int .i64 c,.int .u64 d]⟩]=>some (a7 b&&a7 d,pW (wv a b+wv c d))
 | _=>none
theorem qfE:am 372 EU:=by
 intro vs r h
 unfold EU at h
 split at h
 ·rename_i a b c d
  obtain ⟨h1,rfl⟩:=ab h
  rw [Bool.and_eq_true] at h1
  refine ak (vs:=[Wd a b,Wd c d]) (Λ:=ΛPl (wu a b) (wu c d)) (m':=M0) OkR2 func372 rfl (fun z z1 z2=>bR (c:=f372.body.getD .skip) qcm (qdb _ _ z z1 z2)) ?_
  refine (XY a b c d).trans ?_
  have e:dI (aq (bl (wu a b+wu c d) 128))=bl (wu a b+wu c d) 128:=Cg _
  rw [h1.1,h1.2,CN ⟨rfl,rfl⟩,e,CN ⟨by rw [nr,mK],rfl⟩,iV]
  exact gq (qa0 a b c d)
 ·cases h
def ΓQ1:Orc:=ah 372 EU ΓR2
theorem OkQ1:ΓQ1.Ok prog:=af OkR2 qfE
theorem XG (n:Int):runG ΓQ1 L0 prog f371 [.v (I n)] M0=bif decide (n<0) then some (.v (Wd (-1) (IntKind.u64.wrap n)),M0) else some (.v (Wd 0 (IntKind.u64.wrap n)),M0):=by kernel_rfl
def EJ (vs:List Value):Option (Bool×Value) :=
 match vs with
 | [.int .i64 n]=>some (bf n,Wn n)
 | _=>none
theorem qft:am 371 EJ:=by
 intro vs r h
 unfold EJ at h
 split at h
 ·rename_i n
  obtain ⟨h1,rfl⟩:=ab h
  refine ak (vs:=[I n]) (Λ:=L0) (m':=M0) OkQ1 func371 rfl ai ?_
  exact (XG n).trans (by
   rw [ew] at h1
   obtain ⟨_,h2,h3⟩:=kH (n:=n) (by omega) (by omega)
   by_cases hn:n<0
   ·rw [decide_eq_true hn]
    exact gq (kt (by rw [h2];omega) (by rw [h3,wrU]))
   ·rw [decide_eq_false hn]
    exact gq (kt (by rw [h2];omega) (by rw [h3,wrU])))
 ·cases h
def ΓQ2:Orc:=ah 371 EJ ΓQ1
theorem OkQ2:ΓQ2.Ok prog:=af OkQ1 qft
theorem XM (a b:Int):runG ΓQ2 L0 prog f373 [.v (Wd a b)] M0=bif a7 (IntKind.u64.wrap (-1 - b))&&a7 1 then some (.v (pW (wv (IntKind.i64.wrap (-1 - a)) (IntKind.u64.wrap (-1 - b))+wv 0 1)),M0) else none:=by kernel_rfl
def EP (vs:List Value):Option (Bool×Value) :=
 match vs with
 | [.agg ⟨[.int .i64 a,.int .u64 b]⟩]=>some (a7 b,pW (- wv a b))
 | _=>none
theorem qfz:am 373 EP:=by
 intro vs r h
 unfold EP at h
 split at h
 ·rename_i a b
  obtain ⟨h1,rfl⟩:=ab h
  refine ak (vs:=[Wd a b]) (Λ:=L0) (m':=M0) OkQ2 func373 rfl ai ?_
  exact (XM a b).trans (by
   obtain ⟨e1,e2⟩:=qhx a b h1
   rw [e1,show a7 1=true from rfl]
   refine gq (Mp ?_)
   rw [show wv 0 1=1 from rfl]
   omega)
 ·cases h
def ΓQ3:Orc:=ah 373 EP ΓQ2
theorem OkQ3:ΓQ3.Ok prog:=af OkQ2 qfz
theorem XO (a b c d:Int):runG ΓQ3 L0 prog f357 [.v (Wd a b),.v (Wd c d)] M0 =
 (bif decide (a<c) then some (.v (I (-1)),M0) else (bif a==c then (bif decide (b<d) then some (.v (I (-1)),M0) else (bif a==c&&(b==d&&true) then some (.v (I 0),M0) else some (.v (I 1),M0))) else (bif a==c&&(b==d&&true) then some (.v (I 0),M0) else some (.v (I 1),M0)))):=by kernel_rfl
def EQ (vs:List Value):Option (Bool×Value) :=
 match vs with
 | [.agg ⟨[.int .i64 a,.int .u64 b]⟩,.agg ⟨[.int .i64 c,.int .u64 d]⟩]=>some (bV a b&&bV c d,I (dY (wv a b) (wv c d)))
 | _=>none
theorem qfA:am 357 EQ:=by
 intro vs r h
 unfold EQ at h
 split at h
 ·rename_i a b c d
  obtain ⟨h1,rfl⟩:=ab h
  refine ak (vs:=[Wd a b,Wd c d]) (Λ:=L0) (m':=M0) OkQ3 func357 rfl ai ?_
  exact (XO a b c d).trans (by
   rw [Bool.and_eq_true] at h1
   rw [<- qiv h1.1 h1.2]
   cases decide (a<c)<;>cases a==c<;>cases decide (b<d)<;>cases b==d<;>rfl)
 ·cases h
def ΓQ4:Orc:=ah 357 EQ ΓQ3
theorem OkQ4:ΓQ4.Ok prog:=af OkQ3 qfA
def oJ:Code:=ch (f358.body.getD .skip) 0
theorem qcq:aF (f358.body.getD .skip)=[oJ]:=by kernel_rfl
theorem qcp:aF oJ=[]:=by kernel_rfl
def pZ:List Bool:=aB 36 [1,4,5,6,7,8]
def Ax:List Bool:=aB 36 [1,4,5,6]
def zZ (e:Ex) (st:St):Option (Ex×St):=some (e,ac 0 0 Ax st)
def SK (oa ob xa xb ya yb:Int):Mem:=⟨[[.v (I oa),.v (UU ob)],[.v (I xa),.v (UU xb)],[.v (I ya),.v (UU yb)]],[true,true,true],[]⟩
def z6 (b n oa ob i xa xb ya yb:Int):St:=mk pZ [.v (I b),.ptr 0 0,.ptr 1 0,.ptr 2 0,.v (UU n),.v (I i)] (SK oa ob xa xb ya yb)
def H0 (b oa ob xa xb ya yb:Int):St:=mk Ax [.v (I b),.ptr 0 0,.ptr 1 0,.ptr 2 0] (SK oa ob xa xb ya yb)
theorem UI (b n oa ob i xa xb ya yb:Int) (k:Nat):an ΓQ4 prog L0 (ac 0 0 pZ) oJ (k+1) (z6 b n oa ob i xa xb ya yb) zZ =
 bif decide (i<64) then (bif decide (i<0) then none else (bif bu n i==1 then (bif a7 yb&&a7 xb then (bif a7 xb&&a7 xb then an ΓQ4 prog L0 (ac 0 0 pZ) oJ k (z6 b n oa ob (IntKind.i64.wrap (i+1)) (bM (wv xa xb+wv xa xb)) (bD (wv xa xb+wv xa xb)) (bM (wv ya yb+wv xa xb)) (bD (wv ya yb+wv xa xb))) zZ else none) else none)
  else (bif a7 xb&&a7 xb then an ΓQ4 prog L0 (ac 0 0 pZ) oJ k (z6 b n oa ob (IntKind.i64.wrap (i+1)) (bM (wv xa xb+wv xa xb)) (bD (wv xa xb+wv xa xb)) ya yb) zZ else none))) else some (.exit 0,H0 b oa ob xa xb ya yb):=by kernel_rfl
def JL (vals:List SV) (m:Mem):Option (Bool×Ex×St) :=
 match vals,m with
 | [.v (.int .i64 b),.ptr 0 0,.ptr 1 0,.ptr 2 0,.v (.int .u64 n),.v (.int .i64 i)],⟨[[.v (.int .i64 oa),.v (.int .u64 ob)],[.v (.int .i64 xa),.v (.int .u64 xb)],[.v (.int .i64 ya),.v (.int .u64 yb)]],[true,true,true],[]⟩ =>
  some (bV xa xb&&(a7 n&&(i==0&&(ya==0&&yb==0))),.exit 0,H0 b oa ob (bM (wv xa xb*2 ^ 64)) (bD (wv xa xb*2 ^ 64)) (bM (wv xa xb*(n % 2 ^ 64))) (bD (wv xa xb*(n % 2 ^ 64))))
 | _,_=>none
def ΛMu:aV:=fun _ st=>cJ 0 0 pZ JL st
theorem qdd (z:Base) (z1:z.L.length=0) (z2:z.U.length=0):aS ΛMu prog z oJ:=by
 refine du (Λ:=L0) (kx:=fun _=>Ax) OkQ4 mixed z1 z2 (fun b hb=>by rw [qcp] at hb;cases hb) (G:=JL) (fun _=>rfl) ?_
 intro vals m e st' h
 unfold JL at h
 split at h
 ·rename_i b n i oa ob xa xb ya yb
  obtain ⟨h1,rfl,rfl⟩:=aw h
  simp only [Bool.and_eq_true,beq_iff_eq] at h1
  obtain ⟨g1,g2,rfl,rfl,rfl⟩:=h1
  rw [fy] at g2
  have:=qbK n (wv xa xb) g2.1 g2.2 (fun k i xa xb ya yb=>an ΓQ4 prog L0 (ac 0 0 pZ) oJ k (z6 b n oa ob i xa xb ya yb) zZ) (fun xa xb ya yb=>some (.exit 0,H0 b oa ob xa xb ya yb)) (fun k i xa xb ya yb=>UI b n oa ob i xa xb ya yb k) 64 0 rfl
  refine ⟨65,?_⟩
  rw [Int.pow_zero,Int.mul_one,Int.emod_one,Int.mul_zero,(Mm g1).1,(Mm g1).2] at this
  exact this
 ·cases h
theorem Ys (a b:Int):runG ΓQ4 ΛMu prog f358 [.v (I a),.v (I b)] M0 =
 bif bf a then
  (bif bV (aY a) (aZ a)&&(a7 (IntKind.u64.wrap b)&&((0:Int)==0&&((0:Int)==0&&(0:Int)==0))) then
   (bif decide (b<0) then
    (bif a7 (bD (wv (aY a) (aZ a)*2 ^ 64)) then
     (bif a7 (bD (wv (aY a) (aZ a)*(IntKind.u64.wrap b % 2 ^ 64)))&&a7 (bD (-wv (bM (wv (aY a) (aZ a)*2 ^ 64)) (bD (wv (aY a) (aZ a)*2 ^ 64)))) then
      some (.v (pW (wv (bM (wv (aY a) (aZ a)*(IntKind.u64.wrap b % 2 ^ 64))) (bD (wv (aY a) (aZ a)*(IntKind.u64.wrap b % 2 ^ 64)))+wv (bM (-wv (bM (wv (aY a) (aZ a)*2 ^ 64)) (bD (wv (aY a) (aZ a)*2 ^ 64)))) (bD (-wv (bM (wv (aY a) (aZ a)*2 ^ 64)) (bD (wv (aY a) (aZ a)*2 ^ 64)))))),M0)
     else none)
    else none)
   else some (.v (Wd (bM (wv (aY a) (aZ a)*(IntKind.u64.wrap b % 2 ^ 64))) (bD (wv (aY a) (aZ a)*(IntKind.u64.wrap b % 2 ^ 64)))),M0))
  else none)
 else none:=by kernel_rfl
def Fh (vs:List Value):Option (Bool×Value) :=
 match vs with
 | [.int .i64 a,.int .i64 b]=>some (bf a&&bf b,pW (a*b))
 | _=>none
theorem qf2:am 358 Fh:=by
 intro vs r h
 unfold Fh at h
 split at h
 ·rename_i a b
  obtain ⟨h1,rfl⟩:=ab h
  rw [Bool.and_eq_true] at h1
  obtain ⟨h1,h2⟩:=h1
  refine ak (vs:=[I a,I b]) (Λ:=ΛMu) (m':=M0) OkQ4 func358 rfl (fun z z1 z2=>bR (c:=f358.body.getD .skip) qcq (qdd z z1 z2)) ?_
  refine (Ys a b).trans ?_
  obtain ⟨e1,e2⟩:=jJ (wD h1)
  rw [h1,e1,e2,nX,tg,tg,tg]
  simp only [BEq.rfl,Bool.and_self,cond_true]
  rw [ew] at h2
  have e64:(2:Int) ^ 64=18446744073709551616:=by decide
  rw [e64]
  have em:IntKind.u64.wrap b % 18446744073709551616=b % 18446744073709551616:=by rw [wrU];omega
  rw [em]
  by_cases hb:b<0
  ·simp only [hb,decide_true,cond_true]
   refine gq (Mp ?_)
   have q1:=m8 (a*(b % 18446744073709551616))
   have q2:=m8 (-wv (bM (a*18446744073709551616)) (bD (a*18446744073709551616)))
   have q3:=m8 (a*18446744073709551616)
   have:b % 18446744073709551616=b+18446744073709551616:=by omega
   rw [this,Int.mul_add] at q1 ⊢
   omega
  ·simp only [hb,decide_false,cond_false]
   have:b % 18446744073709551616=b:=by omega
   rw [this]
 ·cases h
def ΓQ5:Orc:=ah 358 Fh ΓQ4
theorem OkQ5:ΓQ5.Ok prog:=af OkQ4 qf2
def ΓRf:Orc:=ΓQ5
theorem Rr:ΓRf.Ok prog:=OkQ5
end Go.Proofs.YtainfdcfkgemhaaGreat
namespace Go.Proofs.YtainfdcfkgemhaaGreat
open Go Go.Proofs Go.Sx
set_option linter.unusedVariables false
theorem vB {x y:Bool} (h:x=y):(some (SV.v (Bo x),M0):Option (SV×Mem))=some (.v (Bo y),M0):=by rw [h]
theorem vI {x y:Int} (h:x=y):(some (SV.v (I x),M0):Option (SV×Mem))=some (.v (I y),M0):=by rw [h]
theorem Z1 (x a b:Int):runG ΓRf L0 prog f333 [.v (I x),.v (I a),.v (I b)] M0 =
 (bif decide (a<=x) then some (.v (Bo (decide (x<=b))),M0) else some (.v (Bo false),M0)):=by kernel_rfl
def Gz (vs:List Value):Option (Bool×Value) :=
 match vs with
 | [.int .i64 x,.int .i64 a,.int .i64 b]=>some (true,Bo (decide (a<=x)&&decide (x<=b)))
 | _=>none
theorem qhe:am 333 Gz:=by
 intro vs r h
 unfold Gz at h
 split at h
 ·rename_i x a b
  obtain ⟨h1,rfl⟩:=ab h
  refine ak (vs:=[I x,I a,I b]) (Λ:=L0) (m':=M0) Rr func333 rfl ai ?_
  exact (Z1 x a b).trans (by cases decide (a<=x)<;>rfl)
 ·cases h
def ΓP1:Orc:=ah 333 Gz ΓRf
theorem OkP1:ΓP1.Ok prog:=af Rr qhe
theorem X2 (a1 a2:Int):runG ΓP1 L0 prog f295 [.v (.agg #[I a1,I a2])] M0 =
 (bif decide ((-1099511627776:Int)<=a1)&&decide (a1<=(1099511627776:Int)) then some (.v (Bo (decide ((-1099511627776:Int)<=a2)&&decide (a2<=(1099511627776:Int)))),M0) else some (.v (Bo false),M0)):=by kernel_rfl
def EW (vs:List Value):Option (Bool×Value) :=
 match vs with
 | [.agg ⟨[.int .i64 a1,.int .i64 a2]⟩]=>some (true,Bo (plR a1 a2))
 | _=>none
theorem qfG:am 295 EW:=by
 intro vs r h
 unfold EW at h
 split at h
 ·rename_i a1 a2
  obtain ⟨h1,rfl⟩:=ab h
  refine ak (vs:=[.agg #[I a1,I a2]]) (Λ:=L0) (m':=M0) OkP1 func295 rfl ai ?_
  exact (X2 a1 a2).trans (by
   unfold plR
   by_cases h1:-1099511627776<=a1<;>by_cases h2:a1<=1099511627776<;>by_cases h3:-1099511627776<=a2<;>by_cases h4:a2<=1099511627776<;>simp [h1,h2,h3,h4])
 ·cases h
def ΓP2:Orc:=ah 295 EW ΓP1
theorem OkP2:ΓP2.Ok prog:=af OkP1 qfG
theorem XD (a1 a2:Int):runG ΓP2 L0 prog f288 [.v (.agg #[I a1,I a2])] M0 =
 (bif decide (a1>=(-1099511627776:Int)) then (bif decide (a1<=(1099511627776:Int)) then (bif decide (a2>=(-1099511627776:Int)) then some (.v (Bo (decide (a2<=(1099511627776:Int)))),M0) else some (.v (Bo false),M0)) else some (.v (Bo false),M0)) else some (.v (Bo false),M0)):=by kernel_rfl
def EG (vs:List Value):Option (Bool×Value) :=
 match vs with
 | [.agg ⟨[.int .i64 a1,.int .i64 a2]⟩]=>some (true,Bo (plR a1 a2))
 | _=>none
theorem qfq:am 288 EG:=by
 intro vs r h
 unfold EG at h
 split at h
 ·rename_i a1 a2
  obtain ⟨h1,rfl⟩:=ab h
  refine ak (vs:=[.agg #[I a1,I a2]]) (Λ:=L0) (m':=M0) OkP2 func288 rfl ai ?_
  exact (XD a1 a2).trans (by
   unfold plR
   by_cases h1:-1099511627776<=a1<;>by_cases h2:a1<=1099511627776<;>by_cases h3:-1099511627776<=a2<;>by_cases h4:a2<=1099511627776<;>simp [h1,h2,h3,h4])
 ·cases h
def ΓP3:Orc:=ah 288 EG ΓP2
theorem OkP3:ΓP3.Ok prog:=af OkP2 qfq
theorem qal (t:TypeId) (a1 a2 b1 b2:Int) (own mark:Bool):runG ΓP3 L0 prog f340 [.row 0] ⟨[],[],[.live ⟨t,[.num .i64,.num .i64],[[.n a1,.n a2],[.n b1,.n b2]],own,mark⟩]⟩=(bif !plR a1 a2 then some (.v (Bo false),⟨[],[],[.live ⟨t,[.num .i64,.num .i64],[[.n a1,.n a2],[.n b1,.n b2]],own,mark⟩]⟩) else (bif !plR b1 b2 then some (.v (Bo false),⟨[],[],[.live ⟨t,[.num .i64,.num .i64],[[.n a1,.n a2],[.n b1,.n b2]],own,mark⟩]⟩) else some (.v (Bo true),⟨[],[],[.live ⟨t,[.num .i64,.num .i64],[[.n a1,.n a2],[.n b1,.n b2]],own,mark⟩]⟩))):=by kernel_rfl
theorem qak (t:TypeId) (a1 a2 b1 b2 c1 c2:Int) (own mark:Bool):runG ΓP3 L0 prog f340 [.row 0] ⟨[],[],[.live ⟨t,[.num .i64,.num .i64],[[.n a1,.n a2],[.n b1,.n b2],[.n c1,.n c2]],own,mark⟩]⟩=(bif !plR a1 a2 then some (.v (Bo false),⟨[],[],[.live ⟨t,[.num .i64,.num .i64],[[.n a1,.n a2],[.n b1,.n b2],[.n c1,.n c2]],own,mark⟩]⟩) else (bif !plR b1 b2 then some (.v (Bo false),⟨[],[],[.live ⟨t,[.num .i64,.num .i64],[[.n a1,.n a2],[.n b1,.n b2],[.n c1,.n c2]],own,mark⟩]⟩) else (bif !plR c1 c2 then some (.v (Bo false),⟨[],[],[.live ⟨t,[.num .i64,.num .i64],[[.n a1,.n a2],[.n b1,.n b2],[.n c1,.n c2]],own,mark⟩]⟩) else some (.v (Bo true),⟨[],[],[.live ⟨t,[.num .i64,.num .i64],[[.n a1,.n a2],[.n b1,.n b2],[.n c1,.n c2]],own,mark⟩]⟩)))):=by kernel_rfl
theorem qaj (t:TypeId) (a1 a2 b1 b2 c1 c2 d1 d2:Int) (own mark:Bool):runG ΓP3 L0 prog f340 [.row 0] ⟨[],[],[.live ⟨t,[.num .i64,.num .i64],[[.n a1,.n a2],[.n b1,.n b2],[.n c1,.n c2],[.n d1,.n d2]],own,mark⟩]⟩=(bif !plR a1 a2 then some (.v (Bo false),⟨[],[],[.live ⟨t,[.num .i64,.num .i64],[[.n a1,.n a2],[.n b1,.n b2],[.n c1,.n c2],[.n d1,.n d2]],own,mark⟩]⟩) else (bif !plR b1 b2 then some (.v (Bo false),⟨[],[],[.live ⟨t,[.num .i64,.num .i64],[[.n a1,.n a2],[.n b1,.n b2],[.n c1,.n c2],[.n d1,.n d2]],own,mark⟩]⟩) else (bif !plR c1 c2 then some (.v (Bo false),⟨[],[],[.live ⟨t,[.num .i64,.num .i64],[[.n a1,.n a2],[.n b1,.n b2],[.n c1,.n c2],[.n d1,.n d2]],own,mark⟩]⟩) else (bif !plR d1 d2 then some (.v (Bo false),⟨[],[],[.live ⟨t,[.num .i64,.num .i64],[[.n a1,.n a2],[.n b1,.n b2],[.n c1,.n c2],[.n d1,.n d2]],own,mark⟩]⟩) else some (.v (Bo true),⟨[],[],[.live ⟨t,[.num .i64,.num .i64],[[.n a1,.n a2],[.n b1,.n b2],[.n c1,.n c2],[.n d1,.n d2]],own,mark⟩]⟩))))):=by kernel_rfl
def GM (xs:List SV) (m:Mem):Option (Bool×Value) :=
 match xs,m with
 | [.row 0],⟨[],[],[.live ⟨t,[.num .i64,.num .i64],[[.n a1,.n a2],[.n b1,.n b2]],own,mark⟩]⟩=>some (true,Bo ((plR a1 a2&&plR b1 b2)))
 | [.row 0],⟨[],[],[.live ⟨t,[.num .i64,.num .i64],[[.n a1,.n a2],[.n b1,.n b2],[.n c1,.n c2]],own,mark⟩]⟩=>some (true,Bo ((plR a1 a2&&(plR b1 b2&&plR c1 c2))))
 | [.row 0],⟨[],[],[.live ⟨t,[.num .i64,.num .i64],[[.n a1,.n a2],[.n b1,.n b2],[.n c1,.n c2],[.n d1,.n d2]],own,mark⟩]⟩=>some (true,Bo ((plR a1 a2&&(plR b1 b2&&(plR c1 c2&&plR d1 d2)))))
 | _,_=>none
theorem qhs:bk 340 GM:=by
 intro xs m r h
 unfold GM at h
 split at h
 ·rename_i t a1 a2 b1 b2 own mark
  obtain ⟨h1,rfl⟩:=ab h
  refine aj (Λ:=L0) OkP3 func340 rfl ai ?_
  exact (qal t a1 a2 b1 b2 own mark).trans (by cases plR a1 a2<;>cases plR b1 b2<;>rfl)
 ·rename_i t a1 a2 b1 b2 c1 c2 own mark
  obtain ⟨h1,rfl⟩:=ab h
  refine aj (Λ:=L0) OkP3 func340 rfl ai ?_
  exact (qak t a1 a2 b1 b2 c1 c2 own mark).trans (by cases plR a1 a2<;>cases plR b1 b2<;>cases plR c1 c2<;>rfl)
 ·rename_i t a1 a2 b1 b2 c1 c2 d1 d2 own mark
  obtain ⟨h1,rfl⟩:=ab h
  refine aj (Λ:=L0) OkP3 func340 rfl ai ?_
  exact (qaj t a1 a2 b1 b2 c1 c2 d1 d2 own mark).trans (by cases plR a1 a2<;>cases plR b1 b2<;>cases plR c1 c2<;>cases plR d1 d2<;>rfl)
 ·cases h
def ΓP4:Orc:=aU 340 GM ΓP3
theorem OkP4:ΓP4.Ok prog:=aO OkP3 qhs
theorem VU (a1 a2 b1 b2 c1 c2:Int):runG ΓP4 L0 prog f341 [.v (.agg #[I a1,I a2]),.v (.agg #[I b1,I b2]),.v (.agg #[I c1,I c2])] M0 =
 (bif !(plR a1 a2&&(plR b1 b2&&plR c1 c2)) then some (.v (I 0),M0) else (bif bf (wI (b1 - a1))&&bf (wI (c2 - a2)) then (bif bf (wI (b2 - a2))&&bf (wI (c1 - a1)) then (bif bV (aY (wI (b1 - a1)*wI (c2 - a2))) (aZ (wI (b1 - a1)*wI (c2 - a2)))&&bV (aY (wI (b2 - a2)*wI (c1 - a1))) (aZ (wI (b2 - a2)*wI (c1 - a1))) then some (.v (I (dY (wv (aY (wI (b1 - a1)*wI (c2 - a2))) (aZ (wI (b1 - a1)*wI (c2 - a2)))) (wv (aY (wI (b2 - a2)*wI (c1 - a1))) (aZ (wI (b2 - a2)*wI (c1 - a1)))))),M0) else none) else none) else none)):=by kernel_rfl
def Dx (vs:List Value):Option (Bool×Value) :=
 match vs with
 | [.agg ⟨[.int .i64 a1,.int .i64 a2]⟩,.agg ⟨[.int .i64 b1,.int .i64 b2]⟩,.agg ⟨[.int .i64 c1,.int .i64 c2]⟩]=>some (true,I (co a1 a2 b1 b2 c1 c2))
 | _=>none
theorem qeu:am 341 Dx:=by
 intro vs r h
 unfold Dx at h
 split at h
 ·rename_i a1 a2 b1 b2 c1 c2
  obtain ⟨h1,rfl⟩:=ab h
  refine ak (vs:=[.agg #[I a1,I a2],.agg #[I b1,I b2],.agg #[I c1,I c2]]) (Λ:=L0) (m':=M0) OkP4 func341 rfl ai ?_
  exact (VU a1 a2 b1 b2 c1 c2).trans (by
   have m1:=wC (fF (b1 - a1)) (fF (c2 - a2))
   have m2:=wC (fF (b2 - a2)) (fF (c1 - a1))
   cases h:plR a1 a2&&(plR b1 b2&&plR c1 c2) with
   | false=>exact vI (by unfold co;rw [h];rfl)
   | true =>
    rw [<- Ku h]
    have i1:bf (wI (b1 - a1))=true:=fF _
    have i2:bf (wI (c2 - a2))=true:=fF _
    have i3:bf (wI (b2 - a2))=true:=fF _
    have i4:bf (wI (c1 - a1))=true:=fF _
    have w1:wv (aY (wI (b1 - a1)*wI (c2 - a2))) (aZ (wI (b1 - a1)*wI (c2 - a2)))=wI (b1 - a1)*wI (c2 - a2):=(jJ m1).1
    have w2:wv (aY (wI (b2 - a2)*wI (c1 - a1))) (aZ (wI (b2 - a2)*wI (c1 - a1)))=wI (b2 - a2)*wI (c1 - a1):=(jJ m2).1
    rw [i1,i2,i3,i4,xq,xq,w1,w2]
    rfl)
 ·cases h
def ΓP5:Orc:=ah 341 Dx ΓP4
theorem RR:ΓP5.Ok prog:=af OkP4 qeu
theorem Yc (p1 p2 a1 a2 b1 b2:Int):runG ΓP5 L0 prog f304 [.v (.agg #[I p1,I p2]),.v (.agg #[I a1,I a2]),.v (.agg #[I b1,I b2])] M0 =
 (bif !(plR p1 p2&&(plR a1 a2&&plR b1 b2)) then some (.v (Bo false),M0) else (bif co a1 a2 b1 b2 p1 p2 != (0:Int) then some (.v (Bo false),M0) else (bif decide ((if b1<a1 then b1 else a1)<=p1)&&decide (p1<=if b1>a1 then b1 else a1) then some (.v (Bo (decide ((if b2<a2 then b2 else a2)<=p2)&&decide (p2<=if b2>a2 then b2 else a2))),M0) else some (.v (Bo false),M0)))):=by kernel_rfl
def E4 (vs:List Value):Option (Bool×Value) :=
 match vs with
 | [.agg ⟨[.int .i64 p1,.int .i64 p2]⟩,.agg ⟨[.int .i64 a1,.int .i64 a2]⟩,.agg ⟨[.int .i64 b1,.int .i64 b2]⟩]=>some (true,Bo (onB p1 p2 a1 a2 b1 b2))
 | _=>none
theorem qfO:am 304 E4:=by
 intro vs r h
 unfold E4 at h
 split at h
 ·rename_i p1 p2 a1 a2 b1 b2
  obtain ⟨h1,rfl⟩:=ab h
  refine ak (vs:=[.agg #[I p1,I p2],.agg #[I a1,I a2],.agg #[I b1,I b2]]) (Λ:=L0) (m':=M0) RR func304 rfl ai ?_
  exact (Yc p1 p2 a1 a2 b1 b2).trans (by
   unfold onB btw
   cases plR p1 p2&&(plR a1 a2&&plR b1 b2) with
   | false=>rfl
   | true =>
    by_cases ht:co a1 a2 b1 b2 p1 p2=0
    ·rw [ht]
     cases decide ((if b1<a1 then b1 else a1)<=p1)&&decide (p1<=if b1>a1 then b1 else a1)<;>rfl
    ·rw [bne_iff_ne.2 ht,beq_eq_false_iff_ne.2 ht]
     rfl)
 ·cases h
def ΓP6:Orc:=ah 304 E4 ΓP5
theorem RQ:ΓP6.Ok prog:=af RR qfO
theorem Yw (a1 a2 b1 b2 c1 c2 d1 d2:Int):runG ΓP6 L0 prog f339 [.v (.agg #[I a1,I a2]),.v (.agg #[I b1,I b2]),.v (.agg #[I c1,I c2]),.v (.agg #[I d1,I d2])] M0 =
 (bif !(plR a1 a2&&(plR b1 b2&&(plR c1 c2&&plR d1 d2))) then some (.v (Bo false),M0) else (bif onB a1 a2 c1 c2 d1 d2 then some (.v (Bo true),M0) else (bif onB b1 b2 c1 c2 d1 d2 then some (.v (Bo true),M0) else (bif onB c1 c2 a1 a2 b1 b2 then some (.v (Bo true),M0) else (bif onB d1 d2 a1 a2 b1 b2 then some (.v (Bo true),M0) else (bif decide (wI (co a1 a2 b1 b2 c1 c2*co a1 a2 b1 b2 d1 d2)<(0:Int)) then some (.v (Bo (decide (wI (co c1 c2 d1 d2 a1 a2*co c1 c2 d1 d2 b1 b2)<(0:Int)))),M0) else some (.v (Bo false),M0))))))):=by kernel_rfl
def Fl (vs:List Value):Option (Bool×Value) :=
 match vs with
 | [.agg ⟨[.int .i64 a1,.int .i64 a2]⟩,.agg ⟨[.int .i64 b1,.int .i64 b2]⟩,.agg ⟨[.int .i64 c1,.int .i64 c2]⟩,.agg ⟨[.int .i64 d1,.int .i64 d2]⟩]=>some (true,Bo (dE a1 a2 b1 b2 c1 c2 d1 d2))
 | _=>none
theorem qf6:am 339 Fl:=by
 intro vs r h
 unfold Fl at h
 split at h
 ·rename_i a1 a2 b1 b2 c1 c2 d1 d2
  obtain ⟨h1,rfl⟩:=ab h
  refine ak (vs:=[.agg #[I a1,I a2],.agg #[I b1,I b2],.agg #[I c1,I c2],.agg #[I d1,I d2]]) (Λ:=L0) (m':=M0) RQ func339 rfl ai ?_
  exact (Yw a1 a2 b1 b2 c1 c2 d1 d2).trans (by
   unfold dE Hh
   cases plR a1 a2&&(plR b1 b2&&(plR c1 c2&&plR d1 d2))
   ·rfl
   cases onB a1 a2 c1 c2 d1 d2
   ·cases onB b1 b2 c1 c2 d1 d2
    ·cases onB c1 c2 a1 a2 b1 b2
     ·cases onB d1 d2 a1 a2 b1 b2
      ·cases decide (wI (co a1 a2 b1 b2 c1 c2*co a1 a2 b1 b2 d1 d2)<0)<;>rfl
      ·rfl
     ·rfl
    ·rfl
   ·rfl)
 ·cases h
def ΓP7:Orc:=ah 339 Fl ΓP6
theorem qkN:ΓP7.Ok prog:=af RQ qf6
def ΓP8:Orc:=ΓP7
theorem RP:ΓP8.Ok prog:=qkN
theorem Xt (a1 a2 b1 b2 c1 c2:Int):runG ΓP8 L0 prog f332 [.v (.agg #[I a1,I a2]),.v (.agg #[I b1,I b2]),.v (.agg #[I c1,I c2])] M0 =
 (bif !plR a1 a2 then some (.v (I 0),M0) else (bif !plR b1 b2 then some (.v (I 0),M0) else (bif !plR c1 c2 then some (.v (I 0),M0) else (bif bf (wI (b1 - a1))&&bf (wI (c2 - a2)) then (bif bf (wI (b2 - a2))&&bf (wI (c1 - a1)) then (bif bV (bM (wI (b1 - a1)*wI (c2 - a2))) (bD (wI (b1 - a1)*wI (c2 - a2)))&&bV (bM (wI (b2 - a2)*wI (c1 - a1))) (bD (wI (b2 - a2)*wI (c1 - a1))) then some (.v (I (dY (wv (bM (wI (b1 - a1)*wI (c2 - a2))) (bD (wI (b1 - a1)*wI (c2 - a2)))) (wv (bM (wI (b2 - a2)*wI (c1 - a1))) (bD (wI (b2 - a2)*wI (c1 - a1)))))),M0) else none) else none) else none)))):=by kernel_rfl
def Ez (vs:List Value):Option (Bool×Value) :=
 match vs with
 | [.agg ⟨[.int .i64 a1,.int .i64 a2]⟩,.agg ⟨[.int .i64 b1,.int .i64 b2]⟩,.agg ⟨[.int .i64 c1,.int .i64 c2]⟩]=>some (true,I (co a1 a2 b1 b2 c1 c2))
 | _=>none
theorem qfj:am 332 Ez:=by
 intro vs r h
 unfold Ez at h
 split at h
 ·rename_i a1 a2 b1 b2 c1 c2
  obtain ⟨h1,rfl⟩:=ab h
  refine ak (vs:=[.agg #[I a1,I a2],.agg #[I b1,I b2],.agg #[I c1,I c2]]) (Λ:=L0) (m':=M0) RP func332 rfl ai ?_
  exact (Xt a1 a2 b1 b2 c1 c2).trans (by
   have m1:=wC (fF (b1 - a1)) (fF (c2 - a2))
   have m2:=wC (fF (b2 - a2)) (fF (c1 - a1))
   cases hA:plR a1 a2 with
   | false=>exact vI (by unfold co;rw [hA];rfl)
   | true =>
   cases hB:plR b1 b2 with
   | false=>exact vI (by unfold co;rw [hA,hB];rfl)
   | true =>
   cases hC:plR c1 c2 with
   | false=>exact vI (by unfold co;rw [hA,hB,hC];rfl)
   | true =>
    rw [<- Ku (show (plR a1 a2&&(plR b1 b2&&plR c1 c2))=true by rw [hA,hB,hC];rfl)]
    have i1:bf (wI (b1 - a1))=true:=fF _
    have i2:bf (wI (c2 - a2))=true:=fF _
    have i3:bf (wI (b2 - a2))=true:=fF _
    have i4:bf (wI (c1 - a1))=true:=fF _
    have p1:bM (wI (b1 - a1)*wI (c2 - a2))=aY (wI (b1 - a1)*wI (c2 - a2))/\bD (wI (b1 - a1)*wI (c2 - a2))=aZ (wI (b1 - a1)*wI (c2 - a2)):=Mn m1
    have p2:bM (wI (b2 - a2)*wI (c1 - a1))=aY (wI (b2 - a2)*wI (c1 - a1))/\bD (wI (b2 - a2)*wI (c1 - a1))=aZ (wI (b2 - a2)*wI (c1 - a1)):=Mn m2
    have w1:wv (aY (wI (b1 - a1)*wI (c2 - a2))) (aZ (wI (b1 - a1)*wI (c2 - a2)))=wI (b1 - a1)*wI (c2 - a2):=(jJ m1).1
    have w2:wv (aY (wI (b2 - a2)*wI (c1 - a1))) (aZ (wI (b2 - a2)*wI (c1 - a1)))=wI (b2 - a2)*wI (c1 - a1):=(jJ m2).1
    rw [p1.1,p1.2,p2.1,p2.2,i1,i2,i3,i4,xq,xq,w1,w2]
    rfl)
 ·cases h
def ΓP9:Orc:=ah 332 Ez ΓP8
theorem RO:ΓP9.Ok prog:=af RP qfj
theorem XF (p1 p2 a1 a2 b1 b2:Int):runG ΓP9 L0 prog f290 [.v (.agg #[I p1,I p2]),.v (.agg #[I a1,I a2]),.v (.agg #[I b1,I b2])] M0 =
 (bif !plR a1 a2 then some (.v (Bo false),M0) else (bif !plR b1 b2 then some (.v (Bo false),M0) else (bif !plR p1 p2 then some (.v (Bo false),M0) else (bif co a1 a2 b1 b2 p1 p2 != (0:Int) then some (.v (Bo false),M0) else (bif decide (p1>=if b1<a1 then b1 else a1) then (bif decide (p1<=if b1>a1 then b1 else a1) then (bif decide (p2>=if b2<a2 then b2 else a2) then some (.v (Bo (decide (p2<=if b2>a2 then b2 else a2))),M0) else some (.v (Bo false),M0)) else some (.v (Bo false),M0)) else some (.v (Bo false),M0)))))):=by kernel_rfl
def EI (vs:List Value):Option (Bool×Value) :=
 match vs with
 | [.agg ⟨[.int .i64 p1,.int .i64 p2]⟩,.agg ⟨[.int .i64 a1,.int .i64 a2]⟩,.agg ⟨[.int .i64 b1,.int .i64 b2]⟩]=>some (true,Bo (onB p1 p2 a1 a2 b1 b2))
 | _=>none
theorem qfs:am 290 EI:=by
 intro vs r h
 unfold EI at h
 split at h
 ·rename_i p1 p2 a1 a2 b1 b2
  obtain ⟨h1,rfl⟩:=ab h
  refine ak (vs:=[.agg #[I p1,I p2],.agg #[I a1,I a2],.agg #[I b1,I b2]]) (Λ:=L0) (m':=M0) RO func290 rfl ai ?_
  exact (XF p1 p2 a1 a2 b1 b2).trans (by
   unfold onB btw
   cases plR a1 a2
   ·cases plR p1 p2<;>rfl
   cases plR b1 b2
   ·cases plR p1 p2<;>rfl
   cases plR p1 p2
   ·rfl
   by_cases ht:co a1 a2 b1 b2 p1 p2=0
   ·rw [ht]
    have e1:decide (p1>=if b1<a1 then b1 else a1)=decide ((if b1<a1 then b1 else a1)<=p1):=rfl
    have e2:decide (p2>=if b2<a2 then b2 else a2)=decide ((if b2<a2 then b2 else a2)<=p2):=rfl
    rw [e1,e2]
    cases decide ((if b1<a1 then b1 else a1)<=p1)<;>cases decide (p1<=if b1>a1 then b1 else a1)<;>cases decide ((if b2<a2 then b2 else a2)<=p2)<;>rfl
   ·rw [bne_iff_ne.2 ht,beq_eq_false_iff_ne.2 ht]
    rfl)
 ·cases h
def ΓP10:Orc:=ah 290 EI ΓP9
theorem RT:ΓP10.Ok prog:=af RO qfs
theorem XL (a1 a2 b1 b2 c1 c2 d1 d2:Int):runG ΓP10 L0 prog f291 [.v (.agg #[I a1,I a2]),.v (.agg #[I b1,I b2]),.v (.agg #[I c1,I c2]),.v (.agg #[I d1,I d2])] M0 =
 (bif !plR a1 a2 then some (.v (Bo false),M0) else (bif !plR b1 b2 then some (.v (Bo false),M0) else (bif !plR c1 c2 then some (.v (Bo false),M0) else (bif !plR d1 d2 then some (.v (Bo false),M0) else (bif onB a1 a2 c1 c2 d1 d2 then some (.v (Bo true),M0) else (bif onB b1 b2 c1 c2 d1 d2 then some (.v (Bo true),M0) else (bif onB c1 c2 a1 a2 b1 b2 then some (.v (Bo true),M0) else (bif onB d1 d2 a1 a2 b1 b2 then some (.v (Bo true),M0) else (bif decide (wI (co a1 a2 b1 b2 c1 c2*co a1 a2 b1 b2 d1 d2)<(0:Int)) then some (.v (Bo (decide (wI (co c1 c2 d1 d2 a1 a2*co c1 c2 d1 d2 b1 b2)<(0:Int)))),M0) else some (.v (Bo false),M0)))))))))):=by kernel_rfl
def EO (vs:List Value):Option (Bool×Value) :=
 match vs with
 | [.agg ⟨[.int .i64 a1,.int .i64 a2]⟩,.agg ⟨[.int .i64 b1,.int .i64 b2]⟩,.agg ⟨[.int .i64 c1,.int .i64 c2]⟩,.agg ⟨[.int .i64 d1,.int .i64 d2]⟩]=>some (true,Bo (dE a1 a2 b1 b2 c1 c2 d1 d2))
 | _=>none
theorem qfy:am 291 EO:=by
 intro vs r h
 unfold EO at h
 split at h
 ·rename_i a1 a2 b1 b2 c1 c2 d1 d2
  obtain ⟨h1,rfl⟩:=ab h
  refine ak (vs:=[.agg #[I a1,I a2],.agg #[I b1,I b2],.agg #[I c1,I c2],.agg #[I d1,I d2]]) (Λ:=L0) (m':=M0) RT func291 rfl ai ?_
  exact (XL a1 a2 b1 b2 c1 c2 d1 d2).trans (by
   unfold dE Hh
   cases plR a1 a2
   ·rfl
   cases plR b1 b2
   ·rfl
   cases plR c1 c2
   ·rfl
   cases plR d1 d2
   ·rfl
   cases onB a1 a2 c1 c2 d1 d2
   ·cases onB b1 b2 c1 c2 d1 d2
    ·cases onB c1 c2 a1 a2 b1 b2
     ·cases onB d1 d2 a1 a2 b1 b2
      ·cases decide (wI (co a1 a2 b1 b2 c1 c2*co a1 a2 b1 b2 d1 d2)<0)<;>rfl
      ·rfl
     ·rfl
    ·rfl
   ·rfl)
 ·cases h
def ΓP11:Orc:=ah 291 EO ΓP10
theorem qkO:ΓP11.Ok prog:=af RT qfy
def ΓPt:Orc:=ΓP11
theorem RF:ΓPt.Ok prog:=qkO
end Go.Proofs.YtainfdcfkgemhaaGreat
namespace Go.Proofs.YtainfdcfkgemhaaGreat
open Go Go.Proofs Go.Sx
set_option linter.unusedVariables false
theorem Y0 (a b n:Int):runG ΓPt L0 prog f370 [.v (Wd a b),.v (UU n)] M0 =
 (bif a7 n&&a7 n then (bif decide (n*n / (18446744073709551616:Int)<IntKind.u64.wrap a) then some (.v (Bo true),M0) else (bif n*n / (18446744073709551616:Int)==IntKind.u64.wrap a then some (.v (Bo (decide (n*n % (18446744073709551616:Int)<=b))),M0) else some (.v (Bo false),M0))) else none):=by kernel_rfl
def FJ (vs:List Value):Option (Bool×Value) :=
 match vs with
 | [.agg ⟨[.int .i64 a,.int .u64 b]⟩,.int .u64 n]=>some (bV a b&&(decide (0<=a)&&a7 n),Bo (decide (n*n<=wv a b)))
 | _=>none
theorem qgs:am 370 FJ:=by
 intro vs r h
 unfold FJ at h
 split at h
 ·rename_i a b n
  obtain ⟨h1,rfl⟩:=ab h
  refine ak (vs:=[Wd a b,UU n]) (Λ:=L0) (m':=M0) RF func370 rfl ai ?_
  exact (Y0 a b n).trans (by
   simp only [Bool.and_eq_true,decide_eq_true_eq] at h1
   obtain ⟨g1,g2,g3⟩:=h1
   rw [g3]
   simp only [Bool.and_self,cond_true]
   rw [jk] at g1
   rw [wrU]
   have ea:a % 18446744073709551616=a:=by omega
   rw [ea]
   unfold wv
   by_cases c1:n*n / 18446744073709551616<a
   ·rw [decide_eq_true c1,decide_eq_true (show n*n<=a*18446744073709551616+b by omega)]
    rfl
   ·rw [decide_eq_false c1]
    by_cases c2:n*n / 18446744073709551616=a
    ·rw [beq_iff_eq.2 c2]
     refine gq ?_
     show Bo _=Bo _
     rw [decide_eq_decide.2 (show n*n % 18446744073709551616<=b↔n*n<=a*18446744073709551616+b by omega)]
    ·rw [beq_eq_false_iff_ne.2 c2,decide_eq_false (show ¬ n*n<=a*18446744073709551616+b by omega)]
     rfl)
 ·cases h
def ΓT1:Orc:=ah 370 FJ ΓPt
theorem OkT1:ΓT1.Ok prog:=af RF qgs
def oF:Code:=ch (f356.body.getD .skip) 0
theorem qb5:aF (f356.body.getD .skip)=[oF]:=by kernel_rfl
theorem qb4:aF oF=[]:=by kernel_rfl
def pU:List Bool:=aB 21 [1,4,5]
def Av:List Bool:=aB 21 [4]
def zX (e:Ex) (st:St):Option (Ex×St):=some (e,ac 0 0 Av st)
def MSq (a b:Int):Mem:=⟨[[.v (I a),.v (UU b)]],[true],[]⟩
def z0 (a b r q:Int):St:=mk pU [.ptr 0 0,.v (UU r),.v (UU q)] (MSq a b)
def HV (r:Int):St:=mk Av [.v (UU r)] M0
theorem UA (a b r q:Int) (k:Nat):an ΓT1 prog L0 (ac 0 0 pU) oF (k+1) (z0 a b r q) zX =
 bif decide (q>0) then (bif bV a b&&(decide (0<=a)&&a7 (jV r q)) then (bif decide (jV r q*jV r q<=wv a b) then an ΓT1 prog L0 (ac 0 0 pU) oF k (z0 a b (jV r q) (q.fdiv (2 ^ 1))) zX else an ΓT1 prog L0 (ac 0 0 pU) oF k (z0 a b r (q.fdiv (2 ^ 1))) zX) else none) else some (.exit 0,HV r):=by kernel_rfl
def Jt (vals:List SV) (m:Mem):Option (Bool×Ex×St) :=
 match vals,m with
 | [.ptr 0 0,.v (.int .u64 r),.v (.int .u64 q)],⟨[[.v (.int .i64 a),.v (.int .u64 b)]],[true],[]⟩ =>
  some (bV a b&&(decide (0<=a)&&(r==0&&q==9223372036854775808)),.exit 0,HV (fk (wv a b) 64 0))
 | _,_=>none
def ΛSq:aV:=fun _ st=>cJ 0 0 pU Jt st
theorem qcY (z:Base) (z1:z.L.length=0) (z2:z.U.length=0):aS ΛSq prog z oF:=by
 refine du (Λ:=L0) (kx:=fun _=>Av) OkT1 mixed z1 z2 (fun b hb=>by rw [qb4] at hb;cases hb) (G:=Jt) (fun _=>rfl) ?_
 intro vals m e st' h
 unfold Jt at h
 split at h
 ·rename_i r q a b
  obtain ⟨h1,rfl,rfl⟩:=aw h
  simp only [Bool.and_eq_true,beq_iff_eq,decide_eq_true_eq] at h1
  obtain ⟨g1,g2,rfl,rfl⟩:=h1
  exact ⟨65,UV (wv a b) (fun x=>bV a b&&(decide (0<=a)&&a7 x)) (fun x hx=>by simp [g1,g2,hx]) (fun m r q=>an ΓT1 prog L0 (ac 0 0 pU) oF m (z0 a b r q) zX) (fun r=>some (.exit 0,HV r)) (fun m r q=>UA a b r q m) 63 0 (by decide) (by decide) (by decide)⟩
 ·cases h
theorem Ws (a b:Int):runG ΓT1 ΛSq prog f356 [.v (Wd a b)] M0 =
 bif decide (a<0) then some (.v (.tuple #[UU 0,Bo false]),M0)
 else bif bV a b&&(decide (0<=a)&&((0:Int)==0&&(9223372036854775808:Int)==9223372036854775808)) then some (.v (.tuple #[UU (fk (wv a b) 64 0),Bo true]),M0) else none:=by kernel_rfl
def DO (vs:List Value):Option (Bool×Value) :=
 match vs with
 | [.agg ⟨[.int .i64 a,.int .u64 b]⟩]=>some (bV a b,.tuple #[UU (bU (wv a b)),Bo (decide (0<=wv a b))])
 | _=>none
theorem qeH:am 356 DO:=by
 intro vs r h
 unfold DO at h
 split at h
 ·rename_i a b
  obtain ⟨h1,rfl⟩:=ab h
  refine ak (vs:=[Wd a b]) (Λ:=ΛSq) (m':=M0) OkT1 func356 rfl (fun z z1 z2=>bR (c:=f356.body.getD .skip) qb5 (qcY z z1 z2)) ?_
  refine (Ws a b).trans ?_
  have h':=h1
  rw [jk] at h'
  by_cases ha:a<0
  ·have e1:wv a b<0:=by unfold wv;omega
   have e2:¬ 0<=wv a b:=by omega
   simp [ha,bU,e1,e2]
  ·have e1:¬ wv a b<0:=by unfold wv;omega
   have e2:0<=wv a b:=by omega
   have e3:0<=a:=by omega
   simp [ha,bU,e1,e2,e3,h1]
 ·cases h
def ΓT2:Orc:=ah 356 DO ΓT1
theorem OkT2:ΓT2.Ok prog:=af OkT1 qeH
theorem Zm (a b:Int) (t:Bool):runG ΓT2 L0 prog f324 [.v (Wd a b),.v (Bo t)] M0 =
 (bif !t then some (.v (.tuple #[(I 0),(Bo false)]),M0) else (bif bV a b then (bif !decide ((0:Int)<=wv a b) then some (.v (.tuple #[(I 0),(Bo false)]),M0) else (bif decide (bU (wv a b)>(9223372036854775807:Int)) then some (.v (.tuple #[(I 0),(Bo false)]),M0) else some (.v (.tuple #[(I (wI (bU (wv a b)))),(Bo true)]),M0))) else none)):=by kernel_rfl
def F0 (vs:List Value):Option (Bool×Value) :=
 match vs with
 | [.agg ⟨[.int .i64 a,.int .u64 b]⟩,.bool t]=>some (bV a b&&(bf (wv a b)&&t),.tuple #[I (bU (wv a b)),Bo (decide (0<=wv a b))])
 | _=>none
theorem LC {n:Int} (h:bf n=true):0<=bU n/\bU n<4294967296:=by
 rw [ew] at h
 refine ⟨qao (by omega),?_⟩
 rcases (by omega:n<0\/0<=n) with h1|h1
 ·rw [BH h1];decide
 ·obtain ⟨s0,_,s2,_⟩:=vW n h1 (by omega)
  rcases (by omega:bU n<4294967296\/4294967296<=bU n) with h2|h2
  ·exact h2
  ·have:=Int.mul_le_mul h2 h2 (by decide) s0
   omega
theorem qgI:am 324 F0:=by
 intro vs r h
 unfold F0 at h
 split at h
 ·rename_i a b t
  obtain ⟨h1,rfl⟩:=ab h
  refine ak (vs:=[Wd a b,Bo t]) (Λ:=L0) (m':=M0) OkT2 func324 rfl ai ?_
  exact (Zm a b t).trans (by
   simp only [Bool.and_eq_true] at h1
   obtain ⟨g1,g2,rfl⟩:=h1
   obtain ⟨r0,r1⟩:=LC g2
   rw [g1]
   simp only [Bool.not_true,cond_false,cond_true]
   by_cases hn:0<=wv a b
   ·rw [decide_eq_true hn,decide_eq_false (show ¬ bU (wv a b)>9223372036854775807 by omega),az (by omega)]
    rfl
   ·rw [decide_eq_false hn,BH (by omega)]
    rfl)
 ·cases h
def ΓT3:Orc:=ah 324 F0 ΓT2
theorem OkT3:ΓT3.Ok prog:=af OkT2 qgI
theorem Zk (n:Int):runG ΓT3 L0 prog f260 [.v (I n)] M0 =
 (bif bf n then (bif bV (aY n) (aZ n)&&(bf (wv (aY n) (aZ n))&&true) then some (.v (.tuple #[(I (bU (wv (aY n) (aZ n)))),(Bo (decide ((0:Int)<=wv (aY n) (aZ n))))]),M0) else none) else none):=by kernel_rfl
def FY (vs:List Value):Option (Bool×Value) :=
 match vs with
 | [.int .i64 n]=>some (bf n,.tuple #[I (bU n),Bo (decide (0<=n))])
 | _=>none
theorem qgG:am 260 FY:=by
 intro vs r h
 unfold FY at h
 split at h
 ·rename_i n
  obtain ⟨h1,rfl⟩:=ab h
  refine ak (vs:=[I n]) (Λ:=L0) (m':=M0) OkT3 func260 rfl ai ?_
  exact (Zk n).trans (by
   obtain ⟨e1,e2⟩:=jJ (wD h1)
   rw [h1,e2,e1,h1]
   rfl)
 ·cases h
def ΓT4:Orc:=ah 260 FY ΓT3
theorem OkT4:ΓT4.Ok prog:=af OkT3 qgG
def cB (n lo hi:Int):Int:=bif decide (n<lo) then lo else bif decide (n>hi) then hi else n
theorem Zt (n lo hi:Int):runG ΓT4 L0 prog f216 [.v (I n),.v (I lo),.v (I hi)] M0 =
 (bif decide (n<lo) then some (.v (I lo),M0) else (bif decide (n>hi) then some (.v (I hi),M0) else some (.v (I n),M0))):=by kernel_rfl
def F4 (vs:List Value):Option (Bool×Value) :=
 match vs with
 | [.int .i64 n,.int .i64 lo,.int .i64 hi]=>some (true,I (cB n lo hi))
 | _=>none
theorem qgM:am 216 F4:=by
 intro vs r h
 unfold F4 at h
 split at h
 ·rename_i n lo hi
  obtain ⟨h1,rfl⟩:=ab h
  refine ak (vs:=[I n,I lo,I hi]) (Λ:=L0) (m':=M0) OkT4 func216 rfl ai ?_
  exact (Zt n lo hi).trans (by
   unfold cB
   cases decide (n<lo)<;>cases decide (n>hi)<;>rfl)
 ·cases h
def ΓT5:Orc:=ah 216 F4 ΓT4
theorem OkT5:ΓT5.Ok prog:=af OkT4 qgM
def ΓRt:Orc:=ΓT5
theorem Rp:ΓRt.Ok prog:=OkT5
end Go.Proofs.YtainfdcfkgemhaaGreat
namespace Go.Proofs.YtainfdcfkgemhaaGreat
open Go Go.Proofs Go.Sx
set_option linter.unusedVariables false
theorem qay {z v g:Int} (h:ez z v g=true):wI (wI (v*v)+wI (wI ((2:Int)*g)*z))=v*v+2*g*z/\bf (v*v+2*g*z)=true:=by
 obtain ⟨n1,n2⟩:=yq h
 have hx:=k9.1 h
 refine ⟨?_,by rw [ew];omega⟩
 rw [az (n:=2*g) (by omega),az (n:=v*v) (by omega),az (n:=2*g*z) (by omega),az (by omega)]
theorem qaz {z v g:Int} (h:ez z v g=true) (hz:¬ z<0):wI ((wI (v+bU (v*v+2*g*z))).tdiv g)=bC z v g:=by
 obtain ⟨s,e,h0,h1,h2,h3,h4⟩:=ve h (by omega)
 obtain ⟨n1,n2⟩:=yq h
 have hx:=k9.1 h
 have gz:0<=2*g*z:=Int.mul_nonneg (by omega) (by omega)
 have es:bU (v*v+2*g*z)=s:=qan (by omega) h0 h3 h4
 have t1:=pe h
 have t2:=vf h
 obtain ⟨r0,r1⟩:=LC (n:=v*v+2*g*z) (by rw [ew];omega)
 rw [es] at r1 ⊢
 rw [az (n:=v+s) (by omega),Int.tdiv_eq_ediv_of_nonneg (by omega),<- e,az (by omega)]
theorem yo {z v g d c:Int} (h:bW z v g=true) (h1:-2048<=d) (h2:d<=2048) (h3:-2048<=c) (h4:c<=2048):ez (z+d) (v+c) g=true:=by
 rw [yp] at h;rw [k9];omega
theorem qbS (z v g:Int):(bif decide (z>=(-2147483648:Int)) then (bif decide (z<=(2147483648:Int)) then (bif decide (v>=(-131072:Int)) then (bif decide (v<=(131072:Int)) then (bif decide (g>=(1:Int)) then some (.v (Bo (decide (g<=(100:Int)))),M0) else some (.v (Bo false),M0)) else some (.v (Bo false),M0)) else some (.v (Bo false),M0)) else some (.v (Bo false),M0)) else some (.v (Bo false),M0))=(some (SV.v (Bo (bW z v g)),M0):Option (SV×Mem)):=by
 unfold bW
 by_cases h1:-2147483648<=z<;>by_cases h2:z<=2147483648<;>by_cases h3:-131072<=v<;>by_cases h4:v<=131072<;>by_cases h5:1<=g<;>by_cases h6:g<=100<;>simp [h1,h2,h3,h4,h5,h6]
theorem Zd (z:Int) (v:Int) (g:Int):runG ΓRt L0 prog f292 [.v (I z),.v (I v),.v (I g)] M0 =
 (bif decide (z>=(-2147483648:Int)) then (bif decide (z<=(2147483648:Int)) then (bif decide (v>=(-131072:Int)) then (bif decide (v<=(131072:Int)) then (bif decide (g>=(1:Int)) then some (.v (Bo (decide (g<=(100:Int)))),M0) else some (.v (Bo false),M0)) else some (.v (Bo false),M0)) else some (.v (Bo false),M0)) else some (.v (Bo false),M0)) else some (.v (Bo false),M0)):=by kernel_rfl
def FV (vs:List Value):Option (Bool×Value) :=
 match vs with
 | [.int .i64 z,.int .i64 v,.int .i64 g]=>some (true,Bo (bW z v g))
 | _=>none
theorem qgD:am 292 FV:=by
 intro vs r h
 unfold FV at h
 split at h
 ·rename_i z v g
  obtain ⟨h1,rfl⟩:=ab h
  refine ak (vs:=[I z,I v,I g]) (Λ:=L0) (m':=M0) Rp func292 rfl ai ?_
  exact (Zd z v g).trans (qbS z v g)
 ·cases h
def ΓA1:Orc:=ah 292 FV ΓRt
theorem OkA1:ΓA1.Ok prog:=af Rp qgD
def ΓA2:Orc:=ΓA1
theorem OkA2:ΓA2.Ok prog:=OkA1
theorem Ze (z:Int) (v:Int) (g:Int):runG ΓA2 L0 prog f293 [.v (I z),.v (I v),.v (I g)] M0 =
 (bif decide (z<(0:Int)) then some (.v (I 0),M0) else (bif bf (wI (wI (v*v)+wI (wI ((2:Int)*g)*z))) then (bif g==(0:Int) then none else some (.v (I (wI ((wI (v+bU (wI (wI (v*v)+wI (wI ((2:Int)*g)*z))))).tdiv g))),M0)) else none)):=by kernel_rfl
def FW (vs:List Value):Option (Bool×Value) :=
 match vs with
 | [.int .i64 z,.int .i64 v,.int .i64 g]=>some (ez z v g,I (bC z v g))
 | _=>none
theorem qgE:am 293 FW:=by
 intro vs r h
 unfold FW at h
 split at h
 ·rename_i z v g
  obtain ⟨h1,rfl⟩:=ab h
  refine ak (vs:=[I z,I v,I g]) (Λ:=L0) (m':=M0) OkA2 func293 rfl ai ?_
  exact (Ze z v g).trans (by
   obtain ⟨e1,e2⟩:=qay h1
   by_cases hz:z<0
   ·rw [decide_eq_true hz]
    unfold bC
    rw [decide_eq_true hz]
    rfl
   ·rw [decide_eq_false hz,e1,e2,beq_eq_false_iff_ne.2 (show g≠0 by have:=k9.1 h1;omega),qaz h1 hz]
    rfl)
 ·cases h
def ΓA3:Orc:=ah 293 FW ΓA2
theorem OkA3:ΓA3.Ok prog:=af OkA2 qgE
def ΓA4:Orc:=ΓA3
theorem OkA4:ΓA4.Ok prog:=OkA3
def ΓA5:Orc:=ΓA4
theorem OkA5:ΓA5.Ok prog:=OkA4
def ΓA6:Orc:=ΓA5
theorem OkA6:ΓA6.Ok prog:=OkA5
def ΓA7:Orc:=ΓA6
theorem OkA7:ΓA7.Ok prog:=OkA6
def ΓA8:Orc:=ΓA7
theorem OkA8:ΓA8.Ok prog:=OkA7
theorem Zl (z:Int) (v:Int) (g:Int) (e:Int):runG ΓA8 L0 prog f232 [.v (I z),.v (I v),.v (I g),.v (I e)] M0 =
 (bif !bW z v g then some (.v (.tuple #[(I 0),(I 0),(Bo false)]),M0) else (bif decide (e<(0:Int)) then some (.v (.tuple #[(I 0),(I 0),(Bo false)]),M0) else (bif decide (e>(2048:Int)) then some (.v (.tuple #[(I 0),(I 0),(Bo false)]),M0) else (bif ez (wI (z - e)) (wI (v - e)) g then (bif ez (wI (z+e)) (wI (v+e)) g then some (.v (.tuple #[(I (bC (wI (z - e)) (wI (v - e)) g)),(I (wI (bC (wI (z+e)) (wI (v+e)) g+(2:Int)))),(Bo true)]),M0) else none) else none)))):=by kernel_rfl
def FZ (vs:List Value):Option (Bool×Value) :=
 match vs with
 | [.int .i64 z,.int .i64 v,.int .i64 g,.int .i64 e]=>some (true,.tuple #[I (bif bW z v g&&decide (0<=e/\e<=2048) then bC (z - e) (v - e) g else 0),I (bif bW z v g&&decide (0<=e/\e<=2048) then bC (z+e) (v+e) g+2 else 0),Bo (bW z v g&&decide (0<=e/\e<=2048))])
 | _=>none
theorem qgH:am 232 FZ:=by
 intro vs r h
 unfold FZ at h
 split at h
 ·rename_i z v g e
  obtain ⟨h1,rfl⟩:=ab h
  refine ak (vs:=[I z,I v,I g,I e]) (Λ:=L0) (m':=M0) OkA8 func232 rfl ai ?_
  exact (Zl z v g e).trans (by
   cases h:bW z v g
   ·rfl
   ·simp only [Bool.not_true,cond_false,Bool.true_and]
    by_cases h2:e<0
    ·rw [decide_eq_true h2,decide_eq_false (show ¬ (0<=e/\e<=2048) by omega)];rfl
    ·by_cases h3:e>2048
     ·rw [decide_eq_false h2,decide_eq_true h3,decide_eq_false (show ¬ (0<=e/\e<=2048) by omega)];rfl
     ·have hx:=yp.1 h
      have k1:ez (z - e) (v - e) g=true:=by rw [Int.sub_eq_add_neg,Int.sub_eq_add_neg];exact yo h (by omega) (by omega) (by omega) (by omega)
      have k2:ez (z+e) (v+e) g=true:=yo h (by omega) (by omega) (by omega) (by omega)
      have k3:=pe k2
      have k4:=vf k2
      rw [decide_eq_false h2,decide_eq_false h3,decide_eq_true (show (0<=e/\e<=2048) by omega),az (n:=z - e) (by omega),az (n:=v - e) (by omega),az (n:=z+e) (by omega),az (n:=v+e) (by omega),k1,k2,az (n:=bC (z+e) (v+e) g+2) (by omega)];rfl)
 ·cases h
def ΓA9:Orc:=ah 232 FZ ΓA8
theorem qlk:ΓA9.Ok prog:=af OkA8 qgH
def ΓA10:Orc:=ΓA9
theorem qlm:ΓA10.Ok prog:=qlk
def ΓA11:Orc:=ΓA10
theorem qll:ΓA11.Ok prog:=qlm
def ΓFa:Orc:=ΓA11
theorem Sf:ΓFa.Ok prog:=qll
end Go.Proofs.YtainfdcfkgemhaaGreat
namespace Go.Proofs.YtainfdcfkgemhaaGreat
open Go Go.Proofs Go.Sx
set_option linter.unusedVariables false
def kL (x y n:Int):Bool:=decide (0<=n/\n<=4096)&&(decide (-1099511623680<=x/\x<=1099511623680)&&decide (-1099511623680<=y/\y<=1099511623680))
def bi (a b c d:Int):Bool:=plR a b&&(plR c d&&(decide (a<=c)&&decide (b<=d)))
def fX (n m:Int):Bool:=decide (n>=wI (0 - m))&&decide (n<=m)
theorem u4 {n m:Int} (h0:0<=m) (h1:m<9223372036854775808):fX n m=true↔-m<=n/\n<=m:=by
 unfold fX
 rw [az (n:=0 - m) (by omega),Bool.and_eq_true,decide_eq_true_iff,decide_eq_true_iff]
 omega
def gv (x y vx vy:Int):Bool:=fX x 2147483648&&(fX y 2147483648&&(fX vx 131072&&fX vy 131072))
theorem nC {x y vx vy:Int}:gv x y vx vy=true↔(-2147483648<=x/\x<=2147483648)/\(-2147483648<=y/\y<=2147483648)/\(-131072<=vx/\vx<=131072)/\-131072<=vy/\vy<=131072:=by
 unfold gv
 rw [Bool.and_eq_true,Bool.and_eq_true,Bool.and_eq_true,u4 (by decide) (by decide),u4 (by decide) (by decide),u4 (by decide) (by decide),u4 (by decide) (by decide)]
def kF (x y vx vy f t:Int):Bool:=decide (-4294967296<=x/\x<=4294967296)&&(decide (-4294967296<=y/\y<=4294967296)&&(decide (-262144<=vx/\vx<=262144)&&(decide (-262144<=vy/\vy<=262144)&&(decide (-4096<=f/\f<=4096)&&decide (0<=t/\t<=4194304)))))
theorem L5 {x y vx vy f t:Int}:kF x y vx vy f t=true↔(-4294967296<=x/\x<=4294967296)/\(-4294967296<=y/\y<=4294967296)/\(-262144<=vx/\vx<=262144)/\(-262144<=vy/\vy<=262144)/\(-4096<=f/\f<=4096)/\0<=t/\t<=4194304:=by
 unfold kF
 simp only [Bool.and_eq_true,decide_eq_true_eq]
theorem LX {x v f t:Int} (h1:-4294967296<=x/\x<=4294967296) (h2:-262144<=v/\v<=262144) (h3:-4096<=f/\f<=4096) (h4:0<=t/\t<=4194304):wI (x+wI (wI (v+f)*t))=x+(v+f)*t/\-1129576398848<=x+(v+f)*t/\x+(v+f)*t<=1129576398848:=by
 have p:=sI (a:=v+f) (b:=t) (A:=266240) (B:=4194304) (by omega) (by omega) (by omega) (by omega)
 rw [az (n:=v+f) (by omega),az (n:=(v+f)*t) (by omega),az (by omega)]
 omega
def kY (a b c d x y:Int):Bool:=bi a b c d&&(plR x y&&(decide (x>=a)&&(decide (x<=c)&&(decide (y>=b)&&decide (y<=d)))))
def qf (a b c d a' b' c' d':Int):Bool:=bi a b c d&&(kY a' b' c' d' a b&&kY a' b' c' d' c d)
theorem HC {a b c d:Int}:bi a b c d=true↔plR a b=true/\plR c d=true/\a<=c/\b<=d:=by
 unfold bi
 simp only [Bool.and_eq_true,decide_eq_true_eq]
theorem NV {a b c d x y:Int}:kY a b c d x y=true↔bi a b c d=true/\plR x y=true/\a<=x/\x<=c/\b<=y/\y<=d:=by
 unfold kY
 simp only [Bool.and_eq_true,decide_eq_true_eq]
theorem MK {x y n:Int}:kL x y n=true↔(0<=n/\n<=4096)/\(-1099511623680<=x/\x<=1099511623680)/\(-1099511623680<=y/\y<=1099511623680):=by
 unfold kL
 simp only [Bool.and_eq_true,decide_eq_true_eq]
theorem tS {n lo hi:Int} (h1:lo<=n) (h2:n<=hi):cB n lo hi=n:=by
 unfold cB
 rw [decide_eq_false (show ¬ n<lo by omega),decide_eq_false (show ¬ n>hi by omega)]
 rfl
theorem qad (a:Int) (b:Int) (c:Int) (d:Int):runG ΓFa L0 prog f237 [.v (.agg #[I a,I b,I c,I d])] M0 =
 (bif plR a b then (bif plR c d then (bif decide (a<=c) then some (.v (Bo (decide (b<=d))),M0) else some (.v (Bo false),M0)) else some (.v (Bo false),M0)) else some (.v (Bo false),M0)):=by kernel_rfl
def GG (vs:List Value):Option (Bool×Value) :=
 match vs with
 | [.agg ⟨[.int .i64 a,.int .i64 b,.int .i64 c,.int .i64 d]⟩]=>some (true,Bo (bi a b c d))
 | _=>none
theorem qhm:am 237 GG:=by
 intro vs r h
 unfold GG at h
 split at h
 ·rename_i a b c d
  obtain ⟨h1,rfl⟩:=ab h
  refine ak (vs:=[.agg #[I a,I b,I c,I d]]) (Λ:=L0) (m':=M0) Sf func237 rfl ai ?_
  exact (qad a b c d).trans (by unfold bi;cases plR a b<;>cases plR c d<;>cases decide (a<=c)<;>rfl)
 ·cases h
def ΓB1:Orc:=ah 237 GG ΓFa
theorem qlj:ΓB1.Ok prog:=af Sf qhm
def ΓB2:Orc:=ΓB1
theorem qlg:ΓB2.Ok prog:=qlj
def ΓB3:Orc:=ΓB2
theorem qlf:ΓB3.Ok prog:=qlg
def ΓB4:Orc:=ΓB3
theorem SH:ΓB4.Ok prog:=qlf
theorem qag (x:Int) (y:Int):runG ΓB4 L0 prog f296 [.v (I x),.v (I y)] M0 =
 some (.v (.agg #[(I (cB x (-1099511627776:Int) (1099511627776:Int))),(I (cB y (-1099511627776:Int) (1099511627776:Int)))]),M0):=by kernel_rfl
def GJ (vs:List Value):Option (Bool×Value) :=
 match vs with
 | [.int .i64 x,.int .i64 y]=>some (true,.agg #[I (cB x (-1099511627776) 1099511627776),I (cB y (-1099511627776) 1099511627776)])
 | _=>none
theorem qhp:am 296 GJ:=by
 intro vs r h
 unfold GJ at h
 split at h
 ·rename_i x y
  obtain ⟨h1,rfl⟩:=ab h
  refine ak (vs:=[I x,I y]) (Λ:=L0) (m':=M0) SH func296 rfl ai ?_
  exact (qag x y).trans (rfl)
 ·cases h
def ΓB5:Orc:=ah 296 GJ ΓB4
theorem SG:ΓB5.Ok prog:=af SH qhp
theorem qae (x:Int) (y:Int) (n:Int):runG ΓB5 L0 prog f234 [.v (.agg #[I x,I y]),.v (I n)] M0 =
 (bif !plR x y then some (.v (.agg #[(I 0),(I 0),(I 0),(I 0)]),M0) else some (.v (.agg #[(I (cB (wI (x - cB n (0:Int) (2199023255552:Int))) (-1099511627776:Int) (1099511627776:Int))),(I (cB (wI (y - cB n (0:Int) (2199023255552:Int))) (-1099511627776:Int) (1099511627776:Int))),(I (cB (wI (x+cB n (0:Int) (2199023255552:Int))) (-1099511627776:Int) (1099511627776:Int))),(I (cB (wI (y+cB n (0:Int) (2199023255552:Int))) (-1099511627776:Int) (1099511627776:Int)))]),M0)):=by kernel_rfl
def GH (vs:List Value):Option (Bool×Value) :=
 match vs with
 | [.agg ⟨[.int .i64 x,.int .i64 y]⟩,.int .i64 n]=>some (kL x y n,.agg #[I (x - n),I (y - n),I (x+n),I (y+n)])
 | _=>none
theorem qhn:am 234 GH:=by
 intro vs r h
 unfold GH at h
 split at h
 ·rename_i x y n
  obtain ⟨h1,rfl⟩:=ab h
  refine ak (vs:=[.agg #[I x,I y],I n]) (Λ:=L0) (m':=M0) SG func234 rfl ai ?_
  exact (qae x y n).trans (by
   obtain ⟨h2,h3,h4⟩:=MK.1 h1
   rw [wo.2 (by omega),tS (n:=n) (by omega) (by omega),az (n:=x - n) (by omega),az (n:=y - n) (by omega),az (n:=x+n) (by omega),az (n:=y+n) (by omega),tS (n:=x - n) (by omega) (by omega),tS (n:=y - n) (by omega) (by omega),tS (n:=x+n) (by omega) (by omega),tS (n:=y+n) (by omega) (by omega)]
   rfl)
 ·cases h
def ΓB6:Orc:=ah 234 GH ΓB5
theorem SF:ΓB6.Ok prog:=af SG qhn
theorem qaf (a:Int) (b:Int) (c:Int) (d:Int) (a':Int) (b':Int) (c':Int) (d':Int):runG ΓB6 L0 prog f236 [.v (.agg #[I a,I b,I c,I d]),.v (.agg #[I a',I b',I c',I d'])] M0 =
 (bif bi a b c d then (bif bi a' b' c' d' then some (.v (.agg #[(I (if a'<a then a' else a)),(I (if b'<b then b' else b)),(I (if c'>c then c' else c)),(I (if d'>d then d' else d))]),M0) else (bif bi a b c d then some (.v (.agg #[(I a),(I b),(I c),(I d)]),M0) else (bif bi a' b' c' d' then some (.v (.agg #[(I a'),(I b'),(I c'),(I d')]),M0) else some (.v (.agg #[(I 0),(I 0),(I 0),(I 0)]),M0)))) else (bif bi a b c d then some (.v (.agg #[(I a),(I b),(I c),(I d)]),M0) else (bif bi a' b' c' d' then some (.v (.agg #[(I a'),(I b'),(I c'),(I d')]),M0) else some (.v (.agg #[(I 0),(I 0),(I 0),(I 0)]),M0)))):=by kernel_rfl
def GI (vs:List Value):Option (Bool×Value) :=
 match vs with
 | [.agg ⟨[.int .i64 a,.int .i64 b,.int .i64 c,.int .i64 d]⟩,.agg ⟨[.int .i64 a',.int .i64 b',.int .i64 c',.int .i64 d']⟩]=>some (bi a b c d&&bi a' b' c' d',Value.agg #[I (mn a a'),I (mn b b'),I (mx c c'),I (mx d d')])
 | _=>none
theorem qho:am 236 GI:=by
 intro vs r h
 unfold GI at h
 split at h
 ·rename_i a b c d a' b' c' d'
  obtain ⟨h1,rfl⟩:=ab h
  refine ak (vs:=[.agg #[I a,I b,I c,I d],.agg #[I a',I b',I c',I d']]) (Λ:=L0) (m':=M0) SF func236 rfl ai ?_
  exact (qaf a b c d a' b' c' d').trans (by
   rw [Bool.and_eq_true] at h1
   rw [h1.1,h1.2]
   rfl)
 ·cases h
def ΓB7:Orc:=ah 236 GI ΓB6
theorem SE:ΓB7.Ok prog:=af SF qho
theorem YR (n:Int) (m:Int):runG ΓB7 L0 prog f294 [.v (I n),.v (I m)] M0 =
 (bif decide (n>=wI ((0:Int) - m)) then some (.v (Bo (decide (n<=m))),M0) else some (.v (Bo false),M0)):=by kernel_rfl
def FB (vs:List Value):Option (Bool×Value) :=
 match vs with
 | [.int .i64 n,.int .i64 m]=>some (true,Bo (fX n m))
 | _=>none
theorem qgk:am 294 FB:=by
 intro vs r h
 unfold FB at h
 split at h
 ·rename_i n m
  obtain ⟨h1,rfl⟩:=ab h
  refine ak (vs:=[I n,I m]) (Λ:=L0) (m':=M0) SE func294 rfl ai ?_
  exact (YR n m).trans (by unfold fX;cases decide (n>=wI (0 - m))<;>rfl)
 ·cases h
def ΓB8:Orc:=ah 294 FB ΓB7
theorem SD:ΓB8.Ok prog:=af SE qgk
theorem YS (p:Int) (q:Int) (x:Int) (y:Int) (z:Int) (vx:Int) (vy:Int) (vz:Int):runG ΓB8 L0 prog f233 [.v (.agg #[I p,I q,I x,I y,I z,I vx,I vy,I vz])] M0 =
 (bif fX x (2147483648:Int) then (bif fX y (2147483648:Int) then (bif fX vx (131072:Int) then some (.v (Bo (fX vy (131072:Int))),M0) else some (.v (Bo false),M0)) else some (.v (Bo false),M0)) else some (.v (Bo false),M0)):=by kernel_rfl
def FC (vs:List Value):Option (Bool×Value) :=
 match vs with
 | [.agg ⟨[.int .i64 p,.int .i64 q,.int .i64 x,.int .i64 y,.int .i64 z,.int .i64 vx,.int .i64 vy,.int .i64 vz]⟩]=>some (true,Bo (gv x y vx vy))
 | _=>none
theorem qgl:am 233 FC:=by
 intro vs r h
 unfold FC at h
 split at h
 ·rename_i p q x y z vx vy vz
  obtain ⟨h1,rfl⟩:=ab h
  refine ak (vs:=[.agg #[I p,I q,I x,I y,I z,I vx,I vy,I vz]]) (Λ:=L0) (m':=M0) SD func233 rfl ai ?_
  exact (YS p q x y z vx vy vz).trans (by unfold gv;cases fX x 2147483648<;>cases fX y 2147483648<;>cases fX vx 131072<;>rfl)
 ·cases h
def ΓB9:Orc:=ah 233 FC ΓB8
theorem SC:ΓB9.Ok prog:=af SD qgl
theorem YT (p:Int) (q:Int) (x:Int) (y:Int) (z:Int) (vx:Int) (vy:Int) (vz:Int) (f:Int) (t:Int):runG ΓB9 L0 prog f235 [.v (.agg #[I p,I q,I x,I y,I z,I vx,I vy,I vz]),.v (I f),.v (I t)] M0 =
 some (.v (.agg #[(I (wI (x+wI (wI (vx+f)*t)))),(I (wI (y+wI (wI (vy+f)*t))))]),M0):=by kernel_rfl
def FD (vs:List Value):Option (Bool×Value) :=
 match vs with
 | [.agg ⟨[.int .i64 p,.int .i64 q,.int .i64 x,.int .i64 y,.int .i64 z,.int .i64 vx,.int .i64 vy,.int .i64 vz]⟩,.int .i64 f,.int .i64 t]=>some (kF x y vx vy f t,Value.agg #[I (x+(vx+f)*t),I (y+(vy+f)*t)])
 | _=>none
theorem qgm:am 235 FD:=by
 intro vs r h
 unfold FD at h
 split at h
 ·rename_i p q x y z vx vy vz f t
  obtain ⟨h1,rfl⟩:=ab h
  refine ak (vs:=[.agg #[I p,I q,I x,I y,I z,I vx,I vy,I vz],I f,I t]) (Λ:=L0) (m':=M0) SC func235 rfl ai ?_
  exact (YT p q x y z vx vy vz f t).trans (by
   obtain ⟨h2,h3,h4,h5,h6,h7⟩:=L5.1 h1
   rw [(LX h2 h4 h6 h7).1,(LX h3 h5 h6 h7).1])
 ·cases h
def ΓB10:Orc:=ah 235 FD ΓB9
theorem qli:ΓB10.Ok prog:=af SC qgm
def ΓB11:Orc:=ΓB10
theorem qlh:ΓB11.Ok prog:=qli
def ΓBx:Orc:=ΓB11
theorem zU:ΓBx.Ok prog:=qlh
end Go.Proofs.YtainfdcfkgemhaaGreat
namespace Go.Proofs.YtainfdcfkgemhaaGreat
open Go Go.Proofs Go.Sx
set_option linter.unusedVariables false
def Ce (x y n c:Int):Int:=bif plR x y then cB (wI (c - cB n 0 2199023255552)) (-1099511627776) 1099511627776 else 0
def Cf (x y n c:Int):Int:=bif plR x y then cB (wI (c+cB n 0 2199023255552)) (-1099511627776) 1099511627776 else 0
def pick (A B:Bool) (m x y:Int):Int:=bif A&&B then m else bif A then x else bif B then y else 0
def NF (a b c d a' b' c' d':Int):Int:=pick (bi a b c d) (bi a' b' c' d') (mn a a') a a'
def NE (a b c d a' b' c' d':Int):Int:=pick (bi a b c d) (bi a' b' c' d') (mn b b') b b'
def ND (a b c d a' b' c' d':Int):Int:=pick (bi a b c d) (bi a' b' c' d') (mx c c') c c'
def NC (a b c d a' b' c' d':Int):Int:=pick (bi a b c d) (bi a' b' c' d') (mx d d') d d'
theorem qdT (a b c d a' b' c' d':Int):(bi a b c d&&(bi a' b' c' d'&&(decide (a'<=a)&&(decide (b'<=b)&&(decide (c<=c')&&decide (d<=d'))))))=qf a b c d a' b' c' d':=by
 rw [Bool.eq_iff_iff]
 unfold qf
 simp only [Bool.and_eq_true,decide_eq_true_eq,NV]
 constructor
 ·rintro ⟨h1,h2,h3,h4,h5,h6⟩
  obtain ⟨p1,p2,p3,p4⟩:=HC.1 h1
  exact ⟨h1,⟨h2,p1,h3,by omega,h4,by omega⟩,h2,p2,by omega,h5,by omega,h6⟩
 ·rintro ⟨h1,⟨h2,p1,h3,_,h4,_⟩,_,p2,_,h5,_,h6⟩
  exact ⟨h1,h2,h3,h4,h5,h6⟩
theorem qdS (a b c d x y:Int):qf x y x y a b c d=kY a b c d x y:=by
 rw [Bool.eq_iff_iff]
 unfold qf
 simp only [Bool.and_eq_true,NV,HC]
 constructor
 ·rintro ⟨h1,h2,h3⟩
  exact h2
 ·intro h
  exact ⟨⟨h.2.1,h.2.1,Int.le_refl _,Int.le_refl _⟩,h,h⟩
theorem VN (x:Int) (y:Int) (n:Int):runG ΓBx L0 prog f234 [.v (.agg #[I x,I y]),.v (I n)] M0 =
 (bif !plR x y then some (.v (.agg #[(I 0),(I 0),(I 0),(I 0)]),M0) else some (.v (.agg #[(I (cB (wI (x - cB n (0:Int) (2199023255552:Int))) (-1099511627776:Int) (1099511627776:Int))),(I (cB (wI (y - cB n (0:Int) (2199023255552:Int))) (-1099511627776:Int) (1099511627776:Int))),(I (cB (wI (x+cB n (0:Int) (2199023255552:Int))) (-1099511627776:Int) (1099511627776:Int))),(I (cB (wI (y+cB n (0:Int) (2199023255552:Int))) (-1099511627776:Int) (1099511627776:Int)))]),M0)):=by kernel_rfl
def Dq (vs:List Value):Option (Bool×Value) :=
 match vs with
 | [.agg ⟨[.int .i64 x,.int .i64 y]⟩,.int .i64 n]=>some (true,.agg #[I (Ce x y n x),I (Ce x y n y),I (Cf x y n x),I (Cf x y n y)])
 | _=>none
theorem qen:am 234 Dq:=by
 intro vs r h
 unfold Dq at h
 split at h
 ·rename_i x y n
  obtain ⟨h1,rfl⟩:=ab h
  refine ak (vs:=[.agg #[I x,I y],I n]) (Λ:=L0) (m':=M0) zU func234 rfl ai ?_
  exact (VN x y n).trans (by unfold Ce Cf;cases plR x y<;>rfl)
 ·cases h
def ΓU1:Orc:=ah 234 Dq ΓBx
theorem qkq:ΓU1.Ok prog:=af zU qen
def ΓU2:Orc:=ΓU1
theorem qkp:ΓU2.Ok prog:=qkq
def ΓU3:Orc:=ΓU2
theorem Rj:ΓU3.Ok prog:=qkp
theorem VO (a:Int) (b:Int) (c:Int) (d:Int) (a':Int) (b':Int) (c':Int) (d':Int):runG ΓU3 L0 prog f236 [.v (.agg #[I a,I b,I c,I d]),.v (.agg #[I a',I b',I c',I d'])] M0 =
 (bif bi a b c d then (bif bi a' b' c' d' then some (.v (.agg #[(I (if a'<a then a' else a)),(I (if b'<b then b' else b)),(I (if c'>c then c' else c)),(I (if d'>d then d' else d))]),M0) else (bif bi a b c d then some (.v (.agg #[(I a),(I b),(I c),(I d)]),M0) else (bif bi a' b' c' d' then some (.v (.agg #[(I a'),(I b'),(I c'),(I d')]),M0) else some (.v (.agg #[(I 0),(I 0),(I 0),(I 0)]),M0)))) else (bif bi a b c d then some (.v (.agg #[(I a),(I b),(I c),(I d)]),M0) else (bif bi a' b' c' d' then some (.v (.agg #[(I a'),(I b'),(I c'),(I d')]),M0) else some (.v (.agg #[(I 0),(I 0),(I 0),(I 0)]),M0)))):=by kernel_rfl
def Dr (vs:List Value):Option (Bool×Value) :=
 match vs with
 | [.agg ⟨[.int .i64 a,.int .i64 b,.int .i64 c,.int .i64 d]⟩,.agg ⟨[.int .i64 a',.int .i64 b',.int .i64 c',.int .i64 d']⟩]=>some (true,Value.agg #[I (NF a b c d a' b' c' d'),I (NE a b c d a' b' c' d'),I (ND a b c d a' b' c' d'),I (NC a b c d a' b' c' d')])
 | _=>none
theorem qeo:am 236 Dr:=by
 intro vs r h
 unfold Dr at h
 split at h
 ·rename_i a b c d a' b' c' d'
  obtain ⟨h1,rfl⟩:=ab h
  refine ak (vs:=[.agg #[I a,I b,I c,I d],.agg #[I a',I b',I c',I d']]) (Λ:=L0) (m':=M0) Rj func236 rfl ai ?_
  exact (VO a b c d a' b' c' d').trans (by unfold NF NE ND NC pick;cases bi a b c d<;>cases bi a' b' c' d'<;>rfl)
 ·cases h
def ΓU4:Orc:=ah 236 Dr ΓU3
theorem qko:ΓU4.Ok prog:=af Rj qeo
def ΓU5:Orc:=ΓU4
theorem Ri:ΓU5.Ok prog:=qko
theorem VP (a:Int) (b:Int) (c:Int) (d:Int) (a':Int) (b':Int) (c':Int) (d':Int):runG ΓU5 L0 prog f337 [.v (.agg #[I a,I b,I c,I d]),.v (.agg #[I a',I b',I c',I d'])] M0 =
 (bif !bi a b c d then some (.v (Bo false),M0) else (bif !bi a' b' c' d' then some (.v (Bo false),M0) else (bif decide (a'<=a) then (bif decide (b'<=b) then (bif decide (c<=c') then some (.v (Bo (decide (d<=d'))),M0) else some (.v (Bo false),M0)) else some (.v (Bo false),M0)) else some (.v (Bo false),M0)))):=by kernel_rfl
def Ds (vs:List Value):Option (Bool×Value) :=
 match vs with
 | [.agg ⟨[.int .i64 a,.int .i64 b,.int .i64 c,.int .i64 d]⟩,.agg ⟨[.int .i64 a',.int .i64 b',.int .i64 c',.int .i64 d']⟩]=>some (true,Bo (qf a b c d a' b' c' d'))
 | _=>none
theorem qep:am 337 Ds:=by
 intro vs r h
 unfold Ds at h
 split at h
 ·rename_i a b c d a' b' c' d'
  obtain ⟨h1,rfl⟩:=ab h
  refine ak (vs:=[.agg #[I a,I b,I c,I d],.agg #[I a',I b',I c',I d']]) (Λ:=L0) (m':=M0) Ri func337 rfl ai ?_
  exact (VP a b c d a' b' c' d').trans (by rw [<- qdT];cases bi a b c d<;>cases bi a' b' c' d'<;>cases decide (a'<=a)<;>cases decide (b'<=b)<;>cases decide (c<=c')<;>rfl)
 ·cases h
def ΓU6:Orc:=ah 337 Ds ΓU5
theorem Rh:ΓU6.Ok prog:=af Ri qep
theorem VQ (a:Int) (b:Int) (c:Int) (d:Int) (x:Int) (y:Int):runG ΓU6 L0 prog f300 [.v (.agg #[I a,I b,I c,I d]),.v (.agg #[I x,I y])] M0 =
 some (.v (Bo (qf x y x y a b c d)),M0):=by kernel_rfl
def Dt (vs:List Value):Option (Bool×Value) :=
 match vs with
 | [.agg ⟨[.int .i64 a,.int .i64 b,.int .i64 c,.int .i64 d]⟩,.agg ⟨[.int .i64 x,.int .i64 y]⟩]=>some (true,Bo (kY a b c d x y))
 | _=>none
theorem qeq:am 300 Dt:=by
 intro vs r h
 unfold Dt at h
 split at h
 ·rename_i a b c d x y
  obtain ⟨h1,rfl⟩:=ab h
  refine ak (vs:=[.agg #[I a,I b,I c,I d],.agg #[I x,I y]]) (Λ:=L0) (m':=M0) Rh func300 rfl ai ?_
  exact (VQ a b c d x y).trans (vB (qdS a b c d x y))
 ·cases h
def ΓU7:Orc:=ah 300 Dt ΓU6
theorem qkn:ΓU7.Ok prog:=af Rh qeq
def ΓU8:Orc:=ΓU7
theorem qkm:ΓU8.Ok prog:=qkn
def ΓBo:Orc:=ΓU8
theorem zV:ΓBo.Ok prog:=qkm
end Go.Proofs.YtainfdcfkgemhaaGreat
