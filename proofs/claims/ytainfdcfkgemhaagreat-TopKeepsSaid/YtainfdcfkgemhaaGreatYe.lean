/-
  What is known of this program: bytes told again and again,counters;what a processor's calls are built on.
-/
import Derived.Test.YtainfdcfkgemhaaGreatYa
import Derived.Lib.MakeNoZero
import Derived.Lib.SlBuf
import Derived.Laws.CopyRow
import Derived.Shelf.RegionOpenPlain
import Derived.Lib.Walk
import Derived.Deep.LoopGhost
import Derived.Deep.Draws
import Derived.Laws.Externs
import Derived.BigCall
import Derived.BigGuard
import Derived.Outline
import Derived.Deep.RegionLaw
import Derived.Deep.DeepCutAuto
import Derived.Deep.CutBlock
import Derived.Test.YtainfdcfkgemhaaGreatYd
import Derived.Test.YtainfdcfkgemhaaGreatSx
set_option maxRecDepth 100000
noncomputable section
open Go.Proofs.Tryz
namespace Go.Proofs.YtainfdcfkgemhaaGreat
open Go Go.Proofs Go.Sx Go.RowKit
theorem qbJ (n:Nat) (hn:n<=8192) (w:World):Calls prog 116 #[.int .u64 1,.int .u64 (n:Int)] w fun e w'=>e=.returned (.tuple #[.int .u64 0,.int .u64 (n:Int)])/\Kp w w':=by
 have h:=Ly 1 (n:Int)
 have e1:a7 (n:Int)=true:=fy.2 (by omega)
 rw [e1,show a7 1=true from rfl,show (1:Int)*(n:Int) / 18446744073709551616=0 by omega,show (1:Int)*(n:Int) % 18446744073709551616=(n:Int) by omega] at h
 exact law_run (l:=[.v (UU 1),.v (UU (n:Int))]) (vs:=[UU 1,UU (n:Int)]) Iq mixed func116 rfl h ⟨rfl,rfl,trivial⟩ ai
theorem qbU (n:Nat) (hn:n<=8192) (w:World):∃ cs:Array Value,(callFunc 117 #[.int .i64 (n:Int)]).run prog w=.ok (.value (.slice (some ⟨w.heap.size,0,none⟩) n cs.size)) ((w.alloc (.cells cs 5)).drewN 2)/\n<=cs.size:=by
 obtain ⟨cs,h1,h2,_⟩:=Lib.run_makeNoZero (P:=prog) w #[3] 109 5 Tryz.underlying109 n (by omega)
 refine ⟨cs,?_,h2⟩
 rw [run_callFunc_extern func117 (by kernel_rfl) (by kernel_rfl) (by kernel_rfl) (e:=Extern.BytealgMakeNoZero.makeNoZero #[3] #[109]) (by kernel_rfl),h1]
 rfl
def mZ (w wr:World) (n k:Nat) (x:Int):Prop:=∃ cur:Array Value,wr.heap[w.heap.size]?=some (.cells cur 5 (0,0))/\n<=cur.size/\k<=n/\(∀ j,j<k->cur[j]?=some (.int .u8 x))/\Below w.heap.size w wr
theorem U1:(prog.info? 5).map (·.size)=some 1:=by kernel_rfl
theorem qhC (w:World) (cs:Array Value) (n:Nat) (x:Int) (h:n<=cs.size):mZ w ((w.alloc (.cells cs 5)).drewN 2) n 0 x :=
 ⟨cs,heap_alloc_new w _,h,Nat.zero_le _,fun j hj=>absurd hj (by omega),⟨rfl,rfl,rfl,by simp,fun k hk=>heap_alloc_old w _ hk⟩⟩
theorem OO {w wr:World} {n k:Nat} {x:Int} (h:mZ w wr n k x) (ty:TypeId) {a:Addr} {c cap:Nat} (hs:∀ j,j<c->wr.cell? (a.add j)=some (.int .u8 x)) (hk:k<n) :
  ∃ wr',(Builtin.copy_ #[109,109] ty #[.slice (some ⟨w.heap.size,k,none⟩) (n - k) (n - k),.slice (some a) c cap]).run prog wr=.ok (.int .i64 ((min c (n - k):Nat):Int)) wr'/\mZ w wr' n (k+min c (n - k)) x:=by
 obtain ⟨cur,h1,h2,h3,h4,h5⟩:=h
 have hl:(List.replicate (min c (n - k)) (Value.int .u8 x)).length=min c (n - k):=List.length_replicate
 have hr:=run_copy_row prog wr 109 109 ty 5 w.heap.size k (n - k) (n - k) a c cap cur 5 (List.replicate (min c (n - k)) (.int .u8 x)) Tryz.underlying109 U1 h1 hl
  (fun j v hj=>by
   have hlt:=(List.getElem?_eq_some_iff.1 hj).1
   rw [hl] at hlt
   rw [List.getElem?_replicate,if_pos hlt] at hj
   injection hj with hj
   subst hj
   exact hs j (by omega)) (by rw [hl];omega) (fun v hv=>by rw [(List.mem_replicate.1 hv).2];rfl)
 rw [hl] at hr
 refine ⟨_,hr,_,setRow_heap _ _ cur _ _ _ h1,?_,by omega,fun j hj=>?_,?_⟩
 ·simp;omega
 ·rw [<- Array.getElem?_toList,List.toList_toArray]
  rcases Nat.lt_or_ge j k with hj1|hj1
  ·rw [List.append_assoc,List.getElem?_append_left (by simp;omega),List.getElem?_take_of_lt hj1,Array.getElem?_toList]
   exact h4 j hj1
  ·rw [List.append_assoc,List.getElem?_append_right (by simp;omega),List.getElem?_append_left (by simp;omega),List.getElem?_replicate,if_pos (by simp;omega)]
 ·exact ⟨h5.os,h5.tape,h5.output,by simpa using h5.size,fun q hq=>by rw [setRow_other _ _ _ _ (by omega)];exact h5.block q hq⟩
theorem qbN (k n:Nat) (h:k<=n) (ts:Array TypeId) (t:TypeId) (W:World):(Builtin.min_ ts t #[.int .i64 (k:Int),.int .i64 (n:Int)]).run prog W=.ok (.int .i64 (k:Int)) W:=by
 have:¬ ((n:Int)<(k:Int)):=by omega
 simp [Builtin.min_,Builtin.min2,this]
theorem Uv {P:Program} {ops:Array Oper} {o:Oper} {a:Act} {w:World} {K:Act->World->Prop} {Q:Exit->Act->World->Prop} {E:Prop} (hgd:o.guard=none) (d s:Operand) (t t':TypeId)
  (ho:o.op=.call { callee:=.builtin .copy,args:=#[d,s],argTypes:=#[t,t'] }) (v u:Value) (hd:a.eval d=v) (hs:a.eval s=u) {v':Value} {w':World}
  (hr:(Builtin.copy_ #[t,t'] o.type #[v,u]).run P w=.ok v' w') (h:K (a.put o.dst v') w'):if Region.wanted o (yielded ops a.tmps)=true then Oper.wp P o a w K Q else E:=by
 have hw:Region.wanted o (yielded ops a.tmps)=true:=by simp [Region.wanted,hgd]
 rw [if_pos hw]
 exact Lib.wp_copy_run w d s t t' ho v u hd hs hr h
set_option maxHeartbeats 400000 in
theorem qaC (x:Int) (n b o cap:Nat) (w:World) (h1:1<=n) (h2:n<=8192) (hb:w.cell? ⟨b,o,none⟩=some (.int .u8 x)) :
  Calls prog 59 #[.slice (some ⟨b,o,none⟩) 1 cap,.int .i64 (n:Int)] w fun e w'=>∃ w1:World,e=.returned (.slice (some ⟨w1.heap.size,0,none⟩) n n)/\Kp w w1/\mZ w1 w' n n x:=by
 have f0:((n:Int)==0)=false:=beq_eq_false_iff_ne.2 (by omega)
 have f1:¬ ((n:Int)<0):=by omega
 have f2:¬ ((9223372036854775807:Int)<(n:Int)):=by omega
 have f3:¬ ((8192:Int)<(n:Int)):=by omega
 have hMul:=qbJ n h2 w
 obtain ⟨CS,hCS⟩:=Classical.axiomOfChoice (qbU n h2)
 have hcall:=fun w=>(hCS w).1
 have hle:=fun w=>(hCS w).2
 clear hCS
 have i1:∀ w,(n:Int)<=((CS w).size:Int):=fun w=>by have:=hle w;omega
 have i0:(0:Int)<=(n:Int):=by omega
 go_enter func59,Tryz.ntmps59
 go_upto_region 17 with (go_at_call 116;refine hMul.mono ?_;rintro e w1 ⟨rfl,hk⟩)
 have B0:=qhC w1 (CS w1) n x (hle w1)
 have hb1:((w1.alloc (.cells (CS w1) 5)).drewN 2).cell? ⟨b,o,none⟩=some (.int .u8 x):=by
  have hlt:=World.block_lt_of_cell? w ⟨b,o,none⟩ hb
  obtain ⟨_,_,_,_,_,B1⟩:=B0
  rw [B1.cell (p:=⟨b,o,none⟩) (Nat.lt_of_lt_of_le hlt hk.1.size),hk.1.cell (p:=⟨b,o,none⟩) hlt]
  exact hb
 obtain ⟨w2,hr1,B1⟩:=OO B0 3 (a:=⟨b,o,none⟩) (c:=1) (cap:=cap) (fun j hj=>by
  obtain rfl:j=0:=by omega
  rw [eP]
  exact hb1) (by omega)
 have e1:min 1 (n - 0)=1:=by omega
 rw [e1,Nat.sub_zero] at hr1
 rw [e1,Nat.zero_add] at B1
 clear B0 hb1
 go_wp2_with (at_builtin;refine Lib.wpList_copy_run _ rfl _ _ 109 109 rfl _ _ rfl rfl hr1 ?_)
 have HB1:Aside (mZ w1 w2 n 1 x):=B1
 clear B1 hr1 hcall hle i1 hMul
 go_loopg [10] (n - 1) (fun g s10 wr=>∃ k:Nat,1<=k/\k<=n/\n - k<=g/\s10=.int .i64 k/\Aside (mZ w1 wr n k x))
 case atStart=>exact ⟨1,Nat.le_refl _,h1,Nat.le_refl _,rfl,HB1⟩
 case round =>
  obtain ⟨k,hk1,hkn,hg,rfl,HB⟩:=hrel
  by_cases hlt:k<n
  ·have hz:(k:Int)<(n:Int):=by omega
   have hmin:=qbN k n hkn
   have hsl1:∀ W,(Instr.slice 109 (.slice (some ⟨w1.heap.size,0,none⟩) n n) (some (.int .i64 (k:Int))) none none).run prog W=.ok (.slice (some ⟨w1.heap.size,k,none⟩) (n - k) (n - k)) W:=fun W=>by
    have:=Lib.run_slice_tailV (P:=prog) W 109 5 Tryz.underlying109 (fun w=>dS (by kernel_rfl)) w1.heap.size n k hkn
    unfold Lib.tailV at this
    rwa [if_neg (by omega)] at this
   have hsl2:∀ W,(Instr.slice 109 (.slice (some ⟨w1.heap.size,0,none⟩) n n) none (some (.int .i64 (k:Int))) none).run prog W=.ok (.slice (some ⟨w1.heap.size,0,none⟩) k n) W:=fun W=>by
    have he:prog.elem 109=5:=by simp [Program.elem,Tryz.underlying109]
    have ht:prog.underlying 109=some (.slice (prog.elem 109)):=by rw [he];exact Tryz.underlying109
    have hz1:(sizeOf (prog.elem 109)).run prog W=.ok 1 W:=by rw [he];exact dS (by kernel_rfl)
    rw [run_slice_h W 109 _ n n ht .i64 (k:Int) (by omega) (by omega),hz1]
    simp only [Result.andThen,sliced,Int.toNat_natCast,Nat.zero_mul,Option.map_some,Nat.sub_zero]
    have:¬ n=0:=by omega
    simp [this,eP]
   have B4:mZ w1 wr.drew n k x:=by
    obtain ⟨cur,q1,q2,q3,q4,q5⟩:=HB.out
    exact ⟨cur,q1,q2,q3,q4,⟨q5.os,q5.tape,q5.output,q5.size,q5.block⟩⟩
   obtain ⟨w3,hr3,B3⟩:=OO B4 3 (a:=⟨w1.heap.size,0,none⟩) (c:=k) (cap:=n) (fun j hj=>by
    obtain ⟨cur,q1,q2,q3,q4,q5⟩:=B4
    rw [eP,Nat.zero_add,qB q1]
    exact q4 j hj) hlt
   have HB3:Aside (mZ w1 w3 n (k+min k (n - k)) x):=B3
   have HR3:Aside _:=hr3
   clear B3 B4 hr3
   go_wp2
   go_region_law (refine Uv rfl (.tmp 70) (.tmp 73) 109 109 rfl (.slice (some ⟨w1.heap.size,k,none⟩) (n - k) (n - k)) (.slice (some ⟨w1.heap.size,0,none⟩) k n) (by simp [Act.eval,Act.put]) (by simp [Act.eval,Act.put]) HR3.out ?_)
   go_wp2
   go_roundg (n - (k+min k (n - k)))
   case measure =>
    have hm2:1<=min k (n - k):=by rw [Nat.le_min];omega
    omega
   case rel =>
    have hm1:=Nat.min_le_right k (n - k)
    have e:IntKind.i64.wrap ((k:Int)+((min k (n - k):Nat):Int))=((k+min k (n - k):Nat):Int):=by
     generalize min k (n - k)=m at hm1 ⊢
     rw [AB (by omega)]
     omega
    exact ⟨k+min k (n - k),by omega,by omega,Nat.le_refl _,by rw [e],HB3⟩
  ·obtain rfl:n=k:=by omega
   have hz:¬ ((n:Int)<(n:Int)):=by omega
   go_wp2
   go_ret
   exact ⟨w1,rfl,hk,HB.out⟩
theorem qhy (n:Nat) (x:Int):aK [.num .u8] (List.replicate n [.n x])=List.replicate n (.int .u8 x):=by
 induction n with
 | zero=>rfl
 | succ n ih =>
  show aH [.num .u8] [.n x]++aK [.num .u8] (List.replicate n [.n x])=_
  rw [ih]
  rfl
def nt (n x:Int):List (List Dat):=List.replicate n.toNat [.n x]
def xM (xs:List SV) (m:Mem):Option (Bool×SV×Mem) :=
 match xs,m with
 | [.row 0,.v (.int .i64 n)],⟨[],[],[.live ⟨t,[.num .u8],[[.n x]],own,mark⟩]⟩=>some (decide (1<=n/\n<=8192),.row 1,⟨[],[],[.live ⟨t,[.num .u8],[[.n x]],own,mark⟩,.live ⟨5,[.num .u8],nt n x,true,true⟩]⟩)
 | _,_=>none
theorem N9:aQ 59 xM:=by
 intro xs m r m' h
 unfold xM at h
 split at h
 case h_2=>cases h
 rename_i n t x own mark
 obtain ⟨h1,rfl,rfl⟩:=aw h
 have h1:=of_decide_eq_true h1
 obtain ⟨q,rfl⟩:=Int.eq_ofNat_of_zero_le (show 0<=n by omega)
 intro z V vs hl hM hA
 obtain ⟨v0,v1,rfl,d0,d1⟩:=vc hA
 have hr0:Go.Sx.rowAt (⟨[],[],[.live ⟨t,[.num .u8],[[.n x]],own,mark⟩]⟩:Mem).rows 0=some ⟨t,[.num .u8],[[.n x]],own,mark⟩:=rfl
 obtain ⟨u,hu,hok⟩:=hM.rows 0 _ hr0
 have e0:v0=u:=d0.2.1 u hu
 have e1:v1=.int .i64 (q:Int):=d1
 subst e0 e1
 rcases hok.reads rfl hM.stay_lt with ⟨_,hL⟩|⟨b,o,cap,hs,_,_,hc⟩
 ·cases hL
 have hcell:z.w.cell? ⟨b,o,none⟩=some (.int .u8 x):=by
  have:=hc 0 0 [.n x] (.int .u8 x) rfl rfl
  simpa using this
 refine .inr ⟨ot func59 rfl (nF names func59 rfl) z.w,?_⟩
 subst hs
 refine (qaC x q b o cap z.w (by omega) (by omega) hcell).mono ?_
 rintro e w' ⟨w1,rfl,hk,cur,f1,f2,f3,f4,f5⟩
 refine ⟨_,rfl,?_⟩
 have hkp:Kp z.w w':=⟨hk.1.trans (f5.mono hk.1.size),fun p hp=>(f5.frozen (Nat.lt_of_lt_of_le hp hk.1.size)).trans (hk.2 p hp)⟩
 have hq:(q:Int).toNat=q:=Int.toNat_natCast q
 have hown:bE w' 5 true 1 (.slice (some ⟨w1.heap.size,0,none⟩) q q) (nt q x).length (aK [.num .u8] (nt q x)):=by
  unfold nt
  rw [hq,List.length_replicate,qhy]
  refine ⟨by simp,w1.heap.size,q,cur,(0,0),rfl,f1,.inl rfl,⟨by omega,Nat.le_refl _⟩,?_⟩
  apply List.ext_getElem?
  intro j
  rw [Nat.mul_one]
  rcases Nat.lt_or_ge j q with hj|hj
  ·rw [List.getElem?_take_of_lt hj,Array.getElem?_toList,f4 j hj,List.getElem?_replicate,if_pos hj]
  ·rw [List.getElem?_eq_none (by simp;omega),List.getElem?_eq_none (by simp;omega)]
 obtain ⟨V',_,hR',hr',_⟩:=Rel.addRow (rc:=⟨5,[.num .u8],nt q x,true,true⟩) hM hkp rfl (aW.refl rfl) hown (Nat.one_pos) (fun g hg=>by simp [Value.ownBlock] at hg;have:=hk.1.size;omega)
 have hr':V'.r 1=some (some (.slice (some ⟨w1.heap.size,0,none⟩) q q)):=hr'
 exact ⟨V',⟨by rw [hr'];simp,fun u hu'=>by rw [hr'] at hu';injection hu' with hu';injection hu',trivial⟩,hR'⟩
end Go.Proofs.YtainfdcfkgemhaaGreat
namespace Go.Proofs.YtainfdcfkgemhaaGreat
open Go Go.Proofs Go.Sx
set_option linter.unusedVariables false
def TM (a u b v c w:Int):Mem:=⟨[[.ptr 1 0,.ptr 2 0,.ptr 3 0],[.v (I a),.v (I u)],[.v (I b),.v (I v)],[.v (I c),.v (I w)]],[true,true,true,true],[]⟩
def hrd (n:Int):Bool:=n==1||(n==2||n==3)
def tV (p q a u:Int):Int:=bif hrd p||hrd q then (bif p != 3&&q != 3 then aR 0 a else bif hrd p&&(hrd q&&p != q) then u else au a u 1) else u
def tD (p q b v:Int):Int:=bif hrd p||hrd q then (bif p != 3&&q != 3 then aR 0 b else bif hrd p&&(hrd q&&p != q) then au b v 1 else v) else v
def tG (p q c w:Int):Int:=bif hrd p||hrd q then aR 0 c else au c w 1
def uW (x y z:Bool):Int:=(bif x then 1 else 0)+((bif y then 2 else 0)+(bif z then 4 else 0))
theorem Kd:Ext prog 330 Extern.Atomic.storeT:=⟨fun args w=>run_callFunc_extern func330 (by kernel_rfl) (by kernel_rfl) (by kernel_rfl) (by kernel_rfl) args w⟩
def ΓD0:Orc:=qW (vt 330 .i64) ΓC
theorem Sv:ΓD0.Ok prog:=zv zT (KU Kd)
theorem Wo (n:Int) (a v:Int):runG ΓD0 L0 prog f280 [.ptr 0 1,.v (I n)] (MC a v)=some (.v (.tuple #[]),MC a n):=by kernel_rfl
def tr (xs:List SV) (m:Mem):Option (Bool×SV×Mem) :=
 match xs,m with
 | [.ptr 0 1,.v (.int .i64 n)],⟨[[.v (.int .i64 a),.v (.int .i64 v)]],[true],[]⟩=>some (true,.v (.tuple #[]),MC a n)
 | _,_=>none
theorem DK:aQ 280 tr:=by
 intro xs m r m' h
 unfold tr at h
 split at h
 ·rename_i n a v
  obtain ⟨h1,rfl,rfl⟩:=aw h
  refine aj (Λ:=L0) Sv func280 rfl (fun z _ _=>bg (by kernel_rfl) z) ?_
  exact (Wo n a v).trans (rfl)
 ·cases h
def ΓD1:Orc:=aC 280 tr ΓD0
theorem I1:ΓD1.Ok prog:=aA Sv DK
def ΓDw:Orc:={ ΓD1 with wr:=fun f=>Nat.beq f 280||sJ f }
theorem Sn:ΓDw.Ok prog:=⟨I1.call,I1.rd,I1.eqv⟩
theorem runCUp0 (a v:Int):runG ΓDw L0 prog f175 [.ptr 0 0] (MC a v)=some (.v (I (au a v 1)),MC a (au a v 1)):=by kernel_rfl
def gCUp (xs:List SV) (m:Mem):Option (Bool×SV×Mem) :=
 match xs,m with
 | [.ptr 0 0],⟨[[.v (.int .i64 a),.v (.int .i64 v)]],[true],[]⟩=>some (true,.v (I (au a v 1)),MC a (au a v 1))
 | _,_=>none
theorem gCUp_ok:aQ 175 gCUp:=by
 intro xs m r m' h
 unfold gCUp at h
 split at h
 ·rename_i a v
  obtain ⟨h1,rfl,rfl⟩:=aw h
  refine aj (Λ:=L0) Sn func175 rfl (fun z _ _=>bg (by kernel_rfl) z) ?_
  exact (runCUp0 a v).trans (rfl)
 ·cases h
def ΓD2:Orc:=aC 175 gCUp ΓDw
theorem Su:ΓD2.Ok prog:=aA Sn gCUp_ok
theorem ZO (n:Int) (a v:Int):runG ΓD2 L0 prog f217 [.ptr 0 0,.v (I n)] (MC a v)=some (.v (.tuple #[]),MC a (aR n a)):=by kernel_rfl
def tv (xs:List SV) (m:Mem):Option (Bool×SV×Mem) :=
 match xs,m with
 | [.ptr 0 0,.v (.int .i64 n)],⟨[[.v (.int .i64 a),.v (.int .i64 v)]],[true],[]⟩=>some (true,.v (.tuple #[]),MC a (aR n a))
 | _,_=>none
theorem Gv:aQ 217 tv:=by
 intro xs m r m' h
 unfold tv at h
 split at h
 ·rename_i n a v
  obtain ⟨h1,rfl,rfl⟩:=aw h
  refine aj (Λ:=L0) Su func217 rfl (fun z _ _=>bg (by kernel_rfl) z) ?_
  exact (ZO n a v).trans (rfl)
 ·cases h
def ΓD3:Orc:=aC 217 tv ΓD2
theorem Ss:ΓD3.Ok prog:=aA Su Gv
theorem ZP (a v:Int):runG ΓD3 L0 prog f176 [.ptr 0 0] (MC a v)=some (.v (.tuple #[]),MC a (aR 0 a)):=by kernel_rfl
def tw (xs:List SV) (m:Mem):Option (Bool×SV×Mem) :=
 match xs,m with
 | [.ptr 0 0],⟨[[.v (.int .i64 a),.v (.int .i64 v)]],[true],[]⟩=>some (true,.v (.tuple #[]),MC a (aR 0 a))
 | _,_=>none
theorem Gw:aQ 176 tw:=by
 intro xs m r m' h
 unfold tw at h
 split at h
 ·rename_i a v
  obtain ⟨h1,rfl,rfl⟩:=aw h
  refine aj (Λ:=L0) Ss func176 rfl (fun z _ _=>bg (by kernel_rfl) z) ?_
  exact (ZP a v).trans (rfl)
 ·cases h
def ΓD4:Orc:=aC 176 tw ΓD3
theorem Sr:ΓD4.Ok prog:=aA Ss Gw
theorem ZQ (a v:Int):runG ΓD4 L0 prog f243 [.ptr 0 0] (MC a v)=some (.v (I a),MC a v):=by kernel_rfl
def ye (xs:List SV) (m:Mem):Option (Bool×Value) :=
 match xs,m with
 | [.ptr 0 0],⟨[[.v (.int .i64 a),.v (.int .i64 v)]],[true],[]⟩=>some (true,I a)
 | _,_=>none
theorem Ow:bk 243 ye:=by
 intro xs m r h
 unfold ye at h
 split at h
 ·rename_i a v
  obtain ⟨h1,rfl⟩:=ab h
  refine aj (Λ:=L0) Sr func243 rfl (fun z _ _=>bg (by kernel_rfl) z) ?_
  exact (ZQ a v).trans (rfl)
 ·cases h
def ΓD5:Orc:=aU 243 ye ΓD4
theorem Sq:ΓD5.Ok prog:=aO Sr Ow
theorem ZR (a v:Int):runG ΓD5 L0 prog f177 [.ptr 0 0] (MC a v)=some (.v (Bo (v==a)),MC a v):=by kernel_rfl
def yf (xs:List SV) (m:Mem):Option (Bool×Value) :=
 match xs,m with
 | [.ptr 0 0],⟨[[.v (.int .i64 a),.v (.int .i64 v)]],[true],[]⟩=>some (true,Bo (v==a))
 | _,_=>none
theorem Ox:bk 177 yf:=by
 intro xs m r h
 unfold yf at h
 split at h
 ·rename_i a v
  obtain ⟨h1,rfl⟩:=ab h
  refine aj (Λ:=L0) Sq func177 rfl (fun z _ _=>bg (by kernel_rfl) z) ?_
  exact (ZR a v).trans (rfl)
 ·cases h
def ΓD6:Orc:=aU 177 yf ΓD5
theorem Sp:ΓD6.Ok prog:=aO Sq Ox
theorem Wa (n:Int):runG ΓD6 L0 prog f174 [.v (I n)] M0 =
 (bif n==(1:Int) then some (.v (Bo true),M0) else (bif n==(2:Int) then some (.v (Bo true),M0) else some (.v (Bo (n==(3:Int))),M0))):=by kernel_rfl
def xI (vs:List Value):Option (Bool×Value) :=
 match vs with
 | [.int .i64 n]=>some (true,Bo (hrd n))
 | _=>none
theorem N5:am 174 xI:=by
 intro vs r h
 unfold xI at h
 split at h
 ·rename_i n
  obtain ⟨h1,rfl⟩:=ab h
  refine ak (vs:=[I n]) (Λ:=L0) (m':=M0) Sp func174 rfl (fun z _ _=>bg (by kernel_rfl) z) ?_
  exact (Wa n).trans (by unfold hrd;cases n==1<;>cases n==2<;>rfl)
 ·cases h
def ΓD7:Orc:=ah 174 xI ΓD6
theorem IY:ΓD7.Ok prog:=af Sp N5
theorem Wf (p q:Int) (a u b v c w:Int):runG ΓD7 L0 prog f108 [.ptr 0 0,.v (I p),.v (I q)] (TM a u b v c w) =
 (bif !hrd p then (bif !hrd q then some (.v (.tuple #[]),⟨[[.ptr 1 0,.ptr 2 0,.ptr 3 0],[.v (I a),.v (I u)],[.v (I b),.v (I v)],[.v (I c),.v (I (au c w (1:Int)))]],[true,true,true,true],[]⟩) else (bif p != (3:Int) then (bif q != (3:Int) then some (.v (.tuple #[]),⟨[[.ptr 1 0,.ptr 2 0,.ptr 3 0],[.v (I a),.v (I (aR (0:Int) a))],[.v (I b),.v (I (aR (0:Int) b))],[.v (I c),.v (I (aR (0:Int) c))]],[true,true,true,true],[]⟩) else (bif hrd p then (bif hrd q then (bif p != q then some (.v (.tuple #[]),⟨[[.ptr 1 0,.ptr 2 0,.ptr 3 0],[.v (I a),.v (I u)],[.v (I b),.v (I (au b v (1:Int)))],[.v (I c),.v (I (aR (0:Int) c))]],[true,true,true,true],[]⟩) else some (.v (.tuple #[]),⟨[[.ptr 1 0,.ptr 2 0,.ptr 3 0],[.v (I a),.v (I (au a u (1:Int)))],[.v (I b),.v (I v)],[.v (I c),.v (I (aR (0:Int) c))]],[true,true,true,true],[]⟩)) else some (.v (.tuple #[]),⟨[[.ptr 1 0,.ptr 2 0,.ptr 3 0],[.v (I a),.v (I (au a u (1:Int)))],[.v (I b),.v (I v)],[.v (I c),.v (I (aR (0:Int) c))]],[true,true,true,true],[]⟩)) else some (.v (.tuple #[]),⟨[[.ptr 1 0,.ptr 2 0,.ptr 3 0],[.v (I a),.v (I (au a u (1:Int)))],[.v (I b),.v (I v)],[.v (I c),.v (I (aR (0:Int) c))]],[true,true,true,true],[]⟩))) else (bif hrd p then (bif hrd q then (bif p != q then some (.v (.tuple #[]),⟨[[.ptr 1 0,.ptr 2 0,.ptr 3 0],[.v (I a),.v (I u)],[.v (I b),.v (I (au b v (1:Int)))],[.v (I c),.v (I (aR (0:Int) c))]],[true,true,true,true],[]⟩) else some (.v (.tuple #[]),⟨[[.ptr 1 0,.ptr 2 0,.ptr 3 0],[.v (I a),.v (I (au a u (1:Int)))],[.v (I b),.v (I v)],[.v (I c),.v (I (aR (0:Int) c))]],[true,true,true,true],[]⟩)) else some (.v (.tuple #[]),⟨[[.ptr 1 0,.ptr 2 0,.ptr 3 0],[.v (I a),.v (I (au a u (1:Int)))],[.v (I b),.v (I v)],[.v (I c),.v (I (aR (0:Int) c))]],[true,true,true,true],[]⟩)) else some (.v (.tuple #[]),⟨[[.ptr 1 0,.ptr 2 0,.ptr 3 0],[.v (I a),.v (I (au a u (1:Int)))],[.v (I b),.v (I v)],[.v (I c),.v (I (aR (0:Int) c))]],[true,true,true,true],[]⟩)))) else (bif p != (3:Int) then (bif q != (3:Int) then some (.v (.tuple #[]),⟨[[.ptr 1 0,.ptr 2 0,.ptr 3 0],[.v (I a),.v (I (aR (0:Int) a))],[.v (I b),.v (I (aR (0:Int) b))],[.v (I c),.v (I (aR (0:Int) c))]],[true,true,true,true],[]⟩) else (bif hrd p then (bif hrd q then (bif p != q then some (.v (.tuple #[]),⟨[[.ptr 1 0,.ptr 2 0,.ptr 3 0],[.v (I a),.v (I u)],[.v (I b),.v (I (au b v (1:Int)))],[.v (I c),.v (I (aR (0:Int) c))]],[true,true,true,true],[]⟩) else some (.v (.tuple #[]),⟨[[.ptr 1 0,.ptr 2 0,.ptr 3 0],[.v (I a),.v (I (au a u (1:Int)))],[.v (I b),.v (I v)],[.v (I c),.v (I (aR (0:Int) c))]],[true,true,true,true],[]⟩)) else some (.v (.tuple #[]),⟨[[.ptr 1 0,.ptr 2 0,.ptr 3 0],[.v (I a),.v (I (au a u (1:Int)))],[.v (I b),.v (I v)],[.v (I c),.v (I (aR (0:Int) c))]],[true,true,true,true],[]⟩)) else some (.v (.tuple #[]),⟨[[.ptr 1 0,.ptr 2 0,.ptr 3 0],[.v (I a),.v (I (au a u (1:Int)))],[.v (I b),.v (I v)],[.v (I c),.v (I (aR (0:Int) c))]],[true,true,true,true],[]⟩))) else (bif hrd p then (bif hrd q then (bif p != q then some (.v (.tuple #[]),⟨[[.ptr 1 0,.ptr 2 0,.ptr 3 0],[.v (I a),.v (I u)],[.v (I b),.v (I (au b v (1:Int)))],[.v (I c),.v (I (aR (0:Int) c))]],[true,true,true,true],[]⟩) else some (.v (.tuple #[]),⟨[[.ptr 1 0,.ptr 2 0,.ptr 3 0],[.v (I a),.v (I (au a u (1:Int)))],[.v (I b),.v (I v)],[.v (I c),.v (I (aR (0:Int) c))]],[true,true,true,true],[]⟩)) else some (.v (.tuple #[]),⟨[[.ptr 1 0,.ptr 2 0,.ptr 3 0],[.v (I a),.v (I (au a u (1:Int)))],[.v (I b),.v (I v)],[.v (I c),.v (I (aR (0:Int) c))]],[true,true,true,true],[]⟩)) else some (.v (.tuple #[]),⟨[[.ptr 1 0,.ptr 2 0,.ptr 3 0],[.v (I a),.v (I (au a u (1:Int)))],[.v (I b),.v (I v)],[.v (I c),.v (I (aR (0:Int) c))]],[true,true,true,true],[]⟩)))):=by kernel_rfl
theorem We (p q:Int):runG ΓD7 L0 prog f108 [.v (.pointer none),.v (I p),.v (I q)] M0=some (.v (.tuple #[]),M0):=by kernel_rfl
def tp (xs:List SV) (m:Mem):Option (Bool×SV×Mem) :=
 match xs,m with
 | [.ptr 0 0,.v (.int .i64 p),.v (.int .i64 q)],⟨[[.ptr 1 0,.ptr 2 0,.ptr 3 0],[.v (.int .i64 a),.v (.int .i64 u)],[.v (.int .i64 b),.v (.int .i64 v)],[.v (.int .i64 c),.v (.int .i64 w)]],[true,true,true,true],[]⟩=>some (true,.v (.tuple #[]),TM a (tV p q a u) b (tD p q b v) c (tG p q c w))
 | [.v (.pointer none),.v (.int .i64 p),.v (.int .i64 q)],⟨[],[],[]⟩=>some (true,.v (.tuple #[]),M0)
 | _,_=>none
theorem DD:aQ 108 tp:=by
 intro xs m r m' h
 unfold tp at h
 split at h
 ·rename_i p q a u b v c w
  obtain ⟨h1,rfl,rfl⟩:=aw h
  refine aj (Λ:=L0) IY func108 rfl (fun z _ _=>bg (by kernel_rfl) z) ?_
  exact (Wf p q a u b v c w).trans (by unfold tV tD tG;cases hrd p<;>cases hrd q<;>cases p != 3<;>cases q != 3<;>cases p != q<;>rfl)
 ·rename_i p q
  obtain ⟨h1,rfl,rfl⟩:=aw h
  refine aj (Λ:=L0) IY func108 rfl (fun z _ _=>bg (by kernel_rfl) z) ?_
  exact (We p q).trans (rfl)
 ·cases h
def ΓD8:Orc:=aC 108 tp ΓD7
theorem IX:ΓD8.Ok prog:=aA IY DD
theorem Wh (a u b v c w:Int):runG ΓD8 L0 prog f155 [.ptr 0 0] (TM a u b v c w)=some (.v (Value.tuple #[I u,I v,I w]),TM a u b v c w):=by kernel_rfl
theorem Wg:runG ΓD8 L0 prog f155 [.v (.pointer none)] M0=some (.v (Value.tuple #[I 0,I 0,I 0]),M0):=by kernel_rfl
def tq (xs:List SV) (m:Mem):Option (Bool×Value) :=
 match xs,m with
 | [.ptr 0 0],⟨[[.ptr 1 0,.ptr 2 0,.ptr 3 0],[.v (.int .i64 a),.v (.int .i64 u)],[.v (.int .i64 b),.v (.int .i64 v)],[.v (.int .i64 c),.v (.int .i64 w)]],[true,true,true,true],[]⟩=>some (true,Value.tuple #[I u,I v,I w])
 | [.v (.pointer none)],⟨[],[],[]⟩=>some (true,Value.tuple #[I 0,I 0,I 0])
 | _,_=>none
theorem DE:bk 155 tq:=by
 intro xs m r h
 unfold tq at h
 split at h
 ·rename_i a u b v c w
  obtain ⟨h1,rfl⟩:=ab h
  refine aj (Λ:=L0) IX func155 rfl (fun z _ _=>bg (by kernel_rfl) z) ?_
  exact (Wh a u b v c w).trans (rfl)
 ·obtain ⟨h1,rfl⟩:=ab h
  refine aj (Λ:=L0) IX func155 rfl (fun z _ _=>bg (by kernel_rfl) z) ?_
  exact (Wg ).trans (rfl)
 ·cases h
def ΓD9:Orc:=aU 155 tq ΓD8
theorem IW:ΓD9.Ok prog:=aO IX DE
theorem V9 (p q r:Int) (a u b v c w:Int):runG ΓD9 L0 prog f148 [.ptr 0 0,.v (I p),.v (I q),.v (I r)] (TM a u b v c w)=some (.v (.tuple #[]),TM a (aR p a) b (aR q b) c (aR r c)):=by kernel_rfl
theorem V8 (p q r:Int):runG ΓD9 L0 prog f148 [.v (.pointer none),.v (I p),.v (I q),.v (I r)] M0=some (.v (.tuple #[]),M0):=by kernel_rfl
def qh (xs:List SV) (m:Mem):Option (Bool×SV×Mem) :=
 match xs,m with
 | [.ptr 0 0,.v (.int .i64 p),.v (.int .i64 q),.v (.int .i64 r)],⟨[[.ptr 1 0,.ptr 2 0,.ptr 3 0],[.v (.int .i64 a),.v (.int .i64 u)],[.v (.int .i64 b),.v (.int .i64 v)],[.v (.int .i64 c),.v (.int .i64 w)]],[true,true,true,true],[]⟩=>some (true,.v (.tuple #[]),TM a (aR p a) b (aR q b) c (aR r c))
 | [.v (.pointer none),.v (.int .i64 p),.v (.int .i64 q),.v (.int .i64 r)],⟨[],[],[]⟩=>some (true,.v (.tuple #[]),M0)
 | _,_=>none
theorem xH:aQ 148 qh:=by
 intro xs m r m' h
 unfold qh at h
 split at h
 ·rename_i p q r a u b v c w
  obtain ⟨h1,rfl,rfl⟩:=aw h
  refine aj (Λ:=L0) IW func148 rfl (fun z _ _=>bg (by kernel_rfl) z) ?_
  exact (V9 p q r a u b v c w).trans (rfl)
 ·rename_i p q r
  obtain ⟨h1,rfl,rfl⟩:=aw h
  refine aj (Λ:=L0) IW func148 rfl (fun z _ _=>bg (by kernel_rfl) z) ?_
  exact (V8 p q r).trans (rfl)
 ·cases h
def ΓD10:Orc:=aC 148 qh ΓD9
theorem I0:ΓD10.Ok prog:=aA IW xH
theorem V7 (a u b v c w:Int):runG ΓD10 L0 prog f110 [.ptr 0 0] (TM a u b v c w) =
 (bif u==a then (bif v==b then (bif w==c then some (.v (I 7),⟨[[.ptr 1 0,.ptr 2 0,.ptr 3 0],[.v (I a),.v (I u)],[.v (I b),.v (I v)],[.v (I c),.v (I w)]],[true,true,true,true],[]⟩) else some (.v (I 3),⟨[[.ptr 1 0,.ptr 2 0,.ptr 3 0],[.v (I a),.v (I u)],[.v (I b),.v (I v)],[.v (I c),.v (I w)]],[true,true,true,true],[]⟩)) else (bif w==c then some (.v (I 5),⟨[[.ptr 1 0,.ptr 2 0,.ptr 3 0],[.v (I a),.v (I u)],[.v (I b),.v (I v)],[.v (I c),.v (I w)]],[true,true,true,true],[]⟩) else some (.v (I 1),⟨[[.ptr 1 0,.ptr 2 0,.ptr 3 0],[.v (I a),.v (I u)],[.v (I b),.v (I v)],[.v (I c),.v (I w)]],[true,true,true,true],[]⟩))) else (bif v==b then (bif w==c then some (.v (I 6),⟨[[.ptr 1 0,.ptr 2 0,.ptr 3 0],[.v (I a),.v (I u)],[.v (I b),.v (I v)],[.v (I c),.v (I w)]],[true,true,true,true],[]⟩) else some (.v (I 2),⟨[[.ptr 1 0,.ptr 2 0,.ptr 3 0],[.v (I a),.v (I u)],[.v (I b),.v (I v)],[.v (I c),.v (I w)]],[true,true,true,true],[]⟩)) else (bif w==c then some (.v (I 4),⟨[[.ptr 1 0,.ptr 2 0,.ptr 3 0],[.v (I a),.v (I u)],[.v (I b),.v (I v)],[.v (I c),.v (I w)]],[true,true,true,true],[]⟩) else some (.v (I 0),⟨[[.ptr 1 0,.ptr 2 0,.ptr 3 0],[.v (I a),.v (I u)],[.v (I b),.v (I v)],[.v (I c),.v (I w)]],[true,true,true,true],[]⟩)))):=by kernel_rfl
theorem V6:runG ΓD10 L0 prog f110 [.v (.pointer none)] M0=some (.v (I 0),M0):=by kernel_rfl
def xG (xs:List SV) (m:Mem):Option (Bool×Value) :=
 match xs,m with
 | [.ptr 0 0],⟨[[.ptr 1 0,.ptr 2 0,.ptr 3 0],[.v (.int .i64 a),.v (.int .i64 u)],[.v (.int .i64 b),.v (.int .i64 v)],[.v (.int .i64 c),.v (.int .i64 w)]],[true,true,true,true],[]⟩=>some (true,I (uW (u==a) (v==b) (w==c)))
 | [.v (.pointer none)],⟨[],[],[]⟩=>some (true,I 0)
 | _,_=>none
theorem N4:bk 110 xG:=by
 intro xs m r h
 unfold xG at h
 split at h
 ·rename_i a u b v c w
  obtain ⟨h1,rfl⟩:=ab h
  refine aj (Λ:=L0) I0 func110 rfl (fun z _ _=>bg (by kernel_rfl) z) ?_
  exact (V7 a u b v c w).trans (by cases u==a<;>cases v==b<;>cases w==c<;>rfl)
 ·obtain ⟨h1,rfl⟩:=ab h
  refine aj (Λ:=L0) I0 func110 rfl (fun z _ _=>bg (by kernel_rfl) z) ?_
  exact (V6 ).trans (rfl)
 ·cases h
def ΓD11:Orc:=aU 110 xG ΓD10
theorem IZ:ΓD11.Ok prog:=aO I0 N4
theorem Wc (a u b v c w:Int):runG ΓD11 L0 prog f109 [.ptr 0 0] (TM a u b v c w)=some (.v (Bo (uW (u==a) (v==b) (w==c) != 0)),TM a u b v c w):=by kernel_rfl
theorem Wb:runG ΓD11 L0 prog f109 [.v (.pointer none)] M0=some (.v (Bo true),M0):=by kernel_rfl
def tn (xs:List SV) (m:Mem):Option (Bool×Value) :=
 match xs,m with
 | [.ptr 0 0],⟨[[.ptr 1 0,.ptr 2 0,.ptr 3 0],[.v (.int .i64 a),.v (.int .i64 u)],[.v (.int .i64 b),.v (.int .i64 v)],[.v (.int .i64 c),.v (.int .i64 w)]],[true,true,true,true],[]⟩=>some (true,Bo (uW (u==a) (v==b) (w==c) != 0))
 | [.v (.pointer none)],⟨[],[],[]⟩=>some (true,Bo true)
 | _,_=>none
theorem DC:bk 109 tn:=by
 intro xs m r h
 unfold tn at h
 split at h
 ·rename_i a u b v c w
  obtain ⟨h1,rfl⟩:=ab h
  refine aj (Λ:=L0) IZ func109 rfl (fun z _ _=>bg (by kernel_rfl) z) ?_
  exact (Wc a u b v c w).trans (rfl)
 ·obtain ⟨h1,rfl⟩:=ab h
  refine aj (Λ:=L0) IZ func109 rfl (fun z _ _=>bg (by kernel_rfl) z) ?_
  exact (Wb ).trans (rfl)
 ·cases h
def ΓD12:Orc:=aU 109 tn ΓD11
theorem qle:ΓD12.Ok prog:=aO IZ DC
def ΓTl0:Orc:=ΓD12
theorem Ir:ΓTl0.Ok prog:=qle
end Go.Proofs.YtainfdcfkgemhaaGreat
namespace Go.Proofs.YtainfdcfkgemhaaGreat
open Go Go.Proofs Go.Sx
set_option linter.unusedVariables false
def Γsm:Orc:=qt prog ΓDo.call ΓDo.rd ΓDo.eqv (fun _=>false) 30 6
theorem zF:Γsm.Ok prog:=G1 mixed names (ext:=ΓDo.call) (rd:=ΓDo.rd) (eqv:=ΓDo.eqv) ⟨IV.call,IV.rd,IV.eqv⟩ 30 6
theorem Z6:runG Γsm (dV Γsm prog 30 3) prog f190 [] M0=some (.v (Bo true),M0):=by kernel_rfl
def GA (vs:List Value):Option (Bool×Value) :=
 match vs with
 | []=>some (true,Bo true)
 | _=>none
theorem qhf:am 190 GA:=by
 intro vs r h
 unfold GA at h
 split at h
 ·obtain ⟨_,rfl⟩:=ab h
  exact ak (vs:=[]) zF func190 rfl (fun z _ _ b hb=>eY zF mixed 30 3 b) Z6
 ·cases h
def Γb1:Orc:=ah 190 GA ΓO
theorem Okb1:Γb1.Ok prog:=af cw qhf
theorem Z7:runG Γsm (dV Γsm prog 30 3) prog f191 [] M0=some (.v (Bo true),M0):=by kernel_rfl
def GB (vs:List Value):Option (Bool×Value) :=
 match vs with
 | []=>some (true,Bo true)
 | _=>none
theorem qhg:am 191 GB:=by
 intro vs r h
 unfold GB at h
 split at h
 ·obtain ⟨_,rfl⟩:=ab h
  exact ak (vs:=[]) zF func191 rfl (fun z _ _ b hb=>eY zF mixed 30 3 b) Z7
 ·cases h
def Γb2:Orc:=ah 191 GB Γb1
theorem qki:Γb2.Ok prog:=af Okb1 qhg
def Γpq0:Orc:=qW (vt 330 .i64) Γb2
theorem qj6:Γpq0.Ok prog:=zv qki (KU Kd)
def Γpq1:Orc:=aC 280 tr Γpq0
theorem qj5:Γpq1.Ok prog:=aA qj6 DK
def Γpq2:Orc:=aC 175 gCUp Γpq1
theorem qj1:Γpq2.Ok prog:=aA qj5 gCUp_ok
def Γpq3:Orc:=aC 217 tv Γpq2
theorem qj0:Γpq3.Ok prog:=aA qj1 Gv
def Γpq4:Orc:=aC 176 tw Γpq3
theorem qjZ:Γpq4.Ok prog:=aA qj0 Gw
def Γpq5:Orc:=aU 243 ye Γpq4
theorem qjY:Γpq5.Ok prog:=aO qjZ Ow
def Γpq6:Orc:=aU 177 yf Γpq5
theorem qjX:Γpq6.Ok prog:=aO qjY Ox
def Γpq7:Orc:=ah 174 xI Γpq6
theorem qjW:Γpq7.Ok prog:=af qjX N5
def Γpq8:Orc:=aC 108 tp Γpq7
theorem qjV:Γpq8.Ok prog:=aA qjW DD
def Γpq9:Orc:=aU 155 tq Γpq8
theorem qjU:Γpq9.Ok prog:=aO qjV DE
def Γpq10:Orc:=aC 148 qh Γpq9
theorem qj4:Γpq10.Ok prog:=aA qjU xH
def Γpq11:Orc:=aU 110 xG Γpq10
theorem qj3:Γpq11.Ok prog:=aO qj4 N4
def Γpq12:Orc:=aU 109 tn Γpq11
theorem qj2:Γpq12.Ok prog:=aO qj3 DC
def ΓP24:Orc:=aC 59 xM Γpq12
theorem ko:ΓP24.Ok prog:=aA qj2 N9
end Go.Proofs.YtainfdcfkgemhaaGreat
namespace Go.Proofs.YtainfdcfkgemhaaGreat
open Go Go.Proofs Go.Sx
def Ay (f:FuncId):Bool:=AC f||sJ f||Nat.beq f 17||Nat.beq f 18||Nat.beq f 19||Nat.beq f 20||Nat.beq f 21||Nat.beq f 22||Nat.beq f 56||Nat.beq f 30||Nat.beq f 41||Nat.beq f 24||Nat.beq f 25||Nat.beq f 38||Nat.beq f 60||Nat.beq f 61||Nat.beq f 39||Nat.beq f 62||Nat.beq f 70||Nat.beq f 28||Nat.beq f 75||Nat.beq f 77||Nat.beq f 78||Nat.beq f 79||Nat.beq f 80||Nat.beq f 81||Nat.beq f 82||Nat.beq f 83||Nat.beq f 66||Nat.beq f 119||Nat.beq f 120||Nat.beq f 121||Nat.beq f 122||Nat.beq f 123||Nat.beq f 134||Nat.beq f 137||Nat.beq f 138||Nat.beq f 139||Nat.beq f 140||Nat.beq f 142||Nat.beq f 144||Nat.beq f 147||Nat.beq f 108||Nat.beq f 148||Nat.beq f 149||Nat.beq f 109||Nat.beq f 150||Nat.beq f 151||Nat.beq f 152||Nat.beq f 153||Nat.beq f 154||Nat.beq f 155||Nat.beq f 156||Nat.beq f 157||Nat.beq f 186||Nat.beq f 189||Nat.beq f 192||Nat.beq f 193||Nat.beq f 194||Nat.beq f 106||Nat.beq f 195||Nat.beq f 196||Nat.beq f 206||Nat.beq f 207||Nat.beq f 176||Nat.beq f 210||Nat.beq f 214||Nat.beq f 175||Nat.beq f 217||Nat.beq f 218||Nat.beq f 219||Nat.beq f 110||Nat.beq f 220||Nat.beq f 221||Nat.beq f 223||Nat.beq f 248||Nat.beq f 253||Nat.beq f 255||Nat.beq f 257||Nat.beq f 258||Nat.beq f 262||Nat.beq f 263||Nat.beq f 264||Nat.beq f 273||Nat.beq f 275||Nat.beq f 242||Nat.beq f 278||Nat.beq f 280||Nat.beq f 281||Nat.beq f 177||Nat.beq f 284||Nat.beq f 310||Nat.beq f 311||Nat.beq f 315||Nat.beq f 325||Nat.beq f 306||Nat.beq f 307||Nat.beq f 329||Nat.beq f 243||Nat.beq f 343||Nat.beq f 349||Nat.beq f 351||Nat.beq f 338||Nat.beq f 365||false||false
def Γx24:Orc:=og prog ΓP24.call ΓP24.rd ΓP24.eqv Ay 60 16
end Go.Proofs.YtainfdcfkgemhaaGreat
namespace Go.Proofs.YtainfdcfkgemhaaGreat
open Go Go.Proofs Go.Sx
set_option linter.unusedVariables false
def yR (a b:Mem):Bool:=match a,b with
 | ⟨b,l,r⟩,⟨b',l',r'⟩=>Go.Sx.eqL (Go.Sx.eqL kd) b b'&&(Go.Sx.eqL (·==·) l l'&&Go.Sx.eqL yQ r r')
theorem O8 {a b:Mem} (h:yR a b=true):a=b:=by
 obtain ⟨x,l,r⟩:=a
 obtain ⟨y,l',r'⟩:=b
 simp only [yR,Bool.and_eq_true] at h
 obtain ⟨h2,h3,h4⟩:=h
 rw [Go.Sx.eqL_eq (fun _ _=>Go.Sx.eqL_eq (fun _ _=>ol)) h2,Go.Sx.eqL_eq (fun _ _ h=>beq_iff_eq.1 h) h3,Go.Sx.eqL_eq (fun _ _=>O7) h4]
end Go.Proofs.YtainfdcfkgemhaaGreat
