/-
  What is known of this program: bytes told again and again,counters;what a processor's calls are built on.
-/
import Derived.Test.YtagaiddomhpdmaaGreatYa
import Derived.Lib.MakeNoZero
import Derived.Lib.SlBuf
import Derived.Laws.CopyRow
import Derived.Shelf.RegionOpenPlain
import Derived.Lib.Walk
import Derived.Deep.LoopGhost
import Derived.Deep.Draws
import Derived.Laws.Externs
import Derived.BigCall
import Derived.BigGuard
import Derived.Outline
import Derived.Deep.RegionLaw
import Derived.Deep.DeepCutAuto
import Derived.Deep.CutBlock
import Derived.Test.YtagaiddomhpdmaaGreatYd
import Derived.Test.YtagaiddomhpdmaaGreatSx
set_option maxRecDepth 100000
namespace Go.Proofs.YtagaiddomhpdmaaGreat
open Go Go.Proofs Go.Sx Go.RowKit
theorem mulOne (n:Nat) (hn:n≤8192) (w:World):Calls Tryz.prog 80 #[.int .u64 1,.int .u64 (n:Int)] w fun e w'=>e=.returned (.tuple #[.int .u64 0,.int .u64 (n:Int)])∧Kp w w':=by
  have h:=runMulU 1 (n:Int)
  have e1:inU (n:Int)=true:=inU_iff.2 (by omega)
  rw [e1,show inU 1=true from rfl,show (1:Int)*(n:Int) / 18446744073709551616=0 by omega,show (1:Int)*(n:Int) % 18446744073709551616=(n:Int) by omega] at h
  exact law_run (l:=[.v (UU 1),.v (UU (n:Int))]) (vs:=[UU 1,UU (n:Int)]) OkW6 mixed Tryz.func80 rfl h ⟨rfl,rfl,trivial⟩ l00
theorem makeNo (n:Nat) (hn:n≤8192) (w:World):∃ cs:Array Value,(callFunc 81 #[.int .i64 (n:Int)]).run Tryz.prog w=.ok (.value (.slice (some ⟨w.heap.size,0,none⟩) n cs.size)) ((w.alloc (.cells cs 5)).drewN 2)∧n≤cs.size:=by
  obtain ⟨cs,h1,h2,_⟩:=Lib.run_makeNoZero (P:=Tryz.prog) w #[3] 101 5 Tryz.underlying101 n (by omega)
  refine ⟨cs,?_,h2⟩
  rw [run_callFunc_extern Tryz.func81 (by kernel_rfl) (by kernel_rfl) (by kernel_rfl) (e:=Extern.BytealgMakeNoZero.makeNoZero #[3] #[101]) (by kernel_rfl),h1]
  rfl
def Filled (w wr:World) (n k:Nat) (x:Int):Prop:=∃ cur:Array Value,wr.heap[w.heap.size]?=some (.cells cur 5 (0,0))∧n≤cur.size∧k≤n∧(∀ j,j<k→cur[j]?=some (.int .u8 x))∧Below w.heap.size w wr
theorem size1:(Tryz.prog.info? 5).map (·.size)=some 1:=by kernel_rfl
theorem filled_start (w:World) (cs:Array Value) (n:Nat) (x:Int) (h:n≤cs.size):Filled w ((w.alloc (.cells cs 5)).drewN 2) n 0 x :=
  ⟨cs,heap_alloc_new w _,h,Nat.zero_le _,fun j hj=>absurd hj (by omega),⟨rfl,rfl,rfl,by simp,fun k hk=>heap_alloc_old w _ hk⟩⟩
theorem filled_copy {w wr:World} {n k:Nat} {x:Int} (h:Filled w wr n k x) (ty:TypeId) {a:Addr} {c cap:Nat} (hs:∀ j,j<c→wr.cell? (a.add j)=some (.int .u8 x)) (hk:k<n) :
    ∃ wr',(Builtin.copy_ #[101,101] ty #[.slice (some ⟨w.heap.size,k,none⟩) (n - k) (n - k),.slice (some a) c cap]).run Tryz.prog wr=.ok (.int .i64 ((min c (n - k):Nat):Int)) wr'∧Filled w wr' n (k+min c (n - k)) x:=by
  obtain ⟨cur,h1,h2,h3,h4,h5⟩:=h
  have hl:(List.replicate (min c (n - k)) (Value.int .u8 x)).length=min c (n - k):=List.length_replicate
  have hr:=run_copy_row Tryz.prog wr 101 101 ty 5 w.heap.size k (n - k) (n - k) a c cap cur 5 (List.replicate (min c (n - k)) (.int .u8 x)) Tryz.underlying101 size1 h1 hl
    (fun j v hj=>by
      have hlt:=(List.getElem?_eq_some_iff.1 hj).1
      rw [hl] at hlt
      rw [List.getElem?_replicate,if_pos hlt] at hj
      injection hj with hj
      subst hj
      exact hs j (by omega)) (by rw [hl];omega) (fun v hv=>by rw [(List.mem_replicate.1 hv).2];rfl)
  rw [hl] at hr
  refine ⟨_,hr,_,setRow_heap _ _ cur _ _ _ h1,?_,by omega,fun j hj=>?_,?_⟩
  · simp;omega
  · rw [← Array.getElem?_toList,List.toList_toArray]
    rcases Nat.lt_or_ge j k with hj1|hj1
    · rw [List.append_assoc,List.getElem?_append_left (by simp;omega),List.getElem?_take_of_lt hj1,Array.getElem?_toList]
      exact h4 j hj1
    · rw [List.append_assoc,List.getElem?_append_right (by simp;omega),List.getElem?_append_left (by simp;omega),List.getElem?_replicate,if_pos (by simp;omega)]
  · exact ⟨h5.os,h5.tape,h5.output,by simpa using h5.size,fun q hq=>by rw [setRow_other _ _ _ _ (by omega)];exact h5.block q hq⟩
theorem min_fact (k n:Nat) (h:k≤n) (ts:Array TypeId) (t:TypeId) (W:World):(Builtin.min_ ts t #[.int .i64 (k:Int),.int .i64 (n:Int)]).run Tryz.prog W=.ok (.int .i64 (k:Int)) W:=by
  have:¬ ((n:Int)<(k:Int)):=by omega
  simp [Builtin.min_,Builtin.min2,this]
theorem step_copy_run {P:Program} {ops:Array Oper} {o:Oper} {a:Act} {w:World} {K:Act→World→Prop} {Q:Exit→Act→World→Prop} {E:Prop} (hgd:o.guard=none) (d s:Operand) (t t':TypeId)
    (ho:o.op=.call { callee:=.builtin .copy,args:=#[d,s],argTypes:=#[t,t'] }) (v u:Value) (hd:a.eval d=v) (hs:a.eval s=u) {v':Value} {w':World}
    (hr:(Builtin.copy_ #[t,t'] o.type #[v,u]).run P w=.ok v' w') (h:K (a.put o.dst v') w'):if Region.wanted o (yielded ops a.tmps)=true then Oper.wp P o a w K Q else E:=by
  have hw:Region.wanted o (yielded ops a.tmps)=true:=by simp [Region.wanted,hgd]
  rw [if_pos hw]
  exact Lib.wp_copy_run w d s t t' ho v u hd hs hr h
set_option maxHeartbeats 400000 in
theorem repeated (x:Int) (n b o cap:Nat) (w:World) (h1:1≤n) (h2:n≤8192) (hb:w.cell? ⟨b,o,none⟩=some (.int .u8 x)) :
    Calls Tryz.prog 47 #[.slice (some ⟨b,o,none⟩) 1 cap,.int .i64 (n:Int)] w fun e w'=>∃ w1:World,e=.returned (.slice (some ⟨w1.heap.size,0,none⟩) n n)∧Kp w w1∧Filled w1 w' n n x:=by
  have f0:((n:Int)==0)=false:=beq_eq_false_iff_ne.2 (by omega)
  have f1:¬ ((n:Int)<0):=by omega
  have f2:¬ ((9223372036854775807:Int)<(n:Int)):=by omega
  have f3:¬ ((8192:Int)<(n:Int)):=by omega
  have hMul:=mulOne n h2 w
  obtain ⟨CS,hCS⟩:=Classical.axiomOfChoice (makeNo n h2)
  have hcall:=fun w=>(hCS w).1
  have hle:=fun w=>(hCS w).2
  clear hCS
  have i1:∀ w,(n:Int)≤((CS w).size:Int):=fun w=>by have:=hle w;omega
  have i0:(0:Int)≤(n:Int):=by omega
  go_enter Tryz.func47,Tryz.ntmps47
  go_upto_region 17 with (go_at_call 80;refine hMul.mono ?_;rintro e w1 ⟨rfl,hk⟩)
  have B0:=filled_start w1 (CS w1) n x (hle w1)
  have hb1:((w1.alloc (.cells (CS w1) 5)).drewN 2).cell? ⟨b,o,none⟩=some (.int .u8 x):=by
    have hlt:=World.block_lt_of_cell? w ⟨b,o,none⟩ hb
    obtain ⟨_,_,_,_,_,B1⟩:=B0
    rw [B1.cell (p:=⟨b,o,none⟩) (Nat.lt_of_lt_of_le hlt hk.1.size),hk.1.cell (p:=⟨b,o,none⟩) hlt]
    exact hb
  obtain ⟨w2,hr1,B1⟩:=filled_copy B0 3 (a:=⟨b,o,none⟩) (c:=1) (cap:=cap) (fun j hj=>by
    obtain rfl:j=0:=by omega
    rw [add_place]
    exact hb1) (by omega)
  have e1:min 1 (n - 0)=1:=by omega
  rw [e1,Nat.sub_zero] at hr1
  rw [e1,Nat.zero_add] at B1
  clear B0 hb1
  go_wp2_with (at_builtin;refine Lib.wpList_copy_run _ rfl _ _ 101 101 rfl _ _ rfl rfl hr1 ?_)
  have HB1:Aside (Filled w1 w2 n 1 x):=B1
  clear B1 hr1 hcall hle i1 hMul
  go_loopg [10] (n - 1) (fun g s10 wr=>∃ k:Nat,1≤k∧k≤n∧n - k≤g∧s10=.int .i64 k∧Aside (Filled w1 wr n k x))
  case atStart=>exact ⟨1,Nat.le_refl _,h1,Nat.le_refl _,rfl,HB1⟩
  case round =>
    obtain ⟨k,hk1,hkn,hg,rfl,HB⟩:=hrel
    by_cases hlt:k<n
    · have hz:(k:Int)<(n:Int):=by omega
      have hmin:=min_fact k n hkn
      have hsl1:∀ W,(Instr.slice 101 (.slice (some ⟨w1.heap.size,0,none⟩) n n) (some (.int .i64 (k:Int))) none none).run Tryz.prog W=.ok (.slice (some ⟨w1.heap.size,k,none⟩) (n - k) (n - k)) W:=fun W=>by
        have:=Lib.run_slice_tailV (P:=Tryz.prog) W 101 5 Tryz.underlying101 (fun w=>sizT_run (by kernel_rfl)) w1.heap.size n k hkn
        unfold Lib.tailV at this
        rwa [if_neg (by omega)] at this
      have hsl2:∀ W,(Instr.slice 101 (.slice (some ⟨w1.heap.size,0,none⟩) n n) none (some (.int .i64 (k:Int))) none).run Tryz.prog W=.ok (.slice (some ⟨w1.heap.size,0,none⟩) k n) W:=fun W=>by
        have he:Tryz.prog.elem 101=5:=by simp [Program.elem,Tryz.underlying101]
        have ht:Tryz.prog.underlying 101=some (.slice (Tryz.prog.elem 101)):=by rw [he];exact Tryz.underlying101
        have hz1:(sizeOf (Tryz.prog.elem 101)).run Tryz.prog W=.ok 1 W:=by rw [he];exact sizT_run (by kernel_rfl)
        rw [run_slice_h W 101 _ n n ht .i64 (k:Int) (by omega) (by omega),hz1]
        simp only [Result.andThen,sliced,Int.toNat_natCast,Nat.zero_mul,Option.map_some,Nat.sub_zero]
        have:¬ n=0:=by omega
        simp [this,add_place]
      have B4:Filled w1 wr.drew n k x:=by
        obtain ⟨cur,q1,q2,q3,q4,q5⟩:=HB.out
        exact ⟨cur,q1,q2,q3,q4,⟨q5.os,q5.tape,q5.output,q5.size,q5.block⟩⟩
      obtain ⟨w3,hr3,B3⟩:=filled_copy B4 3 (a:=⟨w1.heap.size,0,none⟩) (c:=k) (cap:=n) (fun j hj=>by
        obtain ⟨cur,q1,q2,q3,q4,q5⟩:=B4
        rw [add_place,Nat.zero_add,cur_cell q1]
        exact q4 j hj) hlt
      have HB3:Aside (Filled w1 w3 n (k+min k (n - k)) x):=B3
      have HR3:Aside _:=hr3
      clear B3 B4 hr3
      go_wp2
      go_region_law (refine step_copy_run rfl (.tmp 70) (.tmp 73) 101 101 rfl (.slice (some ⟨w1.heap.size,k,none⟩) (n - k) (n - k)) (.slice (some ⟨w1.heap.size,0,none⟩) k n) (by simp [Act.eval,Act.put]) (by simp [Act.eval,Act.put]) HR3.out ?_)
      go_wp2
      go_roundg (n - (k+min k (n - k)))
      case measure =>
        have hm2:1≤min k (n - k):=by rw [Nat.le_min];omega
        omega
      case rel =>
        have hm1:=Nat.min_le_right k (n - k)
        have e:IntKind.i64.wrap ((k:Int)+((min k (n - k):Nat):Int))=((k+min k (n - k):Nat):Int):=by
          generalize min k (n - k)=m at hm1 ⊢
          rw [wrI_id (by omega)]
          omega
        exact ⟨k+min k (n - k),by omega,by omega,Nat.le_refl _,by rw [e],HB3⟩
    · obtain rfl:n=k:=by omega
      have hz:¬ ((n:Int)<(n:Int)):=by omega
      go_wp2
      go_ret
      exact ⟨w1,rfl,hk,HB.out⟩
theorem flat_rep (n:Nat) (x:Int):flat [.num .u8] (List.replicate n [.n x])=List.replicate n (.int .u8 x):=by
  induction n with
  | zero=>rfl
  | succ n ih =>
    show mkEl [.num .u8] [.n x]++flat [.num .u8] (List.replicate n [.n x])=_
    rw [ih]
    rfl
def repN (n x:Int):List (List Dat):=List.replicate n.toNat [.n x]
def gRep (xs:List SV) (m:Mem):Option (Bool×SV×Mem) :=
  match xs,m with
  | [.row 0,.v (.int .i64 n)],⟨[],[],[.live ⟨t,[.num .u8],[[.n x]],own,mark⟩]⟩=>some (decide (1≤n∧n≤8192),.row 1,⟨[],[],[.live ⟨t,[.num .u8],[[.n x]],own,mark⟩,.live ⟨5,[.num .u8],repN n x,true,true⟩]⟩)
  | _,_=>none
theorem gRep_ok:CtC 47 gRep:=by
  intro xs m r m' h
  unfold gRep at h
  split at h
  case h_2=>cases h
  rename_i n t x own mark
  obtain ⟨h1,rfl,rfl⟩:=some_t2 h
  have h1:=of_decide_eq_true h1
  obtain ⟨q,rfl⟩:=Int.eq_ofNat_of_zero_le (show 0≤n by omega)
  intro z V vs hl hM hA
  obtain ⟨v0,v1,rfl,d0,d1⟩:=two_args hA
  have hr0:Go.Sx.rowAt (⟨[],[],[.live ⟨t,[.num .u8],[[.n x]],own,mark⟩]⟩:Mem).rows 0=some ⟨t,[.num .u8],[[.n x]],own,mark⟩:=rfl
  obtain ⟨u,hu,hok⟩:=hM.rows 0 _ hr0
  have e0:v0=u:=d0.2.1 u hu
  have e1:v1=.int .i64 (q:Int):=d1
  subst e0 e1
  rcases hok.reads rfl hM.stay_lt with ⟨_,hL⟩|⟨b,o,cap,hs,_,_,hc⟩
  · cases hL
  have hcell:z.w.cell? ⟨b,o,none⟩=some (.int .u8 x):=by
    have:=hc 0 0 [.n x] (.int .u8 x) rfl rfl
    simpa using this
  refine .inr ⟨callFunc_enter Tryz.func47 rfl (names_of names Tryz.func47 rfl) z.w,?_⟩
  subst hs
  refine (repeated x q b o cap z.w (by omega) (by omega) hcell).mono ?_
  rintro e w' ⟨w1,rfl,hk,cur,f1,f2,f3,f4,f5⟩
  refine ⟨_,rfl,?_⟩
  have hkp:Kp z.w w':=⟨hk.1.trans (f5.mono hk.1.size),fun p hp=>(f5.frozen (Nat.lt_of_lt_of_le hp hk.1.size)).trans (hk.2 p hp)⟩
  have hq:(q:Int).toNat=q:=Int.toNat_natCast q
  have hown:owns w' 5 true 1 (.slice (some ⟨w1.heap.size,0,none⟩) q q) (repN q x).length (flat [.num .u8] (repN q x)):=by
    unfold repN
    rw [hq,List.length_replicate,flat_rep]
    refine ⟨by simp,w1.heap.size,q,cur,(0,0),rfl,f1,.inl rfl,⟨by omega,Nat.le_refl _⟩,?_⟩
    apply List.ext_getElem?
    intro j
    rw [Nat.mul_one]
    rcases Nat.lt_or_ge j q with hj|hj
    · rw [List.getElem?_take_of_lt hj,Array.getElem?_toList,f4 j hj,List.getElem?_replicate,if_pos hj]
    · rw [List.getElem?_eq_none (by simp;omega),List.getElem?_eq_none (by simp;omega)]
  obtain ⟨V',_,hR',hr',_⟩:=Rel.addRow (rc:=⟨5,[.num .u8],repN q x,true,true⟩) hM hkp rfl (Like.refl rfl) hown (Nat.one_pos) (fun g hg=>by simp [Value.ownBlock] at hg;have:=hk.1.size;omega)
  have hr':V'.r 1=some (some (.slice (some ⟨w1.heap.size,0,none⟩) q q)):=hr'
  exact ⟨V',⟨by rw [hr'];simp,fun u hu'=>by rw [hr'] at hu';injection hu' with hu';injection hu',trivial⟩,hR'⟩
end Go.Proofs.YtagaiddomhpdmaaGreat
namespace Go.Proofs.YtagaiddomhpdmaaGreat
open Go Go.Proofs Go.Sx
set_option linter.unusedVariables false
def TM (a u b v c w:Int):Mem:=⟨[[.ptr 1 0,.ptr 2 0,.ptr 3 0],[.v (I a),.v (I u)],[.v (I b),.v (I v)],[.v (I c),.v (I w)]],[true,true,true,true],[]⟩
def hrd (n:Int):Bool:=n==1||(n==2||n==3)
def tV (p q a u:Int):Int:=bif hrd p||hrd q then (bif p != 3&&q != 3 then clampI 0 a else bif hrd p&&(hrd q&&p != q) then u else addN' a u 1) else u
def tD (p q b v:Int):Int:=bif hrd p||hrd q then (bif p != 3&&q != 3 then clampI 0 b else bif hrd p&&(hrd q&&p != q) then addN' b v 1 else v) else v
def tG (p q c w:Int):Int:=bif hrd p||hrd q then clampI 0 c else addN' c w 1
def whyI (x y z:Bool):Int:=(bif x then 1 else 0)+((bif y then 2 else 0)+(bif z then 4 else 0))
theorem xStore64:Ext Tryz.prog 277 Extern.Atomic.storeT:=⟨fun args w=>run_callFunc_extern Tryz.func277 (by kernel_rfl) (by kernel_rfl) (by kernel_rfl) (by kernel_rfl) args w⟩
noncomputable def ΓD0:Orc:=addC (storeE 277 .i64) ΓC
theorem OkD0:ΓD0.Ok Tryz.prog:=addC_ok OkC (storeE_ok xStore64)
theorem runStore0 (n:Int) (a v:Int):runG ΓD0 L0 Tryz.prog Tryz.f230 [.ptr 0 1,.v (I n)] (MC a v)=some (.v (.tuple #[]),MC a n):=by kernel_rfl
def gStore (xs:List SV) (m:Mem):Option (Bool×SV×Mem) :=
  match xs,m with
  | [.ptr 0 1,.v (.int .i64 n)],⟨[[.v (.int .i64 a),.v (.int .i64 v)]],[true],[]⟩=>some (true,.v (.tuple #[]),MC a n)
  | _,_=>none
theorem gStore_ok:CtC 230 gStore:=by
  intro xs m r m' h
  unfold gStore at h
  split at h
  · rename_i n a v
    obtain ⟨h1,rfl,rfl⟩:=some_t2 h
    refine runOk (Λ:=L0) OkD0 Tryz.func230 rfl (fun z _ _=>noLoops (by kernel_rfl) z) ?_
    exact (runStore0 n a v).trans (rfl)
  · cases h
noncomputable def ΓD1:Orc:=addCl 230 gStore ΓD0
theorem OkD1:ΓD1.Ok Tryz.prog:=addCl_ok OkD0 gStore_ok
noncomputable def ΓDw:Orc:={ ΓD1 with wr:=fun f=>Nat.beq f 230||makers f }
theorem OkDw:ΓDw.Ok Tryz.prog:=⟨OkD1.call,OkD1.rd,OkD1.eqv⟩
theorem runCUp0 (a v:Int):runG ΓDw L0 Tryz.prog Tryz.f172 [.ptr 0 0] (MC a v)=some (.v (I (addN' a v 1)),MC a (addN' a v 1)):=by kernel_rfl
def gCUp (xs:List SV) (m:Mem):Option (Bool×SV×Mem) :=
  match xs,m with
  | [.ptr 0 0],⟨[[.v (.int .i64 a),.v (.int .i64 v)]],[true],[]⟩=>some (true,.v (I (addN' a v 1)),MC a (addN' a v 1))
  | _,_=>none
theorem gCUp_ok:CtC 172 gCUp:=by
  intro xs m r m' h
  unfold gCUp at h
  split at h
  · rename_i a v
    obtain ⟨h1,rfl,rfl⟩:=some_t2 h
    refine runOk (Λ:=L0) OkDw Tryz.func172 rfl (fun z _ _=>noLoops (by kernel_rfl) z) ?_
    exact (runCUp0 a v).trans (rfl)
  · cases h
noncomputable def ΓD2:Orc:=addCl 172 gCUp ΓDw
theorem OkD2:ΓD2.Ok Tryz.prog:=addCl_ok OkDw gCUp_ok
theorem runCSet0 (n:Int) (a v:Int):runG ΓD2 L0 Tryz.prog Tryz.f173 [.ptr 0 0,.v (I n)] (MC a v)=some (.v (.tuple #[]),MC a (clampI n a)):=by kernel_rfl
def gCSet (xs:List SV) (m:Mem):Option (Bool×SV×Mem) :=
  match xs,m with
  | [.ptr 0 0,.v (.int .i64 n)],⟨[[.v (.int .i64 a),.v (.int .i64 v)]],[true],[]⟩=>some (true,.v (.tuple #[]),MC a (clampI n a))
  | _,_=>none
theorem gCSet_ok:CtC 173 gCSet:=by
  intro xs m r m' h
  unfold gCSet at h
  split at h
  · rename_i n a v
    obtain ⟨h1,rfl,rfl⟩:=some_t2 h
    refine runOk (Λ:=L0) OkD2 Tryz.func173 rfl (fun z _ _=>noLoops (by kernel_rfl) z) ?_
    exact (runCSet0 n a v).trans (rfl)
  · cases h
noncomputable def ΓD3:Orc:=addCl 173 gCSet ΓD2
theorem OkD3:ΓD3.Ok Tryz.prog:=addCl_ok OkD2 gCSet_ok
theorem runCReset0 (a v:Int):runG ΓD3 L0 Tryz.prog Tryz.f157 [.ptr 0 0] (MC a v)=some (.v (.tuple #[]),MC a (clampI 0 a)):=by kernel_rfl
def gCReset (xs:List SV) (m:Mem):Option (Bool×SV×Mem) :=
  match xs,m with
  | [.ptr 0 0],⟨[[.v (.int .i64 a),.v (.int .i64 v)]],[true],[]⟩=>some (true,.v (.tuple #[]),MC a (clampI 0 a))
  | _,_=>none
theorem gCReset_ok:CtC 157 gCReset:=by
  intro xs m r m' h
  unfold gCReset at h
  split at h
  · rename_i a v
    obtain ⟨h1,rfl,rfl⟩:=some_t2 h
    refine runOk (Λ:=L0) OkD3 Tryz.func157 rfl (fun z _ _=>noLoops (by kernel_rfl) z) ?_
    exact (runCReset0 a v).trans (rfl)
  · cases h
noncomputable def ΓD4:Orc:=addCl 157 gCReset ΓD3
theorem OkD4:ΓD4.Ok Tryz.prog:=addCl_ok OkD3 gCReset_ok
theorem runCMost0 (a v:Int):runG ΓD4 L0 Tryz.prog Tryz.f278 [.ptr 0 0] (MC a v)=some (.v (I a),MC a v):=by kernel_rfl
def gCMost (xs:List SV) (m:Mem):Option (Bool×Value) :=
  match xs,m with
  | [.ptr 0 0],⟨[[.v (.int .i64 a),.v (.int .i64 v)]],[true],[]⟩=>some (true,I a)
  | _,_=>none
theorem gCMost_ok:CtR 278 gCMost:=by
  intro xs m r h
  unfold gCMost at h
  split at h
  · rename_i a v
    obtain ⟨h1,rfl⟩:=some_t h
    refine runOk (Λ:=L0) OkD4 Tryz.func278 rfl (fun z _ _=>noLoops (by kernel_rfl) z) ?_
    exact (runCMost0 a v).trans (rfl)
  · cases h
noncomputable def ΓD5:Orc:=addRd 278 gCMost ΓD4
theorem OkD5:ΓD5.Ok Tryz.prog:=addRd_ok OkD4 gCMost_ok
theorem runCFull0 (a v:Int):runG ΓD5 L0 Tryz.prog Tryz.f234 [.ptr 0 0] (MC a v)=some (.v (Bo (v==a)),MC a v):=by kernel_rfl
def gCFull (xs:List SV) (m:Mem):Option (Bool×Value) :=
  match xs,m with
  | [.ptr 0 0],⟨[[.v (.int .i64 a),.v (.int .i64 v)]],[true],[]⟩=>some (true,Bo (v==a))
  | _,_=>none
theorem gCFull_ok:CtR 234 gCFull:=by
  intro xs m r h
  unfold gCFull at h
  split at h
  · rename_i a v
    obtain ⟨h1,rfl⟩:=some_t h
    refine runOk (Λ:=L0) OkD5 Tryz.func234 rfl (fun z _ _=>noLoops (by kernel_rfl) z) ?_
    exact (runCFull0 a v).trans (rfl)
  · cases h
noncomputable def ΓD6:Orc:=addRd 234 gCFull ΓD5
theorem OkD6:ΓD6.Ok Tryz.prog:=addRd_ok OkD5 gCFull_ok
theorem runTHr (n:Int):runG ΓD6 L0 Tryz.prog Tryz.f171 [.v (I n)] M0 =
    (bif n==(1:Int) then some (.v (Bo true),M0) else (bif n==(2:Int) then some (.v (Bo true),M0) else some (.v (Bo (n==(3:Int))),M0))):=by kernel_rfl
def gTHr (vs:List Value):Option (Bool×Value) :=
  match vs with
  | [.int .i64 n]=>some (true,Bo (hrd n))
  | _=>none
theorem gTHr_ok:CtV 171 gTHr:=by
  intro vs r h
  unfold gTHr at h
  split at h
  · rename_i n
    obtain ⟨h1,rfl⟩:=some_t h
    refine runV (vs:=[I n]) (Λ:=L0) (m':=M0) OkD6 Tryz.func171 rfl (fun z _ _=>noLoops (by kernel_rfl) z) ?_
    exact (runTHr n).trans (by unfold hrd;cases n==1<;>cases n==2<;>rfl)
  · cases h
noncomputable def ΓD7:Orc:=addVal 171 gTHr ΓD6
theorem OkD7:ΓD7.Ok Tryz.prog:=addVal_ok OkD6 gTHr_ok
theorem runTCyc0 (p q:Int) (a u b v c w:Int):runG ΓD7 L0 Tryz.prog Tryz.f114 [.ptr 0 0,.v (I p),.v (I q)] (TM a u b v c w) =
    (bif !hrd p then (bif !hrd q then some (.v (.tuple #[]),⟨[[.ptr 1 0,.ptr 2 0,.ptr 3 0],[.v (I a),.v (I u)],[.v (I b),.v (I v)],[.v (I c),.v (I (addN' c w (1:Int)))]],[true,true,true,true],[]⟩) else (bif p != (3:Int) then (bif q != (3:Int) then some (.v (.tuple #[]),⟨[[.ptr 1 0,.ptr 2 0,.ptr 3 0],[.v (I a),.v (I (clampI (0:Int) a))],[.v (I b),.v (I (clampI (0:Int) b))],[.v (I c),.v (I (clampI (0:Int) c))]],[true,true,true,true],[]⟩) else (bif hrd p then (bif hrd q then (bif p != q then some (.v (.tuple #[]),⟨[[.ptr 1 0,.ptr 2 0,.ptr 3 0],[.v (I a),.v (I u)],[.v (I b),.v (I (addN' b v (1:Int)))],[.v (I c),.v (I (clampI (0:Int) c))]],[true,true,true,true],[]⟩) else some (.v (.tuple #[]),⟨[[.ptr 1 0,.ptr 2 0,.ptr 3 0],[.v (I a),.v (I (addN' a u (1:Int)))],[.v (I b),.v (I v)],[.v (I c),.v (I (clampI (0:Int) c))]],[true,true,true,true],[]⟩)) else some (.v (.tuple #[]),⟨[[.ptr 1 0,.ptr 2 0,.ptr 3 0],[.v (I a),.v (I (addN' a u (1:Int)))],[.v (I b),.v (I v)],[.v (I c),.v (I (clampI (0:Int) c))]],[true,true,true,true],[]⟩)) else some (.v (.tuple #[]),⟨[[.ptr 1 0,.ptr 2 0,.ptr 3 0],[.v (I a),.v (I (addN' a u (1:Int)))],[.v (I b),.v (I v)],[.v (I c),.v (I (clampI (0:Int) c))]],[true,true,true,true],[]⟩))) else (bif hrd p then (bif hrd q then (bif p != q then some (.v (.tuple #[]),⟨[[.ptr 1 0,.ptr 2 0,.ptr 3 0],[.v (I a),.v (I u)],[.v (I b),.v (I (addN' b v (1:Int)))],[.v (I c),.v (I (clampI (0:Int) c))]],[true,true,true,true],[]⟩) else some (.v (.tuple #[]),⟨[[.ptr 1 0,.ptr 2 0,.ptr 3 0],[.v (I a),.v (I (addN' a u (1:Int)))],[.v (I b),.v (I v)],[.v (I c),.v (I (clampI (0:Int) c))]],[true,true,true,true],[]⟩)) else some (.v (.tuple #[]),⟨[[.ptr 1 0,.ptr 2 0,.ptr 3 0],[.v (I a),.v (I (addN' a u (1:Int)))],[.v (I b),.v (I v)],[.v (I c),.v (I (clampI (0:Int) c))]],[true,true,true,true],[]⟩)) else some (.v (.tuple #[]),⟨[[.ptr 1 0,.ptr 2 0,.ptr 3 0],[.v (I a),.v (I (addN' a u (1:Int)))],[.v (I b),.v (I v)],[.v (I c),.v (I (clampI (0:Int) c))]],[true,true,true,true],[]⟩)))) else (bif p != (3:Int) then (bif q != (3:Int) then some (.v (.tuple #[]),⟨[[.ptr 1 0,.ptr 2 0,.ptr 3 0],[.v (I a),.v (I (clampI (0:Int) a))],[.v (I b),.v (I (clampI (0:Int) b))],[.v (I c),.v (I (clampI (0:Int) c))]],[true,true,true,true],[]⟩) else (bif hrd p then (bif hrd q then (bif p != q then some (.v (.tuple #[]),⟨[[.ptr 1 0,.ptr 2 0,.ptr 3 0],[.v (I a),.v (I u)],[.v (I b),.v (I (addN' b v (1:Int)))],[.v (I c),.v (I (clampI (0:Int) c))]],[true,true,true,true],[]⟩) else some (.v (.tuple #[]),⟨[[.ptr 1 0,.ptr 2 0,.ptr 3 0],[.v (I a),.v (I (addN' a u (1:Int)))],[.v (I b),.v (I v)],[.v (I c),.v (I (clampI (0:Int) c))]],[true,true,true,true],[]⟩)) else some (.v (.tuple #[]),⟨[[.ptr 1 0,.ptr 2 0,.ptr 3 0],[.v (I a),.v (I (addN' a u (1:Int)))],[.v (I b),.v (I v)],[.v (I c),.v (I (clampI (0:Int) c))]],[true,true,true,true],[]⟩)) else some (.v (.tuple #[]),⟨[[.ptr 1 0,.ptr 2 0,.ptr 3 0],[.v (I a),.v (I (addN' a u (1:Int)))],[.v (I b),.v (I v)],[.v (I c),.v (I (clampI (0:Int) c))]],[true,true,true,true],[]⟩))) else (bif hrd p then (bif hrd q then (bif p != q then some (.v (.tuple #[]),⟨[[.ptr 1 0,.ptr 2 0,.ptr 3 0],[.v (I a),.v (I u)],[.v (I b),.v (I (addN' b v (1:Int)))],[.v (I c),.v (I (clampI (0:Int) c))]],[true,true,true,true],[]⟩) else some (.v (.tuple #[]),⟨[[.ptr 1 0,.ptr 2 0,.ptr 3 0],[.v (I a),.v (I (addN' a u (1:Int)))],[.v (I b),.v (I v)],[.v (I c),.v (I (clampI (0:Int) c))]],[true,true,true,true],[]⟩)) else some (.v (.tuple #[]),⟨[[.ptr 1 0,.ptr 2 0,.ptr 3 0],[.v (I a),.v (I (addN' a u (1:Int)))],[.v (I b),.v (I v)],[.v (I c),.v (I (clampI (0:Int) c))]],[true,true,true,true],[]⟩)) else some (.v (.tuple #[]),⟨[[.ptr 1 0,.ptr 2 0,.ptr 3 0],[.v (I a),.v (I (addN' a u (1:Int)))],[.v (I b),.v (I v)],[.v (I c),.v (I (clampI (0:Int) c))]],[true,true,true,true],[]⟩)))):=by kernel_rfl
theorem runTCyc1 (p q:Int):runG ΓD7 L0 Tryz.prog Tryz.f114 [.v (.pointer none),.v (I p),.v (I q)] M0=some (.v (.tuple #[]),M0):=by kernel_rfl
def gTCyc (xs:List SV) (m:Mem):Option (Bool×SV×Mem) :=
  match xs,m with
  | [.ptr 0 0,.v (.int .i64 p),.v (.int .i64 q)],⟨[[.ptr 1 0,.ptr 2 0,.ptr 3 0],[.v (.int .i64 a),.v (.int .i64 u)],[.v (.int .i64 b),.v (.int .i64 v)],[.v (.int .i64 c),.v (.int .i64 w)]],[true,true,true,true],[]⟩=>some (true,.v (.tuple #[]),TM a (tV p q a u) b (tD p q b v) c (tG p q c w))
  | [.v (.pointer none),.v (.int .i64 p),.v (.int .i64 q)],⟨[],[],[]⟩=>some (true,.v (.tuple #[]),M0)
  | _,_=>none
theorem gTCyc_ok:CtC 114 gTCyc:=by
  intro xs m r m' h
  unfold gTCyc at h
  split at h
  · rename_i p q a u b v c w
    obtain ⟨h1,rfl,rfl⟩:=some_t2 h
    refine runOk (Λ:=L0) OkD7 Tryz.func114 rfl (fun z _ _=>noLoops (by kernel_rfl) z) ?_
    exact (runTCyc0 p q a u b v c w).trans (by unfold tV tD tG;cases hrd p<;>cases hrd q<;>cases p != 3<;>cases q != 3<;>cases p != q<;>rfl)
  · rename_i p q
    obtain ⟨h1,rfl,rfl⟩:=some_t2 h
    refine runOk (Λ:=L0) OkD7 Tryz.func114 rfl (fun z _ _=>noLoops (by kernel_rfl) z) ?_
    exact (runTCyc1 p q).trans (rfl)
  · cases h
noncomputable def ΓD8:Orc:=addCl 114 gTCyc ΓD7
theorem OkD8:ΓD8.Ok Tryz.prog:=addCl_ok OkD7 gTCyc_ok
theorem runTCnt0 (a u b v c w:Int):runG ΓD8 L0 Tryz.prog Tryz.f123 [.ptr 0 0] (TM a u b v c w)=some (.v (Value.tuple #[I u,I v,I w]),TM a u b v c w):=by kernel_rfl
theorem runTCnt1:runG ΓD8 L0 Tryz.prog Tryz.f123 [.v (.pointer none)] M0=some (.v (Value.tuple #[I 0,I 0,I 0]),M0):=by kernel_rfl
def gTCnt (xs:List SV) (m:Mem):Option (Bool×Value) :=
  match xs,m with
  | [.ptr 0 0],⟨[[.ptr 1 0,.ptr 2 0,.ptr 3 0],[.v (.int .i64 a),.v (.int .i64 u)],[.v (.int .i64 b),.v (.int .i64 v)],[.v (.int .i64 c),.v (.int .i64 w)]],[true,true,true,true],[]⟩=>some (true,Value.tuple #[I u,I v,I w])
  | [.v (.pointer none)],⟨[],[],[]⟩=>some (true,Value.tuple #[I 0,I 0,I 0])
  | _,_=>none
theorem gTCnt_ok:CtR 123 gTCnt:=by
  intro xs m r h
  unfold gTCnt at h
  split at h
  · rename_i a u b v c w
    obtain ⟨h1,rfl⟩:=some_t h
    refine runOk (Λ:=L0) OkD8 Tryz.func123 rfl (fun z _ _=>noLoops (by kernel_rfl) z) ?_
    exact (runTCnt0 a u b v c w).trans (rfl)
  · obtain ⟨h1,rfl⟩:=some_t h
    refine runOk (Λ:=L0) OkD8 Tryz.func123 rfl (fun z _ _=>noLoops (by kernel_rfl) z) ?_
    exact (runTCnt1 ).trans (rfl)
  · cases h
noncomputable def ΓD9:Orc:=addRd 123 gTCnt ΓD8
theorem OkD9:ΓD9.Ok Tryz.prog:=addRd_ok OkD8 gTCnt_ok
theorem runTSet0 (p q r:Int) (a u b v c w:Int):runG ΓD9 L0 Tryz.prog Tryz.f115 [.ptr 0 0,.v (I p),.v (I q),.v (I r)] (TM a u b v c w)=some (.v (.tuple #[]),TM a (clampI p a) b (clampI q b) c (clampI r c)):=by kernel_rfl
theorem runTSet1 (p q r:Int):runG ΓD9 L0 Tryz.prog Tryz.f115 [.v (.pointer none),.v (I p),.v (I q),.v (I r)] M0=some (.v (.tuple #[]),M0):=by kernel_rfl
def gTSet (xs:List SV) (m:Mem):Option (Bool×SV×Mem) :=
  match xs,m with
  | [.ptr 0 0,.v (.int .i64 p),.v (.int .i64 q),.v (.int .i64 r)],⟨[[.ptr 1 0,.ptr 2 0,.ptr 3 0],[.v (.int .i64 a),.v (.int .i64 u)],[.v (.int .i64 b),.v (.int .i64 v)],[.v (.int .i64 c),.v (.int .i64 w)]],[true,true,true,true],[]⟩=>some (true,.v (.tuple #[]),TM a (clampI p a) b (clampI q b) c (clampI r c))
  | [.v (.pointer none),.v (.int .i64 p),.v (.int .i64 q),.v (.int .i64 r)],⟨[],[],[]⟩=>some (true,.v (.tuple #[]),M0)
  | _,_=>none
theorem gTSet_ok:CtC 115 gTSet:=by
  intro xs m r m' h
  unfold gTSet at h
  split at h
  · rename_i p q r a u b v c w
    obtain ⟨h1,rfl,rfl⟩:=some_t2 h
    refine runOk (Λ:=L0) OkD9 Tryz.func115 rfl (fun z _ _=>noLoops (by kernel_rfl) z) ?_
    exact (runTSet0 p q r a u b v c w).trans (rfl)
  · rename_i p q r
    obtain ⟨h1,rfl,rfl⟩:=some_t2 h
    refine runOk (Λ:=L0) OkD9 Tryz.func115 rfl (fun z _ _=>noLoops (by kernel_rfl) z) ?_
    exact (runTSet1 p q r).trans (rfl)
  · cases h
noncomputable def ΓD10:Orc:=addCl 115 gTSet ΓD9
theorem OkD10:ΓD10.Ok Tryz.prog:=addCl_ok OkD9 gTSet_ok
theorem runTWhy0 (a u b v c w:Int):runG ΓD10 L0 Tryz.prog Tryz.f176 [.ptr 0 0] (TM a u b v c w) =
    (bif u==a then (bif v==b then (bif w==c then some (.v (I 7),⟨[[.ptr 1 0,.ptr 2 0,.ptr 3 0],[.v (I a),.v (I u)],[.v (I b),.v (I v)],[.v (I c),.v (I w)]],[true,true,true,true],[]⟩) else some (.v (I 3),⟨[[.ptr 1 0,.ptr 2 0,.ptr 3 0],[.v (I a),.v (I u)],[.v (I b),.v (I v)],[.v (I c),.v (I w)]],[true,true,true,true],[]⟩)) else (bif w==c then some (.v (I 5),⟨[[.ptr 1 0,.ptr 2 0,.ptr 3 0],[.v (I a),.v (I u)],[.v (I b),.v (I v)],[.v (I c),.v (I w)]],[true,true,true,true],[]⟩) else some (.v (I 1),⟨[[.ptr 1 0,.ptr 2 0,.ptr 3 0],[.v (I a),.v (I u)],[.v (I b),.v (I v)],[.v (I c),.v (I w)]],[true,true,true,true],[]⟩))) else (bif v==b then (bif w==c then some (.v (I 6),⟨[[.ptr 1 0,.ptr 2 0,.ptr 3 0],[.v (I a),.v (I u)],[.v (I b),.v (I v)],[.v (I c),.v (I w)]],[true,true,true,true],[]⟩) else some (.v (I 2),⟨[[.ptr 1 0,.ptr 2 0,.ptr 3 0],[.v (I a),.v (I u)],[.v (I b),.v (I v)],[.v (I c),.v (I w)]],[true,true,true,true],[]⟩)) else (bif w==c then some (.v (I 4),⟨[[.ptr 1 0,.ptr 2 0,.ptr 3 0],[.v (I a),.v (I u)],[.v (I b),.v (I v)],[.v (I c),.v (I w)]],[true,true,true,true],[]⟩) else some (.v (I 0),⟨[[.ptr 1 0,.ptr 2 0,.ptr 3 0],[.v (I a),.v (I u)],[.v (I b),.v (I v)],[.v (I c),.v (I w)]],[true,true,true,true],[]⟩)))):=by kernel_rfl
theorem runTWhy1:runG ΓD10 L0 Tryz.prog Tryz.f176 [.v (.pointer none)] M0=some (.v (I 0),M0):=by kernel_rfl
def gTWhy (xs:List SV) (m:Mem):Option (Bool×Value) :=
  match xs,m with
  | [.ptr 0 0],⟨[[.ptr 1 0,.ptr 2 0,.ptr 3 0],[.v (.int .i64 a),.v (.int .i64 u)],[.v (.int .i64 b),.v (.int .i64 v)],[.v (.int .i64 c),.v (.int .i64 w)]],[true,true,true,true],[]⟩=>some (true,I (whyI (u==a) (v==b) (w==c)))
  | [.v (.pointer none)],⟨[],[],[]⟩=>some (true,I 0)
  | _,_=>none
theorem gTWhy_ok:CtR 176 gTWhy:=by
  intro xs m r h
  unfold gTWhy at h
  split at h
  · rename_i a u b v c w
    obtain ⟨h1,rfl⟩:=some_t h
    refine runOk (Λ:=L0) OkD10 Tryz.func176 rfl (fun z _ _=>noLoops (by kernel_rfl) z) ?_
    exact (runTWhy0 a u b v c w).trans (by cases u==a<;>cases v==b<;>cases w==c<;>rfl)
  · obtain ⟨h1,rfl⟩:=some_t h
    refine runOk (Λ:=L0) OkD10 Tryz.func176 rfl (fun z _ _=>noLoops (by kernel_rfl) z) ?_
    exact (runTWhy1 ).trans (rfl)
  · cases h
noncomputable def ΓD11:Orc:=addRd 176 gTWhy ΓD10
theorem OkD11:ΓD11.Ok Tryz.prog:=addRd_ok OkD10 gTWhy_ok
theorem runTFir0 (a u b v c w:Int):runG ΓD11 L0 Tryz.prog Tryz.f117 [.ptr 0 0] (TM a u b v c w)=some (.v (Bo (whyI (u==a) (v==b) (w==c) != 0)),TM a u b v c w):=by kernel_rfl
theorem runTFir1:runG ΓD11 L0 Tryz.prog Tryz.f117 [.v (.pointer none)] M0=some (.v (Bo true),M0):=by kernel_rfl
def gTFir (xs:List SV) (m:Mem):Option (Bool×Value) :=
  match xs,m with
  | [.ptr 0 0],⟨[[.ptr 1 0,.ptr 2 0,.ptr 3 0],[.v (.int .i64 a),.v (.int .i64 u)],[.v (.int .i64 b),.v (.int .i64 v)],[.v (.int .i64 c),.v (.int .i64 w)]],[true,true,true,true],[]⟩=>some (true,Bo (whyI (u==a) (v==b) (w==c) != 0))
  | [.v (.pointer none)],⟨[],[],[]⟩=>some (true,Bo true)
  | _,_=>none
theorem gTFir_ok:CtR 117 gTFir:=by
  intro xs m r h
  unfold gTFir at h
  split at h
  · rename_i a u b v c w
    obtain ⟨h1,rfl⟩:=some_t h
    refine runOk (Λ:=L0) OkD11 Tryz.func117 rfl (fun z _ _=>noLoops (by kernel_rfl) z) ?_
    exact (runTFir0 a u b v c w).trans (rfl)
  · obtain ⟨h1,rfl⟩:=some_t h
    refine runOk (Λ:=L0) OkD11 Tryz.func117 rfl (fun z _ _=>noLoops (by kernel_rfl) z) ?_
    exact (runTFir1 ).trans (rfl)
  · cases h
noncomputable def ΓD12:Orc:=addRd 117 gTFir ΓD11
theorem OkD12:ΓD12.Ok Tryz.prog:=addRd_ok OkD11 gTFir_ok
noncomputable def ΓTl0:Orc:=ΓD12
theorem OkTl0:ΓTl0.Ok Tryz.prog:=OkD12
end Go.Proofs.YtagaiddomhpdmaaGreat
namespace Go.Proofs.YtagaiddomhpdmaaGreat
open Go Go.Proofs Go.Sx
set_option linter.unusedVariables false
noncomputable def Γsm:Orc:=exec Tryz.prog ΓDo.call ΓDo.rd ΓDo.eqv (fun _=>false) 30 6
theorem Oksm:Γsm.Ok Tryz.prog:=exec_ok mixed names (ext:=ΓDo.call) (rd:=ΓDo.rd) (eqv:=ΓDo.eqv) ⟨OkDo.call,OkDo.rd,OkDo.eqv⟩ 30 6
theorem runBsu:runG Γsm (loopX Γsm Tryz.prog 30 3) Tryz.prog Tryz.f140 [] M0=some (.v (Bo true),M0):=by kernel_rfl
def gBsu (vs:List Value):Option (Bool×Value) :=
  match vs with
  | []=>some (true,Bo true)
  | _=>none
theorem gBsu_ok:CtV 140 gBsu:=by
  intro vs r h
  unfold gBsu at h
  split at h
  · obtain ⟨_,rfl⟩:=some_t h
    exact runV (vs:=[]) Oksm Tryz.func140 rfl (fun z _ _ b hb=>loopX_ok Oksm mixed 30 3 b) runBsu
  · cases h
noncomputable def Γb1:Orc:=addVal 140 gBsu ΓO
theorem Okb1:Γb1.Ok Tryz.prog:=addVal_ok OkO gBsu_ok
theorem runBnu:runG Γsm (loopX Γsm Tryz.prog 30 3) Tryz.prog Tryz.f141 [] M0=some (.v (Bo true),M0):=by kernel_rfl
def gBnu (vs:List Value):Option (Bool×Value) :=
  match vs with
  | []=>some (true,Bo true)
  | _=>none
theorem gBnu_ok:CtV 141 gBnu:=by
  intro vs r h
  unfold gBnu at h
  split at h
  · obtain ⟨_,rfl⟩:=some_t h
    exact runV (vs:=[]) Oksm Tryz.func141 rfl (fun z _ _ b hb=>loopX_ok Oksm mixed 30 3 b) runBnu
  · cases h
noncomputable def Γb2:Orc:=addVal 141 gBnu Γb1
theorem Okb2:Γb2.Ok Tryz.prog:=addVal_ok Okb1 gBnu_ok
noncomputable def Γpq0:Orc:=addC (storeE 277 .i64) Γb2
theorem Okpq0:Γpq0.Ok Tryz.prog:=addC_ok Okb2 (storeE_ok xStore64)
noncomputable def Γpq1:Orc:=addCl 230 gStore Γpq0
theorem Okpq1:Γpq1.Ok Tryz.prog:=addCl_ok Okpq0 gStore_ok
noncomputable def Γpq2:Orc:=addCl 172 gCUp Γpq1
theorem Okpq2:Γpq2.Ok Tryz.prog:=addCl_ok Okpq1 gCUp_ok
noncomputable def Γpq3:Orc:=addCl 173 gCSet Γpq2
theorem Okpq3:Γpq3.Ok Tryz.prog:=addCl_ok Okpq2 gCSet_ok
noncomputable def Γpq4:Orc:=addCl 157 gCReset Γpq3
theorem Okpq4:Γpq4.Ok Tryz.prog:=addCl_ok Okpq3 gCReset_ok
noncomputable def Γpq5:Orc:=addRd 278 gCMost Γpq4
theorem Okpq5:Γpq5.Ok Tryz.prog:=addRd_ok Okpq4 gCMost_ok
noncomputable def Γpq6:Orc:=addRd 234 gCFull Γpq5
theorem Okpq6:Γpq6.Ok Tryz.prog:=addRd_ok Okpq5 gCFull_ok
noncomputable def Γpq7:Orc:=addVal 171 gTHr Γpq6
theorem Okpq7:Γpq7.Ok Tryz.prog:=addVal_ok Okpq6 gTHr_ok
noncomputable def Γpq8:Orc:=addCl 114 gTCyc Γpq7
theorem Okpq8:Γpq8.Ok Tryz.prog:=addCl_ok Okpq7 gTCyc_ok
noncomputable def Γpq9:Orc:=addRd 123 gTCnt Γpq8
theorem Okpq9:Γpq9.Ok Tryz.prog:=addRd_ok Okpq8 gTCnt_ok
noncomputable def Γpq10:Orc:=addCl 115 gTSet Γpq9
theorem Okpq10:Γpq10.Ok Tryz.prog:=addCl_ok Okpq9 gTSet_ok
noncomputable def Γpq11:Orc:=addRd 176 gTWhy Γpq10
theorem Okpq11:Γpq11.Ok Tryz.prog:=addRd_ok Okpq10 gTWhy_ok
noncomputable def Γpq12:Orc:=addRd 117 gTFir Γpq11
theorem Okpq12:Γpq12.Ok Tryz.prog:=addRd_ok Okpq11 gTFir_ok
noncomputable def ΓP24:Orc:=addCl 47 gRep Γpq12
theorem OkP24:ΓP24.Ok Tryz.prog:=addCl_ok Okpq12 gRep_ok
end Go.Proofs.YtagaiddomhpdmaaGreat
namespace Go.Proofs.YtagaiddomhpdmaaGreat
open Go Go.Proofs Go.Sx
def wx24 (f:FuncId):Bool:=wr13 f||makers f||Nat.beq f 14||Nat.beq f 15||Nat.beq f 16||Nat.beq f 17||Nat.beq f 18||Nat.beq f 19||Nat.beq f 22||Nat.beq f 23||Nat.beq f 24||Nat.beq f 25||Nat.beq f 26||Nat.beq f 38||Nat.beq f 48||Nat.beq f 49||Nat.beq f 39||Nat.beq f 50||Nat.beq f 57||Nat.beq f 29||Nat.beq f 58||Nat.beq f 60||Nat.beq f 61||Nat.beq f 62||Nat.beq f 63||Nat.beq f 64||Nat.beq f 65||Nat.beq f 66||Nat.beq f 67||Nat.beq f 83||Nat.beq f 84||Nat.beq f 85||Nat.beq f 86||Nat.beq f 87||Nat.beq f 99||Nat.beq f 102||Nat.beq f 103||Nat.beq f 104||Nat.beq f 105||Nat.beq f 107||Nat.beq f 110||Nat.beq f 113||Nat.beq f 114||Nat.beq f 115||Nat.beq f 116||Nat.beq f 117||Nat.beq f 118||Nat.beq f 119||Nat.beq f 120||Nat.beq f 121||Nat.beq f 122||Nat.beq f 123||Nat.beq f 124||Nat.beq f 125||Nat.beq f 136||Nat.beq f 139||Nat.beq f 142||Nat.beq f 143||Nat.beq f 144||Nat.beq f 145||Nat.beq f 146||Nat.beq f 147||Nat.beq f 155||Nat.beq f 156||Nat.beq f 157||Nat.beq f 160||Nat.beq f 168||Nat.beq f 172||Nat.beq f 173||Nat.beq f 174||Nat.beq f 175||Nat.beq f 176||Nat.beq f 177||Nat.beq f 178||Nat.beq f 180||Nat.beq f 185||Nat.beq f 190||Nat.beq f 192||Nat.beq f 194||Nat.beq f 195||Nat.beq f 199||Nat.beq f 200||Nat.beq f 201||Nat.beq f 207||Nat.beq f 209||Nat.beq f 213||Nat.beq f 228||Nat.beq f 230||Nat.beq f 231||Nat.beq f 234||Nat.beq f 235||Nat.beq f 241||Nat.beq f 242||Nat.beq f 246||Nat.beq f 256||Nat.beq f 260||Nat.beq f 261||Nat.beq f 276||Nat.beq f 278||Nat.beq f 280||Nat.beq f 286||Nat.beq f 288||Nat.beq f 300||Nat.beq f 309||false||false
noncomputable def Γx24:Orc:=execV Tryz.prog ΓP24.call ΓP24.rd ΓP24.eqv wx24 60 16
end Go.Proofs.YtagaiddomhpdmaaGreat
namespace Go.Proofs.YtagaiddomhpdmaaGreat
open Go Go.Proofs Go.Sx
set_option linter.unusedVariables false
end Go.Proofs.YtagaiddomhpdmaaGreat
