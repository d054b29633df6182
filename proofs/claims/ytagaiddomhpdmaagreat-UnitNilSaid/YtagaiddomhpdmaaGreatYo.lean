/-
  A unit that is none.
-/
import Derived.Test.YtagaiddomhpdmaaGreatYm
import Derived.Test.YtagaiddomhpdmaaGreatYg
set_option maxRecDepth 100000
namespace Go.Proofs.YtagaiddomhpdmaaGreat.Nw
open Go Go.Proofs Go.Sx
set_option linter.unusedVariables false
theorem runRNNear (a b c d e f g q a' b' c' d' e' f' g' q' w:Int):runG ΓNa L0 Tryz.prog Tryz.f43 [.v (.agg #[I a,I b,I c,I d,I e,I f,I g,I q]),.v (.agg #[I a',I b',I c',I d',I e',I f',I g',I q']),.v (I w)] M0=same (bif decide (w<0) then some (.v (Bo false),M0) else (bif !decide (apartU c c'≤IntKind.u64.wrap w) then some (.v (Bo false),M0) else (bif decide (w<0) then some (.v (Bo false),M0) else (bif !decide (apartU d d'≤IntKind.u64.wrap w) then some (.v (Bo false),M0) else (bif decide (w<0) then some (.v (Bo false),M0) else (bif !decide (apartU e e'≤IntKind.u64.wrap w) then some (.v (Bo false),M0) else (bif decide (w<0) then some (.v (Bo false),M0) else (bif !decide (apartU f f'≤IntKind.u64.wrap w) then some (.v (Bo false),M0) else (bif decide (w<0) then some (.v (Bo false),M0) else (bif !decide (apartU g g'≤IntKind.u64.wrap w) then some (.v (Bo false),M0) else (bif decide (w<0) then some (.v (Bo false),M0) else (bif !decide (apartU q q'≤IntKind.u64.wrap w) then some (.v (Bo false),M0) else (some (.v (Bo true),M0)))))))))))))) (bif decide (w<0) then some (.v (Bo false),M0) else (bif !decide (apartU c c'≤IntKind.u64.wrap w) then some (.v (Bo false),M0) else (bif decide (w<0) then some (.v (Bo false),M0) else (bif !decide (apartU d d'≤IntKind.u64.wrap w) then some (.v (Bo false),M0) else (bif decide (w<0) then some (.v (Bo false),M0) else (bif !decide (apartU e e'≤IntKind.u64.wrap w) then some (.v (Bo false),M0) else (bif decide (w<0) then some (.v (Bo false),M0) else (bif !decide (apartU f f'≤IntKind.u64.wrap w) then some (.v (Bo false),M0) else (bif decide (w<0) then some (.v (Bo false),M0) else (bif !decide (apartU g g'≤IntKind.u64.wrap w) then some (.v (Bo false),M0) else (bif decide (w<0) then some (.v (Bo false),M0) else (bif !decide (apartU q q'≤IntKind.u64.wrap w) then some (.v (Bo false),M0) else (some (.v (Bo true),M0)))))))))))))):=by kernel_rfl
def gRNNear (vs:List Value):Option (Bool×Value) :=
  match vs with
  | [.agg ⟨[.int .i64 a,.int .i64 b,.int .i64 c,.int .i64 d,.int .i64 e,.int .i64 f,.int .i64 g,.int .i64 q]⟩,.agg ⟨[.int .i64 a',.int .i64 b',.int .i64 c',.int .i64 d',.int .i64 e',.int .i64 f',.int .i64 g',.int .i64 q']⟩,.int .i64 w]=>some (true,Bo (nearB w c c' d d' e e' f f' g g' q q'))
  | _=>none
theorem gRNNear_ok:CtV 43 gRNNear:=by
  intro vs r h
  unfold gRNNear at h
  split at h
  · rename_i a b c d e f g q a' b' c' d' e' f' g' q' w
    obtain ⟨h1,rfl⟩:=some_t h
    refine runV (vs:=[.agg #[I a,I b,I c,I d,I e,I f,I g,I q],.agg #[I a',I b',I c',I d',I e',I f',I g',I q'],I w]) (Λ:=L0) (m':=M0) OkNa Tryz.func43 rfl (fun z _ _=>l0Ok _ z) ?_
    exact (runRNNear a b c d e f g q a' b' c' d' e' f' g' q' w).trans (by
      rw [same_self]
      simp only [bif_f,Bool.not_not,Bool.and_true]
      congr 4
      unfold nearB near1
      generalize decide (w<0)=y
      cases y
      · rfl
      · rfl)
  · cases h
end Go.Proofs.YtagaiddomhpdmaaGreat.Nw
namespace Go.Proofs.YtagaiddomhpdmaaGreat.Hr
open Go Go.Proofs Go.Sx Nw Pe So
set_option linter.unusedVariables false
def nPtr:SV:=.v (.pointer none)
def zUv:Value:=.agg #[S ⟨#[]⟩,S ⟨#[]⟩,S ⟨#[]⟩,S ⟨#[]⟩,S ⟨#[]⟩,S ⟨#[]⟩,I 0,I 0,Bo false,Bo false,I 0,I 0]
def z2V:Value:=.agg #[Bo false,I 0,I 0,Bo false,S ⟨#[]⟩,S ⟨#[]⟩,Bo false,I 0,I 0,Bo false,S ⟨#[]⟩,S ⟨#[]⟩]
theorem runNil1:runG ΓO L0 Tryz.prog Tryz.f33 [nPtr,.v zUv] M0=some (.v z2V,M0):=by kernel_rfl
theorem runNil2:runG ΓO L0 Tryz.prog Tryz.f35 [nPtr] M0=some (.v (I 0),M0):=by kernel_rfl
theorem runNil3:runG ΓO L0 Tryz.prog Tryz.f37 [nPtr] M0=some (.v (I 0),M0):=by kernel_rfl
theorem runNil4 (i:Int):runG ΓO L0 Tryz.prog Tryz.f41 [nPtr,.v (I i)] M0=some (nPtr,M0):=by kernel_rfl
theorem runNil5 (i:Int):runG ΓO L0 Tryz.prog Tryz.f42 [nPtr,.v (I i)] M0=some (nPtr,M0):=by kernel_rfl
def isNilV (v:Value):Bool:=match v with
  | .pointer none=>true
  | _=>false
theorem isNilV_eq {v:Value} (h:isNilV v=true):v=.pointer none:=by
  unfold isNilV at h
  split at h
  · rfl
  · cases h
def gNW (vs:List Value):Option (Bool×Value) :=
  match vs with
  | [v]=>some (isNilV v,I 0)
  | _=>none
theorem gNW_ok:CtV 35 gNW:=by
  intro vs r h
  unfold gNW at h
  split at h
  · rename_i v
    obtain ⟨h1,rfl⟩:=some_t h
    rw [isNilV_eq h1]
    exact runV (vs:=[.pointer none]) (Λ:=L0) (m':=M0) OkO Tryz.func35 rfl l00 runNil2
  · cases h
theorem gNn_ok:CtV 37 gNW:=by
  intro vs r h
  unfold gNW at h
  split at h
  · rename_i v
    obtain ⟨h1,rfl⟩:=some_t h
    rw [isNilV_eq h1]
    exact runV (vs:=[.pointer none]) (Λ:=L0) (m':=M0) OkO Tryz.func37 rfl l00 runNil3
  · cases h
noncomputable def ΓnF:Orc:=addVal 35 gNW ΓO
theorem OknF:ΓnF.Ok Tryz.prog:=addVal_ok OkO gNW_ok
theorem runNil6:runG ΓnF L0 Tryz.prog Tryz.f36 [nPtr] M0=some (.v (Bo false),M0):=by kernel_rfl
def gNF (vs:List Value):Option (Bool×Value) :=
  match vs with
  | [v]=>some (isNilV v,Bo false)
  | _=>none
theorem gNF_ok:CtV 36 gNF:=by
  intro vs r h
  unfold gNF at h
  split at h
  · rename_i v
    obtain ⟨h1,rfl⟩:=some_t h
    rw [isNilV_eq h1]
    exact runV (vs:=[.pointer none]) (Λ:=L0) (m':=M0) OknF Tryz.func36 rfl l00 runNil6
  · cases h
def gNP (vs:List Value):Option (Bool×Value) :=
  match vs with
  | [v,.int .i64 _]=>some (isNilV v,.pointer none)
  | _=>none
theorem gNP_ok:CtV 41 gNP:=by
  intro vs r h
  unfold gNP at h
  split at h
  · rename_i v i
    obtain ⟨h1,rfl⟩:=some_t h
    rw [isNilV_eq h1]
    exact runV (vs:=[.pointer none,I i]) (Λ:=L0) (m':=M0) OkO Tryz.func41 rfl l00 (runNil4 i)
  · cases h
theorem gNQ_ok:CtV 42 gNP:=by
  intro vs r h
  unfold gNP at h
  split at h
  · rename_i v i
    obtain ⟨h1,rfl⟩:=some_t h
    rw [isNilV_eq h1]
    exact runV (vs:=[.pointer none,I i]) (Λ:=L0) (m':=M0) OkO Tryz.func42 rfl l00 (runNil5 i)
  · cases h
def isZuv (v:Value):Bool:=match uUi v with
  | some u=>Nat.beq u.a0.size 0&&(Nat.beq u.a1.size 0&&(Nat.beq u.b0.size 0&&(Nat.beq u.b1.size 0&&(Nat.beq u.g0.size 0&&(Nat.beq u.g1.size 0&&(u.k0==0&&(u.k1==0&&(!u.r0&&(!u.r1&&(u.t0==0&&u.t1==0))))))))))
  | none=>false
theorem zB0' {s:ByteArray} (h:Nat.beq s.size 0=true):s=⟨#[]⟩:=by
  rw [← L_inj]
  exact List.eq_nil_of_length_eq_zero (by rw [L_len];exact Nat.eq_of_beq_eq_true h)
theorem isZuv_eq {v:Value} (h:isZuv v=true):v=zUv:=by
  unfold isZuv at h
  split at h
  · rename_i u hu
    simp only [Bool.and_eq_true,beq_iff_eq,Bool.not_eq_true'] at h
    obtain ⟨h1,h2,h3,h4,h5,h6,h7,h8,h9,h10,h11,h12⟩:=h
    rw [uUi_eq hu]
    rcases u with ⟨a0,a1,b0,b1,g0,g1,k0,k1,r0,r1,t0,t1⟩
    obtain rfl:=zB0' h1
    obtain rfl:=zB0' h2
    obtain rfl:=zB0' h3
    obtain rfl:=zB0' h4
    obtain rfl:=zB0' h5
    obtain rfl:=zB0' h6
    cases h7
    cases h8
    cases h9
    cases h10
    cases h11
    cases h12
    rfl
  · cases h
def gNC (vs:List Value):Option (Bool×Value) :=
  match vs with
  | [v,u]=>some (isNilV v&&isZuv u,z2V)
  | _=>none
theorem gNC_ok:CtV 33 gNC:=by
  intro vs r h
  unfold gNC at h
  split at h
  · rename_i v u
    obtain ⟨h1,rfl⟩:=some_t h
    rw [Bool.and_eq_true] at h1
    rw [isNilV_eq h1.1,isZuv_eq h1.2]
    exact runV (vs:=[.pointer none,zUv]) (Λ:=L0) (m':=M0) OkO Tryz.func33 rfl l00 runNil1
  · cases h
def z2L:List Value:=[Bo false,I 0,I 0,Bo false,S ⟨#[]⟩,S ⟨#[]⟩,Bo false,I 0,I 0,Bo false,S ⟨#[]⟩,S ⟨#[]⟩]
def isZ2 (xs:List Value):Bool:=match xs with
  | [.bool a,.int .i64 b,.int .i64 c,.bool d,.string e,.string f,.bool a',.int .i64 b',.int .i64 c',.bool d',.string e',.string f']=>(!a&&(b==0&&(c==0&&(!d&&(Nat.beq e.size 0&&Nat.beq f.size 0)))))&&(!a'&&(b'==0&&(c'==0&&(!d'&&(Nat.beq e'.size 0&&Nat.beq f'.size 0)))))
  | _=>false
theorem isZ2_eq {xs:List Value} (h:isZ2 xs=true):xs=z2L:=by
  unfold isZ2 at h
  split at h
  · simp only [Bool.and_eq_true,beq_iff_eq,Bool.not_eq_true'] at h
    obtain ⟨⟨h1,h2,h3,h4,h5,h6⟩,h7,h8,h9,h10,h11,h12⟩:=h
    rw [h1,h2,h3,h4,zB0' h5,zB0' h6,h7,h8,h9,h10,zB0' h11,zB0' h12]
    rfl
  · cases h
theorem eq82 (w:World):(Op.equal 82 (.agg z2L.toArray) (.agg z2L.toArray)).run Tryz.prog w=.ok true w:=by kernel_rfl
theorem ok82:eqTypeOk Tryz.prog 82=true:=by kernel_rfl
noncomputable def eqvZ (t:TypeId) (xs ys:List Value):Option Bool:=bif Nat.beq t 82&&(isZ2 xs&&isZ2 ys) then some true else eqvOf Tryz.prog good t xs ys
theorem eqvZ_ok (t:TypeId) (xs ys:List Value) (r:Bool) (h:eqvZ t xs ys=some r) (w:World) (op:BinOp) (x y:Operand) (hop:op=.eql∨op=.neq):(eqGuard op t x y (.agg xs.toArray) (.agg ys.toArray)).run Tryz.prog w=.ok () w∧(Op.equal t (.agg xs.toArray) (.agg ys.toArray)).run Tryz.prog w=.ok r w:=by
  unfold eqvZ at h
  cases e:Nat.beq t 82&&(isZ2 xs&&isZ2 ys)
  · rw [e] at h
    exact eqvOf_ok goodOk t xs ys r h w op x y hop
  · rw [e] at h
    injection h with h
    subst h
    simp only [Bool.and_eq_true] at e
    obtain ⟨e1,e2,e3⟩:=e
    obtain rfl:=Nat.eq_of_beq_eq_true e1
    rw [isZ2_eq e2,isZ2_eq e3]
    have ht:=ok82
    unfold eqTypeOk at ht
    simp only [Bool.and_eq_true,Bool.not_eq_true'] at ht
    refine ⟨?_,eq82 w⟩
    rcases hop with rfl|rfl<;>simp [eqGuard,program,Sem.run,ht.1.2]
noncomputable def Γun0:Orc:=addVal 43 gRNNear (addVal 27 gAx (addVal 33 gNC (addVal 42 gNP (addVal 41 gNP (addVal 36 gNF (addVal 37 gNW (addVal 35 gNW ΓO)))))))
theorem Okun0:Γun0.Ok Tryz.prog:=addVal_ok (addVal_ok (addVal_ok (addVal_ok (addVal_ok (addVal_ok (addVal_ok (addVal_ok OkO gNW_ok) gNn_ok) gNF_ok) gNP_ok) gNQ_ok) gNC_ok) gAx_ok) gRNNear_ok
noncomputable def Γun:Orc:={ Γun0 with eqv:=eqvZ }
theorem Okun:Γun.Ok Tryz.prog:=⟨Okun0.call,Okun0.rd,eqvZ_ok,Okun0.eqv.2⟩
theorem runUnil (i:Int) (n:Nv):runG Γun L0 Tryz.prog Tryz.f9 [.v (I i),.v (.agg #[I n.x1,I n.x2,I n.x3,I n.x4,I n.x5,I n.x6,I n.x7,I n.x8])] M0=some (.v (Bo (nearB 0 n.x3 n.x3 n.x4 n.x4 n.x5 n.x5 n.x6 n.x6 n.x7 n.x7 n.x8 n.x8)),M0):=by kernel_rfl
end Go.Proofs.YtagaiddomhpdmaaGreat.Hr
namespace Go.Proofs.YtagaiddomhpdmaaGreat.Hr
open Go Go.Proofs Go.Sx Nw Pe So
set_option linter.unusedVariables false
theorem near_self (x:Int):near1 0 x x=true:=by
  unfold near1 apartU
  refine decide_eq_true ?_
  rw [show IntKind.u64.wrap 0=0 from rfl]
  split<;>(rw [Int.sub_self];decide)
theorem unitNil (i:Int) (n:Nv):runG Γun L0 Tryz.prog Tryz.f9 [.v (I i),.v (.agg #[I n.x1,I n.x2,I n.x3,I n.x4,I n.x5,I n.x6,I n.x7,I n.x8])] M0=some (.v (Bo true),M0):=by
  refine (runUnil i n).trans ?_
  unfold nearB
  rw [near_self,near_self,near_self,near_self,near_self,near_self]
  rfl
theorem nav8 {l:List Dat} (h:WfL [.num .i64,.num .i64,.num .i64,.num .i64,.num .i64,.num .i64,.num .i64,.num .i64] l):∃ n:Nv,l=[.n n.x1,.n n.x2,.n n.x3,.n n.x4,.n n.x5,.n n.x6,.n n.x7,.n n.x8]:=by
  match l,h with
  | [.n a,.n b,.n c,.n d,.n e,.n f,.n g,.n q],_=>exact ⟨⟨a,b,c,d,e,f,g,q⟩,rfl⟩
theorem loopsOkUn (z:Base) (z1:z.L.length=0) (z2:z.U.length=0):∀ b∈loopsOf (Tryz.f9.body.getD .skip),LoopOk L0 Tryz.prog z b:=l0Ok' _ z
end Go.Proofs.YtagaiddomhpdmaaGreat.Hr
namespace Go.Proofs.YtagaiddomhpdmaaGreat
set_option linter.unusedVariables false
open Go Go.Proofs Go.Sx
theorem unitNilLaw (a0:Int) (l1:List Dat) (u0:(Lit.int .i64 a0).wf=true) (w1:WfL [.num .i64,.num .i64,.num .i64,.num .i64,.num .i64,.num .i64,.num .i64,.num .i64] l1):∃ m',runG Hr.Γun L0 Tryz.prog Tryz.f9 (inArgs [.v (.int .i64 a0),.v (.agg (mkEl [.num .i64,.num .i64,.num .i64,.num .i64,.num .i64,.num .i64,.num .i64,.num .i64] l1).toArray)] 0) (inMem [.v (.int .i64 a0),.v (.agg (mkEl [.num .i64,.num .i64,.num .i64,.num .i64,.num .i64,.num .i64,.num .i64,.num .i64] l1).toArray)])=some (.v (.bool true),m'):=by
  obtain ⟨n,rfl⟩:=Hr.nav8 w1
  exact ⟨_,Hr.unitNil a0 n⟩
end Go.Proofs.YtagaiddomhpdmaaGreat
