/-
  The executor: contracts of calls and of loops,a law's arguments. No condition.
-/
import Derived.Test.YtainfdcfkgemhaaGreatSy
import Derived.SizedLaws
import Derived.ChangeStays
import Derived.OpenShut
import Derived.Lib.SmallJoins
import Derived.Laws.LoneSync
import Derived.Laws.Externs
import Derived.WideShapes
noncomputable section
namespace Go.Sx
open Go.RowKit
inductive LT where
 | leaf (e:Ex) (st:St)
 | br (b:Bool) (x y:LT)
def LT.pick:LT->Ex×St
 | .leaf e st=>(e,st)
 | .br b x y=>bif b then x.pick else y.pick
def LT.go {R:Type} (k:Ex->St->Option R):LT->Option R
 | .leaf e st=>k e st
 | .br b x y=>bif b then x.go k else y.go k
theorem LT.go_eq {R:Type} (k:Ex->St->Option R):∀ t:LT,t.go k=k t.pick.1 t.pick.2
 | .leaf e st=>rfl
 | .br b x y=>by
  cases b
  ·exact LT.go_eq k y
  ·exact LT.go_eq k x
abbrev aV:=Code->St->Option (Bool×LT)
section
variable {R:Type} (Γ:Orc) (Λ:aV) (P:Program)
def qE (st:St) (ops:List Oper) (bl:List (Tmp×Nat)) (t:Tmp):Option Nat :=
 match f9 bl (.tmp t) with
 | some c=>some c
 | none=>bif ops.any (fun o=>match o.dst with|some d=>Nat.beq d t|none=>false) then none else match st.tmps.get t with
  | some (.ptr l _)=>some (l+1)
  | _=>none
def qi7 (av ia:Bool) (P:Program) (st:St) (ops:List Oper) (bl:List (Tmp×Nat)) (o:Oper):List (Tmp×Nat) :=
 match o.op,o.dst with
 | .move (.tmp p),some d=>match av,qE st ops bl p with
  | true,some c=>(d,c)::bl
  | _,_=>bl
 | .nilCheck (.tmp p),some d=>match av,qE st ops bl p with
  | true,some c=>(d,c)::bl
  | _,_=>bl
 | .indexAddr t x _,some d=>match P.underlying t with
  | some (.slice _)=>(d,0)::bl
  | _=>match ia,x with
   | true,.tmp p=>match qE st ops bl p with
    | some c=>(d,c)::bl
    | none=>bl
   | _,_=>bl
 | .fieldAddr _ (.tmp p) _,some d=>match qE st ops bl p with
  | some c=>match av,f9 bl (.tmp p) with
   | true,none=>(d,c)::(p,c)::bl
   | _,_=>(d,c)::bl
  | none=>bl
 | .load _ (.tmp p),_=>match f9 bl (.tmp p),qE st ops bl p with
  | none,some c=>(p,c)::bl
  | _,_=>bl
 | .store _ (.tmp p) _,_=>match f9 bl (.tmp p),qE st ops bl p with
  | none,some c=>(p,c)::bl
  | _,_=>bl
 | _,_=>bl
def oE (av ia:Bool) (P:Program) (st:St) (ops:List Oper) (a:List (Tmp×Nat×TypeId)):List (Tmp×Nat) :=
 ops.foldl (qi7 av ia P st ops) (a.map fun x=>(x.1,x.2.1+1))
def xg (Γ:Orc) (P:Program):TypeId->Bool :=
 match Γ.bs with
 | true=>qbG P
 | false=>fun _=>false
def kO (av:Bool) (bl:List (Tmp×Nat)):List Oper->List Nat
 | []=>[]
 | o::r=>match av,o.op with
  | true,.load _ p=>match f9 bl p with
   | some (l+1)=>bif (kO av bl r).any (Nat.beq l) then kO av bl r else l::kO av bl r
   | _=>kO av bl r
  | _,_=>kO av bl r
def GZ {S:Type} (Γ:Orc) (P:Program) (st:St) (ops:List Oper) (al:Al) (k:Al->S):S :=
 fL (fun x k=>fN x.1 fun d=>fN x.2.1 fun l=>fN x.2.2 fun e=>k (d,l,e)) al.a fun a =>
 fL (fun x k=>fN x.1 fun d=>fN x.2 fun l=>k (d,l)) (oE Γ.av Γ.ia P st ops a) fun bl=>fL (fun x k=>fN x k) (kO Γ.av bl ops) fun lb=>k ⟨a,Γ.wr,Γ.sb,Γ.bs,bl,xg Γ P,Γ.av,lb⟩
theorem qhP {S:Type} (Γ:Orc) (P:Program) (st:St) (ops:List Oper) (al:Al) (k:Al->S):GZ Γ P st ops al k=k { al with wr:=Γ.wr,sb:=Γ.sb,bs:=Γ.bs,bl:=oE Γ.av Γ.ia P st ops al.a,ld:=xg Γ P,av:=Γ.av,lb:=kO Γ.av (oE Γ.av Γ.ia P st ops al.a) ops }:=by
 unfold GZ
 rw [dX (fun x k=>by simp only [od]),dX (fun x k=>by simp only [od]),dX (fun x k=>by simp only [od])]
def same (x y:Option R):Option R:=@ite _ (x=y) (Classical.propDecidable _) x none
def vE:List (Option R)->Option R
 | []=>none
 | [x]=>x
 | x::y::r=>same x (vE (y::r))
def qu (al:Al) (ops:Array Oper):Nat->Array Bool->St->(St->Option R)->Option R
 | 0,listed,st,k=>match Region.ready .any ops listed with
  | []=>k st
  | _::_=>none
 | f+1,listed,st,k=>match Region.ready .any ops listed with
  | []=>k st
  | i::r=>match (i::r).find? (my P al ops listed) with
   | some j=>match ops[j]? with
    | some o=>lh (listed.setIfInBounds j true).toList fun fl=>pi Γ P (some al) ops o st (fun st'=>qu al ops f fl.toArray st' k)
    | none=>none
   | none=>match Γ.conc with
    | true=>match sM Γ P al ops (f+1) [(listed,st)] with
     | some s=>oc Γ.conc s k
     | none=>none
    | false=>vE ((i::r).map fun j=>match ops[j]? with
     | some o=>lh (listed.setIfInBounds j true).toList fun fl=>pi Γ P (some al) ops o st (fun st'=>qu al ops f fl.toArray st' k)
     | none=>none)
def rounds (c:Bool) (f:St->(Ex->St->Option R)->Option R):Nat->St->(Ex->St->Option R)->Option R
 | 0,_,_=>none
 | n+1,st,k=>f st (fun e st'=>match e with
  | .normal=>oc c st' (fun st'=>rounds c f n st' k)
  | .exit id=>k (.exit id) st'
  | .ret=>k .ret st')
def aF:Code->List Code
 | .seq a b=>aF a++aF b
 | .cond _ a b=>aF a++aF b
 | .block _ a=>aF a
 | .scope a=>aF a
 | .loop a=>[a]
 | _=>[]
def ev:Code->St->(Ex->St->Option R)->Option R
 | .skip,st,k=>k .normal st
 | .label _,st,k=>k .normal st
 | .region _ ops draw,st,k=>match draw with
  | false=>yI Γ P none ops ops.toList st (k .normal)
  | true=>match lZ P ops.toList st.mem with
   | some (al,m)=>GZ Γ P st ops.toList al fun al=>match pR P al ops ops.size (Array.replicate ops.size false) with
    | some ord=>yJ Γ P (some al) ops ord { st with mem:=m } (k .normal)
    | none=>qu Γ P al ops ops.size (Array.replicate ops.size false) { st with mem:=m } (k .normal)
   | none=>none
 | .seq a b,st,k=>ev a st (fun e st'=>match e with
  | .normal=>ev b st' k
  | .exit id=>k (.exit id) st'
  | .ret=>k .ret st')
 | .cond c x y,st,k=>match st.eval c with
  | some (.v (.bool t))=>bif t then ev x (lT st c true) k else ev y (lT st c false) k
  | _=>none
 | .block id body,st,k=>ev body st (fun e st'=>match e with
  | .exit id'=>if id'=id then k .normal st' else k (.exit id') st'
  | .normal=>k .normal st'
  | .ret=>k .ret st')
 | .scope body,st,k=>ev body st k
 | .exit id,st,k=>k (.exit id) st
 | .ret,st,k=>k .ret st
 | .loop body,st,k=>match Λ body st with
  | some (g,t)=>bif g then t.go k else none
  | none=>match aF body with
   | []=>rounds Γ.conc (fun st k=>ev body st k) Γ.unr st k
   | _=>none
 | _,_,_=>none
def aS (w0:Base) (body:Code):Prop :=
 ∀ st t,Λ body st=some (true,t)->∀ a w,a9 P cv w0 st a w->(Code.loop body).wp P (fun e' a' w'=>e'=t.pick.1.out/\a9 P cv w0 t.pick.2 a' w') a w
end
section
variable {R:Type} {Γ:Orc} {Λ:aV} {P:Program} {w0:Base}
theorem iV (x:Option R):same x x=x:=by unfold same;rw [if_pos rfl]
theorem Ve {x y:Option R} {r:R} (h:same x y=some r):x=some r/\y=some r:=by
 unfold same at h
 split at h
 ·rename_i e
  subst e
  exact ⟨h,h⟩
 ·cases h
theorem Lp:∀ {l:List (Option R)} {r:R},vE l=some r->∀ x∈l,x=some r
 | [],r,h,x,hx=>by cases hx
 | [x],r,h,y,hy=>by simp only [List.mem_singleton] at hy;subst hy;exact h
 | x::y::l,r,h,z,hz=>by
  obtain ⟨h1,h2⟩:=Ve (show same x (vE (y::l))=some r from h)
  rcases List.mem_cons.1 hz with rfl|hz
  ·exact h1
  ·exact Lp h2 z hz
theorem G3 {al:Al} {ops:Array Oper} {k:St->Option R} {r:R}:∀ (f:Nat) (listed:Array Bool) (st:St),qu Γ P al ops f listed st k=some r->iW Γ P al ops (fun st'=>k st'=some r) f listed st
 | 0,listed,st,h=>by
  unfold qu at h
  split at h
  ·rename_i h0
   exact ⟨h0,h⟩
  ·cases h
 | f+1,listed,st,h=>by
  unfold qu at h
  split at h
  ·rename_i h0
   exact ⟨fun _=>h,fun i hi=>by rw [h0] at hi;cases hi⟩
  ·rename_i i r' hr
   split at h
   ·rename_i j hj
    split at h
    ·rename_i o ho
     rw [oe] at h
     obtain ⟨st1,h1,h2⟩:=vv h
     have hf:my P al ops listed j=true:=List.find?_some hj
     have ih:=G3 f _ st1 h2
     have hmem:j∈Region.ready .any ops listed:=by rw [hr];exact List.mem_of_find?_eq_some hj
     exact Bt ho (lk ops listed j (List.range ops.size) []) f listed st st1 (tO _ _ (fun _ h=>by cases h)) (GP ho hf) hmem h1 (by rwa [Array.toArray_toList] at ih)
    ·cases h
   ·have hne:Region.ready .any ops listed≠[]:=by rw [hr];exact List.cons_ne_nil _ _
    split at h
    ·split at h
     ·rename_i s hs
      rw [qq] at h
      exact Nu hs h (listed,st) List.mem_cons_self
     ·cases h
    refine ⟨fun h0=>absurd h0 hne,fun j hj=>?_⟩
    rw [hr] at hj
    have hx:=Lp h _ (List.mem_map.2 ⟨j,hj,rfl⟩)
    split at hx
    ·rename_i o ho
     rw [oe] at hx
     obtain ⟨st1,h1,h2⟩:=vv hx
     have ih:=G3 f _ st1 h2
     exact ⟨o,st1,ho,h1,by rwa [Array.toArray_toList] at ih⟩
    ·cases hx
theorem kb (hΓ:Γ.Ok P) (hm:P.follows .mixedOrders=true):∀ (c:Code) (_:∀ b∈aF c,aS Λ P w0 b) (st:St) (k:Ex->St->Option R) (r:R) (Q:Exit->Act->World->Prop) (a:Act) (w:World),
  ev Γ Λ P c st k=some r->a9 P cv w0 st a w->(∀ e st',k e st'=some r->∀ a w,a9 P cv w0 st' a w->Q e.out a w)->c.wp P Q a w
 | .skip,hL,st,k,r,Q,a,w,h,hR,hQ=>wp_skip (hQ .normal st h a w hR)
 | .label _,hL,st,k,r,Q,a,w,h,hR,hQ=>wp_label (hQ .normal st h a w hR)
 | .exit id,hL,st,k,r,Q,a,w,h,hR,hQ=>wp_exit (hQ (.exit id) st h a w hR)
 | .ret,hL,st,k,r,Q,a,w,h,hR,hQ=>wp_ret (hQ .ret st h a w hR)
 | .region id ops false,hL,st,k,r,Q,a,w,h,hR,hQ=>by
  obtain ⟨st',h1,h2⟩:=O1 ops.toList st (by simpa [ev] using h)
  exact qaI hΓ h1 hR (fun a w hR'=>hQ .normal st' h2 a w hR')
 | .region id ops true,hL,st,k,r,Q,a,w,h,hR,hQ=>by
  simp only [ev] at h
  split at h
  ·rename_i al m hpre
   rw [qhP] at h
   split at h
   ·rename_i ord hlex
    obtain ⟨st',h1,h2⟩:=O2 ord _ h
    exact qaJ hΓ hm (al:={ al with wr:=Γ.wr,sb:=Γ.sb,bs:=Γ.bs,bl:=oE Γ.av Γ.ia P st ops.toList al.a,ld:=xg Γ P,av:=Γ.av,lb:=kO Γ.av (oE Γ.av Γ.ia P st ops.toList al.a) ops.toList }) (alp:=al) rfl hlex hpre h1 hR (fun a w hR'=>hQ .normal st' h2 a w hR')
   ·exact qaK hΓ hm (al:={ al with wr:=Γ.wr,sb:=Γ.sb,bs:=Γ.bs,bl:=oE Γ.av Γ.ia P st ops.toList al.a,ld:=xg Γ P,av:=Γ.av,lb:=kO Γ.av (oE Γ.av Γ.ia P st ops.toList al.a) ops.toList }) (alp:=al) rfl hpre (G3 _ _ _ h) hR (fun st' hT a w hR'=>hQ .normal st' hT a w hR')
  ·cases h
 | .seq x y,hL,st,k,r,Q,a,w,h,hR,hQ=>by
  refine wp_seq (kb hΓ hm x (fun b hb=>hL b (by simp [aF,hb])) st _ r _ a w h hR ?_)
  intro e st' hk a' w' hR'
  cases e with
  | normal=>exact kb hΓ hm y (fun b hb=>hL b (by simp [aF,hb])) st' k r Q a' w' hk hR' hQ
  | exit id=>exact hQ (.exit id) st' hk a' w' hR'
  | ret=>exact hQ .ret st' hk a' w' hR'
 | .cond c x y,hL,st,k,r,Q,a,w,h,hR,hQ=>by
  simp only [ev] at h
  split at h
  ·rename_i t ht
   have e:=Ll ht
   obtain ⟨V,hR0,hp⟩:=hR
   have hc:a.eval c=.bool t:=hR0.eval ht
   refine wp_cond hc ?_
   cases t with
   | false =>
    simp only [cond_false,e] at h
    exact kb hΓ hm y (fun b hb=>hL b (by simp [aF,hb])) st k r Q a w h ⟨V,hR0,hp⟩ hQ
   | true =>
    simp only [cond_true,e] at h
    exact kb hΓ hm x (fun b hb=>hL b (by simp [aF,hb])) st k r Q a w h ⟨V,hR0,hp⟩ hQ
  ·cases h
 | .block id body,hL,st,k,r,Q,a,w,h,hR,hQ=>by
  refine wp_block (kb hΓ hm body (fun b hb=>hL b (by simpa [aF] using hb)) st _ r _ a w h hR ?_)
  intro e st' hk a' w' hR'
  cases e with
  | normal=>exact hQ .normal st' hk a' w' hR'
  | exit id' =>
   simp only at hk
   simp only [Ex.out,Exit.inBlock]
   split at hk
   ·rename_i he
    rw [if_pos he]
    exact hQ .normal st' hk a' w' hR'
   ·rename_i he
    rw [if_neg he]
    exact hQ (.exit id') st' hk a' w' hR'
  | ret=>exact hQ .ret st' hk a' w' hR'
 | .scope body,hL,st,k,r,Q,a,w,h,hR,hQ=>by
  refine wp_scope_straight (kb hΓ hm body (fun b hb=>hL b (by simpa [aF] using hb)) st k r _ a w h hR ?_)
  intro e st' hk a' w' hR'
  cases e with
  | normal=>exact hQ .normal st' hk a' w' hR'
  | exit id'=>exact hQ (.exit id') st' hk a' w' hR'
  | ret=>exact hQ .ret st' hk a' w' hR'
 | .loop body,hL,st,k,r,Q,a,w,h,hR,hQ=>by
  simp only [ev] at h
  split at h
  case h_2 hnone =>
   clear hnone
   split at h
   case h_2=>cases h
   rename_i hl
   have ih:=fun (st:St) (k:Ex->St->Option R) (r:R) (Q:Exit->Act->World->Prop) (a:Act) (w:World)=>kb hΓ hm body (fun b hb=>by rw [hl] at hb;cases hb) st k r Q a w
   refine wp_loop_rounds Γ.unr ?_
   generalize Γ.unr=n at h ⊢
   clear hL
   induction n generalizing st a w with
   | zero=>simp [rounds] at h
   | succ n ihn =>
    simp only [rounds] at h
    rw [rounds_succ]
    refine ih st _ r _ a w h hR ?_
    intro e st' hk a' w' hR'
    cases e with
    | normal =>
     rw [qq] at hk
     exact ihn st' a' w' hR' hk
    | exit id=>exact hQ (.exit id) st' hk a' w' hR'
    | ret=>exact hQ .ret st' hk a' w' hR'
  ·rename_i g t hl
   cases g with
   | false=>cases h
   | true =>
   rw [cond_true,LT.go_eq] at h
   refine wp_mono (hL body (by simp [aF]) st t hl a w hR) ?_
   rintro e' a' w' ⟨rfl,hR'⟩
   exact hQ t.pick.1 t.pick.2 h a' w' hR'
 | .rangeFunc ..,hL,st,k,r,Q,a,w,h,hR,hQ=>by simp [ev] at h
 | .goto _,hL,st,k,r,Q,a,w,h,hR,hQ=>by simp [ev] at h
 | .refuse _,hL,st,k,r,Q,a,w,h,hR,hQ=>by simp [ev] at h
def vi:SV->Option TC
 | .v x=>some (.one (.v x))
 | .ptr l o=>some (.one (.ptr l o))
 | .row r=>some (.one (.row r))
 | .clo f l o=>some (.one (.clo f l o))
 | .ag cs=>some (.ag cs)
 | _=>none
theorem KC {V:Vl} {x:SV} {c:TC} {y:Value} (h:vi x=some c) (hd:aI V x y):fQ V c y:=by
 cases x<;>simp [vi] at h<;>subst h<;>exact hd
def lW (P:Program) (st:St):List ResultVar->Option (List TC)
 | []=>some []
 | .tmp t::r=>match (st.tmps.get t).bind vi,lW P st r with
  | some c,some l=>some (c::l)
  | _,_=>none
 | .cell t ty::r=>match st.tmps.get t,dd P ty,a8 P ty with
  | some (.ptr l off),some ag,some n=>match st.mem.blk[l]? with
   | some cs=>if off+n<=cs.length then (match (iI ag ((cs.drop off).take n)).bind vi,lW P st r with
    | some c,some l=>some (c::l)
    | _,_=>none) else none
   | none=>none
  | _,_,_=>none
def nc (l:List Value):Value :=
 match l with
 | [y]=>y
 | l=>.tuple l.toArray
def kl:List TC->Option (List Value)
 | []=>some []
 | .one (.v x)::r=>match kl r with
  | some l=>some (x::l)
  | none=>none
 | _::_=>none
def o9 (l:List TC):SV :=
 match l with
 | [c]=>c.sv
 | l=>match kl l with
  | some vs=>.v (.tuple vs.toArray)
  | none=>.tup l
theorem Qk {V:Vl}:∀ {l:List TC} {vs us:List Value},kl l=some vs->aG (fQ V) l us->us=vs
 | [],vs,[],h,_=>by simp [kl] at h;exact h.symm▸rfl
 | .one (.v x)::r,vs,u::us,h,hd=>by
  unfold kl at h
  split at h
  ·rename_i l hl
   injection h with h
   subst h
   have h1:u=x:=hd.1
   rw [h1,Qk hl hd.2]
  ·cases h
 | .one (.ptr _ _)::_,_,_::_,h,_=>by simp [kl] at h
 | .one (.row _)::_,_,_::_,h,_=>by simp [kl] at h
 | .one (.clo _ _ _)::_,_,_::_,h,_=>by simp [kl] at h
 | .ag _::_,_,_::_,h,_=>by simp [kl] at h
 | [],_,_::_,_,hd=>hd.elim
 | _::_,_,[],_,hd=>hd.elim
theorem TZ {V:Vl} {l:List TC} {vs:List Value} (h:aG (fQ V) l vs):aI V (o9 l) (nc vs):=by
 have gen:(∀ c,l≠[c])->aI V (o9 l) (nc vs):=by
  intro hne
  have e1:o9 l=match kl l with|some vs=>.v (.tuple vs.toArray)|none=>.tup l:=by
   unfold o9
   split
   ·exact absurd rfl (hne _)
   ·rfl
  have e2:nc vs=.tuple vs.toArray:=by
   unfold nc
   split
   ·rename_i y
    cases l with
    | nil=>exact h.elim
    | cons c r=>cases r with
     | nil=>exact absurd rfl (hne c)
     | cons _ _=>exact h.2.elim
   ·rfl
  rw [e1,e2]
  split
  ·rename_i us hus
   rw [Qk hus h]
   rfl
  ·exact ⟨vs,rfl,h⟩
 cases l with
 | nil=>exact gen (by simp)
 | cons c r=>cases r with
  | cons _ _=>exact gen (by simp)
  | nil=>cases vs with
   | nil=>exact h.elim
   | cons y us=>cases us with
    | nil=>exact KB h.1
    | cons _ _=>exact h.2.elim
def uy (q:List Nat×List Nat):TC->List Nat×List Nat
 | .one a=>mV q a
 | .ag cs=>cs.foldl mV q
def zt (q:List Nat×List Nat) (x:SV):List Nat×List Nat :=
 match x with
 | .tup cs=>cs.foldl uy q
 | x=>uz q x
def v8 (ls rs:List Nat):TC->Option TC
 | .one a=>match dU ls rs a with
  | some a=>some (.one a)
  | none=>none
 | .ag cs=>match cH (dU ls rs) cs with
  | some cs=>some (.ag cs)
  | none=>none
def sg (ls rs:List Nat) (x:SV):Option SV :=
 match x with
 | .tup cs=>match cH (v8 ls rs) cs with
  | some cs=>some (.tup cs)
  | none=>none
 | x=>iY ls rs x
def Ci (rows:List RowS) (r:Nat):Option RowS:=rows[r]?
def gc (n m:Nat) (r:SV) (mem:Mem):Option (SV×Mem) :=
 match iZ mem.blk (mem.blk.length+1) 0 (zt (List.range n,List.range m) r) with
 | some (ls,rs)=>match sg ls rs r,cH (pf mem.blk ls rs) ls,cH (Ci mem.rows) rs with
  | some r',some b,some rows=>some (r',⟨b,b.map fun _=>true,rows⟩)
  | _,_,_=>none
 | none=>none
structure Pre (q q':List Nat×List Nat):Prop where
 b:∀ (i x:Nat),q.1[i]?=some x->q'.1[i]?=some x
 r:∀ (i x:Nat),q.2[i]?=some x->q'.2[i]?=some x
theorem Pre.refl (q:List Nat×List Nat):Pre q q:=⟨fun _ _ h=>h,fun _ _ h=>h⟩
theorem Pre.trans {q q' q'':List Nat×List Nat} (h:Pre q q') (h':Pre q' q''):Pre q q'':=⟨fun i x hx=>h'.b i x (h.b i x hx),fun i x hx=>h'.r i x (h.r i x hx)⟩
theorem HQ {m:List Nat} {r i x:Nat} (h:m[i]?=some x):(fh m r)[i]?=some x:=by
 unfold fh
 cases m.contains r
 ·simp only [cond_false]
  rw [List.getElem?_append_left (List.getElem?_eq_some_iff.1 h).1]
  exact h
 ·exact h
theorem lA (q:List Nat×List Nat) (x:SA):Pre q (mV q x):=by
 cases x with
 | v _=>exact .refl _
 | ptr l o=>exact ⟨fun _ _ h=>HQ h,fun _ _ h=>h⟩
 | row l=>exact ⟨fun _ _ h=>h,fun _ _ h=>HQ h⟩
 | clo f l o=>exact ⟨fun _ _ h=>HQ h,fun _ _ h=>h⟩
theorem yr:∀ (cs:List SA) (q:List Nat×List Nat),Pre q (cs.foldl mV q)
 | [],q=>.refl q
 | c::cs,q=>(lA q c).trans (yr cs _)
theorem qjw (q:List Nat×List Nat) (c:TC):Pre q (uy q c):=by
 cases c with
 | one a=>exact lA q a
 | ag cs=>exact yr cs q
theorem OG:∀ (cs:List TC) (q:List Nat×List Nat),Pre q (cs.foldl uy q)
 | [],q=>.refl q
 | c::cs,q=>(qjw q c).trans (OG cs _)
theorem oO (q:List Nat×List Nat) (x:SV):Pre q (zt q x):=by
 cases x with
 | ptr l o=>exact lA q (.ptr l o)
 | row r=>exact lA q (.row r)
 | clo f l o=>exact lA q (.clo f l o)
 | ag cs=>exact yr cs q
 | tup cs=>exact OG cs q
 | part r n lo hi=>exact lA q (.row r)
 | _=>exact .refl q
theorem BO {blk:List (List SA)}:∀ (f k:Nat) (q q':List Nat×List Nat),iZ blk f k q=some q'->Pre q q'
 | 0,_,_,_,h=>by cases h
 | f+1,k,q,q',h=>by
  unfold iZ at h
  split at h
  ·injection h with h
   subst h
   exact .refl q
  ·split at h
   ·rename_i cs _
    exact (yr cs q).trans (BO f (k+1) _ q' h)
   ·cases h
section
variable {z:Base} {m:Mem} {V:Vl} {w:World}
theorem qjx {q:List Nat×List Nat} (h:Good (fun l=>V.b l≠none) (fun r=>V.r r≠none) q) {c:TC} {y:Value} (hx:fQ V c y):Good (fun l=>V.b l≠none) (fun r=>V.r r≠none) (uy q c):=by
 cases c with
 | one a=>exact lB h (md hx)
 | ag cs =>
  obtain ⟨vs,_,h2⟩:=hx
  refine yt cs h fun x hx=>?_
  obtain ⟨j,hj⟩:=List.getElem?_of_mem hx
  obtain ⟨v,_,hd⟩:=h2.get j x hj
  exact md hd
theorem OH:∀ (cs:List TC) (vs:List Value) {q:List Nat×List Nat},Good (fun l=>V.b l≠none) (fun r=>V.r r≠none) q->aG (fQ V) cs vs->Good (fun l=>V.b l≠none) (fun r=>V.r r≠none) (cs.foldl uy q)
 | [],_,_,h,_=>h
 | _::cs,_::vs,_,h,hx=>OH cs vs (qjx h hx.1) hx.2
 | _::_,[],_,_,hx=>hx.elim
theorem Qn {q:List Nat×List Nat} (h:Good (fun l=>V.b l≠none) (fun r=>V.r r≠none) q) {x:SV} {y:Value} (hx:aI V x y):Good (fun l=>V.b l≠none) (fun r=>V.r r≠none) (zt q x):=by
 cases x with
 | tup cs=>obtain ⟨vs,_,h2⟩:=hx;exact OH cs vs h h2
 | _=>exact Qo h hx
theorem qaH {ls rs:List Nat} {c c':TC} {y:Value} (h:v8 ls rs c=some c') (hd:fQ V c y):fQ (V.sub ls rs) c' y:=by
 cases c with
 | one a =>
  simp only [v8] at h
  split at h
  ·rename_i a' ha;injection h with h;subst h;exact nv ha hd
  ·cases h
 | ag cs =>
  simp only [v8] at h
  split at h
  ·rename_i cs' hcs;injection h with h;subst h
   obtain ⟨vs,h1,h2⟩:=hd
   exact ⟨vs,h1,M4 hcs h2⟩
  ·cases h
theorem LQ {ls rs:List Nat} {x x':SV} {y:Value} (h:sg ls rs x=some x') (hd:aI V x y):aI (V.sub ls rs) x' y:=by
 cases x with
 | tup cs =>
  simp only [sg] at h
  split at h
  ·rename_i cs' hcs
   injection h with h
   subst h
   obtain ⟨vs,hy,hd⟩:=hd
   obtain ⟨h1,h2⟩:=j6 hcs
   refine ⟨vs,hy,aG.of (h1.trans hd.length) fun j x v hx hv=>?_⟩
   have hj:j<cs.length:=by
    have:=(List.getElem?_eq_some_iff.1 hx).1
    omega
   obtain ⟨y,e1,e2⟩:=h2 j cs[j] (by simp [hj])
   rw [hx] at e1
   injection e1 with e1
   subst e1
   obtain ⟨v',e3,e4⟩:=hd.get j cs[j] (by simp [hj])
   rw [hv] at e3
   injection e3 with e3
   subst e3
   exact qaH e2 e4
  ·cases h
 | _=>exact LR (by simpa [sg] using h) hd
theorem Ny (h:dz z m V w):Good (fun l=>V.b l≠none) (fun r=>V.r r≠none) (List.range z.L.length,List.range z.U.length):=by
 refine ⟨fun l hl=>?_,fun r hr=>?_,List.nodup_range,List.nodup_range⟩
 ·have hl:l<z.L.length:=by simpa using hl
  rw [h.lent l z.L[l] (by simp [hl])]
  simp
 ·have hr:r<z.U.length:=by simpa using hr
  rcases h.lentr r z.U[r] (by simp [hr]) with e|e<;>rw [e]<;>simp
theorem LW (h:dz z m V w) {q q':List Nat×List Nat} {f k:Nat} (hq:Good (fun l=>V.b l≠none) (fun r=>V.r r≠none) q) (hre:iZ m.blk f k q=some q'):Good (fun l=>V.b l≠none) (fun r=>V.r r≠none) q' :=
 BP (G:=fun l=>V.b l≠none) (H:=fun r=>V.r r≠none) (blk:=m.blk) (fun l cs hg hc x hx=>by
  obtain ⟨j,hj⟩:=List.getElem?_of_mem hx
  obtain ⟨⟨b,o⟩,hb⟩:=Option.ne_none_iff_exists'.1 hg
  obtain ⟨y,_,hy,_⟩:=h.mem l b o hb cs hc j x hj
  exact md hy) _ _ _ _ hq hre
def Vl.keep (V:Vl) (ls rs:List Nat):Vl:=⟨(V.sub ls rs).b,(V.sub ls rs).r,V.q⟩
theorem Bg {V:Vl} {ls rs:List Nat}:(V.sub ls rs).Le (V.keep ls rs):=⟨fun _ _ h=>h,fun _ h=>⟨h,fun _ hu=>hu⟩,fun _ _ h=>by cases h⟩
theorem KP (h:dz z m V w) {ls rs:List Nat} {b:List (List SA)} {rows:List RowS} (g1:Good (fun l=>V.b l≠none) (fun r=>V.r r≠none) (ls,rs)) (pb:∀ i,i<z.L.length->ls[i]?=some i) (pr:∀ i,i<z.U.length->rs[i]?=some i)
  (hb:cH (pf m.blk ls rs) ls=some b) (hrows:cH (Ci m.rows) rs=some rows):dz z ⟨b,b.map fun _=>true,rows⟩ (V.keep ls rs) w:=by
 obtain ⟨hb1,hb2⟩:=j6 hb
 obtain ⟨hr1,hr2⟩:=j6 hrows
 have bb:∀ {i p},(V.sub ls rs).b i=some p->∃ l,ls[i]?=some l/\V.b l=some p/\i<ls.length:=by
  intro i p hp
  simp only [Vl.sub,Option.bind_eq_some_iff] at hp
  obtain ⟨l,h1,h2⟩:=hp
  exact ⟨l,h1,h2,(List.getElem?_eq_some_iff.1 h1).1⟩
 have nd:∀ {i i':Nat} {l l':Nat},ls[i]?=some l->ls[i']?=some l'->i≠i'->l≠l':=by
  intro i i' l l' h1 h2 hne e
  subst e
  have e1:=j7 ls l 0 i g1.n1 h1
  have e2:=j7 ls l 0 i' g1.n1 h2
  rw [e1] at e2
  injection e2 with e2
  omega
 have nd':∀ {i i':Nat} {l l':Nat},rs[i]?=some l->rs[i']?=some l'->i≠i'->l≠l':=by
  intro i i' l l' h1 h2 hne e
  subst e
  have e1:=j7 rs l 0 i g1.n2 h1
  have e2:=j7 rs l 0 i' g1.n2 h2
  rw [e1] at e2
  injection e2 with e2
  omega
 have rw_:∀ {j rc},rowAt rows j=some rc->∃ k,rs[j]?=some k/\rowAt m.rows k=some rc:=by
  intro j rc hj
  have hlt:j<rs.length:=by
   have:=se hj
   omega
  obtain ⟨x,e1,e2⟩:=hr2 j rs[j] (by simp [hlt])
  have e2:m.rows[rs[j]]?=some x:=e2
  rw [rowAt,e1] at hj
  exact ⟨rs[j],by simp [hlt],by rw [rowAt,e2];exact hj⟩
 have vr:∀ {j k:Nat},rs[j]?=some k->(V.sub ls rs).r j=V.r k:=by
  intro j k hj
  simp [Vl.sub,hj]
 exact {
   len:=fun t x hx=>by cases hx
   tmps:=fun t x hx=>by cases hx
   defers:=rfl
   lens:=by simp
   mem:=fun l bl o hl cs' hcs' j x' hx'=>by
     obtain ⟨k,h1,h2,h3⟩:=bb hl
     obtain ⟨c1,e0,e00⟩:=hb2 l k h1
     obtain ⟨cs,e1,e3⟩:=KQ e00
     have e4:c1=cs':=by
       have:b[l]?=some cs':=hcs'
       rw [e0] at this
       injection this
     subst e4
     obtain ⟨q1,q2⟩:=j6 e3
     have hj:j<cs.length:=by
       have:=(List.getElem?_eq_some_iff.1 hx').1
       omega
     obtain ⟨y',e5,e6⟩:=q2 j cs[j] (by simp [hj])
     rw [hx'] at e5
     injection e5 with e5
     subst e5
     obtain ⟨y,f1,f2,f3⟩:=h.mem k bl o h2 cs e1 j cs[j] (by simp [hj])
     exact ⟨y,f1,(nv e6 f2).mono Bg,f3⟩
   inj:=fun l l' b o b' o' h1 h2 hne=>by
     obtain ⟨k,e1,e2,_⟩:=bb h1
     obtain ⟨k',e3,e4,_⟩:=bb h2
     exact h.inj k k' b o b' o' e2 e4 (nd e1 e3 hne)
   own:=fun l b o hl=>by
     obtain ⟨k,e1,e2,e3⟩:=bb hl
     obtain ⟨f1,f2⟩:=h.own k b o e2
     refine ⟨f1.imp id fun hk=>?_,f2⟩
     apply Classical.byContradiction
     intro hn
     exact nd e1 (pb k hk) (by omega) rfl
   lent:=fun l p hp=>by
     have hl:=(List.getElem?_eq_some_iff.1 hp).1
     show (ls[l]?).bind V.b=some p
     rw [pb l hl]
     exact h.lent l p hp
   base0:=fun l b o hl hge=>by
     obtain ⟨k,e1,e2,e3⟩:=bb hl
     refine h.base0 k b o e2 ?_
     apply Classical.byContradiction
     intro hn
     exact nd e1 (pb k (by omega)) (by omega) rfl
   dom:=fun l hl=>by
     obtain ⟨p,hp⟩:=Option.ne_none_iff_exists'.1 hl
     obtain ⟨k,e1,e2,e3⟩:=bb hp
     show (b.map fun _=>true)[l]?=some true
     simp [hb1,e3]
   lentr:=fun j u hu=>by
     show (V.sub ls rs).r j=_\/(V.sub ls rs).r j=_
     rw [vr (pr j (List.getElem?_eq_some_iff.1 hu).1)]
     exact h.lentr j u hu
   rows:=fun j rc hj=>by
     obtain ⟨k,e1,e2⟩:=rw_ hj
     obtain ⟨u,e3,e4⟩:=h.rows k rc e2
     exact ⟨u,by show (V.sub ls rs).r j=_;rw [vr e1];exact e3,e4.mono fun _ _ hq=>hq⟩
   rowsN:=fun j hj=>by
     have:rs[j]?=none:=by
       have e:rows[j]?=none:=hj
       simp at e ⊢
       omega
     show (V.sub ls rs).r j=none
     simp [Vl.sub,this]
   apart:=fun r r' rc rc' u u' g h1 h2 h3 h4 h5 h6 hne hg=>by
     obtain ⟨k,e1,e2⟩:=rw_ h1
     obtain ⟨k',e3,e4⟩:=rw_ h3
     have h5:(V.sub ls rs).r r=some (some u):=h5
     have h6:(V.sub ls rs).r r'=some (some u'):=h6
     rw [vr e1] at h5
     rw [vr e3] at h6
     exact h.apart k k' rc rc' u u' g e2 h2 e4 h4 h5 h6 (nd' e1 e3 hne) hg
   apartb:=fun r rc u g l b o h1 h2 h3 h4 h5=>by
     obtain ⟨k,e1,e2⟩:=rw_ h1
     obtain ⟨l',e3,e4,_⟩:=bb h5
     have h3:(V.sub ls rs).r r=some (some u):=h3
     rw [vr e1] at h3
     exact h.apartb k rc u g l' b o e2 h2 h3 h4 e4
   below:=h.below
   froz:=h.froz
   lits:=fun g cs hq=>by
     obtain ⟨f1,f2,f3⟩:=h.lits g cs hq
     refine ⟨f1,fun l bl o hl=>?_,fun r rc u h1 h2 h3=>?_⟩
     · obtain ⟨k,_,e2,_⟩:=bb hl
       exact f2 k bl o e2
     · obtain ⟨k,e1,e2⟩:=rw_ h1
       have h3:(V.sub ls rs).r r=some (some u):=h3
       rw [vr e1] at h3
       exact f3 k rc u e2 h2 h3
   sk:=h.sk
   qs:=h.qs }
theorem qd3 (h:dz z m V w) {r r':SV} {m':Mem} {y:Value} (hd:aI V r y) (hg:gc z.L.length z.U.length r m=some (r',m')):oP z r' m' y w:=by
 unfold gc at hg
 split at hg
 case h_2=>cases hg
 rename_i ls rs hre
 split at hg
 case h_2=>cases hg
 rename_i r1 b rows hr hb hrows
 injection hg with hg
 injection hg with e1 e2
 subst e1 e2
 have g1:=LW h (Qn (Ny h) hd) hre
 have hp:=(oO (List.range z.L.length,List.range z.U.length) r).trans (BO _ _ _ _ hre)
 exact ⟨V.keep ls rs,(LQ hr hd).mono Bg,KP h g1 (fun i hi=>hp.b i i (by simp [hi])) (fun i hi=>hp.r i i (by simp [hi])) hb hrows⟩
end
def qhB (Γ:Orc) (P:Program) (fn:Func) (n m:Nat) (e:Ex) (st:St):Option (SV×Mem) :=
 match e with
 | .exit _=>none
 | _=>match lW P st fn.results.toList with
  | some l=>match gc n m (o9 l) st.mem with
   | some (r,mm)=>fS Γ.conc r fun r=>tF Γ.conc mm fun mm=>some (r,mm)
   | none=>none
  | none=>none
def xp (fn:Func) (as:List SV) (m:Mem):St:=⟨Tr.ofList (as++List.replicate (fn.ntmps - as.length) (SV.v undef)),m⟩
def runG (Γ:Orc) (Λ:aV) (P:Program) (fn:Func) (as:List SV) (m:Mem):Option (SV×Mem) :=
 match fn.body with
 | some c=>ev Γ Λ P c (xp fn as m) (qhB Γ P fn m.blk.length m.rows.length)
 | none=>none
theorem qdQ (fn:Func) {as:List SV} {m:Mem} {vs:List Value} {z:Base} {V:Vl} (hM:dz z m V z.w) (hA:aG (aI V) as vs) :
  Rel z (xp fn as m) V { tmps:=vs.toArray++Array.replicate (fn.ntmps - vs.toArray.size) undef,defers:=[] } z.w:=by
 have hlen:=hA.length
 have hg:∀ (t:Nat) x,(xp fn as m).tmps.get t=some x->(as++List.replicate (fn.ntmps - as.length) (SV.v undef))[t]?=some x:=by
  intro t x hx
  simp only [xp,Tr.get_ofList] at hx
  simpa using hx
 have he:∀ t:Nat,(vs.toArray++Array.replicate (fn.ntmps - vs.toArray.size) undef)[t]?=(vs++List.replicate (fn.ntmps - vs.length) undef)[t]?:=by
  intro t
  rw [<- Array.getElem?_toList];simp
 refine { hM with len:=fun t x hx=>?_,tmps:=fun t x hx y hy=>?_,defers:=rfl }
 ·have hx':=hg t x hx
  rcases Nat.lt_or_ge t (as++List.replicate (fn.ntmps - as.length) (SV.v undef)).length with h'|h'
  ·simp at h'
   simp
   omega
  ·rw [List.getElem?_eq_none h'] at hx'
   cases hx'
 ·have hx':=hg t x hx
  rw [he] at hy
  rcases Nat.lt_or_ge t as.length with h'|h'
  ·rw [List.getElem?_append_left h'] at hx'
   rw [List.getElem?_append_left (by omega)] at hy
   obtain ⟨v,e1,e2⟩:=hA.get t x hx'
   rw [hy] at e1
   injection e1 with e1
   subst e1
   exact e2
  ·rw [List.getElem?_append_right h',List.getElem?_replicate] at hx'
   rw [List.getElem?_append_right (by omega),List.getElem?_replicate] at hy
   split at hx'
   ·split at hy
    ·injection hx' with hx'
     injection hy with hy
     subst hx' hy
     rfl
    ·cases hy
   ·cases hx'
theorem BL {st:St} {V:Vl} {a:Act} {w:World} (h:Rel w0 st V a w):∀ (l:List ResultVar) (cs:List TC),lW P st l=some cs ->
  ∃ vs,(l.mapM (m:=Sem) fun
   | .tmp t=>pure (a.tmps.getD t undef)
   | .cell b t=>do loadVar t (<- asAddr (a.tmps.getD b undef))).run P w=.ok vs w/\aG (fQ V) cs vs
 | [],cs,hv=>by simp [lW] at hv;subst hv;exact ⟨[],rfl,trivial⟩
 | .tmp t::r,cs,hv=>by
  unfold lW at hv
  split at hv
  ·rename_i c l h1 h2
   injection hv with hv
   subst hv
   obtain ⟨s,hs,hc⟩:=Option.bind_eq_some_iff.1 h1
   have hy:aI V s (a.tmps.getD t undef):=h.eval (x:=.tmp t) hs
   obtain ⟨vs,ih,hd⟩:=BL h r l h2
   refine ⟨a.tmps.getD t undef::vs,?_,KC hc hy,hd⟩
   rw [List.mapM_cons]
   rw [aD _ _ w w (a.tmps.getD t undef) rfl]
   rw [aD _ _ w w vs ih]
   rfl
  ·cases hv
 | .cell t ty::r,cs,hv=>by
  unfold lW at hv
  split at hv
  ·rename_i l off ag n h1 h2 h3
   split at hv
   ·rename_i bc hcs
    split at hv
    ·rename_i hn
     split at hv
     ·rename_i c l' h4 h5
      injection hv with hv
      subst hv
      obtain ⟨s,hs,hc⟩:=Option.bind_eq_some_iff.1 h4
      obtain ⟨y',hy',hd⟩:=Nk (P:=P) h (p:=.tmp t) h1 h2 h3 hcs hn hs
      obtain ⟨b,o,hb,he⟩:=h.eval (x:=.tmp t) h1
      have he':a.tmps.getD t undef=.pointer (some ⟨b,o+off,none⟩):=he
      obtain ⟨vs,ih,hds⟩:=BL h r l' h5
      refine ⟨y'::vs,?_,KC hc hd,hds⟩
      rw [List.mapM_cons]
      have hh:(do loadVar ty (<- asAddr (a.tmps.getD t undef)):Sem Value).run P w=.ok y' w:=by
       rw [he']
       have:(Instr.loadAt ty (.pointer (some ⟨b,o+off,none⟩))).run P w=.ok y' w:=by
        rw [<- he];exact hy'
       simpa [Instr.loadAt,Instr.sureAddr,asAddr] using this
      rw [aD _ _ w w y' hh]
      rw [aD _ _ w w vs ih]
      rfl
     ·cases hv
    ·cases hv
   ·cases hv
  ·cases hv
theorem qaB {fn:Func} {a:Act} {w:World} (l:List Value) (hr:(fn.results.toList.mapM (m:=Sem) fun
   | .tmp t=>pure (a.tmps.getD t undef)
   | .cell b t=>do loadVar t (<- asAddr (a.tmps.getD b undef))).run P w=.ok l w):(results fn a.tmps).run P w=.ok (nc l) w:=by
 unfold results
 have hmap:(fn.results.mapM (m:=Sem) fun
   | .tmp t=>pure (a.tmps.getD t undef)
   | .cell b t=>do loadVar t (<- asAddr (a.tmps.getD b undef))).run P w=.ok l.toArray w:=by
  rw [Array.mapM_eq_mapM_toList]
  rw [map_eq_pure_bind,aD _ _ w w l hr]
  rfl
 refine (aD _ _ w w l.toArray ?_).trans ?_
 ·exact hmap
 cases l with
 | nil=>rfl
 | cons x l =>
  cases l with
  | nil=>rfl
  | cons y l=>simp [nc,pure]
theorem dz.of {st:St} {V:Vl} {a:Act} {w:World} (h:Rel w0 st V a w):dz w0 st.mem V w :=
 { h with len:=fun t x hx=>(by cases hx),tmps:=fun t x hx=>(by cases hx),defers:=rfl }
theorem LA (hΓ:Γ.Ok P) (hm:P.follows .mixedOrders=true) {f:FuncId} {fn:Func} {c:Code} (hf:P.funcs[f]?=some fn) (hb:fn.body=some c) {as:List SV} {m m':Mem} {r:SV}
  (h:runG Γ Λ P fn as m=some (r,m')) {z:Base} {V:Vl} {vs:List Value} (hl:Lent z m V) (hM:dz z m V z.w) (hA:aG (aI V) as vs) (hL:∀ b∈aF c,aS Λ P z b) :
  Calls P f vs.toArray z.w (fun e w'=>∃ y,e=.returned y/\oP z r m' y w'):=by
 unfold runG at h
 rw [hb] at h
 refine calls_of_wp hf hb ?_
 refine kb hΓ hm c hL _ _ (r,m') _ _ z.w h ⟨_,qdQ fn hM hA,(fun _ _ _ hm=>by cases hm)⟩ ?_
 rintro e st' hk a' w' ⟨V',hR,_⟩
 have main:(match lW P st' fn.results.toList with
  | some l=>match gc m.blk.length m.rows.length (o9 l) st'.mem with
   | some (r,mm)=>fS Γ.conc r fun r=>tF Γ.conc mm fun mm=>some (r,mm)
   | none=>none
  | none=>none)=some (r,m')->a'.defers=[]/\∃ v,(results fn a'.tmps).run P w'=.ok v w'/\oP z r m' v w':=by
  intro hk
  refine ⟨hR.defers,?_⟩
  split at hk
  ·rename_i l hl'
   split at hk
   ·rename_i r1 mm hg
    rw [j9,OU] at hk
    injection hk with hk
    injection hk with e1 e2
    subst e1 e2
    obtain ⟨us,hus,hd⟩:=BL hR fn.results.toList l hl'
    rw [<- hl.bl,<- hl.ul] at hg
    exact ⟨nc us,qaB us hus,qd3 (dz.of hR) (TZ hd) hg⟩
   ·cases hk
  ·cases hk
 cases e with
 | normal =>
  obtain ⟨h1,v,h2,h3⟩:=main hk
  exact ⟨h1,v,h2,v,rfl,h3⟩
 | exit id=>cases hk
 | ret =>
  obtain ⟨h1,v,h2,h3⟩:=main hk
  exact ⟨h1,v,h2,v,rfl,h3⟩
end
end Go.Sx
namespace Go.Sx
open Go.RowKit
def ji:List Value->List Value->Option Bool
 | [],[]=>some true
 | .int k a::r,.int k' b::s=>match ji r s with
  | some q=>if k=k' then some ((a==b)&&q) else none
  | none=>none
 | _,_=>none
def qR (P:Program) (t:TypeId):Option (Nat×TypeId) :=
 match P.underlying t with
 | some (.array n e)=>match P.underlying e,a8 P e,a8 P t with
  | some (.int _),some 1,some m=>if m=n then some (n,e) else none
  | _,_,_=>none
 | _=>none
def kg:List Value->List Value->Option Bool
 | [],[]=>some true
 | .bool a::r,.bool b::s=>match kg r s with
  | some q=>some ((a==b)&&q)
  | none=>none
 | _,_=>none
def HM (P:Program) (t:TypeId):Option (Nat×TypeId) :=
 match P.underlying t with
 | some (.array n e)=>match P.underlying e,a8 P e,a8 P t with
  | some .bool,some 1,some m=>if m=n then some (n,e) else none
  | _,_,_=>none
 | _=>none
def hH (P:Program):List Field->List Value->List Value->Option Bool
 | [],_,_=>some true
 | f::fs,xs,ys=>match P.underlying f.type,xs[f.offset]?,ys[f.offset]?,hH P fs xs ys with
  | some (.int _),some (.int k a),some (.int k' b),some r=>if k=k' then some ((a==b)&&r) else none
  | some .bool,some (.bool a),some (.bool b),some r=>some ((a==b)&&r)
  | some .string,some (.string a),some (.string b),some r=>some ((a==b)&&r)
  | _,_,_,some r=>match qR P f.type with
   | some (n,_)=>match ji ((xs.drop f.offset).take n) ((ys.drop f.offset).take n) with
    | some q=>if ((xs.drop f.offset).take n).length=n then some (q&&r) else none
    | none=>none
   | none=>none
  | _,_,_,_=>none
def nE (P:Program):List Field->List Value->List Value->Option Bool
 | [],_,_=>some true
 | f::fs,xs,ys=>match P.underlying f.type with
  | some (.struct gs)=>match a8 P f.type,nE P fs xs ys with
   | some m,some r=>match hH P gs.toList ((xs.drop f.offset).take m) ((ys.drop f.offset).take m) with
    | some q => if P.stoodInHeld f.type = false /\ (gs.toList.all fun g => g.name != "_") = true then some (q && r) else none
    | none=>none
   | _,_=>none
  | _=>match hH P [f] xs ys,nE P fs xs ys with
   | some q,some r=>some (q&&r)
   | _,_=>none
def kc (P:Program) (t:TypeId):Bool :=
 !P.stoodInHeld t&&!P.eqGuardType P.depth t&&(match P.underlying t with
  | some (.struct fs) => fs.toList.all fun f => f.name != "_"
  | some (.array _ _)=>true
  | _=>false)
def yM (P:Program) (good:List TypeId) (t:TypeId) (xs ys:List Value):Option Bool :=
 match good.contains t,P.underlying t with
 | true,some (.struct fs)=>match hH P fs.toList xs ys with
  | some r=>some r
  | none=>nE P fs.toList xs ys
 | true,some (.array _ _)=>match HM P t with
  | some (m,_)=>if xs.length=m then kg xs ys else none
  | none=>none
 | _,_=>none
section
variable {P:Program} {w:World}
theorem fp {t:TypeId} {cs:Array Value} {off:Nat} {v:Value} {d:TypeDesc} (hu:P.underlying t=some d) (hd:(∀ f,d≠.struct f)/\(∀ n e,d≠.array n e)) (hv:cs[off]?=some v):(part t cs off).run P w=.ok v w:=by
 unfold part
 have:(isAgg t).run P w=.ok false w:=by
  unfold isAgg
  rw [aD _ _ w w d (run_underlying hu w)]
  cases d<;>first|rfl|(exact absurd rfl (hd.1 _))|(exact absurd rfl (hd.2 _ _))
 rw [aD _ _ w w false this]
 simp [hv]
theorem Bx {n:Nat} {t:TypeId} {k k':IntKind} {a b:Int} (hu:P.underlying t=some (.int k')):(Op.equalIn (n+1) t (.int k a) (.int k b)).run P w=.ok (a==b) w:=by
 unfold Op.equalIn
 rw [aD _ _ w w _ (run_underlying hu w)]
 simp
theorem By {n:Nat} {t:TypeId} {a b:Bool} (hu:P.underlying t=some .bool):(Op.equalIn (n+1) t (.bool a) (.bool b)).run P w=.ok (a==b) w:=by
 unfold Op.equalIn
 rw [aD _ _ w w _ (run_underlying hu w)]
 simp
theorem Lv {n:Nat} {t:TypeId} {a b:ByteArray} (hu:P.underlying t=some .string):(Op.equalIn (n+1) t (.string a) (.string b)).run P w=.ok (a==b) w:=by
 unfold Op.equalIn
 rw [aD _ _ w w _ (run_underlying hu w)]
 simp
theorem qdL {a:Value} {c d:List Value} {q:Bool} (h:ji (a::c) d=some q):∃ k x y s q',a=.int k x/\d=.int k y::s/\ji c s=some q'/\q=((x==y)&&q'):=by
 cases d with
 | nil=>cases a<;>simp [ji] at h
 | cons b s =>
  cases a<;>cases b<;>simp only [ji] at h<;>try contradiction
  rename_i k x k' y
  split at h
  ·rename_i q' hq'
   split at h
   ·rename_i hk
    subst hk
    injection h with h
    exact ⟨k,x,y,s,q',rfl,rfl,hq',h.symm⟩
   ·cases h
  ·cases h
theorem Bw {n m:Nat} {t e:TypeId} (ht:qR P t=some (m,e)) {xs ys:List Value} {r:Bool} (hl:xs.length=m) (h:ji xs ys=some r):(Op.equalIn (n+2) t (.agg xs.toArray) (.agg ys.toArray)).run P w=.ok r w:=by
 unfold qR at ht
 split at ht
 case h_2=>cases ht
 rename_i n' e' h1
 split at ht
 case h_2=>cases ht
 rename_i kk m' h2 h3 h4
 split at ht
 case isFalse=>cases ht
 injection ht with ht
 injection ht with e1 e2
 subst e1 e2
 unfold Op.equalIn
 rw [aD _ _ w w _ (run_underlying h1 w)]
 simp only []
 rw [aD _ _ w w 1 (dS h3)]
 rw [Std.Legacy.Range.forIn_eq_forIn_range']
 simp only [Std.Legacy.Range.size,Nat.sub_zero,Nat.add_sub_cancel,Nat.div_one]
 have key:∀ (c:List Value) (d:List Value) (j:Nat) (q:Bool),ji c d=some q->xs.drop j=c->ys.drop j=d ->
   ∀ (F:Nat->Option Bool×Unit->Sem (ForInStep (Option Bool×Unit))) (_:∀ i a b,xs[i]?=some a->ys[i]?=some b->∀ k x y,a=.int k x->b=.int k y ->
    (F i (none,())).run P w=.ok (if x==y then .yield (none,()) else .done (some false,())) w),
   (forIn (m:=Sem) (List.range' j c.length) ((none,()):Option Bool×Unit) F).run P w=.ok (if q then (none,()) else (some false,())) w:=by
  intro c
  induction c with
  | nil =>
   intro d j q h hx hy F hF
   cases d with
   | nil =>
    simp [ji] at h
    subst h
    simp [pure]
   | cons _ _=>simp [ji] at h
  | cons a c ih =>
   intro d j q h hx hy F hF
   obtain ⟨k,x,y,ss,q',rfl,rfl,hq',rfl⟩:=qdL h
   have g1:xs[j]?=some (.int k x):=by
    have:(xs.drop j)[0]?=some (.int k x):=by rw [hx];rfl
    simpa using this
   have g2:ys[j]?=some (.int k y):=by
    have:(ys.drop j)[0]?=some (.int k y):=by rw [hy];rfl
    simpa using this
   have st:=hF j _ _ g1 g2 k x y rfl rfl
   simp only [List.length_cons,List.range'_succ,List.forIn_cons]
   cases hxy:x==y
   ·rw [hxy] at st
    rw [Sem.run_bind,st]
    simp [pure,Result.andThen]
   ·rw [hxy] at st
    rw [Sem.run_bind,st]
    simp only [if_true,Bool.true_and,Result.andThen]
    exact ih ss (j+1) q' hq' (by rw [<- List.drop_drop,hx];rfl) (by rw [<- List.drop_drop,hy];rfl) F hF
 have:=key xs ys 0 r h rfl rfl
 rw [hl] at this
 rw [Sem.run_bind,this _ ?_]
 ·cases r<;>simp [pure,Result.andThen]
 ·intro i a b hx hy k x y ha hb
  subst ha hb
  have p1:=fp (P:=P) (w:=w) (t:=e') (cs:=xs.toArray) (off:=i*1) h2 ⟨by simp,by simp⟩ (by simpa using hx)
  have p2:=fp (P:=P) (w:=w) (t:=e') (cs:=ys.toArray) (off:=i*1) h2 ⟨by simp,by simp⟩ (by simpa using hy)
  have p3:=Bx (P:=P) (w:=w) (n:=n) (k:=k) (a:=x) (b:=y) h2
  rw [Sem.run_bind,p1]
  simp only [Result.andThen]
  rw [Sem.run_bind,p2]
  simp only [Result.andThen]
  rw [Sem.run_bind,p3]
  simp only [Result.andThen]
  cases x==y<;>simp [pure]
theorem qi4 {a:Value} {c d:List Value} {q:Bool} (h:kg (a::c) d=some q):∃ x y s q',a=.bool x/\d=.bool y::s/\kg c s=some q'/\q=((x==y)&&q'):=by
 cases d with
 | nil=>cases a<;>simp [kg] at h
 | cons b s =>
  cases a<;>cases b<;>simp only [kg] at h<;>try contradiction
  rename_i x y
  split at h
  ·rename_i q' hq'
   injection h with h
   exact ⟨x,y,s,q',rfl,rfl,hq',h.symm⟩
  ·cases h
theorem Vr {n m:Nat} {t e:TypeId} (ht:HM P t=some (m,e)) {xs ys:List Value} {r:Bool} (hl:xs.length=m) (h:kg xs ys=some r):(Op.equalIn (n+2) t (.agg xs.toArray) (.agg ys.toArray)).run P w=.ok r w:=by
 unfold HM at ht
 split at ht
 case h_2=>cases ht
 rename_i n' e' h1
 split at ht
 case h_2=>cases ht
 rename_i m' h2 h3 h4
 split at ht
 case isFalse=>cases ht
 injection ht with ht
 injection ht with e1 e2
 subst e1 e2
 unfold Op.equalIn
 rw [aD _ _ w w _ (run_underlying h1 w)]
 simp only []
 rw [aD _ _ w w 1 (dS h3)]
 rw [Std.Legacy.Range.forIn_eq_forIn_range']
 simp only [Std.Legacy.Range.size,Nat.sub_zero,Nat.add_sub_cancel,Nat.div_one]
 have key:∀ (c:List Value) (d:List Value) (j:Nat) (q:Bool),kg c d=some q->xs.drop j=c->ys.drop j=d ->
   ∀ (F:Nat->Option Bool×Unit->Sem (ForInStep (Option Bool×Unit))) (_:∀ i a b,xs[i]?=some a->ys[i]?=some b->∀ x y,a=.bool x->b=.bool y ->
    (F i (none,())).run P w=.ok (if x==y then .yield (none,()) else .done (some false,())) w),
   (forIn (m:=Sem) (List.range' j c.length) ((none,()):Option Bool×Unit) F).run P w=.ok (if q then (none,()) else (some false,())) w:=by
  intro c
  induction c with
  | nil =>
   intro d j q h hx hy F hF
   cases d with
   | nil =>
    simp [kg] at h
    subst h
    simp [pure]
   | cons _ _=>simp [kg] at h
  | cons a c ih =>
   intro d j q h hx hy F hF
   obtain ⟨x,y,ss,q',rfl,rfl,hq',rfl⟩:=qi4 h
   have g1:xs[j]?=some (.bool x):=by
    have:(xs.drop j)[0]?=some (.bool x):=by rw [hx];rfl
    simpa using this
   have g2:ys[j]?=some (.bool y):=by
    have:(ys.drop j)[0]?=some (.bool y):=by rw [hy];rfl
    simpa using this
   have st:=hF j _ _ g1 g2 x y rfl rfl
   simp only [List.length_cons,List.range'_succ,List.forIn_cons]
   cases hxy:x==y
   ·rw [hxy] at st
    rw [Sem.run_bind,st]
    simp [pure,Result.andThen]
   ·rw [hxy] at st
    rw [Sem.run_bind,st]
    simp only [if_true,Bool.true_and,Result.andThen]
    exact ih ss (j+1) q' hq' (by rw [<- List.drop_drop,hx];rfl) (by rw [<- List.drop_drop,hy];rfl) F hF
 have:=key xs ys 0 r h rfl rfl
 rw [hl] at this
 rw [Sem.run_bind,this _ ?_]
 ·cases r<;>simp [pure,Result.andThen]
 ·intro i a b hx hy x y ha hb
  subst ha hb
  have p1:=fp (P:=P) (w:=w) (t:=e') (cs:=xs.toArray) (off:=i*1) h2 ⟨by simp,by simp⟩ (by simpa using hx)
  have p2:=fp (P:=P) (w:=w) (t:=e') (cs:=ys.toArray) (off:=i*1) h2 ⟨by simp,by simp⟩ (by simpa using hy)
  have p3:=By (P:=P) (w:=w) (n:=n) (a:=x) (b:=y) h2
  rw [Sem.run_bind,p1]
  simp only [Result.andThen]
  rw [Sem.run_bind,p2]
  simp only [Result.andThen]
  rw [Sem.run_bind,p3]
  simp only [Result.andThen]
  cases x==y<;>simp [pure]
theorem Lu {n : Nat} {t : TypeId} {fs : Array Field} {xs ys : Array Value} (hu : P.underlying t = some (.struct fs)) (hs : P.stoodInHeld t = false) (hn : ∀ f ∈ fs.toList, f.name ≠ "_") {r : Bool}
  (h:hH P fs.toList xs.toList ys.toList=some r):(Op.equalIn (n+3) t (.agg xs) (.agg ys)).run P w=.ok r w:=by
 unfold Op.equalIn
 rw [aD _ _ w w _ (run_underlying hu w)]
 simp only []
 rw [aD program _ w w P rfl]
 simp only [hs,Bool.false_eq_true,if_false]
 rw [<- Array.forIn_toList]
 generalize fs.toList=l at *
 clear hu hs
 induction l generalizing r with
 | nil =>
  simp [hH] at h
  subst h
  simp
 | cons f l ih =>
  have hf : f.name ≠ "_" := hn f (by simp)
  unfold hH at h
  split at h
  ·rename_i kk k a k' b r' h1 h2 h3 h4
   split at h
   ·rename_i hk
    subst hk
    injection h with h
    subst h
    have p1:=fp (P:=P) (w:=w) (t:=f.type) (cs:=xs) (off:=f.offset) h1 ⟨by simp,by simp⟩ (by simpa using h2)
    have p2:=fp (P:=P) (w:=w) (t:=f.type) (cs:=ys) (off:=f.offset) h1 ⟨by simp,by simp⟩ (by simpa using h3)
    have p3:=Bx (P:=P) (w:=w) (n:=n+1) (k:=k) (a:=a) (b:=b) h1
    have ih':=ih (fun f hf=>hn f (by simp [hf])) h4
    simp only [List.forIn_cons,hf,ne_eq,not_false_eq_true,if_true]
    cases hab:a==b
    ·simp [Sem.run_bind,p1,p2,p3,hab,Result.andThen]
    ·simp only [Sem.run_bind,p1,p2,p3,hab,Result.andThen] at *
     simpa using ih'
   ·cases h
  ·rename_i a b r' h1 h2 h3 h4
   injection h with h
   subst h
   have p1:=fp (P:=P) (w:=w) (t:=f.type) (cs:=xs) (off:=f.offset) h1 ⟨by simp,by simp⟩ (by simpa using h2)
   have p2:=fp (P:=P) (w:=w) (t:=f.type) (cs:=ys) (off:=f.offset) h1 ⟨by simp,by simp⟩ (by simpa using h3)
   have p3:=By (P:=P) (w:=w) (n:=n+1) (a:=a) (b:=b) h1
   have ih':=ih (fun f hf=>hn f (by simp [hf])) h4
   simp only [List.forIn_cons,hf,ne_eq,not_false_eq_true,if_true]
   cases hab:a==b
   ·simp [Sem.run_bind,p1,p2,p3,hab,Result.andThen]
   ·simp only [Sem.run_bind,p1,p2,p3,hab,Result.andThen] at *
    simpa using ih'
  ·rename_i a b r' h1 h2 h3 h4
   injection h with h
   subst h
   have p1:=fp (P:=P) (w:=w) (t:=f.type) (cs:=xs) (off:=f.offset) h1 ⟨by simp,by simp⟩ (by simpa using h2)
   have p2:=fp (P:=P) (w:=w) (t:=f.type) (cs:=ys) (off:=f.offset) h1 ⟨by simp,by simp⟩ (by simpa using h3)
   have p3:=Lv (P:=P) (w:=w) (n:=n+1) (a:=a) (b:=b) h1
   have ih':=ih (fun f hf=>hn f (by simp [hf])) h4
   simp only [List.forIn_cons,hf,ne_eq,not_false_eq_true,if_true]
   cases hab:a==b
   ·simp [Sem.run_bind,p1,p2,p3,hab,Result.andThen]
   ·simp only [Sem.run_bind,p1,p2,p3,hab,Result.andThen] at *
    simpa using ih'
  ·rename_i r' h4 _ _ _
   split at h
   ·rename_i m e ha
    split at h
    ·rename_i q hq
     split at h
     ·rename_i hlen
      injection h with h
      subst h
      have hu:∃ n' e',P.underlying f.type=some (.array n' e')/\a8 P f.type=some m:=by
       unfold qR at ha
       split at ha
       ·rename_i n' e' h1
        split at ha
        ·rename_i h3
         split at ha
         ·rename_i hm
          injection ha with ha
          injection ha with e1 e2
          subst e1
          exact ⟨n',e',h1,by rw [h3,hm]⟩
         ·cases ha
        ·cases ha
       ·cases ha
      obtain ⟨n',e',hu,hs⟩:=hu
      have hag:dd P f.type=some true:=by unfold dd;rw [hu]
      have pt:∀ zs:Array Value,(part f.type zs f.offset).run P w=.ok (.agg ((zs.toList.drop f.offset).take m).toArray) w:=by
       intro zs
       unfold part
       rw [aD _ _ w w true (mU hag)]
       simp only [if_true]
       rw [aD _ _ w w m (dS hs)]
       have:zs.extract f.offset (f.offset+m)=((zs.toList.drop f.offset).take m).toArray:=by
        apply Array.ext'
        simp [List.take_drop,Nat.add_comm]
       rw [this]
       rfl
      have p1:=pt xs
      have p2:=pt ys
      have p3:=Bw (P:=P) (w:=w) (n:=n) ha hlen hq
      have ih':=ih (fun f hf=>hn f (by simp [hf])) h4
      simp only [List.forIn_cons,hf,ne_eq,not_false_eq_true,if_true]
      cases q
      ·simp [Sem.run_bind,p1,p2,p3,Result.andThen]
      ·simp only [Sem.run_bind,p1,p2,p3,Result.andThen] at *
       simpa using ih'
     ·cases h
    ·cases h
   ·cases h
  ·cases h
theorem wy {t:TypeId} {m off:Nat} (hag:dd P t=some true) (hs:a8 P t=some m) (zs:Array Value):(part t zs off).run P w=.ok (.agg ((zs.toList.drop off).take m).toArray) w:=by
 unfold part
 rw [aD _ _ w w true (mU hag)]
 simp only [if_true]
 rw [aD _ _ w w m (dS hs)]
 have:zs.extract off (off+m)=((zs.toList.drop off).take m).toArray:=by
  apply Array.ext'
  simp [List.take_drop,Nat.add_comm]
 rw [this]
 rfl
theorem qhG {f:Field} {xs ys:Array Value} {q:Bool} (h:hH P [f] xs.toList ys.toList=some q):∃ a b,(part f.type xs f.offset).run P w=.ok a w/\(part f.type ys f.offset).run P w=.ok b w/\∀ n,(Op.equalIn (n+2) f.type a b).run P w=.ok q w:=by
 unfold hH at h
 split at h
 ·rename_i kk k a k' b r' h1 h2 h3 h4
  split at h
  ·rename_i hk
   subst hk
   injection h with h
   subst h
   simp [hH] at h4
   subst h4
   refine ⟨_,_,fp (P:=P) (w:=w) (t:=f.type) (cs:=xs) (off:=f.offset) h1 ⟨by simp,by simp⟩ (by simpa using h2),fp (P:=P) (w:=w) (t:=f.type) (cs:=ys) (off:=f.offset) h1 ⟨by simp,by simp⟩ (by simpa using h3),fun n=>?_⟩
   rw [Bx (P:=P) (w:=w) (n:=n+1) (k:=k) (a:=a) (b:=b) h1,Bool.and_true]
  ·cases h
 ·rename_i a b r' h1 h2 h3 h4
  injection h with h
  subst h
  simp [hH] at h4
  subst h4
  refine ⟨_,_,fp (P:=P) (w:=w) (t:=f.type) (cs:=xs) (off:=f.offset) h1 ⟨by simp,by simp⟩ (by simpa using h2),fp (P:=P) (w:=w) (t:=f.type) (cs:=ys) (off:=f.offset) h1 ⟨by simp,by simp⟩ (by simpa using h3),fun n=>?_⟩
  rw [By (P:=P) (w:=w) (n:=n+1) (a:=a) (b:=b) h1,Bool.and_true]
 ·rename_i a b r' h1 h2 h3 h4
  injection h with h
  subst h
  simp [hH] at h4
  subst h4
  refine ⟨_,_,fp (P:=P) (w:=w) (t:=f.type) (cs:=xs) (off:=f.offset) h1 ⟨by simp,by simp⟩ (by simpa using h2),fp (P:=P) (w:=w) (t:=f.type) (cs:=ys) (off:=f.offset) h1 ⟨by simp,by simp⟩ (by simpa using h3),fun n=>?_⟩
  rw [Lv (P:=P) (w:=w) (n:=n+1) (a:=a) (b:=b) h1,Bool.and_true]
 ·rename_i r' h4 _ _ _
  split at h
  ·rename_i m e ha
   split at h
   ·rename_i q' hq
    split at h
    ·rename_i hlen
     injection h with h
     subst h
     simp [hH] at h4
     subst h4
     have hu:∃ n' e',P.underlying f.type=some (.array n' e')/\a8 P f.type=some m:=by
      unfold qR at ha
      split at ha
      ·rename_i n' e' h1
       split at ha
       ·rename_i h3
        split at ha
        ·rename_i hm
         injection ha with ha
         injection ha with e1 e2
         subst e1
         exact ⟨n',e',h1,by rw [h3,hm]⟩
        ·cases ha
       ·cases ha
      ·cases ha
     obtain ⟨n',e',hu,hs⟩:=hu
     have hag:dd P f.type=some true:=by unfold dd;rw [hu]
     refine ⟨_,_,wy hag hs xs,wy hag hs ys,fun n=>?_⟩
     rw [Bw (P:=P) (w:=w) (n:=n) ha hlen hq,Bool.and_true]
    ·cases h
   ·cases h
  ·cases h
 ·cases h
theorem Vq {n : Nat} {t : TypeId} {fs : Array Field} {xs ys : Array Value} (hu : P.underlying t = some (.struct fs)) (hs : P.stoodInHeld t = false) (hn : ∀ f ∈ fs.toList, f.name ≠ "_") {r : Bool}
  (h:nE P fs.toList xs.toList ys.toList=some r):(Op.equalIn (n+4) t (.agg xs) (.agg ys)).run P w=.ok r w:=by
 unfold Op.equalIn
 rw [aD _ _ w w _ (run_underlying hu w)]
 simp only []
 rw [aD program _ w w P rfl]
 simp only [hs,Bool.false_eq_true,if_false]
 rw [<- Array.forIn_toList]
 generalize fs.toList=l at *
 clear hu hs
 induction l generalizing r with
 | nil =>
  simp [nE] at h
  subst h
  simp
 | cons f l ih =>
  have hf : f.name ≠ "_" := hn f (by simp)
  obtain ⟨q,r',a,b,p1,p2,p3,h4,hr⟩:∃ (q r':Bool) (a b:Value),(part f.type xs f.offset).run P w=.ok a w/\(part f.type ys f.offset).run P w=.ok b w/\(Op.equalIn (n+3) f.type a b).run P w=.ok q w/\nE P l xs.toList ys.toList=some r'/\r=(q&&r'):=by
   unfold nE at h
   split at h
   ·rename_i gs hg
    split at h
    ·rename_i m r' hm h4
     split at h
     ·rename_i q hq
      split at h
      ·rename_i hc
       injection h with h
       have hag:dd P f.type=some true:=by unfold dd;rw [hg]
       exact ⟨q,r',_,_,wy hag hm xs,wy hag hm ys,Lu (n:=n) hg hc.1 (fun g hgm=>by simpa using List.all_eq_true.1 hc.2 g hgm) (by simpa using hq),h4,h.symm⟩
      ·cases h
     ·cases h
    ·cases h
   ·split at h
    ·rename_i q r' hq h4
     injection h with h
     obtain ⟨a,b,p1,p2,p3⟩:=qhG (w:=w) hq
     exact ⟨q,r',a,b,p1,p2,p3 (n+1),h4,h.symm⟩
    ·cases h
  have ih':=ih (fun f hf=>hn f (by simp [hf])) h4
  subst hr
  simp only [List.forIn_cons,hf,ne_eq,not_false_eq_true,if_true]
  cases q
  ·simp [Sem.run_bind,p1,p2,p3,Result.andThen]
  ·simp only [Sem.run_bind,p1,p2,p3,Result.andThen] at *
   simpa using ih'
theorem O5 {good:List TypeId} (hg:good.all (kc P)=true) (t:TypeId) (xs ys:List Value) (r:Bool) (h:yM P good t xs ys=some r) (w:World) (op:BinOp) (x y:Operand) (hop:op=.eql\/op=.neq) :
  (eqGuard op t x y (.agg xs.toArray) (.agg ys.toArray)).run P w=.ok () w/\(Op.equal t (.agg xs.toArray) (.agg ys.toArray)).run P w=.ok r w:=by
 unfold yM at h
 split at h
 ·rename_i fs hc hu
  have ht:kc P t=true:=List.all_eq_true.1 hg t (by simpa using hc)
  unfold kc at ht
  simp only [hu,Bool.and_eq_true,Bool.not_eq_true',List.all_eq_true] at ht
  refine ⟨?_,?_⟩
  ·rcases hop with rfl|rfl<;>simp [eqGuard,program,Sem.run,ht.1.2]
  ·unfold Op.equal Op.maxDepth
   split at h
   ·rename_i r' hr
    injection h with h
    subst h
    exact Lu (n:=9997) hu ht.1.1 (fun f hf=>by simpa using ht.2 f hf) (by simpa using hr)
   ·exact Vq (n:=9996) hu ht.1.1 (fun f hf=>by simpa using ht.2 f hf) (by simpa using h)
 ·rename_i hc hu
  have ht:kc P t=true:=List.all_eq_true.1 hg t (by simpa using hc)
  unfold kc at ht
  simp only [hu,Bool.and_eq_true,Bool.not_eq_true'] at ht
  split at h
  ·rename_i m e hm
   split at h
   ·rename_i hl
    refine ⟨?_,?_⟩
    ·rcases hop with rfl|rfl<;>simp [eqGuard,program,Sem.run,ht.1.2]
    ·unfold Op.equal Op.maxDepth
     exact Vr (n:=9998) hm hl h
   ·cases h
  ·cases h
 ·cases h
end
section
variable {R:Type} (Γ:Orc) (P:Program)
def an (Λ:aV) (cut:St->St) (body:Code):Nat->St->(Ex->St->Option R)->Option R
 | 0,_,_=>none
 | n+1,st,k=>ev Γ Λ P body st (fun e st'=>match e with
  | .normal=>oc Γ.conc (cut st') (fun st'=>an Λ cut body n st' k)
  | .exit id=>k (.exit id) st'
  | .ret=>k .ret st')
def dV (n:Nat):Nat->aV
 | 0=>fun _ _=>none
 | d+1=>fun body st=>match an Γ P (dV n d) id body n st (fun e st'=>some (e,st')) with
  | some (e,st')=>some (true,.leaf e st')
  | none=>none
end
section
variable {R:Type} {Γ:Orc} {P:Program} {w0:Base}
theorem yK (hΓ:Γ.Ok P) (hm:P.follows .mixedOrders=true) {Λ:aV} {body:Code} (hL:∀ b∈aF body,aS Λ P w0 b) {cut:St->St} (hcut:∀ st a w,a9 P cv w0 st a w->a9 P cv w0 (cut st) a w)
  {k:Ex->St->Option R} {r:R} {Q:Exit->Act->World->Prop} (hQ:∀ e st',e≠.normal->k e st'=some r->∀ a w,a9 P cv w0 st' a w->Q e.out a w):∀ (n:Nat) (st:St) (a:Act) (w:World),
  an Γ P Λ cut body n st k=some r->a9 P cv w0 st a w->Code.rounds P body Q n a w
 | 0,st,a,w,h,hR=>by simp [an] at h
 | n+1,st,a,w,h,hR=>by
  simp only [an] at h
  rw [rounds_succ]
  refine kb hΓ hm body hL st _ r _ a w h hR ?_
  intro e st' hk a' w' hR'
  cases e with
  | normal =>
   rw [qq] at hk
   exact yK hΓ hm hL hcut hQ n (cut st') a' w' hk (hcut _ _ _ hR')
  | exit id=>exact hQ (.exit id) st' (by simp) hk a' w' hR'
  | ret=>exact hQ .ret st' (by simp) hk a' w' hR'
theorem eY (hΓ:Γ.Ok P) (hm:P.follows .mixedOrders=true) (n:Nat):∀ (d:Nat) (body:Code),aS (dV Γ P n d) P w0 body
 | 0,body=>fun st t h=>by simp [dV] at h
 | d+1,body=>fun st t h a w hR=>by
  simp only [dV] at h
  split at h
  case h_2=>cases h
  rename_i e2 st2 h0
  injection h with h
  injection h with _ h
  subst h
  have h:=h0
  refine wp_loop_rounds n (yK hΓ hm (fun b _=>eY hΓ hm n d b) (fun _ _ _ h=>h) (r:=(e2,st2)) ?_ n st a w h hR)
  intro e1 st1 _ hk a' w' hR'
  injection hk with hk
  injection hk with h1 h2
  subst h1 h2
  exact ⟨rfl,hR'⟩
theorem ot {f : FuncId} {fn : Func} {vs : List Value} (hf : P.funcs[f]? = some fn) (hb : fn.body.isSome = true) (hn : fn.name ≠ "runtime.NumGoroutine") (w : World) : (callFunc f vs.toArray).run P w = .ok (.enter f vs.toArray) w := by
 unfold callFunc
 rw [aD program _ w w P rfl]
 simp only [hf]
 have : (fn.name == "runtime.NumGoroutine") = false := by simpa using hn
 simp only [this,Bool.false_eq_true,if_false]
 cases hb':fn.body with
 | none=>simp [hb'] at hb
 | some c=>rfl
def pO (P : Program) : Bool := P.funcs.toList.all fun fn => fn.body.isNone || fn.name != "runtime.NumGoroutine"
theorem nF (h : pO P = true) {f : FuncId} {fn : Func} (hf : P.funcs[f]? = some fn) (hb : fn.body.isSome = true) : fn.name ≠ "runtime.NumGoroutine" := by
 have:=List.all_eq_true.1 h fn (by
  rw [Array.mem_toList_iff]
  exact Array.mem_of_getElem? hf)
 cases hb':fn.body with
 | none=>simp [hb'] at hb
 | some c=>simpa [hb'] using this
theorem Hp (hΓ:Γ.Ok P) (hm:P.follows .mixedOrders=true) (hN:pO P=true) {Λ:aV} {f:FuncId} {fn:Func} {c:Code} (hf:P.funcs[f]?=some fn) (hb:fn.body=some c) {as:List SV} {m m':Mem} {r:SV}
  (hL:∀ z,z.L.length=m.blk.length->z.U.length=m.rows.length->∀ b∈aF c,aS Λ P z b) (h:runG Γ Λ P fn as m=some (r,m')):bB P f as m r m':=fun z _ vs hl hM hA =>
 .inr ⟨ot hf (by simp [hb]) (nF hN hf (by simp [hb])) z.w,LA hΓ hm hf hb h hl hM hA (hL z hl.bl hl.ul)⟩
theorem Hn (P:Program) {f:FuncId} {vs:List Value} {r:Value} (h:∀ w,(callFunc f vs.toArray).run P w=.ok (.value r) w\/((callFunc f vs.toArray).run P w=.ok (.enter f vs.toArray) w/\Calls P f vs.toArray w (fun e w'=>e=.returned r/\Kp w w'))) (m:Mem):bB P f (vs.map .v) m (.v r) m:=by
 intro z V us hl hM hA
 have hu:us=vs:=by
  clear h
  induction vs generalizing us with
  | nil=>cases us with
   | nil=>rfl
   | cons _ _=>exact hA.elim
  | cons x vs ih=>cases us with
   | nil=>exact hA.elim
   | cons u us =>
    have h1:u=x:=hA.1
    rw [h1,ih _ hA.2]
 subst hu
 rcases h z.w with h|⟨h1,h2⟩
 ·exact .inl ⟨r,z.w,h,V,rfl,hM⟩
 ·refine .inr ⟨h1,h2.mono fun e w' ⟨he,hk⟩=>⟨r,he,V,rfl,?_⟩⟩
  exact Rel.below' hM hk
def zq:List SV->Option (List Value)
 | []=>some []
 | .v x::r=>match zq r with|some l=>some (x::l)|none=>none
 | _::_=>none
theorem Qd:∀ {as:List SV} {l:List Value},zq as=some l->as=l.map .v
 | [],l,h=>by injection h with h;subst h;rfl
 | x::r,l,h=>by
  unfold zq at h
  split at h
  ·cases ‹x::r=[]›
  ·rename_i y r' heq
   injection heq with e1 e2
   subst e1 e2
   split at h
   ·rename_i l' hl
    injection h with h
    subst h
    rw [Qd hl];rfl
   ·cases h
  ·cases h
def rR (t:FuncId->List Value->Option (Bool×Value)):FuncId->List SV->Mem->Option (Bool×Value):=fun f as _ =>
 match zq as with
 | some l=>t f l
 | none=>none
theorem Ub {t:FuncId->List Value->Option (Bool×Value)} (h:∀ f vs r,t f vs=some (true,r)->∀ m,bB P f (vs.map .v) m (.v r) m):∀ f as m r,rR t f as m=some (true,r)->bB P f as m (.v r) m:=by
 intro f as m r hr
 unfold rR at hr
 split at hr
 ·rename_i l hl
  rw [Qd hl]
  exact h f l r hr m
 ·cases hr
def qt (P:Program) (ext:FuncId->List SV->Mem->Option (Bool×SV×Mem)) (rd:FuncId->List SV->Mem->Option (Bool×Value)) (eqv:TypeId->List Value->List Value->Option Bool) (wr:FuncId->Bool) (n:Nat):Nat->Orc
 | 0=>{ call:=ext,eqv:=eqv,conc:=true,rd:=rd,wr:=wr }
 | d + 1 => { call := (fun f as m => match ext f as m with
     | some r=>some r
     | none=>match P.funcs[f]? with
       | some fn=>match runG (qt P ext rd eqv wr n d) (dV (qt P ext rd eqv wr n d) P n 2) P fn as m with
         | some (r,m')=>some (true,r,m')
         | none=>none
       | none=>none),eqv:=eqv,conc:=true,rd:=rd,wr:=wr }
theorem G1 (hm:P.follows .mixedOrders=true) (hN:pO P=true) {ext:FuncId->List SV->Mem->Option (Bool×SV×Mem)} {rd:FuncId->List SV->Mem->Option (Bool×Value)} {eqv:TypeId->List Value->List Value->Option Bool} {wr:FuncId->Bool} (h0:Orc.Ok { call:=ext,eqv:=eqv,conc:=true,rd:=rd,wr:=wr } P) (n:Nat):∀ d,(qt P ext rd eqv wr n d).Ok P
 | 0=>h0
 | d+1=>by
  have ih:=G1 hm hN h0 n d
  refine ⟨fun f as m r m' h=>?_,h0.rd,h0.eqv⟩
  simp only [qt] at h
  split at h
  ·rename_i q hq
   injection h with h
   subst h
   exact h0.call f as m r m' hq
  ·split at h
   ·rename_i fn hf
    split at h
    ·rename_i r' m1 hv
     injection h with h
     injection h with _ h
     injection h with e1 e2
     subst e1 e2
     cases hb:fn.body with
     | none=>simp [runG,hb] at hv
     | some c=>exact Hp ih hm hN hf hb (fun z _ _ b _=>eY ih hm n 2 b) hv
    ·cases h
   ·cases h
end
def hZ (get:Nat->Option SV):List Bool->Nat->List SV
 | [],_=>[]
 | f::r,i=>match get i with
  | some x=>(match f with|true=>x|false=>.poison)::hZ get r (i+1)
  | none=>[]
def ch (c:Code) (n:Nat):Code:=((aF c)[n]?).getD .skip
end Go.Sx
namespace Go.Sx
open Go.RowKit
def ux (q:List Nat×List Nat) (x:SV):List Nat×List Nat :=
 match x with
 | .rp r _ _ _=>(q.1,fh q.2 r)
 | .part r _ _ _=>(q.1,fh q.2 r)
 | .el l _ _ _=>(fh q.1 l,q.2)
 | x=>zt q x
def nu (ls rs:List Nat) (x:SV):Option SV :=
 match x with
 | .rp r n i j=>match dN rs r 0 with
  | some k=>some (.rp k n i j)
  | none=>none
 | .part r n i j=>match dN rs r 0 with
  | some k=>some (.part k n i j)
  | none=>none
 | .el l o n i=>match dN ls l 0 with
  | some k=>some (.el k o n i)
  | none=>none
 | .poison=>some .poison
 | x=>sg ls rs x
def f8:List Bool->List SV->List SV
 | true::k,x::l=>x::f8 k l
 | false::k,_::l=>f8 k l
 | _,_=>[]
def j8:List Bool->List SV->List SV
 | true::k,x::l=>x::j8 k l
 | false::k,l=>.poison::j8 k l
 | _,_=>[]
def mk (keep:List Bool) (vals:List SV) (m:Mem):St:=⟨Tr.ofList (j8 keep vals),m⟩
def uX (n m:Nat) (keep:List Bool) (st:St):Option (List SV×Mem) :=
 match Nat.beq (hZ st.tmps.get keep 0).length keep.length with
 | true=>match iZ st.mem.blk (st.mem.blk.length+1) 0 ((f8 keep (hZ st.tmps.get keep 0)).foldl ux (List.range n,List.range m)) with
  | some (ls,rs)=>match cH (nu ls rs) (f8 keep (hZ st.tmps.get keep 0)),cH (pf st.mem.blk ls rs) ls,cH (Ci st.mem.rows) rs with
   | some vals,some b,some rows=>some (vals,⟨b,b.map fun _=>true,rows⟩)
   | _,_,_=>none
  | none=>none
 | false=>none
def ac (n m:Nat) (keep:List Bool) (st:St):St :=
 match uX n m keep st with
 | some (vals,mm)=>mk keep vals mm
 | none=>st
def cJ (n m:Nat) (keep:List Bool) (G:List SV->Mem->Option (Bool×Ex×St)) (st:St):Option (Bool×LT) :=
 match uX n m keep st with
 | some (vals,mm)=>match G vals mm with
  | some (g,e,st')=>some (g,.leaf e st')
  | none=>none
 | none=>none
def fW (n m:Nat) (keep:List Bool) (G:List SV->Mem->Option (Bool×LT)) (st:St):Option (Bool×LT) :=
 match uX n m keep st with
 | some (vals,mm)=>G vals mm
 | none=>none
theorem wq (get:Nat->Option SV) {f:SV->Option SV}:∀ (keep:List Bool) (i:Nat) (vals:List SV),(hZ get keep i).length=keep.length->cH f (f8 keep (hZ get keep i))=some vals ->
  ∀ (t:Nat) x,(j8 keep vals)[t]?=some x->(get (i+t)).isSome=true/\(x=.poison\/∃ s,get (i+t)=some s/\f s=some x/\s∈f8 keep (hZ get keep i))
 | [],_,vals,_,_,t,x,hx=>by cases vals<;>simp [j8] at hx
 | b::k,i,vals,hl,hm,t,x,hx=>by
  unfold hZ at hl hm ⊢
  cases hg:get i with
  | none=>simp [hg] at hl
  | some s =>
   simp only [hg,List.length_cons,Nat.add_right_cancel_iff] at hl hm ⊢
   cases b with
   | true =>
    simp only [f8] at hm ⊢
    unfold cH at hm
    split at hm
    ·rename_i y r hy hr
     injection hm with hm
     subst hm
     cases t with
     | zero =>
      simp [j8] at hx
      subst hx
      exact ⟨by simp [hg],.inr ⟨s,by simpa using hg,hy,by simp⟩⟩
     | succ t =>
      obtain ⟨h1,h2⟩:=wq get k (i+1) r hl hr t x (by simpa [j8] using hx)
      rw [show i+1+t=i+(t+1) by omega] at h1 h2
      refine ⟨h1,h2.imp id ?_⟩
      rintro ⟨s',e1,e2,e3⟩
      exact ⟨s',e1,e2,List.mem_cons_of_mem _ e3⟩
    ·cases hm
   | false =>
    simp only [f8] at hm ⊢
    cases t with
    | zero =>
     have:x=.poison:=by cases vals<;>simpa [j8] using hx.symm
     exact ⟨by simp [hg],.inl this⟩
    | succ t =>
     have hx':(j8 k vals)[t]?=some x:=by cases vals<;>simpa [j8] using hx
     obtain ⟨h1,h2⟩:=wq get k (i+1) vals hl hm t x hx'
     rw [show i+1+t=i+(t+1) by omega] at h1 h2
     exact ⟨h1,h2⟩
theorem BW (get:Nat->Option SV):∀ (keep:List Bool) (i:Nat) (s:SV),s∈f8 keep (hZ get keep i)->∃ t,get t=some s
 | [],_,s,h=>by simp [f8] at h
 | b::k,i,s,h=>by
  unfold hZ at h
  cases hg:get i with
  | none=>rw [hg] at h;cases b<;>simp [f8] at h
  | some x =>
   simp only [hg] at h
   cases b with
   | true =>
    simp only [f8,List.mem_cons] at h
    rcases h with rfl|h
    ·exact ⟨i,hg⟩
    ·exact BW get k (i+1) s h
   | false =>
    simp only [f8] at h
    exact BW get k (i+1) s h
section
variable {Γ:Orc} {P:Program} {w0:Base} {V:Vl}
theorem qjv {q:List Nat×List Nat} (h:Good (fun l=>V.b l≠none) (fun r=>V.r r≠none) q) {x:SV} {y:Value} (hx:aI V x y):Good (fun l=>V.b l≠none) (fun r=>V.r r≠none) (ux q x):=by
 cases x with
 | rp r n i j=>exact lB h (x:=.row r) hx.1
 | part r n i j=>exact lB h (x:=.row r) hx.1
 | el l o n i =>
  obtain ⟨b,o',h1,_⟩:=hx
  exact lB h (x:=.ptr l 0) (by simp [nB,h1])
 | _=>exact Qn h hx
theorem qju (q:List Nat×List Nat) (x:SV):Pre q (ux q x):=by
 cases x with
 | rp r n i j=>exact lA q (.row r)
 | part r n i j=>exact lA q (.row r)
 | el l o n i=>exact lA q (.ptr l 0)
 | v x=>exact oO q (.v x)
 | ptr l o=>exact oO q (.ptr l o)
 | row r=>exact oO q (.row r)
 | clo f l o=>exact oO q (.clo f l o)
 | ag cs=>exact oO q (.ag cs)
 | tup cs=>exact oO q (.tup cs)
 | lit cs n=>exact .refl q
 | nul=>exact .refl q
 | poison=>exact .refl q
theorem OE:∀ (xs:List SV) (q:List Nat×List Nat),Pre q (xs.foldl ux q)
 | [],q=>.refl q
 | x::xs,q=>(qju q x).trans (OE xs _)
theorem OF:∀ (xs:List SV) {q:List Nat×List Nat},Good (fun l=>V.b l≠none) (fun r=>V.r r≠none) q->(∀ x∈xs,∃ y,aI V x y)->Good (fun l=>V.b l≠none) (fun r=>V.r r≠none) (xs.foldl ux q)
 | [],_,h,_=>h
 | x::xs,_,h,hx=>by
  obtain ⟨y,hy⟩:=hx x (by simp)
  exact OF xs (qjv h hy) fun u hu=>hx u (by simp [hu])
theorem qaG {ls rs:List Nat} {x x':SV} {y:Value} (h:nu ls rs x=some x') (hd:aI V x y):aI (V.sub ls rs) x' y:=by
 cases x with
 | rp r n i j =>
  simp only [nu] at h
  split at h
  ·rename_i k hk
   injection h with h
   subst h
   obtain ⟨d,rfl,h1⟩:=jg _ _ _ _ hk
   simpa [aI,Vl.sub,h1] using hd
  ·cases h
 | part r n i j =>
  simp only [nu] at h
  split at h
  ·rename_i k hk
   injection h with h
   subst h
   obtain ⟨d,rfl,h1⟩:=jg _ _ _ _ hk
   simpa [aI,Vl.sub,h1] using hd
  ·cases h
 | el l o n i =>
  simp only [nu] at h
  split at h
  ·rename_i k hk
   injection h with h
   subst h
   obtain ⟨d,rfl,h1⟩:=jg _ _ _ _ hk
   obtain ⟨b,o',h2,h3⟩:=hd
   exact ⟨b,o',by simp [Vl.sub,h1,h2],h3⟩
  ·cases h
 | poison=>simp [nu] at h;subst h;trivial
 | _=>exact LQ (by simpa [nu] using h) hd
theorem lm {n m:Nat} (hn:w0.L.length=n) (hm:w0.U.length=m) {keep:List Bool} {st:St} {a:Act} {w:World} (h:a9 P cv w0 st a w):a9 P cv w0 (ac n m keep st) a w:=by
 subst hn hm
 unfold ac
 split
 case h_2=>exact h
 rename_i vals mm hv
 obtain ⟨V,hR,_⟩:=h
 unfold uX at hv
 split at hv
 case h_2=>cases hv
 rename_i hlen
 have hlen:(hZ st.tmps.get keep 0).length=keep.length:=Nat.eq_of_beq_eq_true hlen
 split at hv
 case h_2=>cases hv
 rename_i ls rs hre
 split at hv
 case h_2=>cases hv
 rename_i vals' b rows hvals hb hrows
 injection hv with hv
 injection hv with e1 e2
 subst e1 e2
 have hden:∀ x∈f8 keep (hZ st.tmps.get keep 0),∃ y,aI V x y:=by
  intro x hx
  obtain ⟨t,ht⟩:=BW _ _ _ _ hx
  have hlt:=hR.len t x ht
  exact ⟨a.tmps[t],hR.tmps t x ht _ (by simp [hlt])⟩
 have hM:=dz.of hR
 have g1:=LW hM (OF _ (Ny hM) hden) hre
 have hp:=(OE (f8 keep (hZ st.tmps.get keep 0)) (List.range w0.L.length,List.range w0.U.length)).trans (BO _ _ _ _ hre)
 have hM':=KP hM g1 (fun i hi=>hp.b i i (by simp [hi])) (fun i hi=>hp.r i i (by simp [hi])) hb hrows
 refine ⟨V.keep ls rs,{ hM' with len:=fun t x hx=>?_,tmps:=fun t x hx y hy=>?_,defers:=hR.defers },fun _ _ _ hm=>by cases hm⟩
 ·simp only [mk,Tr.get_ofList] at hx
  obtain ⟨h1,_⟩:=wq _ _ _ _ hlen hvals t x hx
  rw [Nat.zero_add] at h1
  obtain ⟨s,hs⟩:=Option.isSome_iff_exists.1 h1
  exact hR.len t s hs
 ·simp only [mk,Tr.get_ofList] at hx
  obtain ⟨_,rfl|⟨s,h1,h2,_⟩⟩:=wq _ _ _ _ hlen hvals t x hx
  ·trivial
  ·rw [Nat.zero_add] at h1
   exact (qaG h2 (hR.tmps t s h1 y hy)).mono Bg
theorem du (hΓ:Γ.Ok P) (hm:P.follows .mixedOrders=true) {Λ Λ':aV} {body:Code} {n m:Nat} (hn:w0.L.length=n) (hm':w0.U.length=m) {keep:List Bool} {kx:Ex->List Bool} (hL:∀ b∈aF body,aS Λ P w0 b) {G:List SV->Mem->Option (Bool×Ex×St)} (hF:∀ st,Λ' body st=cJ n m keep G st)
  (h:∀ vals mm e st',G vals mm=some (true,e,st')->∃ k,an (R:=Ex×St) Γ P Λ (ac n m keep) body k (mk keep vals mm) (fun e st=>some (e,ac n m (kx e) st))=some (e,st')):aS Λ' P w0 body:=by
 intro st t hs a w hR
 rw [hF] at hs
 unfold cJ at hs
 split at hs
 ·rename_i vals mm hv
  split at hs
  case h_2=>cases hs
  rename_i g e st' hG
  injection hs with hs
  injection hs with h1 h2
  subst h1 h2
  obtain ⟨k,hk⟩:=h vals mm e st' hG
  have hc:=lm hn hm' (keep:=keep) hR
  unfold ac at hc
  rw [hv] at hc
  refine wp_loop_rounds k (yK hΓ hm hL (fun _ _ _ h=>lm hn hm' h) (r:=(e,st')) ?_ k _ a w hk hc)
  intro e1 st1 _ hk a' w' hR'
  injection hk with hk
  injection hk with h1 h2
  subst h1 h2
  exact ⟨rfl,lm hn hm' hR'⟩
 ·cases hs
theorem gV (hΓ:Γ.Ok P) (hm:P.follows .mixedOrders=true) {Λ Λ':aV} {body:Code} {n m:Nat} (hn:w0.L.length=n) (hm':w0.U.length=m) {keep:List Bool} {kx:Ex->List Bool} (hL:∀ b∈aF body,aS Λ P w0 b) {G:List SV->Mem->Option (Bool×LT)} (hF:∀ st,Λ' body st=fW n m keep G st)
  (h:∀ vals mm t,G vals mm=some (true,t)->∃ k,an (R:=Ex×St) Γ P Λ (ac n m keep) body k (mk keep vals mm) (fun e st=>some (e,ac n m (kx e) st))=some t.pick):aS Λ' P w0 body:=by
 intro st t hs a w hR
 rw [hF] at hs
 unfold fW at hs
 split at hs
 ·rename_i vals mm hv
  obtain ⟨k,hk⟩:=h vals mm t hs
  have hc:=lm hn hm' (keep:=keep) hR
  unfold ac at hc
  rw [hv] at hc
  refine wp_loop_rounds k (yK hΓ hm hL (fun _ _ _ h=>lm hn hm' h) (r:=t.pick) ?_ k _ a w hk hc)
  intro e1 st1 _ hk a' w' hR'
  injection hk with hk
  rw [<- hk]
  exact ⟨rfl,lm hn hm' hR'⟩
 ·cases hs
end
def aB (n:Nat) (l:List Nat):List Bool:=(List.range n).map fun i=>l.contains i
end Go.Sx
namespace Go.Sx
open Go.RowKit
section
variable {H:Type} {enc:TypeId×Value->H} {P:Program}
def szOk (P:Program):Bool:=(List.range P.types.size).all fun t=>match P.underlying t with
 | some (.slice e)=>Nat.blt 0 (P.cellsOf e)
 | _=>true
theorem stayAll (hl:laidOutB P=true) (hm:mapsRowed P=true) (hz:szOk P=true) {W W':World} {sp:Nat->Bool}:∀ {ts:List TypeId} {vs:List Value} {ds:List (DataW H)} {p:List MemPlace},(∀ t∈ts,t<P.types.size) ->
  DataW.TrodAll enc P W 0 (fun _=>true) true ts vs ds p->(∀ q∈p,W.sameAt W' q)->(∀ q∈p,sp q.block=true)->DataW.TrodAll enc P W' 0 sp true ts vs ds p
 | [],[],[],p,_,h,_,_=>h
 | t::ts,v::vs,d::ds,p,hT,h,hs,hb=>by
  obtain ⟨q,r,⟨n,h1⟩,h2,rfl⟩:=h
  have hz':∀ {t e:TypeId},t<P.types.size->P.underlying t=some (.slice e)->0<P.cellsOf e:=fun {t e} ht hu=>by
   have:=List.all_eq_true.1 hz t (List.mem_range.2 ht)
   rw [hu] at this
   exact Nat.lt_of_lt_of_le (by decide:0<1) (Nat.le_of_ble_eq_true this)
  refine ⟨q,r,⟨n,DataW.trod_stays (T:=(·<P.types.size)) (kids_rows hl hm) hz' (fun h=>by cases h) (hT t (by simp)) h1 (fun x hx=>hs x (List.mem_append_left _ hx)) (fun x hx=>hb x (List.mem_append_left _ hx))⟩,?_,rfl⟩
  exact stayAll hl hm hz (fun t ht=>hT t (List.mem_cons_of_mem _ ht)) h2 (fun x hx=>hs x (List.mem_append_right _ hx)) (fun x hx=>hb x (List.mem_append_right _ hx))
 | [],[],_::_,_,_,h,_,_=>h.elim
 | [],_::_,_,_,_,h,_,_=>h.elim
 | _::_,[],_,_,_,h,_,_=>h.elim
 | _::_,_::_,[],_,_,h,_,_=>h.elim
inductive In0 where
 | v (x:Value)
 | row (e:TypeId) (ks:List CK) (L:List (List Dat))
inductive In where
 | v (x:Value)
 | row (e:TypeId) (ks:List CK) (L:List (List Dat))
 | ag (cs:List In0)
def RowIn (w:World) (ks:List CK) (L:List (List Dat)) (y:Value):Prop:=∃ L0,aW (·<w.heap.size) w ks L L0/\bO (·<w.heap.size) w ks L0 y
theorem RowIn.plain {w:World} {ks:List CK} {L:List (List Dat)} {y:Value} (hp:eW ks=true) (h:bO (·<w.heap.size) w ks L y):RowIn w ks L y:=⟨L,aW.refl hp,h⟩
def nZ:List In0->List RowS
 | []=>[]
 | .v _::r=>nZ r
 | .row e ks L::r=>.live ⟨e,ks,L,false,false⟩::nZ r
def xv:List In0->Nat->List SA
 | [],_=>[]
 | .v x::r,n=>.v x::xv r n
 | .row _ _ _::r,n=>.row n::xv r (n+1)
def nY:List In0->List Value->List Value
 | .v _::r,_::s=>nY r s
 | .row _ _ _::r,y::s=>y::nY r s
 | _,_=>[]
def uL (w:World):List In0->List Value->Prop
 | [],[]=>True
 | .v x::r,y::s=>y=x/\uL w r s
 | .row _ ks L::r,y::s=>RowIn w ks L y/\uL w r s
 | _,_=>False
def inRows:List In->List RowS
 | []=>[]
 | .v _::r=>inRows r
 | .row e ks L::r=>.live ⟨e,ks,L,false,false⟩::inRows r
 | .ag cs::r=>nZ cs++inRows r
def inArgs:List In->Nat->List SV
 | [],_=>[]
 | .v x::r,n=>.v x::inArgs r n
 | .row _ _ _::r,n=>.row n::inArgs r (n+1)
 | .ag cs::r,n=>.ag (xv cs n)::inArgs r (n+(nZ cs).length)
def inMem (l:List In):Mem:=⟨[],[],inRows l⟩
def gY:List In->List Value->List Value
 | .v _::r,_::s=>gY r s
 | .row _ _ _::r,y::s=>y::gY r s
 | .ag cs::r,y::s=>nY cs y.cells.toList++gY r s
 | _,_=>[]
def InsOk (w:World):List In->List Value->Prop
 | [],[]=>True
 | .v x::r,y::s=>y=x/\InsOk w r s
 | .row _ ks L::r,y::s=>RowIn w ks L y/\InsOk w r s
 | .ag cs::r,y::s=>(∃ vs,y=.agg vs.toArray/\uL w cs vs)/\InsOk w r s
 | _,_=>False
theorem bO.slicy {K:Nat->Prop} {w:World} {ks:List CK} {L:List (List Dat)} {y:Value} (h:bO K w ks L y):Go.Sx.slicy y:=by
 rcases h with ⟨⟨_,rfl⟩,_⟩|⟨b,o,cap,rfl,_⟩<;>trivial
theorem RowIn.slicy {w:World} {ks:List CK} {L:List (List Dat)} {y:Value} (h:RowIn w ks L y):Go.Sx.slicy y:=by
 obtain ⟨_,_,h⟩:=h
 exact h.slicy
def iT (w:World) (rows:List RowS) (vals:List Value):Prop:=vals.length=rows.length/\∀ (i:Nat) rc,rowAt rows i=some rc->rc.own=false/\∃ u,vals[i]?=some u/\RowIn w rc.ks rc.L u
theorem iT.cons {w:World} {rows:List RowS} {vals:List Value} {rc:RowC} {u:Value} (ho:rc.own=false) (hu:RowIn w rc.ks rc.L u) (h:iT w rows vals):iT w (.live rc::rows) (u::vals):=by
 refine ⟨by simp [h.1],fun i rc' hi=>?_⟩
 cases i with
 | zero =>
  simp [rowAt] at hi
  subst hi
  exact ⟨ho,u,by simp,hu⟩
 | succ i=>exact h.2 i rc' (by simpa [rowAt] using hi)
theorem iT.append {w:World} {rows':List RowS} {vals':List Value} (h':iT w rows' vals') {rows:List RowS} {vals:List Value} (h:iT w rows vals):iT w (rows++rows') (vals++vals'):=by
 refine ⟨by simp [h.1,h'.1],fun i rc hi=>?_⟩
 by_cases hl:i<rows.length
 ·unfold rowAt at hi
  rw [List.getElem?_append_left hl] at hi
  obtain ⟨e1,u,e2,e3⟩:=h.2 i rc hi
  exact ⟨e1,u,by rw [List.getElem?_append_left (by rw [h.1];exact hl)];exact e2,e3⟩
 ·unfold rowAt at hi
  rw [List.getElem?_append_right (by omega)] at hi
  obtain ⟨e1,u,e2,e3⟩:=h'.2 (i - rows.length) rc hi
  exact ⟨e1,u,by rw [List.getElem?_append_right (by rw [h.1];omega),h.1];exact e2,e3⟩
theorem xu {w:World}:∀ {l:List In0} {vs:List Value},uL w l vs->iT w (nZ l) (nY l vs)
 | [],[],_=>⟨rfl,fun i rc h=>by simp [nZ,rowAt] at h⟩
 | .v _::r,_::s,h=>xu (l:=r) (vs:=s) h.2
 | .row e ks L::r,y::s,h=>iT.cons (rc:=⟨e,ks,L,false,false⟩) rfl h.1 (xu (l:=r) (vs:=s) h.2)
 | [],_::_,h=>h.elim
 | .v _::_,[],h=>h.elim
 | .row _ _ _::_,[],h=>h.elim
theorem xn {w:World}:∀ {l:List In} {vs:List Value},InsOk w l vs->iT w (inRows l) (gY l vs)
 | [],[],_=>⟨rfl,fun i rc h=>by simp [inRows,rowAt] at h⟩
 | .v _::r,_::s,h=>xn (l:=r) (vs:=s) h.2
 | .row e ks L::r,y::s,h=>iT.cons (rc:=⟨e,ks,L,false,false⟩) rfl h.1 (xn (l:=r) (vs:=s) h.2)
 | .ag cs::r,y::s,h=>by
  obtain ⟨⟨vs,rfl,h1⟩,h2⟩:=h
  exact iT.append (xn (l:=r) (vs:=s) h2) (xu (l:=cs) (by simpa [Value.cells] using h1))
 | [],_::_,h=>h.elim
 | .v _::_,[],h=>h.elim
 | .row _ _ _::_,[],h=>h.elim
 | .ag _::_,[],h=>h.elim
theorem LE {V:Vl} {n:Nat} {y:Value} (h0:V.r n=some (some y)) (hs:slicy y):V.r n≠none/\(∀ u,V.r n=some (some u)->y=u)/\slicy y :=
 ⟨by rw [h0];simp,fun u hu=>by rw [h0] at hu;injection hu with hu;injection hu,hs⟩
theorem CV {w:World} {V:Vl}:∀ {l:List In0} {vs:List Value} (n:Nat),uL w l vs->(∀ (i:Nat) u,(nY l vs)[i]?=some u->V.r (n+i)=some (some u))->aG (bq V) (xv l n) vs
 | [],[],_,_,_=>trivial
 | .v _::r,_::s,n,h,hv=>⟨h.1,CV (l:=r) (vs:=s) n h.2 hv⟩
 | .row e ks L::r,y::s,n,h,hv=>by
  have h0:=hv 0 y (by simp [nY])
  rw [Nat.add_zero] at h0
  refine ⟨LE h0 h.1.slicy,CV (l:=r) (vs:=s) (n+1) h.2 fun i u hi=>?_⟩
  have:=hv (i+1) u (by simpa [nY] using hi)
  rwa [show n+(i+1)=n+1+i by omega] at this
 | [],_::_,_,h,_=>h.elim
 | .v _::_,[],_,h,_=>h.elim
 | .row _ _ _::_,[],_,h,_=>h.elim
theorem xo {w:World} {V:Vl}:∀ {l:List In} {vs:List Value} (n:Nat),InsOk w l vs->(∀ (i:Nat) u,(gY l vs)[i]?=some u->V.r (n+i)=some (some u))->aG (aI V) (inArgs l n) vs
 | [],[],_,_,_=>trivial
 | .v _::r,_::s,n,h,hv=>⟨h.1,xo (l:=r) (vs:=s) n h.2 hv⟩
 | .row e ks L::r,y::s,n,h,hv=>by
  have h0:=hv 0 y (by simp [gY])
  rw [Nat.add_zero] at h0
  refine ⟨LE h0 h.1.slicy,xo (l:=r) (vs:=s) (n+1) h.2 fun i u hi=>?_⟩
  have:=hv (i+1) u (by simpa [gY] using hi)
  rwa [show n+(i+1)=n+1+i by omega] at this
 | .ag cs::r,y::s,n,h,hv=>by
  obtain ⟨⟨vs,rfl,h1⟩,h2⟩:=h
  have hc:(Value.agg vs.toArray).cells.toList=vs:=rfl
  have hl:=(xu h1).1
  simp only [gY,hc] at hv
  refine ⟨⟨vs,rfl,CV n h1 fun i u hi=>hv i u ?_⟩,xo (l:=r) (vs:=s) _ h2 fun i u hi=>?_⟩
  ·rw [List.getElem?_append_left (List.getElem?_eq_some_iff.1 hi).1]
   exact hi
  ·have:=hv ((nZ cs).length+i) u (by rw [List.getElem?_append_right (by omega),hl,Nat.add_sub_cancel_left];exact hi)
   rwa [<- Nat.add_assoc] at this
 | [],_::_,_,h,_=>h.elim
 | .v _::_,[],_,h,_=>h.elim
 | .row _ _ _::_,[],_,h,_=>h.elim
 | .ag _::_,[],_,h,_=>h.elim
theorem qdP {w:World} {l:List In} {vs:List Value} (h:InsOk w l vs):∃ (z:Base) (V:Vl),z.w=w/\z.L=[]/\z.R=[]/\Lent z (inMem l) V/\dz z (inMem l) V w/\aG (aI V) (inArgs l 0) vs:=by
 obtain ⟨h1,h2⟩:=xn h
 refine ⟨⟨w,[],gY l vs,[],(·<w.heap.size)⟩,⟨fun _=>none,fun i=>((gY l vs)[i]?).map some,fun _=>none⟩,rfl,rfl,rfl,?_,?_,xo 0 h fun i u hi=>by simp [hi]⟩
 ·exact {
    bl:=rfl
    b:=fun i=>by simp
    ul:=h1
    u:=fun j u hu=>by simp [show (gY l vs)[j]?=some u from hu]
    rl:=fun g=>by
      refine ⟨fun hg=>by simp at hg,?_⟩
      rintro ⟨j,rc,u,e1,e2,_⟩
      rw [(h2 j rc e1).1] at e2
      cases e2 }
 ·exact {
    len:=fun t x hx=>by cases hx
    tmps:=fun t x hx=>by cases hx
    defers:=rfl
    lens:=rfl
    mem:=fun l b o hl=>by cases hl
    inj:=fun l l' b o b' o' hl=>by cases hl
    own:=fun l b o hl=>by cases hl
    lent:=fun l q hq=>by simp at hq
    base0:=fun l b o hl=>by cases hl
    dom:=fun l hl=>absurd rfl hl
    lentr:=fun j u hu=>.inl (by simp [show (gY l vs)[j]?=some u from hu])
    rows:=fun r rc hr=>by
      obtain ⟨e1,u,e2,e3⟩:=h2 r rc hr
      refine ⟨u,by simp [e2],?_⟩
      obtain ⟨L0,f1,f2⟩:=e3
      exact ⟨L0,f1.keep fun b hb=>⟨.inl hb,rfl⟩,(cN.lent e1).2 (f2.mono fun b hb=>.inl hb)⟩
    rowsN:=fun r hr=>by
      have e:(inRows l)[r]?=none:=hr
      have:(gY l vs)[r]?=none:=by
        simp at e ⊢
        omega
      simp [this]
    apart:=fun r r' rc rc' u u' g e1 e2=>by rw [(h2 r rc e1).1] at e2;cases e2
    apartb:=fun r rc u g l b o e1 e2=>by rw [(h2 r rc e1).1] at e2;cases e2
    below:=⟨rfl,rfl,rfl,Nat.le_refl _,fun _ _=>rfl⟩
    froz:=fun _ _=>rfl
    lits:=.none fun _=>rfl
    sk:=fun b hb=>⟨hb,by simp,by simp⟩
    qs:=fun g cs hq=>by cases hq }
theorem law_run {Γ:Orc} {Λ:aV} {P:Program} (hΓ:Γ.Ok P) (hm:P.follows .mixedOrders=true) {f:FuncId} {fn:Func} {c:Code} (hf:P.funcs[f]?=some fn) (hb:fn.body=some c) {l:List In} {m':Mem} {r:Value}
  (h:runG Γ Λ P fn (inArgs l 0) (inMem l)=some (.v r,m')) {w:World} {vs:List Value} (hA:InsOk w l vs) (hL:∀ z:Base,z.L.length=0->z.U.length=(inRows l).length->∀ b∈aF c,aS Λ P z b) :
  Calls P f vs.toArray w (fun e w'=>e=.returned r/\Kp w w'):=by
 obtain ⟨z,V,rfl,z1,z2,z3,z4,z5⟩:=qdP hA
 refine (LA hΓ hm hf hb h z3 z4 z5 (hL z (by rw [z1];rfl) z3.ul)).mono ?_
 rintro e w' ⟨y,rfl,V',hy,hM⟩
 have hy':y=r:=hy
 subst hy'
 have hs:=hM.below
 exact ⟨rfl,⟨hs.os,hs.tape,hs.output,hs.size,fun k hk=>hs.block k ⟨hk,by simp [z1],by simp [z2]⟩⟩,hM.froz⟩
theorem post_of_same2 {f:Func} {s:ChangeSpec} {apart fresh handsOn again:Bool} {W W':World} {args:Array Value} {v:Value} {ds gs:List (DataW H)} {before pa pv:List MemPlace}
  (hW:DataW.Whole enc P f.params.toList s.vars apart W args.toList ds gs before)
  (hres:∀ (b:Nat) (sp:Nat->Bool) (hd:Bool),DataW.TrodAll enc P W' b sp hd f.resultTypes.toList (v.resultList f.resultTypes.size) (s.fn H (ds++gs)).results [])
  (hargs:∀ sp:Nat->Bool,(∀ p∈before,sp p.block=true)->DataW.TrodAll enc P W' 0 sp true f.params.toList args.toList (s.fn H (ds++gs)).args pa)
  (hvars:∀ sp:Nat->Bool,(∀ p∈before,sp p.block=true)->DataW.TrodVars enc P W' sp s.vars (s.fn H (ds++gs)).vars pv)
  (hps:before=pa++pv) (hk:W.keptBut W' (·∈before)) (hfz:∀ a,a.block<W.heap.size->W'.frozen? a=W.frozen? a)
  (hok:∀ (j:Nat) (t:TypeId) (r:Value),f.resultTypes[j]?=some t->(v.resultList f.resultTypes.size)[j]?=some r->Value.okWide P W' .any 0 t r) :
  s.post enc P f apart fresh handsOn again W args v W':=by
 have hold:∀ p∈before,(fun b=>decide (b<W.heap.size)) p.block=true:=fun p hp=>by simpa using hW.lt p hp
 have hlt:=hW.lt
 refine ⟨ds,gs,before,[],pa,pv,hW,hres _ _ _,hargs _ hold,hvars _ hold,World.keptBut_mono (fun p hp=>⟨hp,?_⟩) hk,fun _=>?_⟩
 ·rw [hps,List.mem_append] at hp
  exact Or.inr hp
 ·obtain ⟨_,_,_,_,_,hz,hn⟩:=hW
  refine ⟨hok,_,_,([]++pa)++pv,⟨[]++pa,pv,Go.ChangeShapes.trodAll_append (hargs _ (fun _ _=>rfl)) (hres _ _ _),hvars _ (fun _ _=>rfl),rfl,?_,?_⟩,?_⟩
  ·intro b off hp
   have hb:=hlt _ (by rw [hps];simpa using hp)
   rw [hfz _ hb]
   exact hz b off (by rw [hps];simpa using hp)
  ·intro ha
   have:=hn ha
   rw [hps] at this
   simpa using this
  ·intro p hp _
   rw [hps]
   simpa using hp
end
end Go.Sx
namespace Go.Sx
open Go.RowKit Go.Joins Go.Deep Go.ChangeShapes
section
variable {H:Type} {enc:TypeId×Value->H} {P:Program}
end
end Go.Sx
namespace Go.Sx
open Go.RowKit
section
variable {P:Program} {w:World}
theorem Vt {k:IntKind} {n:Int} {a:Addr} (h:w.cell? a=some (.int k n)):(Extern.Atomic.loadT (.int k) #[.pointer (some a)]).run P w=.ok (.int k n) w:=by
 rw [show Extern.Atomic.loadT (.int k) #[.pointer (some a)]=(do Extern.Atomic.read (.int k) (<- asAddr (.pointer (some a)))) from rfl]
 simp [Extern.Atomic.read,asAddr,load,Sem.run,h,bind,Sem.bind,pure]
theorem Vs {k:IntKind} {n:Int} {a:Addr} {u:Value} (h:w.cell? a=some u) (hf:w.frozen? a=false):(Extern.Atomic.storeT #[.pointer (some a),.int k n]).run P w=.ok (.tuple #[]) (w.setCell a (.int k n)):=by
 rw [show Extern.Atomic.storeT #[.pointer (some a),.int k n]=(do store (<- asAddr (.pointer (some a))) (.int k n) .atomic;pure Extern.Atomic.none_) from rfl]
 simp [asAddr,store,Sem.run,h,hf,bind,Sem.bind,pure,Extern.Atomic.none_]
theorem U2 {a:Addr} {u:Value} (h:w.cell? a=some u):∃ x,w.shape? a.block=some x:=by
 unfold World.cell? at h
 unfold World.shape?
 split at h
 ·rename_i c e f hc
  exact ⟨(e,c.size),rfl⟩
 ·cases h
theorem Vu {k:IntKind} {n old new:Int} {a:Addr} (h:w.cell? a=some (.int k n)) (hf:w.frozen? a=false):(Extern.Atomic.casT (.int k) #[.pointer (some a),.int k old,.int k new]).run P w=.ok (.bool (n==old)) (bif n==old then w.setCell a (.int k new) else w):=by
 obtain ⟨x,hx⟩:=U2 h
 rw [show Extern.Atomic.casT (.int k) #[.pointer (some a),.int k old,.int k new]=(do
  let a <- asAddr (.pointer (some a))
  if <- Extern.Atomic.touchesFrozen a then unsupported (.unsafePointer "a write to bytes that a string shares")
  let eq <- match Extern.Atomic.T.int k,<- Extern.Atomic.read (.int k) a,Value.int k old with
   | _,.int _ x,.int _ y=>pure (x==y)
   | .ptr,.pointer x,.pointer y=>samePointer x y
   | .int _,.pointer (some _),.int _ 0|.int _,.int _ 0,.pointer (some _)=>pure false
   | .int _,.pointer (some _),_|.int _,_,.pointer (some _)=>unsupported .addressObserved
   | _, _, _ => stuck "atomic.CompareAndSwap: old is no T"
  if eq then store a (.int k new) .atomic
  pure (.bool eq)) from rfl]
 by_cases hn:n=old
 ·have hb:(n==old)=true:=by simpa using hn
  rw [hb]
  simp [Extern.Atomic.read,Extern.Atomic.touchesFrozen,viewAt,asAddr,load,store,shape,frozen,Sem.run,h,hf,hx,hn,bind,Sem.bind,pure]
 ·have hb:(n==old)=false:=by simpa using hn
  rw [hb]
  simp [Extern.Atomic.read,Extern.Atomic.touchesFrozen,viewAt,asAddr,load,store,shape,frozen,Sem.run,h,hf,hx,hn,bind,Sem.bind,pure]
end
theorem dz.setCell {z:Base} {m:Mem} {V:Vl} {w:World} (h:dz z m V w) {l b o off:Nat} {cs:List SA} {x:SA} {y:Value} (hb:V.b l=some (b,o)) (hc:m.blk[l]?=some cs) (hoff:off<cs.length) (hd:bq V x y) :
  dz z { m with blk:=m.blk.set l (cs.set off x) } V (w.setCell ⟨b,o+off,none⟩ y):=by
 have hblk:∀ k,k≠b->(w.setCell ⟨b,o+off,none⟩ y).heap[k]?=w.heap[k]?:=fun k hk=>Below.heap_setCell _ _ _ _ hk
 have hkept:∀ k,z.Kept k->(w.setCell ⟨b,o+off,none⟩ y).heap[k]?=w.heap[k]?:=fun k hk=>hblk k fun e=>h.notKept hb (e▸hk)
 refine { h with
   lens:=by simpa using h.lens
   mem:=fun i b' o' hi cs' hcs' j u hu=>?_
   own:=fun i b' o' hi=>by have:=h.own i b' o' hi;exact ⟨this.1,by simpa using this.2⟩
   rows:=fun r rc hr=>?_
   below:=⟨h.below.os,h.below.tape,h.below.output,by have:=h.below.size;simpa using this,fun k hk=>(hkept k hk).trans (h.below.block k hk)⟩
   froz:=fun p hp=>by rw [World.frozen?_setCell];exact h.froz p hp
   lits:=h.lits.world fun g cs1 hq=>hblk g (fun e=>(h.lits g cs1 hq).2.1 l b o hb e.symm) }
 ·have hcs':(m.blk.set l (cs.set off x))[i]?=some cs':=hcs'
  by_cases hil:i=l
  ·subst hil
   rw [hb] at hi
   injection hi with hi
   injection hi with e1 e2
   subst e1 e2
   rw [List.getElem?_set_self (List.getElem?_eq_some_iff.1 hc).1] at hcs'
   injection hcs' with hcs'
   subst hcs'
   obtain ⟨v0,c1,_,c3⟩:=h.mem i b o hb cs hc off cs[off] (by simp [hoff])
   by_cases hj:off=j
   ·subst hj
    rw [List.getElem?_set_self hoff] at hu
    injection hu with hu
    subst hu
    exact ⟨y,World.cell?_setCell_same _ _ _ c1,hd,by rw [World.frozen?_setCell];exact c3⟩
   ·rw [List.getElem?_set_ne hj] at hu
    obtain ⟨v,d1,d2,d3⟩:=h.mem i b o hb cs hc j u hu
    exact ⟨v,by rw [World.cell?_setCell_other _ _ _ _ (fun e=>by injection e with _ e;omega)];exact d1,d2,by rw [World.frozen?_setCell];exact d3⟩
  ·rw [List.getElem?_set_ne (Ne.symm hil)] at hcs'
   obtain ⟨v,d1,d2,d3⟩:=h.mem i b' o' hi cs' hcs' j u hu
   exact ⟨v,by rw [World.cell?_of_block (w:=w) (hblk b' (h.inj i l b' o' b o hi hb hil))];exact d1,d2,by rw [World.frozen?_setCell];exact d3⟩
 ·obtain ⟨u,e1,e2⟩:=h.rows r rc hr
  exact ⟨u,e1,e2.trans (fun b1 hb1=>⟨hb1,h.stays hkept (fun g cs1 hq=>hblk g (fun e=>(h.lits g cs1 hq).2.1 l b o hb e.symm)) b1 hb1⟩) fun ho L0 f1 f2=>⟨f1.block fun g hg=>hblk g (fun e=>by subst e;exact h.apartb r rc u g l g o hr ho e1 hg hb rfl),f2⟩⟩
def cellI (m:Mem) (l off:Nat):Option (List SA×IntKind×Int) :=
 match m.blk[l]? with
 | some cs=>match cs[off]? with
  | some (.v (.int k n))=>some (cs,k,n)
  | _=>none
 | none=>none
theorem y8 {m:Mem} {l off:Nat} {cs:List SA} {k:IntKind} {n:Int} (h:cellI m l off=some (cs,k,n)):m.blk[l]?=some cs/\cs[off]?=some (.v (.int k n)):=by
 unfold cellI at h
 split at h
 ·rename_i cs' hc
  split at h
  ·rename_i k' n' hv
   injection h with h
   injection h with e1 h
   injection h with e2 e3
   subst e1 e2 e3
   exact ⟨hc,hv⟩
  ·cases h
 ·cases h
theorem dz.cellI {z:Base} {m:Mem} {V:Vl} {w:World} (h:dz z m V w) {l off b o:Nat} {cs:List SA} {k:IntKind} {n:Int} (hc:Go.Sx.cellI m l off=some (cs,k,n)) (hb:V.b l=some (b,o)) :
  w.cell? ⟨b,o+off,none⟩=some (.int k n)/\w.frozen? ⟨b,o+off,none⟩=false:=by
 obtain ⟨h1,h2⟩:=y8 hc
 obtain ⟨y,c1,c2,c3⟩:=h.mem l b o hb cs h1 off _ h2
 have c2':y=.int k n:=c2
 subst c2'
 exact ⟨c1,c3⟩
def Cp (ld:FuncId) (k:IntKind):FuncId->List SV->Mem->Option (Bool×Value):=fun f as m =>
 match Nat.beq f ld,as with
 | true,[.ptr l off]=>match cellI m l off with
  | some (_,k'',n)=>if k''=k then some (true,.int k n) else none
  | none=>none
 | _,_=>none
def zu (ad:FuncId) (k:IntKind):FuncId->List SV->Mem->Option (Bool×SV×Mem):=fun f as m =>
 match Nat.beq f ad,as with
 | true,[.ptr l off,.v (.int k' x)]=>match cellI m l off with
  | some (cs,k'',n)=>if k'=k/\k''=k then some (true,.v (.int k (wr true k (n+x))),{ m with blk:=m.blk.set l (cs.set off (.v (.int k (wr true k (n+x))))) }) else none
  | none=>none
 | _,_=>none
def vt (st:FuncId) (k:IntKind):FuncId->List SV->Mem->Option (Bool×SV×Mem):=fun f as m =>
 match Nat.beq f st,as with
 | true,[.ptr l off,.v (.int k' x)]=>match cellI m l off with
  | some (cs,k'',_)=>if k'=k/\k''=k then some (true,.v (.tuple #[]),{ m with blk:=m.blk.set l (cs.set off (.v (.int k x))) }) else none
  | none=>none
 | _,_=>none
def Hm (ca:FuncId) (k:IntKind):FuncId->List SV->Mem->Option (Bool×SV×Mem):=fun f as m =>
 match Nat.beq f ca,as with
 | true,[.ptr l off,.v (.int k1 old),.v (.int k2 new)]=>match cellI m l off with
  | some (cs,k'',n)=>if k1=k/\k2=k/\k''=k then some (true,.v (.bool (n==old)),{ m with blk:=m.blk.set l (cs.set off (.v (.int k (bif n==old then new else n)))) }) else none
  | none=>none
 | _,_=>none
theorem Np {α:Type} {l:List α} {i:Nat} {x:α} (h:l[i]?=some x):l.set i x=l:=by
 obtain ⟨hi,rfl⟩:=List.getElem?_eq_some_iff.1 h
 simp
structure Ext (P:Program) (f:FuncId) (e:Array Value->Sem Value):Prop where
 run:∀ args w,(callFunc f args).run P w=((e args).run P w).andThen fun v w'=>.ok (.value v) w'
theorem MA {V:Vl} {x:SV} {vs:List Value} (h:aG (aI V) [x] vs):∃ y,vs=[y]/\aI V x y:=by
 cases vs with
 | nil=>exact h.elim
 | cons y vs=>cases vs with
  | nil=>exact ⟨y,rfl,h.1⟩
  | cons _ _=>exact h.2.elim
theorem vc {V:Vl} {x1 x2:SV} {vs:List Value} (h:aG (aI V) [x1,x2] vs):∃ y1 y2,vs=[y1,y2]/\aI V x1 y1/\aI V x2 y2:=by
 cases vs with
 | nil=>exact h.elim
 | cons y vs=>obtain ⟨y2,rfl,h2⟩:=MA h.2;exact ⟨y,y2,rfl,h.1,h2⟩
theorem T5 {V:Vl} {x1 x2 x3:SV} {vs:List Value} (h:aG (aI V) [x1,x2,x3] vs):∃ y1 y2 y3,vs=[y1,y2,y3]/\aI V x1 y1/\aI V x2 y2/\aI V x3 y3:=by
 cases vs with
 | nil=>exact h.elim
 | cons y vs=>obtain ⟨y2,y3,rfl,h2,h3⟩:=vc h.2;exact ⟨y,y2,y3,rfl,h.1,h2,h3⟩
theorem qdy {P:Program} {ld:FuncId} {k:IntKind} (he:Ext P ld (Extern.Atomic.loadT (.int k))):∀ f as m r,Cp ld k f as m=some (true,r)->bB P f as m (.v r) m:=by
 intro f as m r h z V vs hl hM hA
 unfold Cp at h
 split at h
 ·rename_i l off hfe
  obtain rfl:=Nat.eq_of_beq_eq_true hfe
  split at h
  ·rename_i cs k'' n hc
   split at h
   ·rename_i hk
    subst hk
    injection h with h
    injection h with _ h
    subst h
    obtain ⟨y,rfl,b,o,hb,rfl⟩:=MA hA
    have h1:=hM.cellI hc hb
    refine .inl ⟨.int k'' n,z.w,?_,V,rfl,hM⟩
    rw [he.run]
    show Result.andThen ((Extern.Atomic.loadT (.int k'') #[.pointer (some ⟨b,o+off,none⟩)]).run P z.w) _=_
    rw [Vt h1.1];rfl
   ·cases h
  ·cases h
 ·cases h
theorem KU {P:Program} {st:FuncId} {k:IntKind} (he:Ext P st Extern.Atomic.storeT):∀ f as m r m',vt st k f as m=some (true,r,m')->bB P f as m r m':=by
 intro f as m r m' h z V vs hl hM hA
 unfold vt at h
 split at h
 ·rename_i l off k' x hfe
  obtain rfl:=Nat.eq_of_beq_eq_true hfe
  split at h
  ·rename_i cs k'' n hc
   split at h
   ·rename_i hk
    obtain ⟨rfl,rfl⟩:=hk
    injection h with h
    injection h with _ h
    injection h with e1 e2
    subst e1 e2
    obtain ⟨y1,y2,rfl,⟨b,o,hb,rfl⟩,hy2⟩:=vc hA
    have hy2:y2=.int k'' x:=hy2
    subst hy2
    have h1:=hM.cellI hc hb
    obtain ⟨c1,c2⟩:=y8 hc
    refine .inl ⟨.tuple #[],_,?_,V,rfl,hM.setCell (x:=.v (.int k'' x)) hb c1 (List.getElem?_eq_some_iff.1 c2).1 rfl⟩
    rw [he.run]
    show Result.andThen ((Extern.Atomic.storeT #[.pointer (some ⟨b,o+off,none⟩),.int k'' x]).run P z.w) _=_
    rw [Vs h1.1 h1.2];rfl
   ·cases h
  ·cases h
 ·cases h
theorem qiB {P:Program} {ca:FuncId} {k:IntKind} (he:Ext P ca (Extern.Atomic.casT (.int k))):∀ f as m r m',Hm ca k f as m=some (true,r,m')->bB P f as m r m':=by
 intro f as m r m' h z V vs hl hM hA
 unfold Hm at h
 split at h
 ·rename_i l off k1 old k2 new hfe
  obtain rfl:=Nat.eq_of_beq_eq_true hfe
  split at h
  ·rename_i cs k'' n hc
   split at h
   ·rename_i hk
    obtain ⟨rfl,rfl,rfl⟩:=hk
    injection h with h
    injection h with _ h
    injection h with e1 e2
    subst e1 e2
    obtain ⟨y1,y2,y3,rfl,⟨b,o,hb,rfl⟩,hy2,hy3⟩:=T5 hA
    have hy2:y2=.int k'' old:=hy2
    have hy3:y3=.int k'' new:=hy3
    subst hy2 hy3
    have h1:=hM.cellI hc hb
    obtain ⟨c1,c2⟩:=y8 hc
    have hoff:=(List.getElem?_eq_some_iff.1 c2).1
    refine .inl ⟨.bool (n==old),bif n==old then z.w.setCell ⟨b,o+off,none⟩ (.int k'' new) else z.w,?_,V,rfl,?_⟩
    ·rw [he.run]
     show Result.andThen ((Extern.Atomic.casT (.int k'') #[.pointer (some ⟨b,o+off,none⟩),.int k'' old,.int k'' new]).run P z.w) _=_
     rw [Vu h1.1 h1.2];rfl
    ·cases hn:n==old
     ·have e1:cs.set off (.v (.int k'' n))=cs:=Np c2
      have e2:m.blk.set l cs=m.blk:=Np c1
      simp only [cond_false,e1,e2]
      exact hM
     ·exact hM.setCell (x:=.v (.int k'' new)) hb c1 hoff rfl
   ·cases h
  ·cases h
 ·cases h
theorem qjB {P : Program} {ad : FuncId} {fn : Func} {k : IntKind} (hf : P.funcs[ad]? = some fn) (hname : (fn.name == "runtime.NumGoroutine") = false) (hb : fn.body.isNone = true) (hn : Extern.findNext fn = none)
  (he:Extern.find fn=some (Extern.Atomic.update (Op.intArith .add) k true)):∀ f as m r m',zu ad k f as m=some (true,r,m')->bB P f as m r m':=by
 intro f as m r m' h z V vs hl hM hA
 unfold zu at h
 split at h
 ·rename_i l off k' x hfe
  obtain rfl:=Nat.eq_of_beq_eq_true hfe
  split at h
  ·rename_i cs k'' n hc
   split at h
   ·rename_i hk
    obtain ⟨rfl,rfl⟩:=hk
    injection h with h
    injection h with _ h
    injection h with e1 e2
    subst e1 e2
    obtain ⟨y1,y2,rfl,⟨b,o,hbb,rfl⟩,hy2⟩:=vc hA
    have hy2:y2=.int k'' x:=hy2
    subst hy2
    have h1:=hM.cellI hc hbb
    obtain ⟨c1,c2⟩:=y8 hc
    exact .inl ⟨_,_,run_call_add hf hname hb hn k'' he (s:=wr true k'' (n+x)) h1.1 h1.2 (by rw [cF];rfl),V,rfl,hM.setCell (x:=.v (.int k'' (wr true k'' (n+x)))) hbb c1 (List.getElem?_eq_some_iff.1 c2).1 rfl⟩
   ·cases h
  ·cases h
 ·cases h
def qW (t:FuncId->List SV->Mem->Option (Bool×SV×Mem)) (Γ:Orc):Orc:={ Γ with call:=fun f as m=>match t f as m with|some r=>some r|none=>Γ.call f as m }
def qV (t:FuncId->List SV->Mem->Option (Bool×Value)) (Γ:Orc):Orc:={ Γ with rd:=fun f as m=>match t f as m with|some r=>some r|none=>Γ.rd f as m }
theorem zv {t:FuncId->List SV->Mem->Option (Bool×SV×Mem)} {Γ:Orc} {P:Program} (h:Γ.Ok P) (ht:∀ f as m r m',t f as m=some (true,r,m')->bB P f as m r m'):(qW t Γ).Ok P:=by
 refine ⟨fun f as m r m' hr=>?_,h.rd,h.eqv⟩
 simp only [qW] at hr
 split at hr
 ·rename_i q hq
  injection hr with hr
  subst hr
  exact ht f as m r m' hq
 ·exact h.call f as m r m' hr
theorem Qq {t:FuncId->List SV->Mem->Option (Bool×Value)} {Γ:Orc} {P:Program} (h:Γ.Ok P) (ht:∀ f as m r,t f as m=some (true,r)->bB P f as m (.v r) m):(qV t Γ).Ok P:=by
 refine ⟨h.call,fun f as m r hr=>?_,h.eqv⟩
 simp only [qV] at hr
 split at hr
 ·rename_i q hq
  injection hr with hr
  subst hr
  exact ht f as m r hq
 ·exact h.rd f as m r hr
def zw (f:FuncId) (a:List SV->Mem->List (Bool×Option (Bool×SV×Mem))) (Γ:Orc):Orc :=
 { Γ with alts:=fun g as m=>bif Nat.beq f g then a as m else Γ.alts g as m }
theorem Qt {f:FuncId} {a:List SV->Mem->List (Bool×Option (Bool×SV×Mem))} {Γ:Orc} {P:Program} (h:Γ.Ok P) (ha:∀ as m b r m',(b,some (true,r,m'))∈a as m->bB P f as m r m'):(zw f a Γ).Ok P:=by
 refine ⟨h.call,h.rd,h.eqv.1,fun g as m b r m' hr=>?_⟩
 simp only [zw] at hr
 cases e:Nat.beq f g with
 | true =>
  rw [e,cond_true] at hr
  have:=Nat.eq_of_beq_eq_true e
  subst this
  exact ha as m b r m' hr
 | false =>
  rw [e,cond_false] at hr
  exact h.eqv.2 g as m b r m' hr
def L0:aV:=fun _ _=>none
end Go.Sx
namespace Go.Sx
open Go.RowKit
theorem NO:∀ (vs:List Value) (n:Nat),inArgs (vs.map In.v) n=vs.map SV.v
 | [],_=>rfl
 | _::r,n=>by simp only [List.map_cons,inArgs,NO r n]
theorem CQ:∀ (vs:List Value),inRows (vs.map In.v)=[]
 | []=>rfl
 | _::r=>by simp only [List.map_cons,inRows,CQ r]
theorem NN (w:World):∀ (vs:List Value),InsOk w (vs.map In.v) vs
 | []=>trivial
 | _::r=>⟨rfl,NN w r⟩
theorem Tx {Γ:Orc} {Λ:aV} {P:Program} (hΓ:Γ.Ok P) (hm:P.follows .mixedOrders=true) (hN:pO P=true) {f:FuncId} {fn:Func} {c:Code} (hf:P.funcs[f]?=some fn) (hb:fn.body=some c) {vs:List Value} {r:Value} {m':Mem}
  (hL:∀ z:Base,z.L.length=0->z.U.length=0->∀ b∈aF c,aS Λ P z b) (h:runG Γ Λ P fn (vs.map .v) ⟨[],[],[]⟩=some (.v r,m')) (m:Mem):bB P f (vs.map .v) m (.v r) m :=
 Hn P (fun w=>.inr ⟨ot hf (by simp [hb]) (nF hN hf (by simp [hb])) w,law_run hΓ hm hf hb (l:=vs.map In.v) (by rw [NO,inMem,CQ];exact h) (NN w vs) (by rw [CQ];exact hL)⟩) m
theorem bg {Λ:aV} {P:Program} {c:Code} (h:aF c=[]) (z:Base):∀ b∈aF c,aS Λ P z b:=by
 intro b hb
 rw [h] at hb
 cases hb
theorem bR {Λ:aV} {P:Program} {c b0:Code} {z:Base} (h:aF c=[b0]) (h2:aS Λ P z b0):∀ b∈aF c,aS Λ P z b:=by
 intro b hb
 rw [h,List.mem_singleton] at hb
 subst hb
 exact h2
def H1 (P:Program) (t:FuncId->List Value->Option (Bool×Value)):Prop:=∀ f vs r,t f vs=some (true,r)->∀ m,bB P f (vs.map .v) m (.v r) m
theorem Qp {t:FuncId->List Value->Option (Bool×Value)} {Γ:Orc} {P:Program} (h:Γ.Ok P) (ht:H1 P t):(qV (rR t) Γ).Ok P:=Qq h (Ub ht)
def vj (n:FuncId) (g:List Value->Option (Bool×Value)):FuncId->List Value->Option (Bool×Value):=fun f vs =>
 match Nat.beq f n with
 | true=>g vs
 | false=>none
def Bb (n:FuncId) (g:List SV->Mem->Option (Bool×Value)):FuncId->List SV->Mem->Option (Bool×Value):=fun f as m =>
 match Nat.beq f n with
 | true=>g as m
 | false=>none
def Bc (n:FuncId) (g:List SV->Mem->Option (Bool×SV×Mem)):FuncId->List SV->Mem->Option (Bool×SV×Mem):=fun f as m =>
 match Nat.beq f n with
 | true=>g as m
 | false=>none
theorem HE {f n:Nat} (h:Nat.beq f n=true):f=n:=Nat.eq_of_beq_eq_true h
theorem KE {P:Program} {n:FuncId} {g:List Value->Option (Bool×Value)} (h:∀ vs r,g vs=some (true,r)->∀ m,bB P n (vs.map .v) m (.v r) m):H1 P (vj n g):=by
 intro f vs r hr
 unfold vj at hr
 split at hr
 ·rename_i hf;obtain rfl:=HE hf;exact h vs r hr
 ·cases hr
theorem Uc {P:Program} {n:FuncId} {g:List SV->Mem->Option (Bool×Value)} (h:∀ as m r,g as m=some (true,r)->bB P n as m (.v r) m):∀ f as m r,Bb n g f as m=some (true,r)->bB P f as m (.v r) m:=by
 intro f as m r hr
 unfold Bb at hr
 split at hr
 ·rename_i hf;obtain rfl:=HE hf;exact h as m r hr
 ·cases hr
theorem Ud {P:Program} {n:FuncId} {g:List SV->Mem->Option (Bool×SV×Mem)} (h:∀ as m r m',g as m=some (true,r,m')->bB P n as m r m'):∀ f as m r m',Bc n g f as m=some (true,r,m')->bB P f as m r m':=by
 intro f as m r m' hr
 unfold Bc at hr
 split at hr
 ·rename_i hf;obtain rfl:=HE hf;exact h as m r m' hr
 ·cases hr
def ah (n:FuncId) (g:List Value->Option (Bool×Value)) (Γ:Orc):Orc:=qV (rR (vj n g)) Γ
theorem af {n:FuncId} {g:List Value->Option (Bool×Value)} {Γ:Orc} {P:Program} (hΓ:Γ.Ok P) (h:∀ vs r,g vs=some (true,r)->∀ m,bB P n (vs.map .v) m (.v r) m):(ah n g Γ).Ok P:=Qp hΓ (KE h)
def aU (n:FuncId) (g:List SV->Mem->Option (Bool×Value)) (Γ:Orc):Orc:=qV (Bb n g) Γ
theorem aO {n:FuncId} {g:List SV->Mem->Option (Bool×Value)} {Γ:Orc} {P:Program} (hΓ:Γ.Ok P) (h:∀ as m r,g as m=some (true,r)->bB P n as m (.v r) m):(aU n g Γ).Ok P:=Qq hΓ (Uc h)
def aC (n:FuncId) (g:List SV->Mem->Option (Bool×SV×Mem)) (Γ:Orc):Orc:=qW (Bc n g) Γ
theorem aA {n:FuncId} {g:List SV->Mem->Option (Bool×SV×Mem)} {Γ:Orc} {P:Program} (hΓ:Γ.Ok P) (h:∀ as m r m',g as m=some (true,r,m')->bB P n as m r m'):(aC n g Γ).Ok P:=zv hΓ (Ud h)
theorem ab {α:Type} {g:Bool} {x y:α} (h:some (g,x)=some (true,y)):g=true/\x=y:=by
 injection h with h
 injection h with h1 h2
 exact ⟨h1,h2⟩
theorem aw {α β:Type} {g:Bool} {x y:α} {u v:β} (h:some (g,x,u)=some (true,y,v)):g=true/\x=y/\u=v:=by
 injection h with h
 injection h with h1 h
 injection h with h2 h3
 exact ⟨h1,h2,h3⟩
def eT:Code->Nat
 | .seq a _=>eT a
 | .region id _ _=>id
 | .block _ a=>eT a
 | .scope a=>eT a
 | .loop a=>eT a
 | _=>0
end Go.Sx
namespace Go.Sx
open Go.RowKit Go.Joins Go.Deep Go.ChangeShapes Go.WideShapes
section
variable {H:Type} {enc:TypeId×Value->H} {P:Program}
def PB (P:Program) (t:TypeId):Option CK :=
 match P.underlying t with
 | some (.int k)=>some (.num k)
 | some .string=>some .str
 | some .bool=>some .bool
 | _=>none
def Wf1:CK->Dat->Prop
 | .num k,.n x=>(Lit.int k x).wf=true
 | .str,.s s=>s.size<=maxLen
 | .bool,.b _=>True
 | _,_=>False
def eD:List CK->List Dat->Prop
 | [],[]=>True
 | k::ks,d::l=>Wf1 k d/\eD ks l
 | _,_=>False
theorem OY {α:Type} {Q:Nat->α->Prop}:∀ (n:Nat),(∀ i,i<n->∃ x,Q i x)->∃ l:List α,l.length=n/\∀ (i:Nat) x,l[i]?=some x->Q i x
 | 0,_=>⟨[],rfl,fun i x h=>by simp at h⟩
 | n+1,h=>by
  obtain ⟨l,h1,h2⟩:=OY n fun i hi=>h i (by omega)
  obtain ⟨x,hx⟩:=h n (by omega)
  refine ⟨l++[x],by simp [h1],fun i y hy=>?_⟩
  rcases Nat.lt_trichotomy i n with hi|hi|hi
  ·rw [List.getElem?_append_left (by omega)] at hy
   exact h2 i y hy
  ·subst hi
   rw [List.getElem?_append_right (by omega),h1,Nat.sub_self] at hy
   simp at hy
   subst hy
   exact hx
  ·rw [List.getElem?_eq_none (by simp;omega)] at hy
   cases hy
end
end Go.Sx
namespace Go.Sx
open Go.RowKit Go.Joins Go.Deep Go.ChangeShapes Go.WideShapes
section
variable {H:Type} {enc:TypeId×Value->H} {P:Program}
end
end Go.Sx
namespace Go.Sx
open Go.RowKit Go.Joins Go.Deep Go.ChangeShapes Go.WideShapes
section
variable {H:Type} {enc:TypeId×Value->H} {P:Program}
def ksF (P:Program) (f:TypeId->Option (List CK)):List Field->Nat->Option (List CK)
 | [],_=>some []
 | fd::r,off=>match f fd.type with
  | some ks=>match ksF P f r (off+ks.length) with
   | some l=>if fd.offset=off/\P.cellsOf fd.type=ks.length then some (ks++l) else none
   | none=>none
  | none=>none
def sf (ks:List CK):Nat->List CK
 | 0=>[]
 | n+1=>ks++sf ks n
def pT (P:Program):Nat->TypeId->Option (List CK)
 | 0,_=>none
 | n+1,t=>match P.underlying t with
  | some (.struct fs)=>match ksF P (pT P n) fs.toList 0 with
   | some ks=>if P.cellsOf t=ks.length then some ks else none
   | none=>none
  | some (.array m e)=>match pT P n e with
   | some ks=>if P.cellsOf e=ks.length/\P.cellsOf t=m*ks.length then some (sf ks m) else none
   | none=>none
  | _=>match PB P t with
   | some k=>some [k]
   | none=>none
theorem eD.length:∀ {ks:List CK} {l:List Dat},eD ks l->l.length=ks.length
 | [],[],_=>rfl
 | _::_,_::_,h=>by simp [eD.length h.2]
 | [],_::_,h=>h.elim
 | _::_,[],h=>h.elim
theorem Cm:∀ {ks ls:List CK} {l m:List Dat},l.length=ks.length->aH (ks++ls) (l++m)=aH ks l++aH ls m
 | [],_,[],_,_=>rfl
 | k::ks,ls,d::l,m,h=>by
  show k.cell d::aH (ks++ls) (l++m)=k.cell d::(aH ks l++aH ls m)
  rw [Cm (by simpa using h)]
 | [],_,_::_,_,h=>by simp at h
 | _::_,_,[],_,h=>by simp at h
theorem eD.append:∀ {ks ls:List CK} {l m:List Dat},eD ks l->eD ls m->eD (ks++ls) (l++m)
 | [],_,[],_,_,h=>h
 | _::_,_,_::_,_,h,h2=>⟨h.1,eD.append h.2 h2⟩
 | [],_,_::_,_,h,_=>h.elim
 | _::_,_,[],_,h,_=>h.elim
end
end Go.Sx
namespace Go.Sx
open Go.RowKit Go.Joins Go.Deep Go.ChangeShapes Go.WideShapes
section
variable {H:Type} {enc:TypeId×Value->H} {P:Program}
def eQ (l:List Dat):Prop:=∀ s,Dat.s s∈l->s.size<=reachBytes
theorem eQ.append {l m:List Dat} (h:eQ l) (g:eQ m):eQ (l++m):=fun s hs=>by
 rcases List.mem_append.1 hs with hs|hs
 ·exact h s hs
 ·exact g s hs
theorem eQ.nil:eQ []:=fun _ h=>by cases h
theorem AE {e:TypeId}:∀ {ds:List (DataW H)} {i:Nat} {d:DataW H},ds[i]?=some d->∀ n∈d.weights P e,n∈DataW.weightsAll P e ds
 | [],_,_,h,_,_=>by simp at h
 | x::r,0,d,h,n,hn=>by
  simp only [List.getElem?_cons_zero,Option.some.injEq] at h
  subst h
  simp only [DataW.weightsAll,List.mem_append]
  exact .inl hn
 | x::r,i+1,d,h,n,hn=>by
  simp only [List.getElem?_cons_succ] at h
  simp only [DataW.weightsAll,List.mem_append]
  exact .inr (AE h n hn)
def sh (P:Program) (t:TypeId) (d:DataW H):Prop:=∀ n∈d.weights P t,n<=reachBytes
def H3 (enc:TypeId×Value->H) (P:Program) (w:World) (base:Nat) (spare:Nat->Bool) (held:Bool) (t:TypeId) (ks:List CK):Prop :=
 ∀ fuel cs x,DataW.trod enc P w base spare held fuel t cs=some x->sh P t x.1->∃ l,aH ks l=cs/\eD ks l/\eQ l
theorem OP {w:World} {base:Nat} {spare:Nat->Bool} {held:Bool} {f:TypeId->Option (List CK)} (hf:∀ t ks,f t=some ks->H3 enc P w base spare held t ks) {fuel:Nat} :
  ∀ (fs:List Field) (off:Nat) (ks:List CK) (cs:List Value),ksF P f fs off=some ks->cs.length=off+ks.length ->
  (∀ (i:Nat) (fd:Field),fs[i]?=some fd->∃ y,DataW.trod enc P w base spare held fuel fd.type ((cs.drop fd.offset).take (P.cellsOf fd.type))=some y/\sh P fd.type y.1)->∃ l,aH ks l=cs.drop off/\eD ks l/\eQ l
 | [],off,ks,cs,hk,hl,_=>by
  simp [ksF] at hk
  subst hk
  refine ⟨[],?_,trivial,eQ.nil⟩
  rw [List.drop_eq_nil_of_le (by simpa using Nat.le_of_eq hl)]
  rfl
 | fd::fs,off,ks,cs,hk,hl,h=>by
  unfold ksF at hk
  split at hk
  ·rename_i k hk1
   split at hk
   ·rename_i l hk2
    split at hk
    ·rename_i hc
     injection hk with hk
     subst hk
     obtain ⟨y,hy,hw⟩:=h 0 fd rfl
     rw [hc.1,hc.2] at hy
     obtain ⟨d,h1,h2,h5⟩:=hf _ _ hk1 _ _ _ hy hw
     obtain ⟨ds,h3,h4,h6⟩:=OP hf (fuel:=fuel) fs (off+k.length) l cs hk2 (by rw [hl,List.length_append];omega) (fun i f e=>h (i+1) f (by simpa using e))
     refine ⟨d++ds,?_,h2.append h4,h5.append h6⟩
     rw [Cm h2.length,h1,h3,<- List.drop_drop,List.take_append_drop]
    ·cases hk
   ·cases hk
  ·cases hk
theorem LP {w:World} {base:Nat} {spare:Nat->Bool} {held:Bool} {e:TypeId} {ks:List CK} (hf:H3 enc P w base spare held e ks) {fuel:Nat} :
  ∀ (m j:Nat) (cs:List Value),cs.length=(j+m)*ks.length ->
  (∀ i,i<j+m->∃ y,DataW.trod enc P w base spare held fuel e ((cs.drop (i*ks.length)).take ks.length)=some y/\sh P e y.1)->∃ l,aH (sf ks m) l=cs.drop (j*ks.length)/\eD (sf ks m) l/\eQ l
 | 0,j,cs,hl,_=>by
  refine ⟨[],?_,trivial,eQ.nil⟩
  rw [List.drop_eq_nil_of_le (by rw [hl];simp)]
  rfl
 | m+1,j,cs,hl,h=>by
  obtain ⟨y,hy,hw⟩:=h j (by omega)
  obtain ⟨d,h1,h2,h5⟩:=hf _ _ _ hy hw
  obtain ⟨ds,h3,h4,h6⟩:=LP hf (fuel:=fuel) m (j+1) cs (by rw [hl];congr 1;omega) (fun i hi=>h i (by omega))
  refine ⟨d++ds,?_,h2.append h4,h5.append h6⟩
  rw [sf,Cm h2.length,h1,h3,Nat.succ_mul,<- List.drop_drop,List.take_append_drop]
theorem A6 {w:World} {base:Nat} {spare:Nat->Bool} {held:Bool}:∀ (n:Nat) (t:TypeId) (ks:List CK),pT P n t=some ks->H3 enc P w base spare held t ks
 | 0,_,_,h=>by simp [pT] at h
 | n+1,t,ks,h=>by
  intro fuel cs x hx hok
  unfold pT at h
  split at h
  ·rename_i fs hu
   split at h
   ·rename_i ks' hk
    split at h
    ·rename_i hc
     injection h with h
     subst h
     obtain ⟨xs,m,_,hxx,hl,hn,hfd⟩:=DataW.trod_struct hu hx
     obtain ⟨l,h1,h2,h3⟩:=OP (enc:=enc) (w:=w) (base:=base) (spare:=spare) (held:=held) (A6 n) (fuel:=m) fs.toList 0 ks' cs hk (by rw [hl,hc];omega) (fun i fd hi=>by
      have hi':fs[i]?=some fd:=by simpa using hi
      have hlt:i<xs.length:=by rw [hn];exact (Array.getElem?_eq_some_iff.1 hi').1
      refine ⟨xs[i],by rw [hfd i fd hi',List.getElem?_eq_getElem hlt],fun k hk=>hok k ?_⟩
      rw [hxx]
      simp only [DataW.weights,hu]
      exact DataW.weights_mem_each (j:=i) (by simp [hi']) (by simp [List.getElem?_eq_getElem hlt]) k hk)
     exact ⟨l,by rw [h1,List.drop_zero],h2,h3⟩
    ·cases h
   ·cases h
  ·rename_i m e hu
   split at h
   ·rename_i ks' hk
    split at h
    ·rename_i hc
     injection h with h
     subst h
     obtain ⟨xs,m',_,hxx,hl,hn,hel⟩:=DataW.trod_array hu hx
     obtain ⟨l,h1,h2,h3⟩:=LP (enc:=enc) (w:=w) (base:=base) (spare:=spare) (held:=held) (A6 n e ks' hk) (fuel:=m') m 0 cs (by rw [hl,hc.2,Nat.zero_add]) (fun i hi=>by
      have hlt:i<xs.length:=by omega
      have:=hel i (by omega)
      rw [hc.1] at this
      refine ⟨xs[i],by rw [this,List.getElem?_eq_getElem hlt],fun k hk=>hok k ?_⟩
      rw [hxx]
      simp only [DataW.weights,hu]
      exact AE (i:=i) (by simp [List.getElem?_eq_getElem hlt]) k hk)
     exact ⟨l,by rw [h1,Nat.zero_mul,List.drop_zero],h2,h3⟩
    ·cases h
   ·cases h
  ·split at h
   ·rename_i k hk
    injection h with h
    subst h
    unfold PB at hk
    split at hk
    ·rename_i ik hu
     injection hk with hk
     subst hk
     obtain ⟨a,h1,rfl,h2⟩:=DataW.trod_int hu hx
     exact ⟨[.n a],by rw [h1];rfl,⟨h2,trivial⟩,fun s hs=>by simp at hs⟩
    ·rename_i hu
     injection hk with hk
     subst hk
     obtain ⟨a,h1,rfl,h2⟩:=DataW.trod_string hu hx
     refine ⟨[.s a],by rw [h1];rfl,⟨h2,trivial⟩,fun s hs=>?_⟩
     simp only [List.mem_singleton,Dat.s.injEq] at hs
     subst hs
     have:=hok s.data.toList.length (by simp [DataW.weights])
     simpa using this
    ·rename_i hu
     injection hk with hk
     subst hk
     obtain ⟨a,h1,rfl⟩:=DataW.trod_bool hu hx
     exact ⟨[.b a],by rw [h1];rfl,⟨trivial,trivial⟩,fun s hs=>by simp at hs⟩
    ·cases hk
   ·cases h
theorem open_trees2 {w:World} {b0:Nat} {t e:TypeId} {ks:List CK} {v:Value} {d:DataW H} {ps:List MemPlace} (ht:P.underlying t=some (.slice e)) {m:Nat} (hks:pT P m e=some ks) (hc:P.cellsOf e=ks.length) (hpos:0<ks.length)
  (hok:sh P t d) (hv:Value.okWide P w .any b0 t v) (h:DataW.Trod enc P w 0 (fun _=>true) true t v d ps) :
  ∃ L,bO (·<w.heap.size) w ks L v/\(∀ o∈L,eD ks o/\eQ o)/\(L=[]\/∃ elems spare,d=.slice elems spare/\L.length=elems.length):=by
 obtain ⟨fuel,h⟩:=h
 have hcs:v.cells.toList=[v]:=by
  unfold Value.okWide at hv
  simp only [ht] at hv
  unfold Cell.okWide at hv
  simp only [ht] at hv
  cases v<;>first|rfl|(unfold Cell.ok at hv;simp only [ht] at hv)
 rw [hcs] at h
 rcases DataW.trod_slice ht h with ⟨h2,h3⟩|⟨a,len,cap,elems,rest,n,_,h2,h3,hb,hl,hm,hlen,hel,_,_⟩
 ·injection h2 with h2
  exact ⟨[],.inl ⟨⟨_,h2⟩,rfl⟩,by simp,.inl rfl⟩
 ·injection h2 with h2
  subst h2
  have hsp:a.spot=none:=by
   unfold Value.okWide at hv
   simp only [ht] at hv
   unfold Cell.okWide at hv
   simp only [ht] at hv
   unfold Cell.ok at hv
   simp only [ht] at hv
   exact hv.2.2.2.1
  obtain ⟨b,o,spot⟩:=a
  simp only at hsp
  subst hsp
  have each:∀ i,i<len->∃ l,(eD ks l/\eQ l)/\∀ (j:Nat) y,(aH ks l)[j]?=some y->w.cell? ⟨b,o+(i*ks.length+j),none⟩=some y:=by
   intro i hi
   have hy:=(hel i hi).trans (List.getElem?_eq_getElem (by omega:i<elems.length))
   rw [hc,Option.bind_eq_some_iff] at hy
   obtain ⟨cs,hcs,hy'⟩:=hy
   obtain ⟨g1,g2,g3⟩:=World.cells?_some hcs
   obtain ⟨l,h1,h2,h4⟩:=A6 m e ks hks _ _ _ hy' (fun k hk=>hok k (by
    injection h3 with h3 _
    rw [h3]
    simp only [DataW.weights,ht,List.mem_cons,List.mem_append]
    exact .inr (.inl (AE (i:=i) (by simp [List.getElem?_eq_getElem (by omega:i<elems.length)]) k hk))))
   refine ⟨l,⟨h2,h4⟩,fun j y hy=>?_⟩
   have hj:j<ks.length:=by have:=(List.getElem?_eq_some_iff.1 hy).1;rwa [cL] at this
   rw [h1] at hy
   have:=g3 j (by omega)
   rw [eP,eP] at this
   rw [<- Nat.add_assoc]
   rw [this]
   exact hy
  obtain ⟨L,hL1,hL2⟩:=OY len each
  refine ⟨L,.inr ⟨b,o,cap,by rw [hL1],by rw [hL1];exact hl,fun hne=>?_,fun i j l y hl hy=>(hL2 i l hl).2 j y hy⟩,fun l hl=>?_,.inr ⟨_,_,by injection h3 with h3 _,?_⟩⟩
  ·cases hLc:L with
   | nil=>exact absurd hLc hne
   | cons l r =>
    have h0:=(hL2 0 l (by rw [hLc];rfl)).2 0
    obtain ⟨y,hy⟩:∃ y,(aH ks l)[0]?=some y:=⟨(aH ks l)[0]'(by rw [cL];exact hpos),by rw [List.getElem?_eq_getElem]⟩
    exact World.block_lt_of_cell? w _ (h0 y hy)
  ·obtain ⟨i,hi⟩:=List.getElem?_of_mem hl
   exact (hL2 i l hi).1
  ·simp [hL1,hlen]
theorem reachW_of {ts:List TypeId} {ds:List (DataW H)} (h:(DataW.weightsEach P ts ds).all (·<=reachBytes)=true) {j:Nat} {t:TypeId} {d:DataW H} (ht:ts[j]?=some t) (hd:ds[j]?=some d):sh P t d:=fun n hn=>by
 have:=List.all_eq_true.1 h _ (DataW.weights_mem_each ht hd n hn)
 simpa using this
end
end Go.Sx
namespace Go.Sx
open Go.RowKit
section
variable {P:Program}
def OZ (P:Program) (ext:FuncId->List SV->Mem->Option (Bool×SV×Mem)) (rd:FuncId->List SV->Mem->Option (Bool×Value)) (eqv:TypeId->List Value->List Value->Option Bool) (wr:FuncId->Bool) (n:Nat):Nat->Orc
 | 0=>{ call:=ext,eqv:=eqv,conc:=true,rd:=rd,wr:=wr,sb:=true,bs:=true }
 | d + 1 => { call := (fun f as m => match ext f as m with
     | some r=>some r
     | none=>match P.funcs[f]? with
       | some fn=>match runG (OZ P ext rd eqv wr n d) (dV (OZ P ext rd eqv wr n d) P n 2) P fn as m with
         | some (r,m')=>some (true,r,m')
         | none=>none
       | none=>none),eqv:=eqv,conc:=true,rd:=rd,wr:=wr,sb:=true,bs:=true }
def og (P:Program) (ext:FuncId->List SV->Mem->Option (Bool×SV×Mem)) (rd:FuncId->List SV->Mem->Option (Bool×Value)) (eqv:TypeId->List Value->List Value->Option Bool) (wr:FuncId->Bool) (n:Nat):Nat->Orc
 | 0=>{ call:=ext,eqv:=eqv,conc:=true,rd:=rd,wr:=wr,sb:=true,bs:=true,av:=true }
 | d + 1 => { call := (fun f as m => match ext f as m with
     | some r=>some r
     | none=>match P.funcs[f]? with
       | some fn=>match runG (og P ext rd eqv wr n d) (dV (og P ext rd eqv wr n d) P n 2) P fn as m with
         | some (r,m')=>some (true,r,m')
         | none=>none
       | none=>none),eqv:=eqv,conc:=true,rd:=rd,wr:=wr,sb:=true,bs:=true,av:=true }
theorem yH (hm:P.follows .mixedOrders=true) (hN:pO P=true) {ext:FuncId->List SV->Mem->Option (Bool×SV×Mem)} {rd:FuncId->List SV->Mem->Option (Bool×Value)} {eqv:TypeId->List Value->List Value->Option Bool} {wr:FuncId->Bool} (h0:Orc.Ok { call:=ext,eqv:=eqv,conc:=true,rd:=rd,wr:=wr,sb:=true,bs:=true,av:=true } P) (n:Nat):∀ d,(og P ext rd eqv wr n d).Ok P
 | 0=>h0
 | d+1=>by
  have ih:=yH hm hN h0 n d
  refine ⟨fun f as m r m' h=>?_,h0.rd,h0.eqv⟩
  simp only [og] at h
  split at h
  ·rename_i q hq
   injection h with h
   subst h
   exact h0.call f as m r m' hq
  ·split at h
   ·rename_i fn hf
    split at h
    ·rename_i r' m1 hv
     injection h with h
     injection h with _ h
     injection h with e1 e2
     subst e1 e2
     cases hb:fn.body with
     | none=>simp [runG,hb] at hv
     | some c=>exact Hp ih hm hN hf hb (fun z _ _ b _=>eY ih hm n 2 b) hv
    ·cases h
   ·cases h
end
end Go.Sx
namespace Go.Sx
open Go.RowKit Go.Joins Go.Deep Go.ChangeShapes Go.WideShapes
section
variable {H:Type} {enc:TypeId×Value->H} {P:Program}
end
end Go.Sx
namespace Go.Sx
section
variable {R:Type} (Γ:Orc) (P:Program)
def oh (Λ:aV) (cut:St->St) (body:Code) (st:St) (nx:St->Option R) (k:Ex->St->Option R):Option R :=
 ev Γ Λ P body st (fun e st'=>match e with
  | .normal=>oc Γ.conc (cut st') nx
  | .exit id=>k (.exit id) st'
  | .ret=>k .ret st')
def li (Λs:Nat->aV) (cut:St->St) (body:Code):Nat->St->(Ex->St->Option R)->Option R
 | 0,_,_=>none
 | n+1,st,k=>oh Γ P (Λs n) cut body st (fun st'=>li Λs cut body n st' k) k
end
section
variable {R:Type} {Γ:Orc} {P:Program} {w0:Base}
theorem qhS {Λs:Nat->aV} {cut:St->St} {body:Code} {n:Nat} {st:St} {k:Ex->St->Option R}:li Γ P Λs cut body (n+1) st k=oh Γ P (Λs n) cut body st (fun st'=>li Γ P Λs cut body n st' k) k:=rfl
theorem O3 (hΓ:Γ.Ok P) (hm:P.follows .mixedOrders=true) {Λs:Nat->aV} {body:Code} (hL:∀ n,∀ b∈aF body,aS (Λs n) P w0 b) {cut:St->St} (hcut:∀ st a w,a9 P cv w0 st a w->a9 P cv w0 (cut st) a w)
  {k:Ex->St->Option R} {r:R} {Q:Exit->Act->World->Prop} (hQ:∀ e st',e≠.normal->k e st'=some r->∀ a w,a9 P cv w0 st' a w->Q e.out a w):∀ (n:Nat) (st:St) (a:Act) (w:World),
  li Γ P Λs cut body n st k=some r->a9 P cv w0 st a w->Code.rounds P body Q n a w
 | 0,st,a,w,h,hR=>by simp [li] at h
 | n+1,st,a,w,h,hR=>by
  rw [qhS] at h
  unfold oh at h
  rw [rounds_succ]
  refine kb hΓ hm body (hL n) st _ r _ a w h hR ?_
  intro e st' hk a' w' hR'
  cases e with
  | normal =>
   rw [qq] at hk
   exact O3 hΓ hm hL hcut hQ n (cut st') a' w' hk (hcut _ _ _ hR')
  | exit id=>exact hQ (.exit id) st' (by simp) hk a' w' hR'
  | ret=>exact hQ .ret st' (by simp) hk a' w' hR'
theorem qcJ (hΓ:Γ.Ok P) (hm:P.follows .mixedOrders=true) {Λ':aV} {body:Code} {n m:Nat} (hn:w0.L.length=n) (hm':w0.U.length=m) {keep:List Bool} {kx:Ex->List Bool} {G:List SV->Mem->Option (Bool×Ex×St)} (hF:∀ st,Λ' body st=cJ n m keep G st)
  (h:∀ vals mm e st',G vals mm=some (true,e,st')->∃ Λs:Nat->aV,(∀ n,∀ b∈aF body,aS (Λs n) P w0 b)/\∃ k,li (R:=Ex×St) Γ P Λs (ac n m keep) body k (mk keep vals mm) (fun e st=>some (e,ac n m (kx e) st))=some (e,st')):aS Λ' P w0 body:=by
 intro st t hs a w hR
 rw [hF] at hs
 unfold cJ at hs
 split at hs
 ·rename_i vals mm hv
  split at hs
  case h_2=>cases hs
  rename_i g e st' hG
  injection hs with hs
  injection hs with h1 h2
  subst h1 h2
  obtain ⟨Λs,hL,k,hk⟩:=h vals mm e st' hG
  have hc:=lm hn hm' (keep:=keep) hR
  unfold ac at hc
  rw [hv] at hc
  refine wp_loop_rounds k (O3 hΓ hm hL (fun _ _ _ h=>lm hn hm' h) (r:=(e,st')) ?_ k _ a w hk hc)
  intro e1 st1 _ hk a' w' hR'
  injection hk with hk
  injection hk with h1 h2
  subst h1 h2
  exact ⟨rfl,lm hn hm' hR'⟩
 ·cases hs
end
end Go.Sx
namespace Go.Sx
open Go.RowKit
end Go.Sx
