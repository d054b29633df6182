/-
  The executor: contracts of calls and of loops,a law's arguments. No condition.
-/
import Derived.Test.YtainfdcfkgemhaaGreatSy
import Derived.SizedLaws
import Derived.ChangeStays
import Derived.OpenShut
import Derived.Lib.SmallJoins
import Derived.Laws.LoneSync
import Derived.Laws.Externs
import Derived.WideShapes
noncomputable section
namespace Go.Sx
open Go.RowKit
inductive LT where
 | leaf (e:Ex) (st:St)
 | br (b:Bool) (x y:LT)
def LT.pick:LT->Ex×St
 | .leaf e st=>(e,st)
 | .br b x y=>bif b then x.pick else y.pick
def LT.go {R:Type} (k:Ex->St->Option R):LT->Option R
 | .leaf e st=>k e st
 | .br b x y=>bif b then x.go k else y.go k
theorem LT.go_eq {R:Type} (k:Ex->St->Option R):∀ t:LT,t.go k=k t.pick.1 t.pick.2
 | .leaf e st=>rfl
 | .br b x y=>by
  cases b
  ·exact LT.go_eq k y
  ·exact LT.go_eq k x
abbrev aV:=Code->St->Option (Bool×LT)
section
variable {R:Type} (Γ:Orc) (Λ:aV) (P:Program)
def qA (st:St) (ops:List Oper) (bl:List (Tmp×Nat)) (t:Tmp):Option Nat :=
 match fx bl (.tmp t) with
 | some c=>some c
 | none=>bif ops.any (fun o=>match o.dst with|some d=>Nat.beq d t|none=>false) then none else match st.tmps.get t with
  | some (.ptr l _)=>some (l+1)
  | _=>none
def qih (av ia:Bool) (P:Program) (st:St) (ops:List Oper) (bl:List (Tmp×Nat)) (o:Oper):List (Tmp×Nat) :=
 match o.op,o.dst with
 | .move (.tmp p),some d=>match av,qA st ops bl p with
  | true,some c=>(d,c)::bl
  | _,_=>bl
 | .nilCheck (.tmp p),some d=>match av,qA st ops bl p with
  | true,some c=>(d,c)::bl
  | _,_=>bl
 | .indexAddr t x _,some d=>match P.underlying t with
  | some (.slice _)=>(d,0)::bl
  | _=>match ia,x with
   | true,.tmp p=>match qA st ops bl p with
    | some c=>(d,c)::bl
    | none=>bl
   | _,_=>bl
 | .fieldAddr _ (.tmp p) _,some d=>match qA st ops bl p with
  | some c=>match av,fx bl (.tmp p) with
   | true,none=>(d,c)::(p,c)::bl
   | _,_=>(d,c)::bl
  | none=>bl
 | .load _ (.tmp p),_=>match fx bl (.tmp p),qA st ops bl p with
  | none,some c=>(p,c)::bl
  | _,_=>bl
 | .store _ (.tmp p) _,_=>match fx bl (.tmp p),qA st ops bl p with
  | none,some c=>(p,c)::bl
  | _,_=>bl
 | _,_=>bl
def om (av ia:Bool) (P:Program) (st:St) (ops:List Oper) (a:List (Tmp×Nat×TypeId)):List (Tmp×Nat) :=
 ops.foldl (qih av ia P st ops) (a.map fun x=>(x.1,x.2.1+1))
def xj (Γ:Orc) (P:Program):TypeId->Bool :=
 match Γ.bs with
 | true=>qbk P
 | false=>fun _=>false
def ku (av:Bool) (bl:List (Tmp×Nat)):List Oper->List Nat
 | []=>[]
 | o::r=>match av,o.op with
  | true,.load _ p=>match fx bl p with
   | some (l+1)=>bif (ku av bl r).any (Nat.beq l) then ku av bl r else l::ku av bl r
   | _=>ku av bl r
  | _,_=>ku av bl r
def Hi {S:Type} (Γ:Orc) (P:Program) (st:St) (ops:List Oper) (al:Al) (k:Al->S):S :=
 fL (fun x k=>fN x.1 fun d=>fN x.2.1 fun l=>fN x.2.2 fun e=>k (d,l,e)) al.a fun a =>
 fL (fun x k=>fN x.1 fun d=>fN x.2 fun l=>k (d,l)) (om Γ.av Γ.ia P st ops a) fun bl=>fL (fun x k=>fN x k) (ku Γ.av bl ops) fun lb=>k ⟨a,Γ.wr,Γ.sb,Γ.bs,bl,xj Γ P,Γ.av,lb⟩
theorem qhk {S:Type} (Γ:Orc) (P:Program) (st:St) (ops:List Oper) (al:Al) (k:Al->S):Hi Γ P st ops al k=k { al with wr:=Γ.wr,sb:=Γ.sb,bs:=Γ.bs,bl:=om Γ.av Γ.ia P st ops al.a,ld:=xj Γ P,av:=Γ.av,lb:=ku Γ.av (om Γ.av Γ.ia P st ops al.a) ops }:=by
 unfold Hi
 rw [dF (fun x k=>by simp only [nO]),dF (fun x k=>by simp only [nO]),dF (fun x k=>by simp only [nO])]
def same (x y:Option R):Option R:=@ite _ (x=y) (Classical.propDecidable _) x none
def vL:List (Option R)->Option R
 | []=>none
 | [x]=>x
 | x::y::r=>same x (vL (y::r))
def qq (al:Al) (ops:Array Oper):Nat->Array Bool->St->(St->Option R)->Option R
 | 0,listed,st,k=>match Region.ready .any ops listed with
  | []=>k st
  | _::_=>none
 | f+1,listed,st,k=>match Region.ready .any ops listed with
  | []=>k st
  | i::r=>match (i::r).find? (lY P al ops listed) with
   | some j=>match ops[j]? with
    | some o=>kG (listed.setIfInBounds j true).toList fun fl=>o9 Γ P (some al) ops o st (fun st'=>qq al ops f fl.toArray st' k)
    | none=>none
   | none=>match Γ.conc with
    | true=>match sV Γ P al ops (f+1) [(listed,st)] with
     | some s=>nN Γ.conc s k
     | none=>none
    | false=>vL ((i::r).map fun j=>match ops[j]? with
     | some o=>kG (listed.setIfInBounds j true).toList fun fl=>o9 Γ P (some al) ops o st (fun st'=>qq al ops f fl.toArray st' k)
     | none=>none)
def rounds (c:Bool) (f:St->(Ex->St->Option R)->Option R):Nat->St->(Ex->St->Option R)->Option R
 | 0,_,_=>none
 | n+1,st,k=>f st (fun e st'=>match e with
  | .normal=>nN c st' (fun st'=>rounds c f n st' k)
  | .exit id=>k (.exit id) st'
  | .ret=>k .ret st')
def loopsOf:Code->List Code
 | .seq a b=>loopsOf a++loopsOf b
 | .cond _ a b=>loopsOf a++loopsOf b
 | .block _ a=>loopsOf a
 | .scope a=>loopsOf a
 | .loop a=>[a]
 | _=>[]
def ev:Code->St->(Ex->St->Option R)->Option R
 | .skip,st,k=>k .normal st
 | .label _,st,k=>k .normal st
 | .region _ ops draw,st,k=>match draw with
  | false=>yO Γ P none ops ops.toList st (k .normal)
  | true=>match lG P ops.toList st.mem with
   | some (al,m)=>Hi Γ P st ops.toList al fun al=>match pT P al ops ops.size (Array.replicate ops.size false) with
    | some ord=>yP Γ P (some al) ops ord { st with mem:=m } (k .normal)
    | none=>qq Γ P al ops ops.size (Array.replicate ops.size false) { st with mem:=m } (k .normal)
   | none=>none
 | .seq a b,st,k=>ev a st (fun e st'=>match e with
  | .normal=>ev b st' k
  | .exit id=>k (.exit id) st'
  | .ret=>k .ret st')
 | .cond c x y,st,k=>match st.eval c with
  | some (.v (.bool t))=>bif t then ev x (lD st c true) k else ev y (lD st c false) k
  | _=>none
 | .block id body,st,k=>ev body st (fun e st'=>match e with
  | .exit id'=>if id'=id then k .normal st' else k (.exit id') st'
  | .normal=>k .normal st'
  | .ret=>k .ret st')
 | .scope body,st,k=>ev body st k
 | .exit id,st,k=>k (.exit id) st
 | .ret,st,k=>k .ret st
 | .loop body,st,k=>match Λ body st with
  | some (g,t)=>bif g then t.go k else none
  | none=>match loopsOf body with
   | []=>rounds Γ.conc (fun st k=>ev body st k) Γ.unr st k
   | _=>none
 | _,_,_=>none
def aQ (w0:Base) (body:Code):Prop :=
 ∀ st t,Λ body st=some (true,t)->∀ a w,ba P cc w0 st a w->(Code.loop body).wp P (fun e' a' w'=>e'=t.pick.1.out/\ba P cc w0 t.pick.2 a' w') a w
end
section
variable {R:Type} {Γ:Orc} {Λ:aV} {P:Program} {w0:Base}
theorem fY (x:Option R):same x x=x:=by unfold same;rw [if_pos rfl]
theorem Vd {x y:Option R} {r:R} (h:same x y=some r):x=some r/\y=some r:=by
 unfold same at h
 split at h
 ·rename_i e
  subst e
  exact ⟨h,h⟩
 ·cases h
theorem LI:∀ {l:List (Option R)} {r:R},vL l=some r->∀ x∈l,x=some r
 | [],r,h,x,hx=>by cases hx
 | [x],r,h,y,hy=>by simp only [List.mem_singleton] at hy;subst hy;exact h
 | x::y::l,r,h,z,hz=>by
  obtain ⟨h1,h2⟩:=Vd (show same x (vL (y::l))=some r from h)
  rcases List.mem_cons.1 hz with rfl|hz
  ·exact h1
  ·exact LI h2 z hz
theorem Hk {al:Al} {ops:Array Oper} {k:St->Option R} {r:R}:∀ (f:Nat) (listed:Array Bool) (st:St),qq Γ P al ops f listed st k=some r->iq Γ P al ops (fun st'=>k st'=some r) f listed st
 | 0,listed,st,h=>by
  unfold qq at h
  split at h
  ·rename_i h0
   exact ⟨h0,h⟩
  ·cases h
 | f+1,listed,st,h=>by
  unfold qq at h
  split at h
  ·rename_i h0
   exact ⟨fun _=>h,fun i hi=>by rw [h0] at hi;cases hi⟩
  ·rename_i i r' hr
   split at h
   ·rename_i j hj
    split at h
    ·rename_i o ho
     rw [nQ] at h
     obtain ⟨st1,h1,h2⟩:=vv h
     have hf:lY P al ops listed j=true:=List.find?_some hj
     have ih:=Hk f _ st1 h2
     have hmem:j∈Region.ready .any ops listed:=by rw [hr];exact List.mem_of_find?_eq_some hj
     exact BK ho (kL ops listed j (List.range ops.size) []) f listed st st1 (tP _ _ (fun _ h=>by cases h)) (G9 ho hf) hmem h1 (by rwa [Array.toArray_toList] at ih)
    ·cases h
   ·have hne:Region.ready .any ops listed≠[]:=by rw [hr];exact List.cons_ne_nil _ _
    split at h
    ·split at h
     ·rename_i s hs
      rw [qo] at h
      exact NO hs h (listed,st) List.mem_cons_self
     ·cases h
    refine ⟨fun h0=>absurd h0 hne,fun j hj=>?_⟩
    rw [hr] at hj
    have hx:=LI h _ (List.mem_map.2 ⟨j,hj,rfl⟩)
    split at hx
    ·rename_i o ho
     rw [nQ] at hx
     obtain ⟨st1,h1,h2⟩:=vv hx
     have ih:=Hk f _ st1 h2
     exact ⟨o,st1,ho,h1,by rwa [Array.toArray_toList] at ih⟩
    ·cases hx
theorem jO (hΓ:Γ.Ok P) (hm:P.follows .mixedOrders=true):∀ (c:Code) (_:∀ b∈loopsOf c,aQ Λ P w0 b) (st:St) (k:Ex->St->Option R) (r:R) (Q:Exit->Act->World->Prop) (a:Act) (w:World),
  ev Γ Λ P c st k=some r->ba P cc w0 st a w->(∀ e st',k e st'=some r->∀ a w,ba P cc w0 st' a w->Q e.out a w)->c.wp P Q a w
 | .skip,hL,st,k,r,Q,a,w,h,hR,hQ=>wp_skip (hQ .normal st h a w hR)
 | .label _,hL,st,k,r,Q,a,w,h,hR,hQ=>wp_label (hQ .normal st h a w hR)
 | .exit id,hL,st,k,r,Q,a,w,h,hR,hQ=>wp_exit (hQ (.exit id) st h a w hR)
 | .ret,hL,st,k,r,Q,a,w,h,hR,hQ=>wp_ret (hQ .ret st h a w hR)
 | .region id ops false,hL,st,k,r,Q,a,w,h,hR,hQ=>by
  obtain ⟨st',h1,h2⟩:=O6 ops.toList st (by simpa [ev] using h)
  exact qaw hΓ h1 hR (fun a w hR'=>hQ .normal st' h2 a w hR')
 | .region id ops true,hL,st,k,r,Q,a,w,h,hR,hQ=>by
  simp only [ev] at h
  split at h
  ·rename_i al m hpre
   rw [qhk] at h
   split at h
   ·rename_i ord hlex
    obtain ⟨st',h1,h2⟩:=O7 ord _ h
    exact qax hΓ hm (al:={ al with wr:=Γ.wr,sb:=Γ.sb,bs:=Γ.bs,bl:=om Γ.av Γ.ia P st ops.toList al.a,ld:=xj Γ P,av:=Γ.av,lb:=ku Γ.av (om Γ.av Γ.ia P st ops.toList al.a) ops.toList }) (alp:=al) rfl hlex hpre h1 hR (fun a w hR'=>hQ .normal st' h2 a w hR')
   ·exact qay hΓ hm (al:={ al with wr:=Γ.wr,sb:=Γ.sb,bs:=Γ.bs,bl:=om Γ.av Γ.ia P st ops.toList al.a,ld:=xj Γ P,av:=Γ.av,lb:=ku Γ.av (om Γ.av Γ.ia P st ops.toList al.a) ops.toList }) (alp:=al) rfl hpre (Hk _ _ _ h) hR (fun st' hT a w hR'=>hQ .normal st' hT a w hR')
  ·cases h
 | .seq x y,hL,st,k,r,Q,a,w,h,hR,hQ=>by
  refine wp_seq (jO hΓ hm x (fun b hb=>hL b (by simp [loopsOf,hb])) st _ r _ a w h hR ?_)
  intro e st' hk a' w' hR'
  cases e with
  | normal=>exact jO hΓ hm y (fun b hb=>hL b (by simp [loopsOf,hb])) st' k r Q a' w' hk hR' hQ
  | exit id=>exact hQ (.exit id) st' hk a' w' hR'
  | ret=>exact hQ .ret st' hk a' w' hR'
 | .cond c x y,hL,st,k,r,Q,a,w,h,hR,hQ=>by
  simp only [ev] at h
  split at h
  ·rename_i t ht
   have e:=LF ht
   obtain ⟨V,hR0,hp⟩:=hR
   have hc:a.eval c=.bool t:=hR0.eval ht
   refine wp_cond hc ?_
   cases t with
   | false =>
    simp only [cond_false,e] at h
    exact jO hΓ hm y (fun b hb=>hL b (by simp [loopsOf,hb])) st k r Q a w h ⟨V,hR0,hp⟩ hQ
   | true =>
    simp only [cond_true,e] at h
    exact jO hΓ hm x (fun b hb=>hL b (by simp [loopsOf,hb])) st k r Q a w h ⟨V,hR0,hp⟩ hQ
  ·cases h
 | .block id body,hL,st,k,r,Q,a,w,h,hR,hQ=>by
  refine wp_block (jO hΓ hm body (fun b hb=>hL b (by simpa [loopsOf] using hb)) st _ r _ a w h hR ?_)
  intro e st' hk a' w' hR'
  cases e with
  | normal=>exact hQ .normal st' hk a' w' hR'
  | exit id' =>
   simp only at hk
   simp only [Ex.out,Exit.inBlock]
   split at hk
   ·rename_i he
    rw [if_pos he]
    exact hQ .normal st' hk a' w' hR'
   ·rename_i he
    rw [if_neg he]
    exact hQ (.exit id') st' hk a' w' hR'
  | ret=>exact hQ .ret st' hk a' w' hR'
 | .scope body,hL,st,k,r,Q,a,w,h,hR,hQ=>by
  refine wp_scope_straight (jO hΓ hm body (fun b hb=>hL b (by simpa [loopsOf] using hb)) st k r _ a w h hR ?_)
  intro e st' hk a' w' hR'
  cases e with
  | normal=>exact hQ .normal st' hk a' w' hR'
  | exit id'=>exact hQ (.exit id') st' hk a' w' hR'
  | ret=>exact hQ .ret st' hk a' w' hR'
 | .loop body,hL,st,k,r,Q,a,w,h,hR,hQ=>by
  simp only [ev] at h
  split at h
  case h_2 hnone =>
   clear hnone
   split at h
   case h_2=>cases h
   rename_i hl
   have ih:=fun (st:St) (k:Ex->St->Option R) (r:R) (Q:Exit->Act->World->Prop) (a:Act) (w:World)=>jO hΓ hm body (fun b hb=>by rw [hl] at hb;cases hb) st k r Q a w
   refine wp_loop_rounds Γ.unr ?_
   generalize Γ.unr=n at h ⊢
   clear hL
   induction n generalizing st a w with
   | zero=>simp [rounds] at h
   | succ n ihn =>
    simp only [rounds] at h
    rw [rounds_succ]
    refine ih st _ r _ a w h hR ?_
    intro e st' hk a' w' hR'
    cases e with
    | normal =>
     rw [qo] at hk
     exact ihn st' a' w' hR' hk
    | exit id=>exact hQ (.exit id) st' hk a' w' hR'
    | ret=>exact hQ .ret st' hk a' w' hR'
  ·rename_i g t hl
   cases g with
   | false=>cases h
   | true =>
   rw [cond_true,LT.go_eq] at h
   refine wp_mono (hL body (by simp [loopsOf]) st t hl a w hR) ?_
   rintro e' a' w' ⟨rfl,hR'⟩
   exact hQ t.pick.1 t.pick.2 h a' w' hR'
 | .rangeFunc ..,hL,st,k,r,Q,a,w,h,hR,hQ=>by simp [ev] at h
 | .goto _,hL,st,k,r,Q,a,w,h,hR,hQ=>by simp [ev] at h
 | .refuse _,hL,st,k,r,Q,a,w,h,hR,hQ=>by simp [ev] at h
def vh:SV->Option TC
 | .v x=>some (.one (.v x))
 | .ptr l o=>some (.one (.ptr l o))
 | .row r=>some (.one (.row r))
 | .clo f l o=>some (.one (.clo f l o))
 | .ag cs=>some (.ag cs)
 | _=>none
theorem KW {V:Vl} {x:SV} {c:TC} {y:Value} (h:vh x=some c) (hd:aH V x y):fj V c y:=by
 cases x<;>simp [vh] at h<;>subst h<;>exact hd
def lF (P:Program) (st:St):List ResultVar->Option (List TC)
 | []=>some []
 | .tmp t::r=>match (st.tmps.get t).bind vh,lF P st r with
  | some c,some l=>some (c::l)
  | _,_=>none
 | .cell t ty::r=>match st.tmps.get t,c9 P ty,a9 P ty with
  | some (.ptr l off),some ag,some n=>match st.mem.blk[l]? with
   | some cs=>if off+n<=cs.length then (match (gZ ag ((cs.drop off).take n)).bind vh,lF P st r with
    | some c,some l=>some (c::l)
    | _,_=>none) else none
   | none=>none
  | _,_,_=>none
def mQ (l:List Value):Value :=
 match l with
 | [y]=>y
 | l=>.tuple l.toArray
def jY:List TC->Option (List Value)
 | []=>some []
 | .one (.v x)::r=>match jY r with
  | some l=>some (x::l)
  | none=>none
 | _::_=>none
def oS (l:List TC):SV :=
 match l with
 | [c]=>c.sv
 | l=>match jY l with
  | some vs=>.v (.tuple vs.toArray)
  | none=>.tup l
theorem Qr {V:Vl}:∀ {l:List TC} {vs us:List Value},jY l=some vs->aG (fj V) l us->us=vs
 | [],vs,[],h,_=>by simp [jY] at h;exact h.symm▸rfl
 | .one (.v x)::r,vs,u::us,h,hd=>by
  unfold jY at h
  split at h
  ·rename_i l hl
   injection h with h
   subst h
   have h1:u=x:=hd.1
   rw [h1,Qr hl hd.2]
  ·cases h
 | .one (.ptr _ _)::_,_,_::_,h,_=>by simp [jY] at h
 | .one (.row _)::_,_,_::_,h,_=>by simp [jY] at h
 | .one (.clo _ _ _)::_,_,_::_,h,_=>by simp [jY] at h
 | .ag _::_,_,_::_,h,_=>by simp [jY] at h
 | [],_,_::_,_,hd=>hd.elim
 | _::_,_,[],_,hd=>hd.elim
theorem T1 {V:Vl} {l:List TC} {vs:List Value} (h:aG (fj V) l vs):aH V (oS l) (mQ vs):=by
 have gen:(∀ c,l≠[c])->aH V (oS l) (mQ vs):=by
  intro hne
  have e1:oS l=match jY l with|some vs=>.v (.tuple vs.toArray)|none=>.tup l:=by
   unfold oS
   split
   ·exact absurd rfl (hne _)
   ·rfl
  have e2:mQ vs=.tuple vs.toArray:=by
   unfold mQ
   split
   ·rename_i y
    cases l with
    | nil=>exact h.elim
    | cons c r=>cases r with
     | nil=>exact absurd rfl (hne c)
     | cons _ _=>exact h.2.elim
   ·rfl
  rw [e1,e2]
  split
  ·rename_i us hus
   rw [Qr hus h]
   rfl
  ·exact ⟨vs,rfl,h⟩
 cases l with
 | nil=>exact gen (by simp)
 | cons c r=>cases r with
  | cons _ _=>exact gen (by simp)
  | nil=>cases vs with
   | nil=>exact h.elim
   | cons y us=>cases us with
    | nil=>exact KV h.1
    | cons _ _=>exact h.2.elim
def uo (q:List Nat×List Nat):TC->List Nat×List Nat
 | .one a=>mA q a
 | .ag cs=>cs.foldl mA q
def zH (q:List Nat×List Nat) (x:SV):List Nat×List Nat :=
 match x with
 | .tup cs=>cs.foldl uo q
 | x=>uq q x
def wn (ls rs:List Nat):TC->Option TC
 | .one a=>match dC ls rs a with
  | some a=>some (.one a)
  | none=>none
 | .ag cs=>match cv (dC ls rs) cs with
  | some cs=>some (.ag cs)
  | none=>none
def sB (ls rs:List Nat) (x:SV):Option SV :=
 match x with
 | .tup cs=>match cv (wn ls rs) cs with
  | some cs=>some (.tup cs)
  | none=>none
 | x=>iu ls rs x
def CA (rows:List RowS) (r:Nat):Option RowS:=rows[r]?
def gc (n m:Nat) (r:SV) (mem:Mem):Option (SV×Mem) :=
 match iw mem.blk (mem.blk.length+1) 0 (zH (List.range n,List.range m) r) with
 | some (ls,rs)=>match sB ls rs r,cv (o7 mem.blk ls rs) ls,cv (CA mem.rows) rs with
  | some r',some b,some rows=>some (r',⟨b,b.map fun _=>true,rows⟩)
  | _,_,_=>none
 | none=>none
structure Pre (q q':List Nat×List Nat):Prop where
 b:∀ (i x:Nat),q.1[i]?=some x->q'.1[i]?=some x
 r:∀ (i x:Nat),q.2[i]?=some x->q'.2[i]?=some x
theorem Pre.refl (q:List Nat×List Nat):Pre q q:=⟨fun _ _ h=>h,fun _ _ h=>h⟩
theorem Pre.trans {q q' q'':List Nat×List Nat} (h:Pre q q') (h':Pre q' q''):Pre q q'':=⟨fun i x hx=>h'.b i x (h.b i x hx),fun i x hx=>h'.r i x (h.r i x hx)⟩
theorem H1 {m:List Nat} {r i x:Nat} (h:m[i]?=some x):(eD m r)[i]?=some x:=by
 unfold eD
 cases m.contains r
 ·simp only [cond_false]
  rw [List.getElem?_append_left (List.getElem?_eq_some_iff.1 h).1]
  exact h
 ·exact h
theorem kV (q:List Nat×List Nat) (x:SA):Pre q (mA q x):=by
 cases x with
 | v _=>exact .refl _
 | ptr l o=>exact ⟨fun _ _ h=>H1 h,fun _ _ h=>h⟩
 | row l=>exact ⟨fun _ _ h=>h,fun _ _ h=>H1 h⟩
 | clo f l o=>exact ⟨fun _ _ h=>H1 h,fun _ _ h=>h⟩
theorem yz:∀ (cs:List SA) (q:List Nat×List Nat),Pre q (cs.foldl mA q)
 | [],q=>.refl q
 | c::cs,q=>(kV q c).trans (yz cs _)
theorem qiC (q:List Nat×List Nat) (c:TC):Pre q (uo q c):=by
 cases c with
 | one a=>exact kV q a
 | ag cs=>exact yz cs q
theorem OL:∀ (cs:List TC) (q:List Nat×List Nat),Pre q (cs.foldl uo q)
 | [],q=>.refl q
 | c::cs,q=>(qiC q c).trans (OL cs _)
theorem oA (q:List Nat×List Nat) (x:SV):Pre q (zH q x):=by
 cases x with
 | ptr l o=>exact kV q (.ptr l o)
 | row r=>exact kV q (.row r)
 | clo f l o=>exact kV q (.clo f l o)
 | ag cs=>exact yz cs q
 | tup cs=>exact OL cs q
 | part r n lo hi=>exact kV q (.row r)
 | _=>exact .refl q
theorem Cc {blk:List (List SA)}:∀ (f k:Nat) (q q':List Nat×List Nat),iw blk f k q=some q'->Pre q q'
 | 0,_,_,_,h=>by cases h
 | f+1,k,q,q',h=>by
  unfold iw at h
  split at h
  ·injection h with h
   subst h
   exact .refl q
  ·split at h
   ·rename_i cs _
    exact (yz cs q).trans (Cc f (k+1) _ q' h)
   ·cases h
section
variable {z:Base} {m:Mem} {V:Vl} {w:World}
theorem qiD {q:List Nat×List Nat} (h:Good (fun l=>V.b l≠none) (fun r=>V.r r≠none) q) {c:TC} {y:Value} (hx:fj V c y):Good (fun l=>V.b l≠none) (fun r=>V.r r≠none) (uo q c):=by
 cases c with
 | one a=>exact kW h (lN hx)
 | ag cs =>
  obtain ⟨vs,_,h2⟩:=hx
  refine yA cs h fun x hx=>?_
  obtain ⟨j,hj⟩:=List.getElem?_of_mem hx
  obtain ⟨v,_,hd⟩:=h2.get j x hj
  exact lN hd
theorem OM:∀ (cs:List TC) (vs:List Value) {q:List Nat×List Nat},Good (fun l=>V.b l≠none) (fun r=>V.r r≠none) q->aG (fj V) cs vs->Good (fun l=>V.b l≠none) (fun r=>V.r r≠none) (cs.foldl uo q)
 | [],_,_,h,_=>h
 | _::cs,_::vs,_,h,hx=>OM cs vs (qiD h hx.1) hx.2
 | _::_,[],_,_,hx=>hx.elim
theorem Qu {q:List Nat×List Nat} (h:Good (fun l=>V.b l≠none) (fun r=>V.r r≠none) q) {x:SV} {y:Value} (hx:aH V x y):Good (fun l=>V.b l≠none) (fun r=>V.r r≠none) (zH q x):=by
 cases x with
 | tup cs=>obtain ⟨vs,_,h2⟩:=hx;exact OM cs vs h h2
 | _=>exact Qv h hx
theorem qav {ls rs:List Nat} {c c':TC} {y:Value} (h:wn ls rs c=some c') (hd:fj V c y):fj (V.sub ls rs) c' y:=by
 cases c with
 | one a =>
  simp only [wn] at h
  split at h
  ·rename_i a' ha;injection h with h;subst h;exact nf ha hd
  ·cases h
 | ag cs =>
  simp only [wn] at h
  split at h
  ·rename_i cs' hcs;injection h with h;subst h
   obtain ⟨vs,h1,h2⟩:=hd
   exact ⟨vs,h1,Nr hcs h2⟩
  ·cases h
theorem Md {ls rs:List Nat} {x x':SV} {y:Value} (h:sB ls rs x=some x') (hd:aH V x y):aH (V.sub ls rs) x' y:=by
 cases x with
 | tup cs =>
  simp only [sB] at h
  split at h
  ·rename_i cs' hcs
   injection h with h
   subst h
   obtain ⟨vs,hy,hd⟩:=hd
   obtain ⟨h1,h2⟩:=jC hcs
   refine ⟨vs,hy,aG.of (h1.trans hd.length) fun j x v hx hv=>?_⟩
   have hj:j<cs.length:=by
    have:=(List.getElem?_eq_some_iff.1 hx).1
    omega
   obtain ⟨y,e1,e2⟩:=h2 j cs[j] (by simp [hj])
   rw [hx] at e1
   injection e1 with e1
   subst e1
   obtain ⟨v',e3,e4⟩:=hd.get j cs[j] (by simp [hj])
   rw [hv] at e3
   injection e3 with e3
   subst e3
   exact qav e2 e4
  ·cases h
 | _=>exact Me (by simpa [sB] using h) hd
theorem NQ (h:de z m V w):Good (fun l=>V.b l≠none) (fun r=>V.r r≠none) (List.range z.L.length,List.range z.U.length):=by
 refine ⟨fun l hl=>?_,fun r hr=>?_,List.nodup_range,List.nodup_range⟩
 ·have hl:l<z.L.length:=by simpa using hl
  rw [h.lent l z.L[l] (by simp [hl])]
  simp
 ·have hr:r<z.U.length:=by simpa using hr
  rcases h.lentr r z.U[r] (by simp [hr]) with e|e<;>rw [e]<;>simp
theorem Mh (h:de z m V w) {q q':List Nat×List Nat} {f k:Nat} (hq:Good (fun l=>V.b l≠none) (fun r=>V.r r≠none) q) (hre:iw m.blk f k q=some q'):Good (fun l=>V.b l≠none) (fun r=>V.r r≠none) q' :=
 Cd (G:=fun l=>V.b l≠none) (H:=fun r=>V.r r≠none) (blk:=m.blk) (fun l cs hg hc x hx=>by
  obtain ⟨j,hj⟩:=List.getElem?_of_mem hx
  obtain ⟨⟨b,o⟩,hb⟩:=Option.ne_none_iff_exists'.1 hg
  obtain ⟨y,_,hy,_⟩:=h.mem l b o hb cs hc j x hj
  exact lN hy) _ _ _ _ hq hre
def Vl.keep (V:Vl) (ls rs:List Nat):Vl:=⟨(V.sub ls rs).b,(V.sub ls rs).r,V.q⟩
theorem Bx {V:Vl} {ls rs:List Nat}:(V.sub ls rs).Le (V.keep ls rs):=⟨fun _ _ h=>h,fun _ h=>⟨h,fun _ hu=>hu⟩,fun _ _ h=>by cases h⟩
theorem K3 (h:de z m V w) {ls rs:List Nat} {b:List (List SA)} {rows:List RowS} (g1:Good (fun l=>V.b l≠none) (fun r=>V.r r≠none) (ls,rs)) (pb:∀ i,i<z.L.length->ls[i]?=some i) (pr:∀ i,i<z.U.length->rs[i]?=some i)
  (hb:cv (o7 m.blk ls rs) ls=some b) (hrows:cv (CA m.rows) rs=some rows):de z ⟨b,b.map fun _=>true,rows⟩ (V.keep ls rs) w:=by
 obtain ⟨hb1,hb2⟩:=jC hb
 obtain ⟨hr1,hr2⟩:=jC hrows
 have bb:∀ {i p},(V.sub ls rs).b i=some p->∃ l,ls[i]?=some l/\V.b l=some p/\i<ls.length:=by
  intro i p hp
  simp only [Vl.sub,Option.bind_eq_some_iff] at hp
  obtain ⟨l,h1,h2⟩:=hp
  exact ⟨l,h1,h2,(List.getElem?_eq_some_iff.1 h1).1⟩
 have nd:∀ {i i':Nat} {l l':Nat},ls[i]?=some l->ls[i']?=some l'->i≠i'->l≠l':=by
  intro i i' l l' h1 h2 hne e
  subst e
  have e1:=jF ls l 0 i g1.n1 h1
  have e2:=jF ls l 0 i' g1.n1 h2
  rw [e1] at e2
  injection e2 with e2
  omega
 have nd':∀ {i i':Nat} {l l':Nat},rs[i]?=some l->rs[i']?=some l'->i≠i'->l≠l':=by
  intro i i' l l' h1 h2 hne e
  subst e
  have e1:=jF rs l 0 i g1.n2 h1
  have e2:=jF rs l 0 i' g1.n2 h2
  rw [e1] at e2
  injection e2 with e2
  omega
 have rw_:∀ {j rc},rowAt rows j=some rc->∃ k,rs[j]?=some k/\rowAt m.rows k=some rc:=by
  intro j rc hj
  have hlt:j<rs.length:=by
   have:=sw hj
   omega
  obtain ⟨x,e1,e2⟩:=hr2 j rs[j] (by simp [hlt])
  have e2:m.rows[rs[j]]?=some x:=e2
  rw [rowAt,e1] at hj
  exact ⟨rs[j],by simp [hlt],by rw [rowAt,e2];exact hj⟩
 have vr:∀ {j k:Nat},rs[j]?=some k->(V.sub ls rs).r j=V.r k:=by
  intro j k hj
  simp [Vl.sub,hj]
 exact {
   len:=fun t x hx=>by cases hx
   tmps:=fun t x hx=>by cases hx
   defers:=rfl
   lens:=by simp
   mem:=fun l bl o hl cs' hcs' j x' hx'=>by
     obtain ⟨k,h1,h2,h3⟩:=bb hl
     obtain ⟨c1,e0,e00⟩:=hb2 l k h1
     obtain ⟨cs,e1,e3⟩:=K4 e00
     have e4:c1=cs':=by
       have:b[l]?=some cs':=hcs'
       rw [e0] at this
       injection this
     subst e4
     obtain ⟨q1,q2⟩:=jC e3
     have hj:j<cs.length:=by
       have:=(List.getElem?_eq_some_iff.1 hx').1
       omega
     obtain ⟨y',e5,e6⟩:=q2 j cs[j] (by simp [hj])
     rw [hx'] at e5
     injection e5 with e5
     subst e5
     obtain ⟨y,f1,f2,f3⟩:=h.mem k bl o h2 cs e1 j cs[j] (by simp [hj])
     exact ⟨y,f1,(nf e6 f2).mono Bx,f3⟩
   inj:=fun l l' b o b' o' h1 h2 hne=>by
     obtain ⟨k,e1,e2,_⟩:=bb h1
     obtain ⟨k',e3,e4,_⟩:=bb h2
     exact h.inj k k' b o b' o' e2 e4 (nd e1 e3 hne)
   own:=fun l b o hl=>by
     obtain ⟨k,e1,e2,e3⟩:=bb hl
     obtain ⟨f1,f2⟩:=h.own k b o e2
     refine ⟨f1.imp id fun hk=>?_,f2⟩
     apply Classical.byContradiction
     intro hn
     exact nd e1 (pb k hk) (by omega) rfl
   lent:=fun l p hp=>by
     have hl:=(List.getElem?_eq_some_iff.1 hp).1
     show (ls[l]?).bind V.b=some p
     rw [pb l hl]
     exact h.lent l p hp
   base0:=fun l b o hl hge=>by
     obtain ⟨k,e1,e2,e3⟩:=bb hl
     refine h.base0 k b o e2 ?_
     apply Classical.byContradiction
     intro hn
     exact nd e1 (pb k (by omega)) (by omega) rfl
   dom:=fun l hl=>by
     obtain ⟨p,hp⟩:=Option.ne_none_iff_exists'.1 hl
     obtain ⟨k,e1,e2,e3⟩:=bb hp
     show (b.map fun _=>true)[l]?=some true
     simp [hb1,e3]
   lentr:=fun j u hu=>by
     show (V.sub ls rs).r j=_\/(V.sub ls rs).r j=_
     rw [vr (pr j (List.getElem?_eq_some_iff.1 hu).1)]
     exact h.lentr j u hu
   rows:=fun j rc hj=>by
     obtain ⟨k,e1,e2⟩:=rw_ hj
     obtain ⟨u,e3,e4⟩:=h.rows k rc e2
     exact ⟨u,by show (V.sub ls rs).r j=_;rw [vr e1];exact e3,e4.mono fun _ _ hq=>hq⟩
   rowsN:=fun j hj=>by
     have:rs[j]?=none:=by
       have e:rows[j]?=none:=hj
       simp at e ⊢
       omega
     show (V.sub ls rs).r j=none
     simp [Vl.sub,this]
   apart:=fun r r' rc rc' u u' g h1 h2 h3 h4 h5 h6 hne hg=>by
     obtain ⟨k,e1,e2⟩:=rw_ h1
     obtain ⟨k',e3,e4⟩:=rw_ h3
     have h5:(V.sub ls rs).r r=some (some u):=h5
     have h6:(V.sub ls rs).r r'=some (some u'):=h6
     rw [vr e1] at h5
     rw [vr e3] at h6
     exact h.apart k k' rc rc' u u' g e2 h2 e4 h4 h5 h6 (nd' e1 e3 hne) hg
   apartb:=fun r rc u g l b o h1 h2 h3 h4 h5=>by
     obtain ⟨k,e1,e2⟩:=rw_ h1
     obtain ⟨l',e3,e4,_⟩:=bb h5
     have h3:(V.sub ls rs).r r=some (some u):=h3
     rw [vr e1] at h3
     exact h.apartb k rc u g l' b o e2 h2 h3 h4 e4
   below:=h.below
   froz:=h.froz
   lits:=fun g cs hq=>by
     obtain ⟨f1,f2,f3⟩:=h.lits g cs hq
     refine ⟨f1,fun l bl o hl=>?_,fun r rc u h1 h2 h3=>?_⟩
     · obtain ⟨k,_,e2,_⟩:=bb hl
       exact f2 k bl o e2
     · obtain ⟨k,e1,e2⟩:=rw_ h1
       have h3:(V.sub ls rs).r r=some (some u):=h3
       rw [vr e1] at h3
       exact f3 k rc u e2 h2 h3
   sk:=h.sk
   qs:=h.qs }
theorem qdA (h:de z m V w) {r r':SV} {m':Mem} {y:Value} (hd:aH V r y) (hg:gc z.L.length z.U.length r m=some (r',m')):oB z r' m' y w:=by
 unfold gc at hg
 split at hg
 case h_2=>cases hg
 rename_i ls rs hre
 split at hg
 case h_2=>cases hg
 rename_i r1 b rows hr hb hrows
 injection hg with hg
 injection hg with e1 e2
 subst e1 e2
 have g1:=Mh h (Qu (NQ h) hd) hre
 have hp:=(oA (List.range z.L.length,List.range z.U.length) r).trans (Cc _ _ _ _ hre)
 exact ⟨V.keep ls rs,(Md hr hd).mono Bx,K3 h g1 (fun i hi=>hp.b i i (by simp [hi])) (fun i hi=>hp.r i i (by simp [hi])) hb hrows⟩
end
def qg9 (Γ:Orc) (P:Program) (fn:Func) (n m:Nat) (e:Ex) (st:St):Option (SV×Mem) :=
 match e with
 | .exit _=>none
 | _=>match lF P st fn.results.toList with
  | some l=>match gc n m (oS l) st.mem with
   | some (r,mm)=>fS Γ.conc r fun r=>tI Γ.conc mm fun mm=>some (r,mm)
   | none=>none
  | none=>none
def xy (fn:Func) (as:List SV) (m:Mem):St:=⟨Tr.ofList (as++List.replicate (fn.ntmps - as.length) (SV.v undef)),m⟩
def runG (Γ:Orc) (Λ:aV) (P:Program) (fn:Func) (as:List SV) (m:Mem):Option (SV×Mem) :=
 match fn.body with
 | some c=>ev Γ Λ P c (xy fn as m) (qg9 Γ P fn m.blk.length m.rows.length)
 | none=>none
theorem qdn (fn:Func) {as:List SV} {m:Mem} {vs:List Value} {z:Base} {V:Vl} (hM:de z m V z.w) (hA:aG (aH V) as vs) :
  Rel z (xy fn as m) V { tmps:=vs.toArray++Array.replicate (fn.ntmps - vs.toArray.size) undef,defers:=[] } z.w:=by
 have hlen:=hA.length
 have hg:∀ (t:Nat) x,(xy fn as m).tmps.get t=some x->(as++List.replicate (fn.ntmps - as.length) (SV.v undef))[t]?=some x:=by
  intro t x hx
  simp only [xy,Tr.get_ofList] at hx
  simpa using hx
 have he:∀ t:Nat,(vs.toArray++Array.replicate (fn.ntmps - vs.toArray.size) undef)[t]?=(vs++List.replicate (fn.ntmps - vs.length) undef)[t]?:=by
  intro t
  rw [<- Array.getElem?_toList];simp
 refine { hM with len:=fun t x hx=>?_,tmps:=fun t x hx y hy=>?_,defers:=rfl }
 ·have hx':=hg t x hx
  rcases Nat.lt_or_ge t (as++List.replicate (fn.ntmps - as.length) (SV.v undef)).length with h'|h'
  ·simp at h'
   simp
   omega
  ·rw [List.getElem?_eq_none h'] at hx'
   cases hx'
 ·have hx':=hg t x hx
  rw [he] at hy
  rcases Nat.lt_or_ge t as.length with h'|h'
  ·rw [List.getElem?_append_left h'] at hx'
   rw [List.getElem?_append_left (by omega)] at hy
   obtain ⟨v,e1,e2⟩:=hA.get t x hx'
   rw [hy] at e1
   injection e1 with e1
   subst e1
   exact e2
  ·rw [List.getElem?_append_right h',List.getElem?_replicate] at hx'
   rw [List.getElem?_append_right (by omega),List.getElem?_replicate] at hy
   split at hx'
   ·split at hy
    ·injection hx' with hx'
     injection hy with hy
     subst hx' hy
     rfl
    ·cases hy
   ·cases hx'
theorem B8 {st:St} {V:Vl} {a:Act} {w:World} (h:Rel w0 st V a w):∀ (l:List ResultVar) (cs:List TC),lF P st l=some cs ->
  ∃ vs,(l.mapM (m:=Sem) fun
   | .tmp t=>pure (a.tmps.getD t undef)
   | .cell b t=>do loadVar t (<- asAddr (a.tmps.getD b undef))).run P w=.ok vs w/\aG (fj V) cs vs
 | [],cs,hv=>by simp [lF] at hv;subst hv;exact ⟨[],rfl,trivial⟩
 | .tmp t::r,cs,hv=>by
  unfold lF at hv
  split at hv
  ·rename_i c l h1 h2
   injection hv with hv
   subst hv
   obtain ⟨s,hs,hc⟩:=Option.bind_eq_some_iff.1 h1
   have hy:aH V s (a.tmps.getD t undef):=h.eval (x:=.tmp t) hs
   obtain ⟨vs,ih,hd⟩:=B8 h r l h2
   refine ⟨a.tmps.getD t undef::vs,?_,KW hc hy,hd⟩
   rw [List.mapM_cons]
   rw [aC _ _ w w (a.tmps.getD t undef) rfl]
   rw [aC _ _ w w vs ih]
   rfl
  ·cases hv
 | .cell t ty::r,cs,hv=>by
  unfold lF at hv
  split at hv
  ·rename_i l off ag n h1 h2 h3
   split at hv
   ·rename_i bc hcs
    split at hv
    ·rename_i hn
     split at hv
     ·rename_i c l' h4 h5
      injection hv with hv
      subst hv
      obtain ⟨s,hs,hc⟩:=Option.bind_eq_some_iff.1 h4
      obtain ⟨y',hy',hd⟩:=NG (P:=P) h (p:=.tmp t) h1 h2 h3 hcs hn hs
      obtain ⟨b,o,hb,he⟩:=h.eval (x:=.tmp t) h1
      have he':a.tmps.getD t undef=.pointer (some ⟨b,o+off,none⟩):=he
      obtain ⟨vs,ih,hds⟩:=B8 h r l' h5
      refine ⟨y'::vs,?_,KW hc hd,hds⟩
      rw [List.mapM_cons]
      have hh:(do loadVar ty (<- asAddr (a.tmps.getD t undef)):Sem Value).run P w=.ok y' w:=by
       rw [he']
       have:(Instr.loadAt ty (.pointer (some ⟨b,o+off,none⟩))).run P w=.ok y' w:=by
        rw [<- he];exact hy'
       simpa [Instr.loadAt,Instr.sureAddr,asAddr] using this
      rw [aC _ _ w w y' hh]
      rw [aC _ _ w w vs ih]
      rfl
     ·cases hv
    ·cases hv
   ·cases hv
  ·cases hv
theorem qas {fn:Func} {a:Act} {w:World} (l:List Value) (hr:(fn.results.toList.mapM (m:=Sem) fun
   | .tmp t=>pure (a.tmps.getD t undef)
   | .cell b t=>do loadVar t (<- asAddr (a.tmps.getD b undef))).run P w=.ok l w):(results fn a.tmps).run P w=.ok (mQ l) w:=by
 unfold results
 have hmap:(fn.results.mapM (m:=Sem) fun
   | .tmp t=>pure (a.tmps.getD t undef)
   | .cell b t=>do loadVar t (<- asAddr (a.tmps.getD b undef))).run P w=.ok l.toArray w:=by
  rw [Array.mapM_eq_mapM_toList]
  rw [map_eq_pure_bind,aC _ _ w w l hr]
  rfl
 refine (aC _ _ w w l.toArray ?_).trans ?_
 ·exact hmap
 cases l with
 | nil=>rfl
 | cons x l =>
  cases l with
  | nil=>rfl
  | cons y l=>simp [mQ,pure]
theorem de.of {st:St} {V:Vl} {a:Act} {w:World} (h:Rel w0 st V a w):de w0 st.mem V w :=
 { h with len:=fun t x hx=>(by cases hx),tmps:=fun t x hx=>(by cases hx),defers:=rfl }
theorem LU (hΓ:Γ.Ok P) (hm:P.follows .mixedOrders=true) {f:FuncId} {fn:Func} {c:Code} (hf:P.funcs[f]?=some fn) (hb:fn.body=some c) {as:List SV} {m m':Mem} {r:SV}
  (h:runG Γ Λ P fn as m=some (r,m')) {z:Base} {V:Vl} {vs:List Value} (hl:Lent z m V) (hM:de z m V z.w) (hA:aG (aH V) as vs) (hL:∀ b∈loopsOf c,aQ Λ P z b) :
  Calls P f vs.toArray z.w (fun e w'=>∃ y,e=.returned y/\oB z r m' y w'):=by
 unfold runG at h
 rw [hb] at h
 refine calls_of_wp hf hb ?_
 refine jO hΓ hm c hL _ _ (r,m') _ _ z.w h ⟨_,qdn fn hM hA,(fun _ _ _ hm=>by cases hm)⟩ ?_
 rintro e st' hk a' w' ⟨V',hR,_⟩
 have main:(match lF P st' fn.results.toList with
  | some l=>match gc m.blk.length m.rows.length (oS l) st'.mem with
   | some (r,mm)=>fS Γ.conc r fun r=>tI Γ.conc mm fun mm=>some (r,mm)
   | none=>none
  | none=>none)=some (r,m')->a'.defers=[]/\∃ v,(results fn a'.tmps).run P w'=.ok v w'/\oB z r m' v w':=by
  intro hk
  refine ⟨hR.defers,?_⟩
  split at hk
  ·rename_i l hl'
   split at hk
   ·rename_i r1 mm hg
    rw [jN,O2] at hk
    injection hk with hk
    injection hk with e1 e2
    subst e1 e2
    obtain ⟨us,hus,hd⟩:=B8 hR fn.results.toList l hl'
    rw [<- hl.bl,<- hl.ul] at hg
    exact ⟨mQ us,qas us hus,qdA (de.of hR) (T1 hd) hg⟩
   ·cases hk
  ·cases hk
 cases e with
 | normal =>
  obtain ⟨h1,v,h2,h3⟩:=main hk
  exact ⟨h1,v,h2,v,rfl,h3⟩
 | exit id=>cases hk
 | ret =>
  obtain ⟨h1,v,h2,h3⟩:=main hk
  exact ⟨h1,v,h2,v,rfl,h3⟩
end
end Go.Sx
namespace Go.Sx
open Go.RowKit
def jG:List Value->List Value->Option Bool
 | [],[]=>some true
 | .int k a::r,.int k' b::s=>match jG r s with
  | some q=>if k=k' then some ((a==b)&&q) else none
  | none=>none
 | _,_=>none
def ue (P:Program) (t:TypeId):Option (Nat×TypeId) :=
 match P.underlying t with
 | some (.array n e)=>match P.underlying e,a9 P e,a9 P t with
  | some (.int _),some 1,some m=>if m=n then some (n,e) else none
  | _,_,_=>none
 | _=>none
def jV:List Value->List Value->Option Bool
 | [],[]=>some true
 | .bool a::r,.bool b::s=>match jV r s with
  | some q=>some ((a==b)&&q)
  | none=>none
 | _,_=>none
def HW (P:Program) (t:TypeId):Option (Nat×TypeId) :=
 match P.underlying t with
 | some (.array n e)=>match P.underlying e,a9 P e,a9 P t with
  | some .bool,some 1,some m=>if m=n then some (n,e) else none
  | _,_,_=>none
 | _=>none
def gC (P:Program):List Field->List Value->List Value->Option Bool
 | [],_,_=>some true
 | f::fs,xs,ys=>match P.underlying f.type,xs[f.offset]?,ys[f.offset]?,gC P fs xs ys with
  | some (.int _),some (.int k a),some (.int k' b),some r=>if k=k' then some ((a==b)&&r) else none
  | some .bool,some (.bool a),some (.bool b),some r=>some ((a==b)&&r)
  | some .string,some (.string a),some (.string b),some r=>some ((a==b)&&r)
  | _,_,_,some r=>match ue P f.type with
   | some (n,_)=>match jG ((xs.drop f.offset).take n) ((ys.drop f.offset).take n) with
    | some q=>if ((xs.drop f.offset).take n).length=n then some (q&&r) else none
    | none=>none
   | none=>none
  | _,_,_,_=>none
def nl (P:Program):List Field->List Value->List Value->Option Bool
 | [],_,_=>some true
 | f::fs,xs,ys=>match P.underlying f.type with
  | some (.struct gs)=>match a9 P f.type,nl P fs xs ys with
   | some m,some r=>match gC P gs.toList ((xs.drop f.offset).take m) ((ys.drop f.offset).take m) with
    | some q => if P.stoodInHeld f.type = false /\ (gs.toList.all fun g => g.name != "_") = true then some (q && r) else none
    | none=>none
   | _,_=>none
  | _=>match gC P [f] xs ys,nl P fs xs ys with
   | some q,some r=>some (q&&r)
   | _,_=>none
def qu (P:Program) (t:TypeId):Bool :=
 !P.stoodInHeld t&&!P.eqGuardType P.depth t&&(match P.underlying t with
  | some (.struct fs) => fs.toList.all fun f => f.name != "_"
  | some (.array _ _)=>true
  | _=>false)
def Hl (P:Program) (good:List TypeId) (t:TypeId) (xs ys:List Value):Option Bool :=
 match good.contains t,P.underlying t with
 | true,some (.struct fs)=>match gC P fs.toList xs ys with
  | some r=>some r
  | none=>nl P fs.toList xs ys
 | true,some (.array _ _)=>match HW P t with
  | some (m,_)=>if xs.length=m then jV xs ys else none
  | none=>none
 | _,_=>none
section
variable {P:Program} {w:World}
theorem eL {t:TypeId} {cs:Array Value} {off:Nat} {v:Value} {d:TypeDesc} (hu:P.underlying t=some d) (hd:(∀ f,d≠.struct f)/\(∀ n e,d≠.array n e)) (hv:cs[off]?=some v):(part t cs off).run P w=.ok v w:=by
 unfold part
 have:(isAgg t).run P w=.ok false w:=by
  unfold isAgg
  rw [aC _ _ w w d (run_underlying hu w)]
  cases d<;>first|rfl|(exact absurd rfl (hd.1 _))|(exact absurd rfl (hd.2 _ _))
 rw [aC _ _ w w false this]
 simp [hv]
theorem BN {n:Nat} {t:TypeId} {k k':IntKind} {a b:Int} (hu:P.underlying t=some (.int k')):(Op.equalIn (n+1) t (.int k a) (.int k b)).run P w=.ok (a==b) w:=by
 unfold Op.equalIn
 rw [aC _ _ w w _ (run_underlying hu w)]
 simp
theorem BO {n:Nat} {t:TypeId} {a b:Bool} (hu:P.underlying t=some .bool):(Op.equalIn (n+1) t (.bool a) (.bool b)).run P w=.ok (a==b) w:=by
 unfold Op.equalIn
 rw [aC _ _ w w _ (run_underlying hu w)]
 simp
theorem LP {n:Nat} {t:TypeId} {a b:ByteArray} (hu:P.underlying t=some .string):(Op.equalIn (n+1) t (.string a) (.string b)).run P w=.ok (a==b) w:=by
 unfold Op.equalIn
 rw [aC _ _ w w _ (run_underlying hu w)]
 simp
theorem qdi {a:Value} {c d:List Value} {q:Bool} (h:jG (a::c) d=some q):∃ k x y s q',a=.int k x/\d=.int k y::s/\jG c s=some q'/\q=((x==y)&&q'):=by
 cases d with
 | nil=>cases a<;>simp [jG] at h
 | cons b s =>
  cases a<;>cases b<;>simp only [jG] at h<;>try contradiction
  rename_i k x k' y
  split at h
  ·rename_i q' hq'
   split at h
   ·rename_i hk
    subst hk
    injection h with h
    exact ⟨k,x,y,s,q',rfl,rfl,hq',h.symm⟩
   ·cases h
  ·cases h
theorem LQ {n m:Nat} {t e:TypeId} (ht:ue P t=some (m,e)) {xs ys:List Value} {r:Bool} (hl:xs.length=m) (h:jG xs ys=some r):(Op.equalIn (n+2) t (.agg xs.toArray) (.agg ys.toArray)).run P w=.ok r w:=by
 unfold ue at ht
 split at ht
 case h_2=>cases ht
 rename_i n' e' h1
 split at ht
 case h_2=>cases ht
 rename_i kk m' h2 h3 h4
 split at ht
 case isFalse=>cases ht
 injection ht with ht
 injection ht with e1 e2
 subst e1 e2
 unfold Op.equalIn
 rw [aC _ _ w w _ (run_underlying h1 w)]
 simp only []
 rw [aC _ _ w w 1 (dB h3)]
 rw [Std.Legacy.Range.forIn_eq_forIn_range']
 simp only [Std.Legacy.Range.size,Nat.sub_zero,Nat.add_sub_cancel,Nat.div_one]
 have key:∀ (c:List Value) (d:List Value) (j:Nat) (q:Bool),jG c d=some q->xs.drop j=c->ys.drop j=d ->
   ∀ (F:Nat->Option Bool×Unit->Sem (ForInStep (Option Bool×Unit))) (_:∀ i a b,xs[i]?=some a->ys[i]?=some b->∀ k x y,a=.int k x->b=.int k y ->
    (F i (none,())).run P w=.ok (if x==y then .yield (none,()) else .done (some false,())) w),
   (forIn (m:=Sem) (List.range' j c.length) ((none,()):Option Bool×Unit) F).run P w=.ok (if q then (none,()) else (some false,())) w:=by
  intro c
  induction c with
  | nil =>
   intro d j q h hx hy F hF
   cases d with
   | nil =>
    simp [jG] at h
    subst h
    simp [pure]
   | cons _ _=>simp [jG] at h
  | cons a c ih =>
   intro d j q h hx hy F hF
   obtain ⟨k,x,y,ss,q',rfl,rfl,hq',rfl⟩:=qdi h
   have g1:xs[j]?=some (.int k x):=by
    have:(xs.drop j)[0]?=some (.int k x):=by rw [hx];rfl
    simpa using this
   have g2:ys[j]?=some (.int k y):=by
    have:(ys.drop j)[0]?=some (.int k y):=by rw [hy];rfl
    simpa using this
   have st:=hF j _ _ g1 g2 k x y rfl rfl
   simp only [List.length_cons,List.range'_succ,List.forIn_cons]
   cases hxy:x==y
   ·rw [hxy] at st
    rw [Sem.run_bind,st]
    simp [pure,Result.andThen]
   ·rw [hxy] at st
    rw [Sem.run_bind,st]
    simp only [if_true,Bool.true_and,Result.andThen]
    exact ih ss (j+1) q' hq' (by rw [<- List.drop_drop,hx];rfl) (by rw [<- List.drop_drop,hy];rfl) F hF
 have:=key xs ys 0 r h rfl rfl
 rw [hl] at this
 rw [Sem.run_bind,this _ ?_]
 ·cases r<;>simp [pure,Result.andThen]
 ·intro i a b hx hy k x y ha hb
  subst ha hb
  have p1:=eL (P:=P) (w:=w) (t:=e') (cs:=xs.toArray) (off:=i*1) h2 ⟨by simp,by simp⟩ (by simpa using hx)
  have p2:=eL (P:=P) (w:=w) (t:=e') (cs:=ys.toArray) (off:=i*1) h2 ⟨by simp,by simp⟩ (by simpa using hy)
  have p3:=BN (P:=P) (w:=w) (n:=n) (k:=k) (a:=x) (b:=y) h2
  rw [Sem.run_bind,p1]
  simp only [Result.andThen]
  rw [Sem.run_bind,p2]
  simp only [Result.andThen]
  rw [Sem.run_bind,p3]
  simp only [Result.andThen]
  cases x==y<;>simp [pure]
theorem qie {a:Value} {c d:List Value} {q:Bool} (h:jV (a::c) d=some q):∃ x y s q',a=.bool x/\d=.bool y::s/\jV c s=some q'/\q=((x==y)&&q'):=by
 cases d with
 | nil=>cases a<;>simp [jV] at h
 | cons b s =>
  cases a<;>cases b<;>simp only [jV] at h<;>try contradiction
  rename_i x y
  split at h
  ·rename_i q' hq'
   injection h with h
   exact ⟨x,y,s,q',rfl,rfl,hq',h.symm⟩
  ·cases h
theorem Vi {n m:Nat} {t e:TypeId} (ht:HW P t=some (m,e)) {xs ys:List Value} {r:Bool} (hl:xs.length=m) (h:jV xs ys=some r):(Op.equalIn (n+2) t (.agg xs.toArray) (.agg ys.toArray)).run P w=.ok r w:=by
 unfold HW at ht
 split at ht
 case h_2=>cases ht
 rename_i n' e' h1
 split at ht
 case h_2=>cases ht
 rename_i m' h2 h3 h4
 split at ht
 case isFalse=>cases ht
 injection ht with ht
 injection ht with e1 e2
 subst e1 e2
 unfold Op.equalIn
 rw [aC _ _ w w _ (run_underlying h1 w)]
 simp only []
 rw [aC _ _ w w 1 (dB h3)]
 rw [Std.Legacy.Range.forIn_eq_forIn_range']
 simp only [Std.Legacy.Range.size,Nat.sub_zero,Nat.add_sub_cancel,Nat.div_one]
 have key:∀ (c:List Value) (d:List Value) (j:Nat) (q:Bool),jV c d=some q->xs.drop j=c->ys.drop j=d ->
   ∀ (F:Nat->Option Bool×Unit->Sem (ForInStep (Option Bool×Unit))) (_:∀ i a b,xs[i]?=some a->ys[i]?=some b->∀ x y,a=.bool x->b=.bool y ->
    (F i (none,())).run P w=.ok (if x==y then .yield (none,()) else .done (some false,())) w),
   (forIn (m:=Sem) (List.range' j c.length) ((none,()):Option Bool×Unit) F).run P w=.ok (if q then (none,()) else (some false,())) w:=by
  intro c
  induction c with
  | nil =>
   intro d j q h hx hy F hF
   cases d with
   | nil =>
    simp [jV] at h
    subst h
    simp [pure]
   | cons _ _=>simp [jV] at h
  | cons a c ih =>
   intro d j q h hx hy F hF
   obtain ⟨x,y,ss,q',rfl,rfl,hq',rfl⟩:=qie h
   have g1:xs[j]?=some (.bool x):=by
    have:(xs.drop j)[0]?=some (.bool x):=by rw [hx];rfl
    simpa using this
   have g2:ys[j]?=some (.bool y):=by
    have:(ys.drop j)[0]?=some (.bool y):=by rw [hy];rfl
    simpa using this
   have st:=hF j _ _ g1 g2 x y rfl rfl
   simp only [List.length_cons,List.range'_succ,List.forIn_cons]
   cases hxy:x==y
   ·rw [hxy] at st
    rw [Sem.run_bind,st]
    simp [pure,Result.andThen]
   ·rw [hxy] at st
    rw [Sem.run_bind,st]
    simp only [if_true,Bool.true_and,Result.andThen]
    exact ih ss (j+1) q' hq' (by rw [<- List.drop_drop,hx];rfl) (by rw [<- List.drop_drop,hy];rfl) F hF
 have:=key xs ys 0 r h rfl rfl
 rw [hl] at this
 rw [Sem.run_bind,this _ ?_]
 ·cases r<;>simp [pure,Result.andThen]
 ·intro i a b hx hy x y ha hb
  subst ha hb
  have p1:=eL (P:=P) (w:=w) (t:=e') (cs:=xs.toArray) (off:=i*1) h2 ⟨by simp,by simp⟩ (by simpa using hx)
  have p2:=eL (P:=P) (w:=w) (t:=e') (cs:=ys.toArray) (off:=i*1) h2 ⟨by simp,by simp⟩ (by simpa using hy)
  have p3:=BO (P:=P) (w:=w) (n:=n) (a:=x) (b:=y) h2
  rw [Sem.run_bind,p1]
  simp only [Result.andThen]
  rw [Sem.run_bind,p2]
  simp only [Result.andThen]
  rw [Sem.run_bind,p3]
  simp only [Result.andThen]
  cases x==y<;>simp [pure]
theorem LO {n : Nat} {t : TypeId} {fs : Array Field} {xs ys : Array Value} (hu : P.underlying t = some (.struct fs)) (hs : P.stoodInHeld t = false) (hn : ∀ f ∈ fs.toList, f.name ≠ "_") {r : Bool}
  (h:gC P fs.toList xs.toList ys.toList=some r):(Op.equalIn (n+3) t (.agg xs) (.agg ys)).run P w=.ok r w:=by
 unfold Op.equalIn
 rw [aC _ _ w w _ (run_underlying hu w)]
 simp only []
 rw [aC program _ w w P rfl]
 simp only [hs,Bool.false_eq_true,if_false]
 rw [<- Array.forIn_toList]
 generalize fs.toList=l at *
 clear hu hs
 induction l generalizing r with
 | nil =>
  simp [gC] at h
  subst h
  simp
 | cons f l ih =>
  have hf : f.name ≠ "_" := hn f (by simp)
  unfold gC at h
  split at h
  ·rename_i kk k a k' b r' h1 h2 h3 h4
   split at h
   ·rename_i hk
    subst hk
    injection h with h
    subst h
    have p1:=eL (P:=P) (w:=w) (t:=f.type) (cs:=xs) (off:=f.offset) h1 ⟨by simp,by simp⟩ (by simpa using h2)
    have p2:=eL (P:=P) (w:=w) (t:=f.type) (cs:=ys) (off:=f.offset) h1 ⟨by simp,by simp⟩ (by simpa using h3)
    have p3:=BN (P:=P) (w:=w) (n:=n+1) (k:=k) (a:=a) (b:=b) h1
    have ih':=ih (fun f hf=>hn f (by simp [hf])) h4
    simp only [List.forIn_cons,hf,ne_eq,not_false_eq_true,if_true]
    cases hab:a==b
    ·simp [Sem.run_bind,p1,p2,p3,hab,Result.andThen]
    ·simp only [Sem.run_bind,p1,p2,p3,hab,Result.andThen] at *
     simpa using ih'
   ·cases h
  ·rename_i a b r' h1 h2 h3 h4
   injection h with h
   subst h
   have p1:=eL (P:=P) (w:=w) (t:=f.type) (cs:=xs) (off:=f.offset) h1 ⟨by simp,by simp⟩ (by simpa using h2)
   have p2:=eL (P:=P) (w:=w) (t:=f.type) (cs:=ys) (off:=f.offset) h1 ⟨by simp,by simp⟩ (by simpa using h3)
   have p3:=BO (P:=P) (w:=w) (n:=n+1) (a:=a) (b:=b) h1
   have ih':=ih (fun f hf=>hn f (by simp [hf])) h4
   simp only [List.forIn_cons,hf,ne_eq,not_false_eq_true,if_true]
   cases hab:a==b
   ·simp [Sem.run_bind,p1,p2,p3,hab,Result.andThen]
   ·simp only [Sem.run_bind,p1,p2,p3,hab,Result.andThen] at *
    simpa using ih'
  ·rename_i a b r' h1 h2 h3 h4
   injection h with h
   subst h
   have p1:=eL (P:=P) (w:=w) (t:=f.type) (cs:=xs) (off:=f.offset) h1 ⟨by simp,by simp⟩ (by simpa using h2)
   have p2:=eL (P:=P) (w:=w) (t:=f.type) (cs:=ys) (off:=f.offset) h1 ⟨by simp,by simp⟩ (by simpa using h3)
   have p3:=LP (P:=P) (w:=w) (n:=n+1) (a:=a) (b:=b) h1
   have ih':=ih (fun f hf=>hn f (by simp [hf])) h4
   simp only [List.forIn_cons,hf,ne_eq,not_false_eq_true,if_true]
   cases hab:a==b
   ·simp [Sem.run_bind,p1,p2,p3,hab,Result.andThen]
   ·simp only [Sem.run_bind,p1,p2,p3,hab,Result.andThen] at *
    simpa using ih'
  ·rename_i r' h4 _ _ _
   split at h
   ·rename_i m e ha
    split at h
    ·rename_i q hq
     split at h
     ·rename_i hlen
      injection h with h
      subst h
      have hu:∃ n' e',P.underlying f.type=some (.array n' e')/\a9 P f.type=some m:=by
       unfold ue at ha
       split at ha
       ·rename_i n' e' h1
        split at ha
        ·rename_i h3
         split at ha
         ·rename_i hm
          injection ha with ha
          injection ha with e1 e2
          subst e1
          exact ⟨n',e',h1,by rw [h3,hm]⟩
         ·cases ha
        ·cases ha
       ·cases ha
      obtain ⟨n',e',hu,hs⟩:=hu
      have hag:c9 P f.type=some true:=by unfold c9;rw [hu]
      have pt:∀ zs:Array Value,(part f.type zs f.offset).run P w=.ok (.agg ((zs.toList.drop f.offset).take m).toArray) w:=by
       intro zs
       unfold part
       rw [aC _ _ w w true (mz hag)]
       simp only [if_true]
       rw [aC _ _ w w m (dB hs)]
       have:zs.extract f.offset (f.offset+m)=((zs.toList.drop f.offset).take m).toArray:=by
        apply Array.ext'
        simp [List.take_drop,Nat.add_comm]
       rw [this]
       rfl
      have p1:=pt xs
      have p2:=pt ys
      have p3:=LQ (P:=P) (w:=w) (n:=n) ha hlen hq
      have ih':=ih (fun f hf=>hn f (by simp [hf])) h4
      simp only [List.forIn_cons,hf,ne_eq,not_false_eq_true,if_true]
      cases q
      ·simp [Sem.run_bind,p1,p2,p3,Result.andThen]
      ·simp only [Sem.run_bind,p1,p2,p3,Result.andThen] at *
       simpa using ih'
     ·cases h
    ·cases h
   ·cases h
  ·cases h
theorem wF {t:TypeId} {m off:Nat} (hag:c9 P t=some true) (hs:a9 P t=some m) (zs:Array Value):(part t zs off).run P w=.ok (.agg ((zs.toList.drop off).take m).toArray) w:=by
 unfold part
 rw [aC _ _ w w true (mz hag)]
 simp only [if_true]
 rw [aC _ _ w w m (dB hs)]
 have:zs.extract off (off+m)=((zs.toList.drop off).take m).toArray:=by
  apply Array.ext'
  simp [List.take_drop,Nat.add_comm]
 rw [this]
 rfl
theorem qhe {f:Field} {xs ys:Array Value} {q:Bool} (h:gC P [f] xs.toList ys.toList=some q):∃ a b,(part f.type xs f.offset).run P w=.ok a w/\(part f.type ys f.offset).run P w=.ok b w/\∀ n,(Op.equalIn (n+2) f.type a b).run P w=.ok q w:=by
 unfold gC at h
 split at h
 ·rename_i kk k a k' b r' h1 h2 h3 h4
  split at h
  ·rename_i hk
   subst hk
   injection h with h
   subst h
   simp [gC] at h4
   subst h4
   refine ⟨_,_,eL (P:=P) (w:=w) (t:=f.type) (cs:=xs) (off:=f.offset) h1 ⟨by simp,by simp⟩ (by simpa using h2),eL (P:=P) (w:=w) (t:=f.type) (cs:=ys) (off:=f.offset) h1 ⟨by simp,by simp⟩ (by simpa using h3),fun n=>?_⟩
   rw [BN (P:=P) (w:=w) (n:=n+1) (k:=k) (a:=a) (b:=b) h1,Bool.and_true]
  ·cases h
 ·rename_i a b r' h1 h2 h3 h4
  injection h with h
  subst h
  simp [gC] at h4
  subst h4
  refine ⟨_,_,eL (P:=P) (w:=w) (t:=f.type) (cs:=xs) (off:=f.offset) h1 ⟨by simp,by simp⟩ (by simpa using h2),eL (P:=P) (w:=w) (t:=f.type) (cs:=ys) (off:=f.offset) h1 ⟨by simp,by simp⟩ (by simpa using h3),fun n=>?_⟩
  rw [BO (P:=P) (w:=w) (n:=n+1) (a:=a) (b:=b) h1,Bool.and_true]
 ·rename_i a b r' h1 h2 h3 h4
  injection h with h
  subst h
  simp [gC] at h4
  subst h4
  refine ⟨_,_,eL (P:=P) (w:=w) (t:=f.type) (cs:=xs) (off:=f.offset) h1 ⟨by simp,by simp⟩ (by simpa using h2),eL (P:=P) (w:=w) (t:=f.type) (cs:=ys) (off:=f.offset) h1 ⟨by simp,by simp⟩ (by simpa using h3),fun n=>?_⟩
  rw [LP (P:=P) (w:=w) (n:=n+1) (a:=a) (b:=b) h1,Bool.and_true]
 ·rename_i r' h4 _ _ _
  split at h
  ·rename_i m e ha
   split at h
   ·rename_i q' hq
    split at h
    ·rename_i hlen
     injection h with h
     subst h
     simp [gC] at h4
     subst h4
     have hu:∃ n' e',P.underlying f.type=some (.array n' e')/\a9 P f.type=some m:=by
      unfold ue at ha
      split at ha
      ·rename_i n' e' h1
       split at ha
       ·rename_i h3
        split at ha
        ·rename_i hm
         injection ha with ha
         injection ha with e1 e2
         subst e1
         exact ⟨n',e',h1,by rw [h3,hm]⟩
        ·cases ha
       ·cases ha
      ·cases ha
     obtain ⟨n',e',hu,hs⟩:=hu
     have hag:c9 P f.type=some true:=by unfold c9;rw [hu]
     refine ⟨_,_,wF hag hs xs,wF hag hs ys,fun n=>?_⟩
     rw [LQ (P:=P) (w:=w) (n:=n) ha hlen hq,Bool.and_true]
    ·cases h
   ·cases h
  ·cases h
 ·cases h
theorem Vh {n : Nat} {t : TypeId} {fs : Array Field} {xs ys : Array Value} (hu : P.underlying t = some (.struct fs)) (hs : P.stoodInHeld t = false) (hn : ∀ f ∈ fs.toList, f.name ≠ "_") {r : Bool}
  (h:nl P fs.toList xs.toList ys.toList=some r):(Op.equalIn (n+4) t (.agg xs) (.agg ys)).run P w=.ok r w:=by
 unfold Op.equalIn
 rw [aC _ _ w w _ (run_underlying hu w)]
 simp only []
 rw [aC program _ w w P rfl]
 simp only [hs,Bool.false_eq_true,if_false]
 rw [<- Array.forIn_toList]
 generalize fs.toList=l at *
 clear hu hs
 induction l generalizing r with
 | nil =>
  simp [nl] at h
  subst h
  simp
 | cons f l ih =>
  have hf : f.name ≠ "_" := hn f (by simp)
  obtain ⟨q,r',a,b,p1,p2,p3,h4,hr⟩:∃ (q r':Bool) (a b:Value),(part f.type xs f.offset).run P w=.ok a w/\(part f.type ys f.offset).run P w=.ok b w/\(Op.equalIn (n+3) f.type a b).run P w=.ok q w/\nl P l xs.toList ys.toList=some r'/\r=(q&&r'):=by
   unfold nl at h
   split at h
   ·rename_i gs hg
    split at h
    ·rename_i m r' hm h4
     split at h
     ·rename_i q hq
      split at h
      ·rename_i hc
       injection h with h
       have hag:c9 P f.type=some true:=by unfold c9;rw [hg]
       exact ⟨q,r',_,_,wF hag hm xs,wF hag hm ys,LO (n:=n) hg hc.1 (fun g hgm=>by simpa using List.all_eq_true.1 hc.2 g hgm) (by simpa using hq),h4,h.symm⟩
      ·cases h
     ·cases h
    ·cases h
   ·split at h
    ·rename_i q r' hq h4
     injection h with h
     obtain ⟨a,b,p1,p2,p3⟩:=qhe (w:=w) hq
     exact ⟨q,r',a,b,p1,p2,p3 (n+1),h4,h.symm⟩
    ·cases h
  have ih':=ih (fun f hf=>hn f (by simp [hf])) h4
  subst hr
  simp only [List.forIn_cons,hf,ne_eq,not_false_eq_true,if_true]
  cases q
  ·simp [Sem.run_bind,p1,p2,p3,Result.andThen]
  ·simp only [Sem.run_bind,p1,p2,p3,Result.andThen] at *
   simpa using ih'
theorem qhp {good:List TypeId} (hg:good.all (qu P)=true) (t:TypeId) (xs ys:List Value) (r:Bool) (h:Hl P good t xs ys=some r) (w:World) (op:BinOp) (x y:Operand) (hop:op=.eql\/op=.neq) :
  (eqGuard op t x y (.agg xs.toArray) (.agg ys.toArray)).run P w=.ok () w/\(Op.equal t (.agg xs.toArray) (.agg ys.toArray)).run P w=.ok r w:=by
 unfold Hl at h
 split at h
 ·rename_i fs hc hu
  have ht:qu P t=true:=List.all_eq_true.1 hg t (by simpa using hc)
  unfold qu at ht
  simp only [hu,Bool.and_eq_true,Bool.not_eq_true',List.all_eq_true] at ht
  refine ⟨?_,?_⟩
  ·rcases hop with rfl|rfl<;>simp [eqGuard,program,Sem.run,ht.1.2]
  ·unfold Op.equal Op.maxDepth
   split at h
   ·rename_i r' hr
    injection h with h
    subst h
    exact LO (n:=9997) hu ht.1.1 (fun f hf=>by simpa using ht.2 f hf) (by simpa using hr)
   ·exact Vh (n:=9996) hu ht.1.1 (fun f hf=>by simpa using ht.2 f hf) (by simpa using h)
 ·rename_i hc hu
  have ht:qu P t=true:=List.all_eq_true.1 hg t (by simpa using hc)
  unfold qu at ht
  simp only [hu,Bool.and_eq_true,Bool.not_eq_true'] at ht
  split at h
  ·rename_i m e hm
   split at h
   ·rename_i hl
    refine ⟨?_,?_⟩
    ·rcases hop with rfl|rfl<;>simp [eqGuard,program,Sem.run,ht.1.2]
    ·unfold Op.equal Op.maxDepth
     exact Vi (n:=9998) hm hl h
   ·cases h
  ·cases h
 ·cases h
end
section
variable {R:Type} (Γ:Orc) (P:Program)
def ao (Λ:aV) (cut:St->St) (body:Code):Nat->St->(Ex->St->Option R)->Option R
 | 0,_,_=>none
 | n+1,st,k=>ev Γ Λ P body st (fun e st'=>match e with
  | .normal=>nN Γ.conc (cut st') (fun st'=>ao Λ cut body n st' k)
  | .exit id=>k (.exit id) st'
  | .ret=>k .ret st')
def et (n:Nat):Nat->aV
 | 0=>fun _ _=>none
 | d+1=>fun body st=>match ao Γ P (et n d) id body n st (fun e st'=>some (e,st')) with
  | some (e,st')=>some (true,.leaf e st')
  | none=>none
end
section
variable {R:Type} {Γ:Orc} {P:Program} {w0:Base}
theorem yQ (hΓ:Γ.Ok P) (hm:P.follows .mixedOrders=true) {Λ:aV} {body:Code} (hL:∀ b∈loopsOf body,aQ Λ P w0 b) {cut:St->St} (hcut:∀ st a w,ba P cc w0 st a w->ba P cc w0 (cut st) a w)
  {k:Ex->St->Option R} {r:R} {Q:Exit->Act->World->Prop} (hQ:∀ e st',e≠.normal->k e st'=some r->∀ a w,ba P cc w0 st' a w->Q e.out a w):∀ (n:Nat) (st:St) (a:Act) (w:World),
  ao Γ P Λ cut body n st k=some r->ba P cc w0 st a w->Code.rounds P body Q n a w
 | 0,st,a,w,h,hR=>by simp [ao] at h
 | n+1,st,a,w,h,hR=>by
  simp only [ao] at h
  rw [rounds_succ]
  refine jO hΓ hm body hL st _ r _ a w h hR ?_
  intro e st' hk a' w' hR'
  cases e with
  | normal =>
   rw [qo] at hk
   exact yQ hΓ hm hL hcut hQ n (cut st') a' w' hk (hcut _ _ _ hR')
  | exit id=>exact hQ (.exit id) st' (by simp) hk a' w' hR'
  | ret=>exact hQ .ret st' (by simp) hk a' w' hR'
theorem gb (hΓ:Γ.Ok P) (hm:P.follows .mixedOrders=true) (n:Nat):∀ (d:Nat) (body:Code),aQ (et Γ P n d) P w0 body
 | 0,body=>fun st t h=>by simp [et] at h
 | d+1,body=>fun st t h a w hR=>by
  simp only [et] at h
  split at h
  case h_2=>cases h
  rename_i e2 st2 h0
  injection h with h
  injection h with _ h
  subst h
  have h:=h0
  refine wp_loop_rounds n (yQ hΓ hm (fun b _=>gb hΓ hm n d b) (fun _ _ _ h=>h) (r:=(e2,st2)) ?_ n st a w h hR)
  intro e1 st1 _ hk a' w' hR'
  injection hk with hk
  injection hk with h1 h2
  subst h1 h2
  exact ⟨rfl,hR'⟩
theorem n9 {f : FuncId} {fn : Func} {vs : List Value} (hf : P.funcs[f]? = some fn) (hb : fn.body.isSome = true) (hn : fn.name ≠ "runtime.NumGoroutine") (w : World) : (callFunc f vs.toArray).run P w = .ok (.enter f vs.toArray) w := by
 unfold callFunc
 rw [aC program _ w w P rfl]
 simp only [hf]
 have : (fn.name == "runtime.NumGoroutine") = false := by simpa using hn
 simp only [this,Bool.false_eq_true,if_false]
 cases hb':fn.body with
 | none=>simp [hb'] at hb
 | some c=>rfl
def np (P : Program) : Bool := P.funcs.toList.all fun fn => fn.body.isNone || fn.name != "runtime.NumGoroutine"
theorem nm (h : np P = true) {f : FuncId} {fn : Func} (hf : P.funcs[f]? = some fn) (hb : fn.body.isSome = true) : fn.name ≠ "runtime.NumGoroutine" := by
 have:=List.all_eq_true.1 h fn (by
  rw [Array.mem_toList_iff]
  exact Array.mem_of_getElem? hf)
 cases hb':fn.body with
 | none=>simp [hb'] at hb
 | some c=>simpa [hb'] using this
theorem zg (hΓ:Γ.Ok P) (hm:P.follows .mixedOrders=true) (hN:np P=true) {Λ:aV} {f:FuncId} {fn:Func} {c:Code} (hf:P.funcs[f]?=some fn) (hb:fn.body=some c) {as:List SV} {m m':Mem} {r:SV}
  (hL:∀ z,z.L.length=m.blk.length->z.U.length=m.rows.length->∀ b∈loopsOf c,aQ Λ P z b) (h:runG Γ Λ P fn as m=some (r,m')):bq P f as m r m':=fun z _ vs hl hM hA =>
 .inr ⟨n9 hf (by simp [hb]) (nm hN hf (by simp [hb])) z.w,LU hΓ hm hf hb h hl hM hA (hL z hl.bl hl.ul)⟩
theorem HH (P:Program) {f:FuncId} {vs:List Value} {r:Value} (h:∀ w,(callFunc f vs.toArray).run P w=.ok (.value r) w\/((callFunc f vs.toArray).run P w=.ok (.enter f vs.toArray) w/\Calls P f vs.toArray w (fun e w'=>e=.returned r/\Kp w w'))) (m:Mem):bq P f (vs.map .v) m (.v r) m:=by
 intro z V us hl hM hA
 have hu:us=vs:=by
  clear h
  induction vs generalizing us with
  | nil=>cases us with
   | nil=>rfl
   | cons _ _=>exact hA.elim
  | cons x vs ih=>cases us with
   | nil=>exact hA.elim
   | cons u us =>
    have h1:u=x:=hA.1
    rw [h1,ih _ hA.2]
 subst hu
 rcases h z.w with h|⟨h1,h2⟩
 ·exact .inl ⟨r,z.w,h,V,rfl,hM⟩
 ·refine .inr ⟨h1,h2.mono fun e w' ⟨he,hk⟩=>⟨r,he,V,rfl,?_⟩⟩
  exact Rel.below' hM hk
def zF:List SV->Option (List Value)
 | []=>some []
 | .v x::r=>match zF r with|some l=>some (x::l)|none=>none
 | _::_=>none
theorem Qk:∀ {as:List SV} {l:List Value},zF as=some l->as=l.map .v
 | [],l,h=>by injection h with h;subst h;rfl
 | x::r,l,h=>by
  unfold zF at h
  split at h
  ·cases ‹x::r=[]›
  ·rename_i y r' heq
   injection heq with e1 e2
   subst e1 e2
   split at h
   ·rename_i l' hl
    injection h with h
    subst h
    rw [Qk hl];rfl
   ·cases h
  ·cases h
def sf (t:FuncId->List Value->Option (Bool×Value)):FuncId->List SV->Mem->Option (Bool×Value):=fun f as _ =>
 match zF as with
 | some l=>t f l
 | none=>none
theorem Uf {t:FuncId->List Value->Option (Bool×Value)} (h:∀ f vs r,t f vs=some (true,r)->∀ m,bq P f (vs.map .v) m (.v r) m):∀ f as m r,sf t f as m=some (true,r)->bq P f as m (.v r) m:=by
 intro f as m r hr
 unfold sf at hr
 split at hr
 ·rename_i l hl
  rw [Qk hl]
  exact h f l r hr m
 ·cases hr
def nT (P:Program) (ext:FuncId->List SV->Mem->Option (Bool×SV×Mem)) (rd:FuncId->List SV->Mem->Option (Bool×Value)) (eqv:TypeId->List Value->List Value->Option Bool) (wr:FuncId->Bool) (n:Nat):Nat->Orc
 | 0=>{ call:=ext,eqv:=eqv,conc:=true,rd:=rd,wr:=wr }
 | d + 1 => { call := (fun f as m => match ext f as m with
     | some r=>some r
     | none=>match P.funcs[f]? with
       | some fn=>match runG (nT P ext rd eqv wr n d) (et (nT P ext rd eqv wr n d) P n 2) P fn as m with
         | some (r,m')=>some (true,r,m')
         | none=>none
       | none=>none),eqv:=eqv,conc:=true,rd:=rd,wr:=wr }
theorem yM (hm:P.follows .mixedOrders=true) (hN:np P=true) {ext:FuncId->List SV->Mem->Option (Bool×SV×Mem)} {rd:FuncId->List SV->Mem->Option (Bool×Value)} {eqv:TypeId->List Value->List Value->Option Bool} {wr:FuncId->Bool} (h0:Orc.Ok { call:=ext,eqv:=eqv,conc:=true,rd:=rd,wr:=wr } P) (n:Nat):∀ d,(nT P ext rd eqv wr n d).Ok P
 | 0=>h0
 | d+1=>by
  have ih:=yM hm hN h0 n d
  refine ⟨fun f as m r m' h=>?_,h0.rd,h0.eqv⟩
  simp only [nT] at h
  split at h
  ·rename_i q hq
   injection h with h
   subst h
   exact h0.call f as m r m' hq
  ·split at h
   ·rename_i fn hf
    split at h
    ·rename_i r' m1 hv
     injection h with h
     injection h with _ h
     injection h with e1 e2
     subst e1 e2
     cases hb:fn.body with
     | none=>simp [runG,hb] at hv
     | some c=>exact zg ih hm hN hf hb (fun z _ _ b _=>gb ih hm n 2 b) hv
    ·cases h
   ·cases h
end
def gE (get:Nat->Option SV):List Bool->Nat->List SV
 | [],_=>[]
 | f::r,i=>match get i with
  | some x=>(match f with|true=>x|false=>.poison)::gE get r (i+1)
  | none=>[]
def bX (c:Code) (n:Nat):Code:=((loopsOf c)[n]?).getD .skip
end Go.Sx
namespace Go.Sx
open Go.RowKit
def um (q:List Nat×List Nat) (x:SV):List Nat×List Nat :=
 match x with
 | .rp r _ _ _=>(q.1,eD q.2 r)
 | .part r _ _ _=>(q.1,eD q.2 r)
 | .el l _ _ _=>(eD q.1 l,q.2)
 | x=>zH q x
def ne (ls rs:List Nat) (x:SV):Option SV :=
 match x with
 | .rp r n i j=>match dA rs r 0 with
  | some k=>some (.rp k n i j)
  | none=>none
 | .part r n i j=>match dA rs r 0 with
  | some k=>some (.part k n i j)
  | none=>none
 | .el l o n i=>match dA ls l 0 with
  | some k=>some (.el k o n i)
  | none=>none
 | .poison=>some .poison
 | x=>sB ls rs x
def fp:List Bool->List SV->List SV
 | true::k,x::l=>x::fp k l
 | false::k,_::l=>fp k l
 | _,_=>[]
def jM:List Bool->List SV->List SV
 | true::k,x::l=>x::jM k l
 | false::k,l=>.poison::jM k l
 | _,_=>[]
def mk (keep:List Bool) (vals:List SV) (m:Mem):St:=⟨Tr.ofList (jM keep vals),m⟩
def uO (n m:Nat) (keep:List Bool) (st:St):Option (List SV×Mem) :=
 match Nat.beq (gE st.tmps.get keep 0).length keep.length with
 | true=>match iw st.mem.blk (st.mem.blk.length+1) 0 ((fp keep (gE st.tmps.get keep 0)).foldl um (List.range n,List.range m)) with
  | some (ls,rs)=>match cv (ne ls rs) (fp keep (gE st.tmps.get keep 0)),cv (o7 st.mem.blk ls rs) ls,cv (CA st.mem.rows) rs with
   | some vals,some b,some rows=>some (vals,⟨b,b.map fun _=>true,rows⟩)
   | _,_,_=>none
  | none=>none
 | false=>none
def ab (n m:Nat) (keep:List Bool) (st:St):St :=
 match uO n m keep st with
 | some (vals,mm)=>mk keep vals mm
 | none=>st
def cE (n m:Nat) (keep:List Bool) (G:List SV->Mem->Option (Bool×Ex×St)) (st:St):Option (Bool×LT) :=
 match uO n m keep st with
 | some (vals,mm)=>match G vals mm with
  | some (g,e,st')=>some (g,.leaf e st')
  | none=>none
 | none=>none
def fR (n m:Nat) (keep:List Bool) (G:List SV->Mem->Option (Bool×LT)) (st:St):Option (Bool×LT) :=
 match uO n m keep st with
 | some (vals,mm)=>G vals mm
 | none=>none
theorem wA (get:Nat->Option SV) {f:SV->Option SV}:∀ (keep:List Bool) (i:Nat) (vals:List SV),(gE get keep i).length=keep.length->cv f (fp keep (gE get keep i))=some vals ->
  ∀ (t:Nat) x,(jM keep vals)[t]?=some x->(get (i+t)).isSome=true/\(x=.poison\/∃ s,get (i+t)=some s/\f s=some x/\s∈fp keep (gE get keep i))
 | [],_,vals,_,_,t,x,hx=>by cases vals<;>simp [jM] at hx
 | b::k,i,vals,hl,hm,t,x,hx=>by
  unfold gE at hl hm ⊢
  cases hg:get i with
  | none=>simp [hg] at hl
  | some s =>
   simp only [hg,List.length_cons,Nat.add_right_cancel_iff] at hl hm ⊢
   cases b with
   | true =>
    simp only [fp] at hm ⊢
    unfold cv at hm
    split at hm
    ·rename_i y r hy hr
     injection hm with hm
     subst hm
     cases t with
     | zero =>
      simp [jM] at hx
      subst hx
      exact ⟨by simp [hg],.inr ⟨s,by simpa using hg,hy,by simp⟩⟩
     | succ t =>
      obtain ⟨h1,h2⟩:=wA get k (i+1) r hl hr t x (by simpa [jM] using hx)
      rw [show i+1+t=i+(t+1) by omega] at h1 h2
      refine ⟨h1,h2.imp id ?_⟩
      rintro ⟨s',e1,e2,e3⟩
      exact ⟨s',e1,e2,List.mem_cons_of_mem _ e3⟩
    ·cases hm
   | false =>
    simp only [fp] at hm ⊢
    cases t with
    | zero =>
     have:x=.poison:=by cases vals<;>simpa [jM] using hx.symm
     exact ⟨by simp [hg],.inl this⟩
    | succ t =>
     have hx':(jM k vals)[t]?=some x:=by cases vals<;>simpa [jM] using hx
     obtain ⟨h1,h2⟩:=wA get k (i+1) vals hl hm t x hx'
     rw [show i+1+t=i+(t+1) by omega] at h1 h2
     exact ⟨h1,h2⟩
theorem Cn (get:Nat->Option SV):∀ (keep:List Bool) (i:Nat) (s:SV),s∈fp keep (gE get keep i)->∃ t,get t=some s
 | [],_,s,h=>by simp [fp] at h
 | b::k,i,s,h=>by
  unfold gE at h
  cases hg:get i with
  | none=>rw [hg] at h;cases b<;>simp [fp] at h
  | some x =>
   simp only [hg] at h
   cases b with
   | true =>
    simp only [fp,List.mem_cons] at h
    rcases h with rfl|h
    ·exact ⟨i,hg⟩
    ·exact Cn get k (i+1) s h
   | false =>
    simp only [fp] at h
    exact Cn get k (i+1) s h
section
variable {Γ:Orc} {P:Program} {w0:Base} {V:Vl}
theorem qiB {q:List Nat×List Nat} (h:Good (fun l=>V.b l≠none) (fun r=>V.r r≠none) q) {x:SV} {y:Value} (hx:aH V x y):Good (fun l=>V.b l≠none) (fun r=>V.r r≠none) (um q x):=by
 cases x with
 | rp r n i j=>exact kW h (x:=.row r) hx.1
 | part r n i j=>exact kW h (x:=.row r) hx.1
 | el l o n i =>
  obtain ⟨b,o',h1,_⟩:=hx
  exact kW h (x:=.ptr l 0) (by simp [ni,h1])
 | _=>exact Qu h hx
theorem qiA (q:List Nat×List Nat) (x:SV):Pre q (um q x):=by
 cases x with
 | rp r n i j=>exact kV q (.row r)
 | part r n i j=>exact kV q (.row r)
 | el l o n i=>exact kV q (.ptr l 0)
 | v x=>exact oA q (.v x)
 | ptr l o=>exact oA q (.ptr l o)
 | row r=>exact oA q (.row r)
 | clo f l o=>exact oA q (.clo f l o)
 | ag cs=>exact oA q (.ag cs)
 | tup cs=>exact oA q (.tup cs)
 | lit cs n=>exact .refl q
 | nul=>exact .refl q
 | poison=>exact .refl q
theorem OJ:∀ (xs:List SV) (q:List Nat×List Nat),Pre q (xs.foldl um q)
 | [],q=>.refl q
 | x::xs,q=>(qiA q x).trans (OJ xs _)
theorem OK:∀ (xs:List SV) {q:List Nat×List Nat},Good (fun l=>V.b l≠none) (fun r=>V.r r≠none) q->(∀ x∈xs,∃ y,aH V x y)->Good (fun l=>V.b l≠none) (fun r=>V.r r≠none) (xs.foldl um q)
 | [],_,h,_=>h
 | x::xs,_,h,hx=>by
  obtain ⟨y,hy⟩:=hx x (by simp)
  exact OK xs (qiB h hy) fun u hu=>hx u (by simp [hu])
theorem qau {ls rs:List Nat} {x x':SV} {y:Value} (h:ne ls rs x=some x') (hd:aH V x y):aH (V.sub ls rs) x' y:=by
 cases x with
 | rp r n i j =>
  simp only [ne] at h
  split at h
  ·rename_i k hk
   injection h with h
   subst h
   obtain ⟨d,rfl,h1⟩:=iG _ _ _ _ hk
   simpa [aH,Vl.sub,h1] using hd
  ·cases h
 | part r n i j =>
  simp only [ne] at h
  split at h
  ·rename_i k hk
   injection h with h
   subst h
   obtain ⟨d,rfl,h1⟩:=iG _ _ _ _ hk
   simpa [aH,Vl.sub,h1] using hd
  ·cases h
 | el l o n i =>
  simp only [ne] at h
  split at h
  ·rename_i k hk
   injection h with h
   subst h
   obtain ⟨d,rfl,h1⟩:=iG _ _ _ _ hk
   obtain ⟨b,o',h2,h3⟩:=hd
   exact ⟨b,o',by simp [Vl.sub,h1,h2],h3⟩
  ·cases h
 | poison=>simp [ne] at h;subst h;trivial
 | _=>exact Md (by simpa [ne] using h) hd
theorem kM {n m:Nat} (hn:w0.L.length=n) (hm:w0.U.length=m) {keep:List Bool} {st:St} {a:Act} {w:World} (h:ba P cc w0 st a w):ba P cc w0 (ab n m keep st) a w:=by
 subst hn hm
 unfold ab
 split
 case h_2=>exact h
 rename_i vals mm hv
 obtain ⟨V,hR,_⟩:=h
 unfold uO at hv
 split at hv
 case h_2=>cases hv
 rename_i hlen
 have hlen:(gE st.tmps.get keep 0).length=keep.length:=Nat.eq_of_beq_eq_true hlen
 split at hv
 case h_2=>cases hv
 rename_i ls rs hre
 split at hv
 case h_2=>cases hv
 rename_i vals' b rows hvals hb hrows
 injection hv with hv
 injection hv with e1 e2
 subst e1 e2
 have hden:∀ x∈fp keep (gE st.tmps.get keep 0),∃ y,aH V x y:=by
  intro x hx
  obtain ⟨t,ht⟩:=Cn _ _ _ _ hx
  have hlt:=hR.len t x ht
  exact ⟨a.tmps[t],hR.tmps t x ht _ (by simp [hlt])⟩
 have hM:=de.of hR
 have g1:=Mh hM (OK _ (NQ hM) hden) hre
 have hp:=(OJ (fp keep (gE st.tmps.get keep 0)) (List.range w0.L.length,List.range w0.U.length)).trans (Cc _ _ _ _ hre)
 have hM':=K3 hM g1 (fun i hi=>hp.b i i (by simp [hi])) (fun i hi=>hp.r i i (by simp [hi])) hb hrows
 refine ⟨V.keep ls rs,{ hM' with len:=fun t x hx=>?_,tmps:=fun t x hx y hy=>?_,defers:=hR.defers },fun _ _ _ hm=>by cases hm⟩
 ·simp only [mk,Tr.get_ofList] at hx
  obtain ⟨h1,_⟩:=wA _ _ _ _ hlen hvals t x hx
  rw [Nat.zero_add] at h1
  obtain ⟨s,hs⟩:=Option.isSome_iff_exists.1 h1
  exact hR.len t s hs
 ·simp only [mk,Tr.get_ofList] at hx
  obtain ⟨_,rfl|⟨s,h1,h2,_⟩⟩:=wA _ _ _ _ hlen hvals t x hx
  ·trivial
  ·rw [Nat.zero_add] at h1
   exact (qau h2 (hR.tmps t s h1 y hy)).mono Bx
theorem di (hΓ:Γ.Ok P) (hm:P.follows .mixedOrders=true) {Λ Λ':aV} {body:Code} {n m:Nat} (hn:w0.L.length=n) (hm':w0.U.length=m) {keep:List Bool} {kx:Ex->List Bool} (hL:∀ b∈loopsOf body,aQ Λ P w0 b) {G:List SV->Mem->Option (Bool×Ex×St)} (hF:∀ st,Λ' body st=cE n m keep G st)
  (h:∀ vals mm e st',G vals mm=some (true,e,st')->∃ k,ao (R:=Ex×St) Γ P Λ (ab n m keep) body k (mk keep vals mm) (fun e st=>some (e,ab n m (kx e) st))=some (e,st')):aQ Λ' P w0 body:=by
 intro st t hs a w hR
 rw [hF] at hs
 unfold cE at hs
 split at hs
 ·rename_i vals mm hv
  split at hs
  case h_2=>cases hs
  rename_i g e st' hG
  injection hs with hs
  injection hs with h1 h2
  subst h1 h2
  obtain ⟨k,hk⟩:=h vals mm e st' hG
  have hc:=kM hn hm' (keep:=keep) hR
  unfold ab at hc
  rw [hv] at hc
  refine wp_loop_rounds k (yQ hΓ hm hL (fun _ _ _ h=>kM hn hm' h) (r:=(e,st')) ?_ k _ a w hk hc)
  intro e1 st1 _ hk a' w' hR'
  injection hk with hk
  injection hk with h1 h2
  subst h1 h2
  exact ⟨rfl,kM hn hm' hR'⟩
 ·cases hs
theorem gV (hΓ:Γ.Ok P) (hm:P.follows .mixedOrders=true) {Λ Λ':aV} {body:Code} {n m:Nat} (hn:w0.L.length=n) (hm':w0.U.length=m) {keep:List Bool} {kx:Ex->List Bool} (hL:∀ b∈loopsOf body,aQ Λ P w0 b) {G:List SV->Mem->Option (Bool×LT)} (hF:∀ st,Λ' body st=fR n m keep G st)
  (h:∀ vals mm t,G vals mm=some (true,t)->∃ k,ao (R:=Ex×St) Γ P Λ (ab n m keep) body k (mk keep vals mm) (fun e st=>some (e,ab n m (kx e) st))=some t.pick):aQ Λ' P w0 body:=by
 intro st t hs a w hR
 rw [hF] at hs
 unfold fR at hs
 split at hs
 ·rename_i vals mm hv
  obtain ⟨k,hk⟩:=h vals mm t hs
  have hc:=kM hn hm' (keep:=keep) hR
  unfold ab at hc
  rw [hv] at hc
  refine wp_loop_rounds k (yQ hΓ hm hL (fun _ _ _ h=>kM hn hm' h) (r:=t.pick) ?_ k _ a w hk hc)
  intro e1 st1 _ hk a' w' hR'
  injection hk with hk
  rw [<- hk]
  exact ⟨rfl,kM hn hm' hR'⟩
 ·cases hs
end
def aB (n:Nat) (l:List Nat):List Bool:=(List.range n).map fun i=>l.contains i
end Go.Sx
namespace Go.Sx
open Go.RowKit
section
variable {H:Type} {enc:TypeId×Value->H} {P:Program}
def szOk (P:Program):Bool:=(List.range P.types.size).all fun t=>match P.underlying t with
 | some (.slice e)=>Nat.blt 0 (P.cellsOf e)
 | _=>true
theorem stayAll (hl:laidOutB P=true) (hm:mapsRowed P=true) (hz:szOk P=true) {W W':World} {sp:Nat->Bool}:∀ {ts:List TypeId} {vs:List Value} {ds:List (DataW H)} {p:List MemPlace},(∀ t∈ts,t<P.types.size) ->
  DataW.TrodAll enc P W 0 (fun _=>true) true ts vs ds p->(∀ q∈p,W.sameAt W' q)->(∀ q∈p,sp q.block=true)->DataW.TrodAll enc P W' 0 sp true ts vs ds p
 | [],[],[],p,_,h,_,_=>h
 | t::ts,v::vs,d::ds,p,hT,h,hs,hb=>by
  obtain ⟨q,r,⟨n,h1⟩,h2,rfl⟩:=h
  have hz':∀ {t e:TypeId},t<P.types.size->P.underlying t=some (.slice e)->0<P.cellsOf e:=fun {t e} ht hu=>by
   have:=List.all_eq_true.1 hz t (List.mem_range.2 ht)
   rw [hu] at this
   exact Nat.lt_of_lt_of_le (by decide:0<1) (Nat.le_of_ble_eq_true this)
  refine ⟨q,r,⟨n,DataW.trod_stays (T:=(·<P.types.size)) (kids_rows hl hm) hz' (fun h=>by cases h) (hT t (by simp)) h1 (fun x hx=>hs x (List.mem_append_left _ hx)) (fun x hx=>hb x (List.mem_append_left _ hx))⟩,?_,rfl⟩
  exact stayAll hl hm hz (fun t ht=>hT t (List.mem_cons_of_mem _ ht)) h2 (fun x hx=>hs x (List.mem_append_right _ hx)) (fun x hx=>hb x (List.mem_append_right _ hx))
 | [],[],_::_,_,_,h,_,_=>h.elim
 | [],_::_,_,_,_,h,_,_=>h.elim
 | _::_,[],_,_,_,h,_,_=>h.elim
 | _::_,_::_,[],_,_,h,_,_=>h.elim
inductive In0 where
 | v (x:Value)
 | row (e:TypeId) (ks:List CK) (L:List (List Dat))
inductive In where
 | v (x:Value)
 | row (e:TypeId) (ks:List CK) (L:List (List Dat))
 | ag (cs:List In0)
def RowIn (w:World) (ks:List CK) (L:List (List Dat)) (y:Value):Prop:=∃ L0,aX (·<w.heap.size) w ks L L0/\bH (·<w.heap.size) w ks L0 y
theorem RowIn.plain {w:World} {ks:List CK} {L:List (List Dat)} {y:Value} (hp:dJ ks=true) (h:bH (·<w.heap.size) w ks L y):RowIn w ks L y:=⟨L,aX.refl hp,h⟩
def lV:List In0->List RowS
 | []=>[]
 | .v _::r=>lV r
 | .row e ks L::r=>.live ⟨e,ks,L,false,false⟩::lV r
def xE:List In0->Nat->List SA
 | [],_=>[]
 | .v x::r,n=>.v x::xE r n
 | .row _ _ _::r,n=>.row n::xE r (n+1)
def nK:List In0->List Value->List Value
 | .v _::r,_::s=>nK r s
 | .row _ _ _::r,y::s=>y::nK r s
 | _,_=>[]
def lg (w:World):List In0->List Value->Prop
 | [],[]=>True
 | .v x::r,y::s=>y=x/\lg w r s
 | .row _ ks L::r,y::s=>RowIn w ks L y/\lg w r s
 | _,_=>False
def inRows:List In->List RowS
 | []=>[]
 | .v _::r=>inRows r
 | .row e ks L::r=>.live ⟨e,ks,L,false,false⟩::inRows r
 | .ag cs::r=>lV cs++inRows r
def inArgs:List In->Nat->List SV
 | [],_=>[]
 | .v x::r,n=>.v x::inArgs r n
 | .row _ _ _::r,n=>.row n::inArgs r (n+1)
 | .ag cs::r,n=>.ag (xE cs n)::inArgs r (n+(lV cs).length)
def inMem (l:List In):Mem:=⟨[],[],inRows l⟩
def gw:List In->List Value->List Value
 | .v _::r,_::s=>gw r s
 | .row _ _ _::r,y::s=>y::gw r s
 | .ag cs::r,y::s=>nK cs y.cells.toList++gw r s
 | _,_=>[]
def InsOk (w:World):List In->List Value->Prop
 | [],[]=>True
 | .v x::r,y::s=>y=x/\InsOk w r s
 | .row _ ks L::r,y::s=>RowIn w ks L y/\InsOk w r s
 | .ag cs::r,y::s=>(∃ vs,y=.agg vs.toArray/\lg w cs vs)/\InsOk w r s
 | _,_=>False
theorem bH.slicy {K:Nat->Prop} {w:World} {ks:List CK} {L:List (List Dat)} {y:Value} (h:bH K w ks L y):Go.Sx.slicy y:=by
 rcases h with ⟨⟨_,rfl⟩,_⟩|⟨b,o,cap,rfl,_⟩<;>trivial
theorem RowIn.slicy {w:World} {ks:List CK} {L:List (List Dat)} {y:Value} (h:RowIn w ks L y):Go.Sx.slicy y:=by
 obtain ⟨_,_,h⟩:=h
 exact h.slicy
def il (w:World) (rows:List RowS) (vals:List Value):Prop:=vals.length=rows.length/\∀ (i:Nat) rc,rowAt rows i=some rc->rc.own=false/\∃ u,vals[i]?=some u/\RowIn w rc.ks rc.L u
theorem il.cons {w:World} {rows:List RowS} {vals:List Value} {rc:RowC} {u:Value} (ho:rc.own=false) (hu:RowIn w rc.ks rc.L u) (h:il w rows vals):il w (.live rc::rows) (u::vals):=by
 refine ⟨by simp [h.1],fun i rc' hi=>?_⟩
 cases i with
 | zero =>
  simp [rowAt] at hi
  subst hi
  exact ⟨ho,u,by simp,hu⟩
 | succ i=>exact h.2 i rc' (by simpa [rowAt] using hi)
theorem il.append {w:World} {rows':List RowS} {vals':List Value} (h':il w rows' vals') {rows:List RowS} {vals:List Value} (h:il w rows vals):il w (rows++rows') (vals++vals'):=by
 refine ⟨by simp [h.1,h'.1],fun i rc hi=>?_⟩
 by_cases hl:i<rows.length
 ·unfold rowAt at hi
  rw [List.getElem?_append_left hl] at hi
  obtain ⟨e1,u,e2,e3⟩:=h.2 i rc hi
  exact ⟨e1,u,by rw [List.getElem?_append_left (by rw [h.1];exact hl)];exact e2,e3⟩
 ·unfold rowAt at hi
  rw [List.getElem?_append_right (by omega)] at hi
  obtain ⟨e1,u,e2,e3⟩:=h'.2 (i - rows.length) rc hi
  exact ⟨e1,u,by rw [List.getElem?_append_right (by rw [h.1];omega),h.1];exact e2,e3⟩
theorem xD {w:World}:∀ {l:List In0} {vs:List Value},lg w l vs->il w (lV l) (nK l vs)
 | [],[],_=>⟨rfl,fun i rc h=>by simp [lV,rowAt] at h⟩
 | .v _::r,_::s,h=>xD (l:=r) (vs:=s) h.2
 | .row e ks L::r,y::s,h=>il.cons (rc:=⟨e,ks,L,false,false⟩) rfl h.1 (xD (l:=r) (vs:=s) h.2)
 | [],_::_,h=>h.elim
 | .v _::_,[],h=>h.elim
 | .row _ _ _::_,[],h=>h.elim
theorem xv {w:World}:∀ {l:List In} {vs:List Value},InsOk w l vs->il w (inRows l) (gw l vs)
 | [],[],_=>⟨rfl,fun i rc h=>by simp [inRows,rowAt] at h⟩
 | .v _::r,_::s,h=>xv (l:=r) (vs:=s) h.2
 | .row e ks L::r,y::s,h=>il.cons (rc:=⟨e,ks,L,false,false⟩) rfl h.1 (xv (l:=r) (vs:=s) h.2)
 | .ag cs::r,y::s,h=>by
  obtain ⟨⟨vs,rfl,h1⟩,h2⟩:=h
  exact il.append (xv (l:=r) (vs:=s) h2) (xD (l:=cs) (by simpa [Value.cells] using h1))
 | [],_::_,h=>h.elim
 | .v _::_,[],h=>h.elim
 | .row _ _ _::_,[],h=>h.elim
 | .ag _::_,[],h=>h.elim
theorem LX {V:Vl} {n:Nat} {y:Value} (h0:V.r n=some (some y)) (hs:slicy y):V.r n≠none/\(∀ u,V.r n=some (some u)->y=u)/\slicy y :=
 ⟨by rw [h0];simp,fun u hu=>by rw [h0] at hu;injection hu with hu;injection hu,hs⟩
theorem Dd {w:World} {V:Vl}:∀ {l:List In0} {vs:List Value} (n:Nat),lg w l vs->(∀ (i:Nat) u,(nK l vs)[i]?=some u->V.r (n+i)=some (some u))->aG (bj V) (xE l n) vs
 | [],[],_,_,_=>trivial
 | .v _::r,_::s,n,h,hv=>⟨h.1,Dd (l:=r) (vs:=s) n h.2 hv⟩
 | .row e ks L::r,y::s,n,h,hv=>by
  have h0:=hv 0 y (by simp [nK])
  rw [Nat.add_zero] at h0
  refine ⟨LX h0 h.1.slicy,Dd (l:=r) (vs:=s) (n+1) h.2 fun i u hi=>?_⟩
  have:=hv (i+1) u (by simpa [nK] using hi)
  rwa [show n+(i+1)=n+1+i by omega] at this
 | [],_::_,_,h,_=>h.elim
 | .v _::_,[],_,h,_=>h.elim
 | .row _ _ _::_,[],_,h,_=>h.elim
theorem xw {w:World} {V:Vl}:∀ {l:List In} {vs:List Value} (n:Nat),InsOk w l vs->(∀ (i:Nat) u,(gw l vs)[i]?=some u->V.r (n+i)=some (some u))->aG (aH V) (inArgs l n) vs
 | [],[],_,_,_=>trivial
 | .v _::r,_::s,n,h,hv=>⟨h.1,xw (l:=r) (vs:=s) n h.2 hv⟩
 | .row e ks L::r,y::s,n,h,hv=>by
  have h0:=hv 0 y (by simp [gw])
  rw [Nat.add_zero] at h0
  refine ⟨LX h0 h.1.slicy,xw (l:=r) (vs:=s) (n+1) h.2 fun i u hi=>?_⟩
  have:=hv (i+1) u (by simpa [gw] using hi)
  rwa [show n+(i+1)=n+1+i by omega] at this
 | .ag cs::r,y::s,n,h,hv=>by
  obtain ⟨⟨vs,rfl,h1⟩,h2⟩:=h
  have hc:(Value.agg vs.toArray).cells.toList=vs:=rfl
  have hl:=(xD h1).1
  simp only [gw,hc] at hv
  refine ⟨⟨vs,rfl,Dd n h1 fun i u hi=>hv i u ?_⟩,xw (l:=r) (vs:=s) _ h2 fun i u hi=>?_⟩
  ·rw [List.getElem?_append_left (List.getElem?_eq_some_iff.1 hi).1]
   exact hi
  ·have:=hv ((lV cs).length+i) u (by rw [List.getElem?_append_right (by omega),hl,Nat.add_sub_cancel_left];exact hi)
   rwa [<- Nat.add_assoc] at this
 | [],_::_,_,h,_=>h.elim
 | .v _::_,[],_,h,_=>h.elim
 | .row _ _ _::_,[],_,h,_=>h.elim
 | .ag _::_,[],_,h,_=>h.elim
theorem qdm {w:World} {l:List In} {vs:List Value} (h:InsOk w l vs):∃ (z:Base) (V:Vl),z.w=w/\z.L=[]/\z.R=[]/\Lent z (inMem l) V/\de z (inMem l) V w/\aG (aH V) (inArgs l 0) vs:=by
 obtain ⟨h1,h2⟩:=xv h
 refine ⟨⟨w,[],gw l vs,[],(·<w.heap.size)⟩,⟨fun _=>none,fun i=>((gw l vs)[i]?).map some,fun _=>none⟩,rfl,rfl,rfl,?_,?_,xw 0 h fun i u hi=>by simp [hi]⟩
 ·exact {
    bl:=rfl
    b:=fun i=>by simp
    ul:=h1
    u:=fun j u hu=>by simp [show (gw l vs)[j]?=some u from hu]
    rl:=fun g=>by
      refine ⟨fun hg=>by simp at hg,?_⟩
      rintro ⟨j,rc,u,e1,e2,_⟩
      rw [(h2 j rc e1).1] at e2
      cases e2 }
 ·exact {
    len:=fun t x hx=>by cases hx
    tmps:=fun t x hx=>by cases hx
    defers:=rfl
    lens:=rfl
    mem:=fun l b o hl=>by cases hl
    inj:=fun l l' b o b' o' hl=>by cases hl
    own:=fun l b o hl=>by cases hl
    lent:=fun l q hq=>by simp at hq
    base0:=fun l b o hl=>by cases hl
    dom:=fun l hl=>absurd rfl hl
    lentr:=fun j u hu=>.inl (by simp [show (gw l vs)[j]?=some u from hu])
    rows:=fun r rc hr=>by
      obtain ⟨e1,u,e2,e3⟩:=h2 r rc hr
      refine ⟨u,by simp [e2],?_⟩
      obtain ⟨L0,f1,f2⟩:=e3
      exact ⟨L0,f1.keep fun b hb=>⟨.inl hb,rfl⟩,(cD.lent e1).2 (f2.mono fun b hb=>.inl hb)⟩
    rowsN:=fun r hr=>by
      have e:(inRows l)[r]?=none:=hr
      have:(gw l vs)[r]?=none:=by
        simp at e ⊢
        omega
      simp [this]
    apart:=fun r r' rc rc' u u' g e1 e2=>by rw [(h2 r rc e1).1] at e2;cases e2
    apartb:=fun r rc u g l b o e1 e2=>by rw [(h2 r rc e1).1] at e2;cases e2
    below:=⟨rfl,rfl,rfl,Nat.le_refl _,fun _ _=>rfl⟩
    froz:=fun _ _=>rfl
    lits:=.none fun _=>rfl
    sk:=fun b hb=>⟨hb,by simp,by simp⟩
    qs:=fun g cs hq=>by cases hq }
theorem law_run {Γ:Orc} {Λ:aV} {P:Program} (hΓ:Γ.Ok P) (hm:P.follows .mixedOrders=true) {f:FuncId} {fn:Func} {c:Code} (hf:P.funcs[f]?=some fn) (hb:fn.body=some c) {l:List In} {m':Mem} {r:Value}
  (h:runG Γ Λ P fn (inArgs l 0) (inMem l)=some (.v r,m')) {w:World} {vs:List Value} (hA:InsOk w l vs) (hL:∀ z:Base,z.L.length=0->z.U.length=(inRows l).length->∀ b∈loopsOf c,aQ Λ P z b) :
  Calls P f vs.toArray w (fun e w'=>e=.returned r/\Kp w w'):=by
 obtain ⟨z,V,rfl,z1,z2,z3,z4,z5⟩:=qdm hA
 refine (LU hΓ hm hf hb h z3 z4 z5 (hL z (by rw [z1];rfl) z3.ul)).mono ?_
 rintro e w' ⟨y,rfl,V',hy,hM⟩
 have hy':y=r:=hy
 subst hy'
 have hs:=hM.below
 exact ⟨rfl,⟨hs.os,hs.tape,hs.output,hs.size,fun k hk=>hs.block k ⟨hk,by simp [z1],by simp [z2]⟩⟩,hM.froz⟩
theorem post_of_same2 {f:Func} {s:ChangeSpec} {apart fresh handsOn again:Bool} {W W':World} {args:Array Value} {v:Value} {ds gs:List (DataW H)} {before pa pv:List MemPlace}
  (hW:DataW.Whole enc P f.params.toList s.vars apart W args.toList ds gs before)
  (hres:∀ (b:Nat) (sp:Nat->Bool) (hd:Bool),DataW.TrodAll enc P W' b sp hd f.resultTypes.toList (v.resultList f.resultTypes.size) (s.fn H (ds++gs)).results [])
  (hargs:∀ sp:Nat->Bool,(∀ p∈before,sp p.block=true)->DataW.TrodAll enc P W' 0 sp true f.params.toList args.toList (s.fn H (ds++gs)).args pa)
  (hvars:∀ sp:Nat->Bool,(∀ p∈before,sp p.block=true)->DataW.TrodVars enc P W' sp s.vars (s.fn H (ds++gs)).vars pv)
  (hps:before=pa++pv) (hk:W.keptBut W' (·∈before)) (hfz:∀ a,a.block<W.heap.size->W'.frozen? a=W.frozen? a)
  (hok:∀ (j:Nat) (t:TypeId) (r:Value),f.resultTypes[j]?=some t->(v.resultList f.resultTypes.size)[j]?=some r->Value.okWide P W' .any 0 t r) :
  s.post enc P f apart fresh handsOn again W args v W':=by
 have hold:∀ p∈before,(fun b=>decide (b<W.heap.size)) p.block=true:=fun p hp=>by simpa using hW.lt p hp
 have hlt:=hW.lt
 refine ⟨ds,gs,before,[],pa,pv,hW,hres _ _ _,hargs _ hold,hvars _ hold,World.keptBut_mono (fun p hp=>⟨hp,?_⟩) hk,fun _=>?_⟩
 ·rw [hps,List.mem_append] at hp
  exact Or.inr hp
 ·obtain ⟨_,_,_,_,_,hz,hn⟩:=hW
  refine ⟨hok,_,_,([]++pa)++pv,⟨[]++pa,pv,Go.ChangeShapes.trodAll_append (hargs _ (fun _ _=>rfl)) (hres _ _ _),hvars _ (fun _ _=>rfl),rfl,?_,?_⟩,?_⟩
  ·intro b off hp
   have hb:=hlt _ (by rw [hps];simpa using hp)
   rw [hfz _ hb]
   exact hz b off (by rw [hps];simpa using hp)
  ·intro ha
   have:=hn ha
   rw [hps] at this
   simpa using this
  ·intro p hp _
   rw [hps]
   simpa using hp
end
end Go.Sx
namespace Go.Sx
open Go.RowKit Go.Joins Go.Deep Go.ChangeShapes
section
variable {H:Type} {enc:TypeId×Value->H} {P:Program}
end
end Go.Sx
namespace Go.Sx
open Go.RowKit
section
variable {P:Program} {w:World}
theorem Vk {k:IntKind} {n:Int} {a:Addr} (h:w.cell? a=some (.int k n)):(Extern.Atomic.loadT (.int k) #[.pointer (some a)]).run P w=.ok (.int k n) w:=by
 rw [show Extern.Atomic.loadT (.int k) #[.pointer (some a)]=(do Extern.Atomic.read (.int k) (<- asAddr (.pointer (some a)))) from rfl]
 simp [Extern.Atomic.read,asAddr,load,Sem.run,h,bind,Sem.bind,pure]
theorem Vj {k:IntKind} {n:Int} {a:Addr} {u:Value} (h:w.cell? a=some u) (hf:w.frozen? a=false):(Extern.Atomic.storeT #[.pointer (some a),.int k n]).run P w=.ok (.tuple #[]) (w.setCell a (.int k n)):=by
 rw [show Extern.Atomic.storeT #[.pointer (some a),.int k n]=(do store (<- asAddr (.pointer (some a))) (.int k n) .atomic;pure Extern.Atomic.none_) from rfl]
 simp [asAddr,store,Sem.run,h,hf,bind,Sem.bind,pure,Extern.Atomic.none_]
theorem U4 {a:Addr} {u:Value} (h:w.cell? a=some u):∃ x,w.shape? a.block=some x:=by
 unfold World.cell? at h
 unfold World.shape?
 split at h
 ·rename_i c e f hc
  exact ⟨(e,c.size),rfl⟩
 ·cases h
theorem Vm {k:IntKind} {n old new:Int} {a:Addr} (h:w.cell? a=some (.int k n)) (hf:w.frozen? a=false):(Extern.Atomic.casT (.int k) #[.pointer (some a),.int k old,.int k new]).run P w=.ok (.bool (n==old)) (bif n==old then w.setCell a (.int k new) else w):=by
 obtain ⟨x,hx⟩:=U4 h
 rw [show Extern.Atomic.casT (.int k) #[.pointer (some a),.int k old,.int k new]=(do
  let a <- asAddr (.pointer (some a))
  if <- Extern.Atomic.touchesFrozen a then unsupported (.unsafePointer "a write to bytes that a string shares")
  let eq <- match Extern.Atomic.T.int k,<- Extern.Atomic.read (.int k) a,Value.int k old with
   | _,.int _ x,.int _ y=>pure (x==y)
   | .ptr,.pointer x,.pointer y=>samePointer x y
   | .int _,.pointer (some _),.int _ 0|.int _,.int _ 0,.pointer (some _)=>pure false
   | .int _,.pointer (some _),_|.int _,_,.pointer (some _)=>unsupported .addressObserved
   | _, _, _ => stuck "atomic.CompareAndSwap: old is no T"
  if eq then store a (.int k new) .atomic
  pure (.bool eq)) from rfl]
 by_cases hn:n=old
 ·have hb:(n==old)=true:=by simpa using hn
  rw [hb]
  simp [Extern.Atomic.read,Extern.Atomic.touchesFrozen,viewAt,asAddr,load,store,shape,frozen,Sem.run,h,hf,hx,hn,bind,Sem.bind,pure]
 ·have hb:(n==old)=false:=by simpa using hn
  rw [hb]
  simp [Extern.Atomic.read,Extern.Atomic.touchesFrozen,viewAt,asAddr,load,store,shape,frozen,Sem.run,h,hf,hx,hn,bind,Sem.bind,pure]
end
theorem de.setCell {z:Base} {m:Mem} {V:Vl} {w:World} (h:de z m V w) {l b o off:Nat} {cs:List SA} {x:SA} {y:Value} (hb:V.b l=some (b,o)) (hc:m.blk[l]?=some cs) (hoff:off<cs.length) (hd:bj V x y) :
  de z { m with blk:=m.blk.set l (cs.set off x) } V (w.setCell ⟨b,o+off,none⟩ y):=by
 have hblk:∀ k,k≠b->(w.setCell ⟨b,o+off,none⟩ y).heap[k]?=w.heap[k]?:=fun k hk=>Below.heap_setCell _ _ _ _ hk
 have hkept:∀ k,z.Kept k->(w.setCell ⟨b,o+off,none⟩ y).heap[k]?=w.heap[k]?:=fun k hk=>hblk k fun e=>h.notKept hb (e▸hk)
 refine { h with
   lens:=by simpa using h.lens
   mem:=fun i b' o' hi cs' hcs' j u hu=>?_
   own:=fun i b' o' hi=>by have:=h.own i b' o' hi;exact ⟨this.1,by simpa using this.2⟩
   rows:=fun r rc hr=>?_
   below:=⟨h.below.os,h.below.tape,h.below.output,by have:=h.below.size;simpa using this,fun k hk=>(hkept k hk).trans (h.below.block k hk)⟩
   froz:=fun p hp=>by rw [World.frozen?_setCell];exact h.froz p hp
   lits:=h.lits.world fun g cs1 hq=>hblk g (fun e=>(h.lits g cs1 hq).2.1 l b o hb e.symm) }
 ·have hcs':(m.blk.set l (cs.set off x))[i]?=some cs':=hcs'
  by_cases hil:i=l
  ·subst hil
   rw [hb] at hi
   injection hi with hi
   injection hi with e1 e2
   subst e1 e2
   rw [List.getElem?_set_self (List.getElem?_eq_some_iff.1 hc).1] at hcs'
   injection hcs' with hcs'
   subst hcs'
   obtain ⟨v0,c1,_,c3⟩:=h.mem i b o hb cs hc off cs[off] (by simp [hoff])
   by_cases hj:off=j
   ·subst hj
    rw [List.getElem?_set_self hoff] at hu
    injection hu with hu
    subst hu
    exact ⟨y,World.cell?_setCell_same _ _ _ c1,hd,by rw [World.frozen?_setCell];exact c3⟩
   ·rw [List.getElem?_set_ne hj] at hu
    obtain ⟨v,d1,d2,d3⟩:=h.mem i b o hb cs hc j u hu
    exact ⟨v,by rw [World.cell?_setCell_other _ _ _ _ (fun e=>by injection e with _ e;omega)];exact d1,d2,by rw [World.frozen?_setCell];exact d3⟩
  ·rw [List.getElem?_set_ne (Ne.symm hil)] at hcs'
   obtain ⟨v,d1,d2,d3⟩:=h.mem i b' o' hi cs' hcs' j u hu
   exact ⟨v,by rw [World.cell?_of_block (w:=w) (hblk b' (h.inj i l b' o' b o hi hb hil))];exact d1,d2,by rw [World.frozen?_setCell];exact d3⟩
 ·obtain ⟨u,e1,e2⟩:=h.rows r rc hr
  exact ⟨u,e1,e2.trans (fun b1 hb1=>⟨hb1,h.stays hkept (fun g cs1 hq=>hblk g (fun e=>(h.lits g cs1 hq).2.1 l b o hb e.symm)) b1 hb1⟩) fun ho L0 f1 f2=>⟨f1.block fun g hg=>hblk g (fun e=>by subst e;exact h.apartb r rc u g l g o hr ho e1 hg hb rfl),f2⟩⟩
def cellI (m:Mem) (l off:Nat):Option (List SA×IntKind×Int) :=
 match m.blk[l]? with
 | some cs=>match cs[off]? with
  | some (.v (.int k n))=>some (cs,k,n)
  | _=>none
 | none=>none
theorem ze {m:Mem} {l off:Nat} {cs:List SA} {k:IntKind} {n:Int} (h:cellI m l off=some (cs,k,n)):m.blk[l]?=some cs/\cs[off]?=some (.v (.int k n)):=by
 unfold cellI at h
 split at h
 ·rename_i cs' hc
  split at h
  ·rename_i k' n' hv
   injection h with h
   injection h with e1 h
   injection h with e2 e3
   subst e1 e2 e3
   exact ⟨hc,hv⟩
  ·cases h
 ·cases h
theorem de.cellI {z:Base} {m:Mem} {V:Vl} {w:World} (h:de z m V w) {l off b o:Nat} {cs:List SA} {k:IntKind} {n:Int} (hc:Go.Sx.cellI m l off=some (cs,k,n)) (hb:V.b l=some (b,o)) :
  w.cell? ⟨b,o+off,none⟩=some (.int k n)/\w.frozen? ⟨b,o+off,none⟩=false:=by
 obtain ⟨h1,h2⟩:=ze hc
 obtain ⟨y,c1,c2,c3⟩:=h.mem l b o hb cs h1 off _ h2
 have c2':y=.int k n:=c2
 subst c2'
 exact ⟨c1,c3⟩
def CJ (ld:FuncId) (k:IntKind):FuncId->List SV->Mem->Option (Bool×Value):=fun f as m =>
 match Nat.beq f ld,as with
 | true,[.ptr l off]=>match cellI m l off with
  | some (_,k'',n)=>if k''=k then some (true,.int k n) else none
  | none=>none
 | _,_=>none
def zJ (ad:FuncId) (k:IntKind):FuncId->List SV->Mem->Option (Bool×SV×Mem):=fun f as m =>
 match Nat.beq f ad,as with
 | true,[.ptr l off,.v (.int k' x)]=>match cellI m l off with
  | some (cs,k'',n)=>if k'=k/\k''=k then some (true,.v (.int k (wr true k (n+x))),{ m with blk:=m.blk.set l (cs.set off (.v (.int k (wr true k (n+x))))) }) else none
  | none=>none
 | _,_=>none
def vt (st:FuncId) (k:IntKind):FuncId->List SV->Mem->Option (Bool×SV×Mem):=fun f as m =>
 match Nat.beq f st,as with
 | true,[.ptr l off,.v (.int k' x)]=>match cellI m l off with
  | some (cs,k'',_)=>if k'=k/\k''=k then some (true,.v (.tuple #[]),{ m with blk:=m.blk.set l (cs.set off (.v (.int k x))) }) else none
  | none=>none
 | _,_=>none
def HG (ca:FuncId) (k:IntKind):FuncId->List SV->Mem->Option (Bool×SV×Mem):=fun f as m =>
 match Nat.beq f ca,as with
 | true,[.ptr l off,.v (.int k1 old),.v (.int k2 new)]=>match cellI m l off with
  | some (cs,k'',n)=>if k1=k/\k2=k/\k''=k then some (true,.v (.bool (n==old)),{ m with blk:=m.blk.set l (cs.set off (.v (.int k (bif n==old then new else n)))) }) else none
  | none=>none
 | _,_=>none
theorem NJ {α:Type} {l:List α} {i:Nat} {x:α} (h:l[i]?=some x):l.set i x=l:=by
 obtain ⟨hi,rfl⟩:=List.getElem?_eq_some_iff.1 h
 simp
structure Ext (P:Program) (f:FuncId) (e:Array Value->Sem Value):Prop where
 run:∀ args w,(callFunc f args).run P w=((e args).run P w).andThen fun v w'=>.ok (.value v) w'
theorem MX {V:Vl} {x:SV} {vs:List Value} (h:aG (aH V) [x] vs):∃ y,vs=[y]/\aH V x y:=by
 cases vs with
 | nil=>exact h.elim
 | cons y vs=>cases vs with
  | nil=>exact ⟨y,rfl,h.1⟩
  | cons _ _=>exact h.2.elim
theorem vd {V:Vl} {x1 x2:SV} {vs:List Value} (h:aG (aH V) [x1,x2] vs):∃ y1 y2,vs=[y1,y2]/\aH V x1 y1/\aH V x2 y2:=by
 cases vs with
 | nil=>exact h.elim
 | cons y vs=>obtain ⟨y2,rfl,h2⟩:=MX h.2;exact ⟨y,y2,rfl,h.1,h2⟩
theorem T7 {V:Vl} {x1 x2 x3:SV} {vs:List Value} (h:aG (aH V) [x1,x2,x3] vs):∃ y1 y2 y3,vs=[y1,y2,y3]/\aH V x1 y1/\aH V x2 y2/\aH V x3 y3:=by
 cases vs with
 | nil=>exact h.elim
 | cons y vs=>obtain ⟨y2,y3,rfl,h2,h3⟩:=vd h.2;exact ⟨y,y2,y3,rfl,h.1,h2,h3⟩
theorem qc5 {P:Program} {ld:FuncId} {k:IntKind} (he:Ext P ld (Extern.Atomic.loadT (.int k))):∀ f as m r,CJ ld k f as m=some (true,r)->bq P f as m (.v r) m:=by
 intro f as m r h z V vs hl hM hA
 unfold CJ at h
 split at h
 ·rename_i l off hfe
  obtain rfl:=Nat.eq_of_beq_eq_true hfe
  split at h
  ·rename_i cs k'' n hc
   split at h
   ·rename_i hk
    subst hk
    injection h with h
    injection h with _ h
    subst h
    obtain ⟨y,rfl,b,o,hb,rfl⟩:=MX hA
    have h1:=hM.cellI hc hb
    refine .inl ⟨.int k'' n,z.w,?_,V,rfl,hM⟩
    rw [he.run]
    show Result.andThen ((Extern.Atomic.loadT (.int k'') #[.pointer (some ⟨b,o+off,none⟩)]).run P z.w) _=_
    rw [Vk h1.1];rfl
   ·cases h
  ·cases h
 ·cases h
theorem K8 {P:Program} {st:FuncId} {k:IntKind} (he:Ext P st Extern.Atomic.storeT):∀ f as m r m',vt st k f as m=some (true,r,m')->bq P f as m r m':=by
 intro f as m r m' h z V vs hl hM hA
 unfold vt at h
 split at h
 ·rename_i l off k' x hfe
  obtain rfl:=Nat.eq_of_beq_eq_true hfe
  split at h
  ·rename_i cs k'' n hc
   split at h
   ·rename_i hk
    obtain ⟨rfl,rfl⟩:=hk
    injection h with h
    injection h with _ h
    injection h with e1 e2
    subst e1 e2
    obtain ⟨y1,y2,rfl,⟨b,o,hb,rfl⟩,hy2⟩:=vd hA
    have hy2:y2=.int k'' x:=hy2
    subst hy2
    have h1:=hM.cellI hc hb
    obtain ⟨c1,c2⟩:=ze hc
    refine .inl ⟨.tuple #[],_,?_,V,rfl,hM.setCell (x:=.v (.int k'' x)) hb c1 (List.getElem?_eq_some_iff.1 c2).1 rfl⟩
    rw [he.run]
    show Result.andThen ((Extern.Atomic.storeT #[.pointer (some ⟨b,o+off,none⟩),.int k'' x]).run P z.w) _=_
    rw [Vj h1.1 h1.2];rfl
   ·cases h
  ·cases h
 ·cases h
theorem qhT {P:Program} {ca:FuncId} {k:IntKind} (he:Ext P ca (Extern.Atomic.casT (.int k))):∀ f as m r m',HG ca k f as m=some (true,r,m')->bq P f as m r m':=by
 intro f as m r m' h z V vs hl hM hA
 unfold HG at h
 split at h
 ·rename_i l off k1 old k2 new hfe
  obtain rfl:=Nat.eq_of_beq_eq_true hfe
  split at h
  ·rename_i cs k'' n hc
   split at h
   ·rename_i hk
    obtain ⟨rfl,rfl,rfl⟩:=hk
    injection h with h
    injection h with _ h
    injection h with e1 e2
    subst e1 e2
    obtain ⟨y1,y2,y3,rfl,⟨b,o,hb,rfl⟩,hy2,hy3⟩:=T7 hA
    have hy2:y2=.int k'' old:=hy2
    have hy3:y3=.int k'' new:=hy3
    subst hy2 hy3
    have h1:=hM.cellI hc hb
    obtain ⟨c1,c2⟩:=ze hc
    have hoff:=(List.getElem?_eq_some_iff.1 c2).1
    refine .inl ⟨.bool (n==old),bif n==old then z.w.setCell ⟨b,o+off,none⟩ (.int k'' new) else z.w,?_,V,rfl,?_⟩
    ·rw [he.run]
     show Result.andThen ((Extern.Atomic.casT (.int k'') #[.pointer (some ⟨b,o+off,none⟩),.int k'' old,.int k'' new]).run P z.w) _=_
     rw [Vm h1.1 h1.2];rfl
    ·cases hn:n==old
     ·have e1:cs.set off (.v (.int k'' n))=cs:=NJ c2
      have e2:m.blk.set l cs=m.blk:=NJ c1
      simp only [cond_false,e1,e2]
      exact hM
     ·exact hM.setCell (x:=.v (.int k'' new)) hb c1 hoff rfl
   ·cases h
  ·cases h
 ·cases h
theorem qiG {P : Program} {ad : FuncId} {fn : Func} {k : IntKind} (hf : P.funcs[ad]? = some fn) (hname : (fn.name == "runtime.NumGoroutine") = false) (hb : fn.body.isNone = true) (hn : Extern.findNext fn = none)
  (he:Extern.find fn=some (Extern.Atomic.update (Op.intArith .add) k true)):∀ f as m r m',zJ ad k f as m=some (true,r,m')->bq P f as m r m':=by
 intro f as m r m' h z V vs hl hM hA
 unfold zJ at h
 split at h
 ·rename_i l off k' x hfe
  obtain rfl:=Nat.eq_of_beq_eq_true hfe
  split at h
  ·rename_i cs k'' n hc
   split at h
   ·rename_i hk
    obtain ⟨rfl,rfl⟩:=hk
    injection h with h
    injection h with _ h
    injection h with e1 e2
    subst e1 e2
    obtain ⟨y1,y2,rfl,⟨b,o,hbb,rfl⟩,hy2⟩:=vd hA
    have hy2:y2=.int k'' x:=hy2
    subst hy2
    have h1:=hM.cellI hc hbb
    obtain ⟨c1,c2⟩:=ze hc
    exact .inl ⟨_,_,run_call_add hf hname hb hn k'' he (s:=wr true k'' (n+x)) h1.1 h1.2 (by rw [cA];rfl),V,rfl,hM.setCell (x:=.v (.int k'' (wr true k'' (n+x)))) hbb c1 (List.getElem?_eq_some_iff.1 c2).1 rfl⟩
   ·cases h
  ·cases h
 ·cases h
def qQ (t:FuncId->List SV->Mem->Option (Bool×SV×Mem)) (Γ:Orc):Orc:={ Γ with call:=fun f as m=>match t f as m with|some r=>some r|none=>Γ.call f as m }
def qP (t:FuncId->List SV->Mem->Option (Bool×Value)) (Γ:Orc):Orc:={ Γ with rd:=fun f as m=>match t f as m with|some r=>some r|none=>Γ.rd f as m }
theorem zK {t:FuncId->List SV->Mem->Option (Bool×SV×Mem)} {Γ:Orc} {P:Program} (h:Γ.Ok P) (ht:∀ f as m r m',t f as m=some (true,r,m')->bq P f as m r m'):(qQ t Γ).Ok P:=by
 refine ⟨fun f as m r m' hr=>?_,h.rd,h.eqv⟩
 simp only [qQ] at hr
 split at hr
 ·rename_i q hq
  injection hr with hr
  subst hr
  exact ht f as m r m' hq
 ·exact h.call f as m r m' hr
theorem Qx {t:FuncId->List SV->Mem->Option (Bool×Value)} {Γ:Orc} {P:Program} (h:Γ.Ok P) (ht:∀ f as m r,t f as m=some (true,r)->bq P f as m (.v r) m):(qP t Γ).Ok P:=by
 refine ⟨h.call,fun f as m r hr=>?_,h.eqv⟩
 simp only [qP] at hr
 split at hr
 ·rename_i q hq
  injection hr with hr
  subst hr
  exact ht f as m r hq
 ·exact h.rd f as m r hr
def zM (f:FuncId) (a:List SV->Mem->List (Bool×Option (Bool×SV×Mem))) (Γ:Orc):Orc :=
 { Γ with alts:=fun g as m=>bif Nat.beq f g then a as m else Γ.alts g as m }
theorem zL {f:FuncId} {a:List SV->Mem->List (Bool×Option (Bool×SV×Mem))} {Γ:Orc} {P:Program} (h:Γ.Ok P) (ha:∀ as m b r m',(b,some (true,r,m'))∈a as m->bq P f as m r m'):(zM f a Γ).Ok P:=by
 refine ⟨h.call,h.rd,h.eqv.1,fun g as m b r m' hr=>?_⟩
 simp only [zM] at hr
 cases e:Nat.beq f g with
 | true =>
  rw [e,cond_true] at hr
  have:=Nat.eq_of_beq_eq_true e
  subst this
  exact ha as m b r m' hr
 | false =>
  rw [e,cond_false] at hr
  exact h.eqv.2 g as m b r m' hr
def L0:aV:=fun _ _=>none
end Go.Sx
namespace Go.Sx
open Go.RowKit
theorem N3:∀ (vs:List Value) (n:Nat),inArgs (vs.map In.v) n=vs.map SV.v
 | [],_=>rfl
 | _::r,n=>by simp only [List.map_cons,inArgs,N3 r n]
theorem Dc:∀ (vs:List Value),inRows (vs.map In.v)=[]
 | []=>rfl
 | _::r=>by simp only [List.map_cons,inRows,Dc r]
theorem N1 (w:World):∀ (vs:List Value),InsOk w (vs.map In.v) vs
 | []=>trivial
 | _::r=>⟨rfl,N1 w r⟩
theorem Tu {Γ:Orc} {Λ:aV} {P:Program} (hΓ:Γ.Ok P) (hm:P.follows .mixedOrders=true) (hN:np P=true) {f:FuncId} {fn:Func} {c:Code} (hf:P.funcs[f]?=some fn) (hb:fn.body=some c) {vs:List Value} {r:Value} {m':Mem}
  (hL:∀ z:Base,z.L.length=0->z.U.length=0->∀ b∈loopsOf c,aQ Λ P z b) (h:runG Γ Λ P fn (vs.map .v) ⟨[],[],[]⟩=some (.v r,m')) (m:Mem):bq P f (vs.map .v) m (.v r) m :=
 HH P (fun w=>.inr ⟨n9 hf (by simp [hb]) (nm hN hf (by simp [hb])) w,law_run hΓ hm hf hb (l:=vs.map In.v) (by rw [N3,inMem,Dc];exact h) (N1 w vs) (by rw [Dc];exact hL)⟩) m
theorem noLoops {Λ:aV} {P:Program} {c:Code} (h:loopsOf c=[]) (z:Base):∀ b∈loopsOf c,aQ Λ P z b:=by
 intro b hb
 rw [h] at hb
 cases hb
theorem bW {Λ:aV} {P:Program} {c b0:Code} {z:Base} (h:loopsOf c=[b0]) (h2:aQ Λ P z b0):∀ b∈loopsOf c,aQ Λ P z b:=by
 intro b hb
 rw [h,List.mem_singleton] at hb
 subst hb
 exact h2
def Ie (P:Program) (t:FuncId->List Value->Option (Bool×Value)):Prop:=∀ f vs r,t f vs=some (true,r)->∀ m,bq P f (vs.map .v) m (.v r) m
theorem Qw {t:FuncId->List Value->Option (Bool×Value)} {Γ:Orc} {P:Program} (h:Γ.Ok P) (ht:Ie P t):(qP (sf t) Γ).Ok P:=Qx h (Uf ht)
def vi (n:FuncId) (g:List Value->Option (Bool×Value)):FuncId->List Value->Option (Bool×Value):=fun f vs =>
 match Nat.beq f n with
 | true=>g vs
 | false=>none
def Bt (n:FuncId) (g:List SV->Mem->Option (Bool×Value)):FuncId->List SV->Mem->Option (Bool×Value):=fun f as m =>
 match Nat.beq f n with
 | true=>g as m
 | false=>none
def Bu (n:FuncId) (g:List SV->Mem->Option (Bool×SV×Mem)):FuncId->List SV->Mem->Option (Bool×SV×Mem):=fun f as m =>
 match Nat.beq f n with
 | true=>g as m
 | false=>none
theorem HS {f n:Nat} (h:Nat.beq f n=true):f=n:=Nat.eq_of_beq_eq_true h
theorem KY {P:Program} {n:FuncId} {g:List Value->Option (Bool×Value)} (h:∀ vs r,g vs=some (true,r)->∀ m,bq P n (vs.map .v) m (.v r) m):Ie P (vi n g):=by
 intro f vs r hr
 unfold vi at hr
 split at hr
 ·rename_i hf;obtain rfl:=HS hf;exact h vs r hr
 ·cases hr
theorem Ug {P:Program} {n:FuncId} {g:List SV->Mem->Option (Bool×Value)} (h:∀ as m r,g as m=some (true,r)->bq P n as m (.v r) m):∀ f as m r,Bt n g f as m=some (true,r)->bq P f as m (.v r) m:=by
 intro f as m r hr
 unfold Bt at hr
 split at hr
 ·rename_i hf;obtain rfl:=HS hf;exact h as m r hr
 ·cases hr
theorem Uh {P:Program} {n:FuncId} {g:List SV->Mem->Option (Bool×SV×Mem)} (h:∀ as m r m',g as m=some (true,r,m')->bq P n as m r m'):∀ f as m r m',Bu n g f as m=some (true,r,m')->bq P f as m r m':=by
 intro f as m r m' hr
 unfold Bu at hr
 split at hr
 ·rename_i hf;obtain rfl:=HS hf;exact h as m r m' hr
 ·cases hr
def ah (n:FuncId) (g:List Value->Option (Bool×Value)) (Γ:Orc):Orc:=qP (sf (vi n g)) Γ
theorem ac {n:FuncId} {g:List Value->Option (Bool×Value)} {Γ:Orc} {P:Program} (hΓ:Γ.Ok P) (h:∀ vs r,g vs=some (true,r)->∀ m,bq P n (vs.map .v) m (.v r) m):(ah n g Γ).Ok P:=Qw hΓ (KY h)
def aR (n:FuncId) (g:List SV->Mem->Option (Bool×Value)) (Γ:Orc):Orc:=qP (Bt n g) Γ
theorem aL {n:FuncId} {g:List SV->Mem->Option (Bool×Value)} {Γ:Orc} {P:Program} (hΓ:Γ.Ok P) (h:∀ as m r,g as m=some (true,r)->bq P n as m (.v r) m):(aR n g Γ).Ok P:=Qx hΓ (Ug h)
def aE (n:FuncId) (g:List SV->Mem->Option (Bool×SV×Mem)) (Γ:Orc):Orc:=qQ (Bu n g) Γ
theorem aA {n:FuncId} {g:List SV->Mem->Option (Bool×SV×Mem)} {Γ:Orc} {P:Program} (hΓ:Γ.Ok P) (h:∀ as m r m',g as m=some (true,r,m')->bq P n as m r m'):(aE n g Γ).Ok P:=zK hΓ (Uh h)
theorem aa {α:Type} {g:Bool} {x y:α} (h:some (g,x)=some (true,y)):g=true/\x=y:=by
 injection h with h
 injection h with h1 h2
 exact ⟨h1,h2⟩
theorem az {α β:Type} {g:Bool} {x y:α} {u v:β} (h:some (g,x,u)=some (true,y,v)):g=true/\x=y/\u=v:=by
 injection h with h
 injection h with h1 h
 injection h with h2 h3
 exact ⟨h1,h2,h3⟩
def cH:Code->Nat
 | .seq a _=>cH a
 | .region id _ _=>id
 | .block _ a=>cH a
 | .scope a=>cH a
 | .loop a=>cH a
 | _=>0
end Go.Sx
namespace Go.Sx
open Go.RowKit Go.Joins Go.Deep Go.ChangeShapes Go.WideShapes
section
variable {H:Type} {enc:TypeId×Value->H} {P:Program}
def tU (P:Program) (t:TypeId):Option CK :=
 match P.underlying t with
 | some (.int k)=>some (.num k)
 | some .string=>some .str
 | some .bool=>some .bool
 | _=>none
def tW (P:Program):List Field->Option (List CK)
 | []=>some []
 | f::r=>match tU P f.type,tW P r with
  | some k,some l=>some (k::l)
  | _,_=>none
def kZ:CK->Dat->Prop
 | .num k,.n x=>(Lit.int k x).wf=true
 | .str,.s s=>s.size<=maxLen
 | .bool,.b _=>True
 | _,_=>False
def cd:List CK->List Dat->Prop
 | [],[]=>True
 | k::ks,d::l=>kZ k d/\cd ks l
 | _,_=>False
theorem MW {w:World} {base:Nat} {spare:Nat->Bool} {held:Bool} {fuel:Nat} {t:TypeId} {k:CK} {c:Value} {y:DataW H×List MemPlace} (hk:tU P t=some k) (h:DataW.trod enc P w base spare held fuel t [c]=some y):∃ d,k.cell d=c/\kZ k d/\y.2=[]:=by
 unfold tU at hk
 split at hk
 ·rename_i ik hu
  injection hk with hk
  subst hk
  obtain ⟨n,h1,rfl,h2⟩:=DataW.trod_int hu h
  simp at h1
  exact ⟨.n n,h1.symm,h2,rfl⟩
 ·rename_i hu
  injection hk with hk
  subst hk
  obtain ⟨s,h1,rfl,h2⟩:=DataW.trod_string hu h
  simp at h1
  exact ⟨.s s,h1.symm,h2,rfl⟩
 ·rename_i hu
  injection hk with hk
  subst hk
  obtain ⟨b,h1,rfl⟩:=DataW.trod_bool hu h
  simp at h1
  exact ⟨.b b,h1.symm,trivial,rfl⟩
 ·cases hk
theorem OS {w:World} {base:Nat} {spare:Nat->Bool} {held:Bool} {fuel:Nat}:∀ (fs:List Field) (ks:List CK) (cs:List Value),tW P fs=some ks->cs.length=fs.length ->
  (∀ (i:Nat) f c,fs[i]?=some f->cs[i]?=some c->∃ y,DataW.trod enc P w base spare held fuel f.type [c]=some y)->∃ l,mkEl ks l=cs/\cd ks l
 | [],ks,cs,hk,hl,_=>by
  simp [tW] at hk
  subst hk
  have:cs=[]:=List.eq_nil_of_length_eq_zero hl
  subst this
  exact ⟨[],rfl,trivial⟩
 | f::fs,ks,[],hk,hl,_=>by simp at hl
 | f::fs,ks,c::cs,hk,hl,h=>by
  unfold tW at hk
  split at hk
  ·rename_i k l hk1 hk2
   injection hk with hk
   subst hk
   obtain ⟨y,hy⟩:=h 0 f c rfl rfl
   obtain ⟨d,h1,h2,_⟩:=MW hk1 hy
   obtain ⟨ds,h3,h4⟩:=OS fs l cs hk2 (by simpa using hl) (fun i f c e1 e2=>h (i+1) f c (by simpa using e1) (by simpa using e2))
   exact ⟨d::ds,by simp [mkEl,h1,h3],h2,h4⟩
  ·cases hk
theorem Hj {α:Type} {Q:Nat->α->Prop}:∀ (n:Nat),(∀ i,i<n->∃ x,Q i x)->∃ l:List α,l.length=n/\∀ (i:Nat) x,l[i]?=some x->Q i x
 | 0,_=>⟨[],rfl,fun i x h=>by simp at h⟩
 | n+1,h=>by
  obtain ⟨l,h1,h2⟩:=Hj n fun i hi=>h i (by omega)
  obtain ⟨x,hx⟩:=h n (by omega)
  refine ⟨l++[x],by simp [h1],fun i y hy=>?_⟩
  rcases Nat.lt_trichotomy i n with hi|hi|hi
  ·rw [List.getElem?_append_left (by omega)] at hy
   exact h2 i y hy
  ·subst hi
   rw [List.getElem?_append_right (by omega),h1,Nat.sub_self] at hy
   simp at hy
   subst hy
   exact hx
  ·rw [List.getElem?_eq_none (by simp;omega)] at hy
   cases hy
theorem open_flat {w:World} {b0:Nat} {t:TypeId} {fs:Array Field} {ks:List CK} {v:Value} {d:DataW H} {ps:List MemPlace} (hs:P.underlying t=some (.struct fs)) (hone:oneCellFields P fs=true) (hks:tW P fs.toList=some ks) (hc:P.cellsOf t=fs.size)
  (hv:Value.okWide P w .any b0 t v) (h:DataW.Trod enc P w 0 (fun _=>true) true t v d ps):∃ l,v=.agg (mkEl ks l).toArray/\cd ks l:=by
 obtain ⟨cs,rfl,hsz⟩:=okWide_struct hs hv
 obtain ⟨fuel,hf⟩:=h
 obtain ⟨xs,n,_,_,_,hlen,hfd⟩:=DataW.trod_struct hs hf
 obtain ⟨l,h1,h2⟩:=OS (enc:=enc) (w:=w) (fuel:=n) fs.toList ks cs.toList hks (by simp [hsz,hc]) (fun i f c hf hc=>by
  have hf':fs[i]?=some f:=by simpa using hf
  obtain ⟨o,k⟩:=hone_of hone i f hf'
  have:=hfd i f hf'
  have hi:i<xs.length:=by have:=(Array.getElem?_eq_some_iff.1 hf').1;omega
  rw [o,k] at this
  refine ⟨xs[i],?_⟩
  rw [<- List.getElem?_eq_getElem hi,<- this]
  have hcs:((Value.agg cs).cells.toList.drop i).take 1=[c]:=by
   have:(Value.agg cs).cells=cs:=rfl
   rw [this]
   have hi':=(List.getElem?_eq_some_iff.1 hc)
   obtain ⟨hlt,rfl⟩:=hi'
   rw [List.drop_eq_getElem_cons hlt]
   rfl
  rw [hcs])
 refine ⟨l,?_,h2⟩
 rw [h1]
end
end Go.Sx
namespace Go.Sx
open Go.RowKit Go.Joins Go.Deep Go.ChangeShapes Go.WideShapes
section
variable {H:Type} {enc:TypeId×Value->H} {P:Program}
end
end Go.Sx
namespace Go.Sx
open Go.RowKit Go.Joins Go.Deep Go.ChangeShapes Go.WideShapes
section
variable {H:Type} {enc:TypeId×Value->H} {P:Program}
def ksF (P:Program) (f:TypeId->Option (List CK)):List Field->Nat->Option (List CK)
 | [],_=>some []
 | fd::r,off=>match f fd.type with
  | some ks=>match ksF P f r (off+ks.length) with
   | some l=>if fd.offset=off/\P.cellsOf fd.type=ks.length then some (ks++l) else none
   | none=>none
  | none=>none
def sA (ks:List CK):Nat->List CK
 | 0=>[]
 | n+1=>ks++sA ks n
def jD (P:Program):Nat->TypeId->Option (List CK)
 | 0,_=>none
 | n+1,t=>match P.underlying t with
  | some (.struct fs)=>match ksF P (jD P n) fs.toList 0 with
   | some ks=>if P.cellsOf t=ks.length then some ks else none
   | none=>none
  | some (.array m e)=>match jD P n e with
   | some ks=>if P.cellsOf e=ks.length/\P.cellsOf t=m*ks.length then some (sA ks m) else none
   | none=>none
  | _=>match tU P t with
   | some k=>some [k]
   | none=>none
theorem cd.length:∀ {ks:List CK} {l:List Dat},cd ks l->l.length=ks.length
 | [],[],_=>rfl
 | _::_,_::_,h=>by simp [cd.length h.2]
 | [],_::_,h=>h.elim
 | _::_,[],h=>h.elim
theorem w8:∀ {ks ls:List CK} {l m:List Dat},l.length=ks.length->mkEl (ks++ls) (l++m)=mkEl ks l++mkEl ls m
 | [],_,[],_,_=>rfl
 | k::ks,ls,d::l,m,h=>by
  show k.cell d::mkEl (ks++ls) (l++m)=k.cell d::(mkEl ks l++mkEl ls m)
  rw [w8 (by simpa using h)]
 | [],_,_::_,_,h=>by simp at h
 | _::_,_,[],_,h=>by simp at h
theorem cd.append:∀ {ks ls:List CK} {l m:List Dat},cd ks l->cd ls m->cd (ks++ls) (l++m)
 | [],_,[],_,_,h=>h
 | _::_,_,_::_,_,h,h2=>⟨h.1,cd.append h.2 h2⟩
 | [],_,_::_,_,h,_=>h.elim
 | _::_,_,[],_,h,_=>h.elim
def If (enc:TypeId×Value->H) (P:Program) (w:World) (base:Nat) (spare:Nat->Bool) (held:Bool) (t:TypeId) (ks:List CK):Prop :=
 ∀ fuel cs x,DataW.trod enc P w base spare held fuel t cs=some x->∃ l,mkEl ks l=cs/\cd ks l
theorem OZ {w:World} {base:Nat} {spare:Nat->Bool} {held:Bool} {f:TypeId->Option (List CK)} (hf:∀ t ks,f t=some ks->If enc P w base spare held t ks) {fuel:Nat} :
  ∀ (fs:List Field) (off:Nat) (ks:List CK) (cs:List Value),ksF P f fs off=some ks->cs.length=off+ks.length ->
  (∀ (i:Nat) (fd:Field),fs[i]?=some fd->∃ y,DataW.trod enc P w base spare held fuel fd.type ((cs.drop fd.offset).take (P.cellsOf fd.type))=some y)->∃ l,mkEl ks l=cs.drop off/\cd ks l
 | [],off,ks,cs,hk,hl,_=>by
  simp [ksF] at hk
  subst hk
  refine ⟨[],?_,trivial⟩
  rw [List.drop_eq_nil_of_le (by simpa using Nat.le_of_eq hl)]
  rfl
 | fd::fs,off,ks,cs,hk,hl,h=>by
  unfold ksF at hk
  split at hk
  ·rename_i k hk1
   split at hk
   ·rename_i l hk2
    split at hk
    ·rename_i hc
     injection hk with hk
     subst hk
     obtain ⟨y,hy⟩:=h 0 fd rfl
     rw [hc.1,hc.2] at hy
     obtain ⟨d,h1,h2⟩:=hf _ _ hk1 _ _ _ hy
     obtain ⟨ds,h3,h4⟩:=OZ hf (fuel:=fuel) fs (off+k.length) l cs hk2 (by rw [hl,List.length_append];omega) (fun i f e=>h (i+1) f (by simpa using e))
     refine ⟨d++ds,?_,h2.append h4⟩
     rw [w8 h2.length,h1,h3,<- List.drop_drop,List.take_append_drop]
    ·cases hk
   ·cases hk
  ·cases hk
theorem Mb {w:World} {base:Nat} {spare:Nat->Bool} {held:Bool} {e:TypeId} {ks:List CK} (hf:If enc P w base spare held e ks) {fuel:Nat} :
  ∀ (m j:Nat) (cs:List Value),cs.length=(j+m)*ks.length ->
  (∀ i,i<j+m->∃ y,DataW.trod enc P w base spare held fuel e ((cs.drop (i*ks.length)).take ks.length)=some y)->∃ l,mkEl (sA ks m) l=cs.drop (j*ks.length)/\cd (sA ks m) l
 | 0,j,cs,hl,_=>by
  refine ⟨[],?_,trivial⟩
  rw [List.drop_eq_nil_of_le (by rw [hl];simp)]
  rfl
 | m+1,j,cs,hl,h=>by
  obtain ⟨y,hy⟩:=h j (by omega)
  obtain ⟨d,h1,h2⟩:=hf _ _ _ hy
  obtain ⟨ds,h3,h4⟩:=Mb hf (fuel:=fuel) m (j+1) cs (by rw [hl];congr 1;omega) (fun i hi=>h i (by omega))
  refine ⟨d++ds,?_,h2.append h4⟩
  rw [sA,w8 h2.length,h1,h3,Nat.succ_mul,<- List.drop_drop,List.take_append_drop]
theorem mN {w:World} {base:Nat} {spare:Nat->Bool} {held:Bool}:∀ (n:Nat) (t:TypeId) (ks:List CK),jD P n t=some ks->If enc P w base spare held t ks
 | 0,_,_,h=>by simp [jD] at h
 | n+1,t,ks,h=>by
  intro fuel cs x hx
  unfold jD at h
  split at h
  ·rename_i fs hu
   split at h
   ·rename_i ks' hk
    split at h
    ·rename_i hc
     injection h with h
     subst h
     obtain ⟨xs,m,_,_,hl,hn,hfd⟩:=DataW.trod_struct hu hx
     obtain ⟨l,h1,h2⟩:=OZ (enc:=enc) (w:=w) (base:=base) (spare:=spare) (held:=held) (mN n) (fuel:=m) fs.toList 0 ks' cs hk (by rw [hl,hc];omega) (fun i fd hi=>by
      have hi':fs[i]?=some fd:=by simpa using hi
      have hlt:i<xs.length:=by rw [hn];exact (Array.getElem?_eq_some_iff.1 hi').1
      exact ⟨xs[i],by rw [hfd i fd hi',List.getElem?_eq_getElem hlt]⟩)
     exact ⟨l,by rw [h1,List.drop_zero],h2⟩
    ·cases h
   ·cases h
  ·rename_i m e hu
   split at h
   ·rename_i ks' hk
    split at h
    ·rename_i hc
     injection h with h
     subst h
     obtain ⟨xs,m',_,_,hl,hn,hel⟩:=DataW.trod_array hu hx
     obtain ⟨l,h1,h2⟩:=Mb (enc:=enc) (w:=w) (base:=base) (spare:=spare) (held:=held) (mN n e ks' hk) (fuel:=m') m 0 cs (by rw [hl,hc.2,Nat.zero_add]) (fun i hi=>by
      have hlt:i<xs.length:=by omega
      have:=hel i (by omega)
      rw [hc.1] at this
      exact ⟨xs[i],by rw [this,List.getElem?_eq_getElem hlt]⟩)
     exact ⟨l,by rw [h1,Nat.zero_mul,List.drop_zero],h2⟩
    ·cases h
   ·cases h
  ·split at h
   ·rename_i k hk
    injection h with h
    subst h
    have hcs:∃ c,cs=[c]:=by
     unfold tU at hk
     split at hk
     ·rename_i ik hu
      obtain ⟨a,h1,_⟩:=DataW.trod_int hu hx
      exact ⟨_,h1⟩
     ·rename_i hu
      obtain ⟨a,h1,_⟩:=DataW.trod_string hu hx
      exact ⟨_,h1⟩
     ·rename_i hu
      obtain ⟨a,h1,_⟩:=DataW.trod_bool hu hx
      exact ⟨_,h1⟩
     ·cases hk
    obtain ⟨c,rfl⟩:=hcs
    obtain ⟨d,h1,h2,_⟩:=MW hk hx
    exact ⟨[d],by simp [mkEl,h1],h2,trivial⟩
   ·cases h
theorem open_trees {w:World} {b0:Nat} {t e:TypeId} {ks:List CK} {v:Value} {d:DataW H} {ps:List MemPlace} (ht:P.underlying t=some (.slice e)) {m:Nat} (hks:jD P m e=some ks) (hc:P.cellsOf e=ks.length) (hpos:0<ks.length)
  (hv:Value.okWide P w .any b0 t v) (h:DataW.Trod enc P w 0 (fun _=>true) true t v d ps) :
  ∃ L,bH (·<w.heap.size) w ks L v/\(∀ o∈L,cd ks o)/\(L=[]\/∃ elems spare,d=.slice elems spare/\L.length=elems.length):=by
 obtain ⟨fuel,h⟩:=h
 have hcs:v.cells.toList=[v]:=by
  unfold Value.okWide at hv
  simp only [ht] at hv
  unfold Cell.okWide at hv
  simp only [ht] at hv
  cases v<;>first|rfl|(unfold Cell.ok at hv;simp only [ht] at hv)
 rw [hcs] at h
 rcases DataW.trod_slice ht h with ⟨h2,h3⟩|⟨a,len,cap,elems,rest,n,_,h2,h3,hb,hl,hm,hlen,hel,_,_⟩
 ·injection h2 with h2
  exact ⟨[],.inl ⟨⟨_,h2⟩,rfl⟩,by simp,.inl rfl⟩
 ·injection h2 with h2
  subst h2
  have hsp:a.spot=none:=by
   unfold Value.okWide at hv
   simp only [ht] at hv
   unfold Cell.okWide at hv
   simp only [ht] at hv
   unfold Cell.ok at hv
   simp only [ht] at hv
   exact hv.2.2.2.1
  obtain ⟨b,o,spot⟩:=a
  simp only at hsp
  subst hsp
  have each:∀ i,i<len->∃ l,cd ks l/\∀ (j:Nat) y,(mkEl ks l)[j]?=some y->w.cell? ⟨b,o+(i*ks.length+j),none⟩=some y:=by
   intro i hi
   have hy:=(hel i hi).trans (List.getElem?_eq_getElem (by omega:i<elems.length))
   rw [hc,Option.bind_eq_some_iff] at hy
   obtain ⟨cs,hcs,hy'⟩:=hy
   obtain ⟨g1,g2,g3⟩:=World.cells?_some hcs
   obtain ⟨l,h1,h2⟩:=mN m e ks hks _ _ _ hy'
   refine ⟨l,h2,fun j y hy=>?_⟩
   have hj:j<ks.length:=by have:=(List.getElem?_eq_some_iff.1 hy).1;rwa [cp] at this
   rw [h1] at hy
   have:=g3 j (by omega)
   rw [dP,dP] at this
   rw [<- Nat.add_assoc]
   rw [this]
   exact hy
  obtain ⟨L,hL1,hL2⟩:=Hj len each
  refine ⟨L,.inr ⟨b,o,cap,by rw [hL1],by rw [hL1];exact hl,fun hne=>?_,fun i j l y hl hy=>(hL2 i l hl).2 j y hy⟩,fun l hl=>?_,.inr ⟨_,_,by injection h3 with h3 _,?_⟩⟩
  ·cases hLc:L with
   | nil=>exact absurd hLc hne
   | cons l r =>
    have h0:=(hL2 0 l (by rw [hLc];rfl)).2 0
    obtain ⟨y,hy⟩:∃ y,(mkEl ks l)[0]?=some y:=⟨(mkEl ks l)[0]'(by rw [cp];exact hpos),by rw [List.getElem?_eq_getElem]⟩
    exact World.block_lt_of_cell? w _ (h0 y hy)
  ·obtain ⟨i,hi⟩:=List.getElem?_of_mem hl
   exact (hL2 i l hi).1
  ·simp [hL1,hlen]
theorem open_arrT {w:World} {b0:Nat} {t:TypeId} {k:Nat} {e:TypeId} {ks:List CK} {v:Value} {d:DataW H} {ps:List MemPlace} (hs:P.underlying t=some (.array k e)) {n:Nat} (hks:jD P n t=some ks)
  (hv:Value.okWide P w .any b0 t v) (h:DataW.Trod enc P w 0 (fun _=>true) true t v d ps):∃ l,v=.agg (mkEl ks l).toArray/\cd ks l:=by
 simp only [Value.okWide,hs] at hv
 obtain ⟨cs,rfl,_,_⟩:=hv
 obtain ⟨fuel,hf⟩:=h
 obtain ⟨l,h1,h2⟩:=mN n t ks hks _ _ _ hf
 refine ⟨l,?_,h2⟩
 rw [h1]
 rfl
end
end Go.Sx
namespace Go.Sx
open Go.RowKit Go.Joins Go.Deep Go.ChangeShapes Go.WideShapes
section
variable {H:Type} {enc:TypeId×Value->H} {P:Program}
end
end Go.Sx
namespace Go.Sx
open Go.RowKit
section
variable {P:Program}
def tK (P:Program) (ext:FuncId->List SV->Mem->Option (Bool×SV×Mem)) (rd:FuncId->List SV->Mem->Option (Bool×Value)) (eqv:TypeId->List Value->List Value->Option Bool) (wr:FuncId->Bool) (n:Nat):Nat->Orc
 | 0=>{ call:=ext,eqv:=eqv,conc:=true,rd:=rd,wr:=wr,sb:=true,bs:=true }
 | d + 1 => { call := (fun f as m => match ext f as m with
     | some r=>some r
     | none=>match P.funcs[f]? with
       | some fn=>match runG (tK P ext rd eqv wr n d) (et (tK P ext rd eqv wr n d) P n 2) P fn as m with
         | some (r,m')=>some (true,r,m')
         | none=>none
       | none=>none),eqv:=eqv,conc:=true,rd:=rd,wr:=wr,sb:=true,bs:=true }
theorem O5 (hm:P.follows .mixedOrders=true) (hN:np P=true) {ext:FuncId->List SV->Mem->Option (Bool×SV×Mem)} {rd:FuncId->List SV->Mem->Option (Bool×Value)} {eqv:TypeId->List Value->List Value->Option Bool} {wr:FuncId->Bool} (h0:Orc.Ok { call:=ext,eqv:=eqv,conc:=true,rd:=rd,wr:=wr,sb:=true,bs:=true } P) (n:Nat):∀ d,(tK P ext rd eqv wr n d).Ok P
 | 0=>h0
 | d+1=>by
  have ih:=O5 hm hN h0 n d
  refine ⟨fun f as m r m' h=>?_,h0.rd,h0.eqv⟩
  simp only [tK] at h
  split at h
  ·rename_i q hq
   injection h with h
   subst h
   exact h0.call f as m r m' hq
  ·split at h
   ·rename_i fn hf
    split at h
    ·rename_i r' m1 hv
     injection h with h
     injection h with _ h
     injection h with e1 e2
     subst e1 e2
     cases hb:fn.body with
     | none=>simp [runG,hb] at hv
     | some c=>exact zg ih hm hN hf hb (fun z _ _ b _=>gb ih hm n 2 b) hv
    ·cases h
   ·cases h
def nR (P:Program) (ext:FuncId->List SV->Mem->Option (Bool×SV×Mem)) (rd:FuncId->List SV->Mem->Option (Bool×Value)) (eqv:TypeId->List Value->List Value->Option Bool) (wr:FuncId->Bool) (n:Nat):Nat->Orc
 | 0=>{ call:=ext,eqv:=eqv,conc:=true,rd:=rd,wr:=wr,sb:=true,bs:=true,av:=true }
 | d + 1 => { call := (fun f as m => match ext f as m with
     | some r=>some r
     | none=>match P.funcs[f]? with
       | some fn=>match runG (nR P ext rd eqv wr n d) (et (nR P ext rd eqv wr n d) P n 2) P fn as m with
         | some (r,m')=>some (true,r,m')
         | none=>none
       | none=>none),eqv:=eqv,conc:=true,rd:=rd,wr:=wr,sb:=true,bs:=true,av:=true }
theorem yN (hm:P.follows .mixedOrders=true) (hN:np P=true) {ext:FuncId->List SV->Mem->Option (Bool×SV×Mem)} {rd:FuncId->List SV->Mem->Option (Bool×Value)} {eqv:TypeId->List Value->List Value->Option Bool} {wr:FuncId->Bool} (h0:Orc.Ok { call:=ext,eqv:=eqv,conc:=true,rd:=rd,wr:=wr,sb:=true,bs:=true,av:=true } P) (n:Nat):∀ d,(nR P ext rd eqv wr n d).Ok P
 | 0=>h0
 | d+1=>by
  have ih:=yN hm hN h0 n d
  refine ⟨fun f as m r m' h=>?_,h0.rd,h0.eqv⟩
  simp only [nR] at h
  split at h
  ·rename_i q hq
   injection h with h
   subst h
   exact h0.call f as m r m' hq
  ·split at h
   ·rename_i fn hf
    split at h
    ·rename_i r' m1 hv
     injection h with h
     injection h with _ h
     injection h with e1 e2
     subst e1 e2
     cases hb:fn.body with
     | none=>simp [runG,hb] at hv
     | some c=>exact zg ih hm hN hf hb (fun z _ _ b _=>gb ih hm n 2 b) hv
    ·cases h
   ·cases h
end
end Go.Sx
namespace Go.Sx
open Go.RowKit Go.Joins Go.Deep Go.ChangeShapes Go.WideShapes
def QB:CK->Dat->Prop
 | .sl _ ks,.l (.slice none 0 0) L=>(∀ o∈L,cd (ks.map CK0.ck) o)/\L.length<=maxLen
 | .num k,.n x=>(Lit.int k x).wf=true
 | .str,.s s=>s.size<=maxLen
 | .bool,.b _=>True
 | _,_=>False
def gk:List CK->List Dat->Prop
 | [],[]=>True
 | k::ks,d::l=>QB k d/\gk ks l
 | _,_=>False
theorem gk.length:∀ {ks:List CK} {l:List Dat},gk ks l->l.length=ks.length
 | [],[],_=>rfl
 | _::_,_::_,h=>by simp [gk.length h.2]
 | [],_::_,h=>h.elim
 | _::_,[],h=>h.elim
theorem gk.append:∀ {ks ls:List CK} {l m:List Dat},gk ks l->gk ls m->gk (ks++ls) (l++m)
 | [],_,[],_,_,h=>h
 | _::_,_,_::_,_,h,h2=>⟨h.1,gk.append h.2 h2⟩
 | [],_,_::_,_,h,_=>h.elim
 | _::_,_,[],_,h,_=>h.elim
theorem kZ.two {k:CK} {d:Dat} (h:kZ k d):QB k d:=by
 cases k<;>cases d<;>first|exact h|exact h.elim
theorem cd.two:∀ {ks:List CK} {l:List Dat},cd ks l->gk ks l
 | [],[],_=>trivial
 | _::_,_::_,h=>⟨kZ.two h.1,cd.two h.2⟩
 | [],_::_,h=>h.elim
 | _::_,[],h=>h.elim
theorem kZ.plain {k:CK} {d:Dat} (h:kZ k d):k.plain=true:=by
 cases k<;>cases d<;>first|rfl|exact h.elim
theorem cd.plain:∀ {ks:List CK} {l:List Dat},cd ks l->dJ ks=true
 | [],[],_=>rfl
 | _::_,_::_,h=>by
  unfold dJ
  rw [List.all_cons,kZ.plain h.1]
  exact cd.plain h.2
 | [],_::_,h=>h.elim
 | _::_,[],h=>h.elim
section
variable {H:Type} {enc:TypeId×Value->H} {P:Program}
theorem Ly {w:World} {base:Nat} {a:Addr} {n:Nat} {cs:List Value} (hn:0<n) (h:w.cells? base (a.add 0) n=some cs):a.spot=none:=by
 obtain ⟨_,h2,h3⟩:=World.cells?_some h
 have:=h3 0 hn
 rw [show (a.add 0).add 0=a from rfl,List.getElem?_eq_getElem (by omega)] at this
 unfold World.cell? at this
 split at this
 ·split at this
  ·cases this
  ·rename_i hs
   cases hh:a.spot with
   | none=>rfl
   | some _=>rw [hh] at hs;simp at hs
 ·cases this
theorem MQ {w:World} {e t:TypeId} {ks:List CK} {fuel:Nat} {cs:List Value} {x:DataW H×List MemPlace} {W:List Dat->Prop} (ht:P.underlying t=some (.slice e)) (hc:P.cellsOf e=ks.length) (hpos:0<ks.length)
  (hr:∀ fuel cs x,DataW.trod enc P w 0 (fun _=>true) true fuel e cs=some x->∃ l l0,mkEl ks l0=cs/\bh (·<w.heap.size) w ks l l0/\W l)
  (h:DataW.trod enc P w 0 (fun _=>true) true fuel t cs=some x):∃ v L,cs=[v]/\slicy v/\RowIn w ks L v/\(∀ o∈L,W o)/\L.length<=maxLen/\(L=[]\/∃ elems spare,x.1=.slice elems spare/\L.length=elems.length):=by
 rcases DataW.trod_slice ht h with ⟨h2,h3⟩|⟨a,len,cap,elems,rest,n,_,h2,h3,hb,hl,hm,hlen,hel,hsp,_⟩
 ·exact ⟨_,[],h2,trivial,⟨[],trivial,.inl ⟨⟨_,rfl⟩,rfl⟩⟩,by simp,by simp,.inl rfl⟩
 ·by_cases hcap:cap=0
  ·have hl0:len=0:=by omega
   subst hcap hl0
   exact ⟨_,[],h2,trivial,⟨[],trivial,.inl ⟨⟨_,rfl⟩,rfl⟩⟩,by simp,by simp,.inl rfl⟩
  ·have hspot:a.spot=none:=by
    by_cases hl0:0<len
    ·have:=(hel 0 hl0).trans (List.getElem?_eq_getElem (by omega:0<elems.length))
     rw [Option.bind_eq_some_iff] at this
     obtain ⟨c,hc1,_⟩:=this
     rw [Nat.zero_mul] at hc1
     exact Ly (by rw [hc];exact hpos) hc1
    ·obtain ⟨r1,r2⟩:=hsp rfl
     have:=(r2 0 (by omega)).trans (List.getElem?_eq_getElem (by omega:0<rest.length))
     rw [Option.bind_eq_some_iff] at this
     obtain ⟨c,hc1,_⟩:=this
     rw [show (len+0)*P.cellsOf e=0 by rw [show len=0 by omega];simp] at hc1
     exact Ly (by rw [hc];exact hpos) hc1
   obtain ⟨b,o,spot⟩:=a
   simp only at hspot
   subst hspot
   have each:∀ i,i<len->∃ p:List Dat×List Dat,W p.1/\bh (·<w.heap.size) w ks p.1 p.2/\∀ (j:Nat) y,(mkEl ks p.2)[j]?=some y->w.cell? ⟨b,o+(i*ks.length+j),none⟩=some y:=by
    intro i hi
    have hy:=(hel i hi).trans (List.getElem?_eq_getElem (by omega:i<elems.length))
    rw [hc,Option.bind_eq_some_iff] at hy
    obtain ⟨cs',hcs,hy'⟩:=hy
    obtain ⟨g1,g2,g3⟩:=World.cells?_some hcs
    obtain ⟨l,l0,h1,h2,h4⟩:=hr _ _ _ hy'
    refine ⟨(l,l0),h4,h2,fun j y hy=>?_⟩
    have hj:j<ks.length:=by have:=(List.getElem?_eq_some_iff.1 hy).1;rwa [cp] at this
    simp only at hy
    rw [h1] at hy
    have:=g3 j (by omega)
    rw [dP,dP] at this
    rw [<- Nat.add_assoc]
    rw [this]
    exact hy
   obtain ⟨Lp,hL1,hL2⟩:=Hj len each
   have hlike:∀ (Lp:List (List Dat×List Dat)),(∀ p∈Lp,bh (·<w.heap.size) w ks p.1 p.2)->aX (·<w.heap.size) w ks (Lp.map (·.1)) (Lp.map (·.2)):=by
    intro Lp
    induction Lp with
    | nil=>intro _;trivial
    | cons p r ih=>intro hp;exact ⟨hp p (by simp),ih fun q hq=>hp q (by simp [hq])⟩
   refine ⟨_,Lp.map (·.1),h2,trivial,⟨Lp.map (·.2),hlike Lp fun p hp=>?_,.inr ⟨b,o,cap,by rw [List.length_map,hL1],by rw [List.length_map,hL1];exact hl,fun hne=>?_,fun i j l y hl' hy=>?_⟩⟩,fun l hl'=>?_,by rw [List.length_map,hL1];exact Nat.le_trans hl hm,.inr ⟨_,_,by rw [h3],by simp [hL1,hlen]⟩⟩
   ·obtain ⟨i,hi⟩:=List.getElem?_of_mem hp
    exact (hL2 i p hi).2.1
   ·cases hLc:Lp with
    | nil=>exact absurd (by rw [hLc];rfl) hne
    | cons l r =>
     have h0:=(hL2 0 l (by rw [hLc];rfl)).2.2 0
     obtain ⟨y,hy⟩:∃ y,(mkEl ks l.2)[0]?=some y:=⟨(mkEl ks l.2)[0]'(by rw [cp];exact hpos),by rw [List.getElem?_eq_getElem]⟩
     exact World.block_lt_of_cell? w _ (h0 y hy)
   ·rw [List.getElem?_map,Option.map_eq_some_iff] at hl'
    obtain ⟨p,hp,rfl⟩:=hl'
    exact (hL2 i p hp).2.2 j y hy
   ·obtain ⟨p,hp,rfl⟩:=List.mem_map.1 hl'
    obtain ⟨i,hi⟩:=List.getElem?_of_mem hp
    exact (hL2 i p hi).1
def sW (P:Program) (t:TypeId):Option (List CK) :=
 match jD P 8 t with
 | some ks=>some ks
 | none=>match P.underlying t with
  | some (.slice e)=>match jD P 8 e with
   | some ks=>match pR zd ks with
    | some l=>if P.cellsOf e=ks.length/\0<ks.length then some [.sl e l] else none
    | none=>none
   | none=>none
  | _=>none
def CX (P:Program) (t:TypeId):Option (List CK) :=
 match P.underlying t with
 | some (.struct fs)=>match ksF P (sW P) fs.toList 0 with
  | some ks=>if P.cellsOf t=ks.length then some ks else none
  | none=>none
 | _=>sW P t
theorem Pz:∀ {ks:List CK} {l:List CK0},pR zd ks=some l->l.map CK0.ck=ks
 | [],l,h=>by simp [pR] at h;subst h;rfl
 | k::ks,l,h=>by
  unfold pR at h
  split at h
  ·rename_i y l' h1 h2
   injection h with h
   subst h
   rw [List.map_cons,Pz h2]
   cases k<;>simp [zd] at h1<;>subst h1<;>rfl
  ·cases h
def QC (enc:TypeId×Value->H) (P:Program) (w:World) (t:TypeId) (ks:List CK):Prop :=
 ∀ fuel cs x,DataW.trod enc P w 0 (fun _=>true) true fuel t cs=some x->∃ l l0,mkEl ks l0=cs/\bh (·<w.heap.size) w ks l l0/\gk ks l/\l0.length=ks.length
theorem bh.append {K:Nat->Prop} {w:World}:∀ {ks ls:List CK} {l l0 m m0:List Dat},l.length=ks.length->l0.length=ks.length->bh K w ks l l0->bh K w ls m m0->bh K w (ks++ls) (l++m) (l0++m0)
 | [],_,[],[],_,_,_,_,_,h=>h
 | k::ks,ls,d::l,d0::l0,m,m0,h1,h2,h3,h4=>⟨h3.1,bh.append (ks:=ks) (by simpa using h1) (by simpa using h2) h3.2 h4⟩
 | [],_,_::_,_,_,_,h,_,_,_=>by simp at h
 | [],_,[],_::_,_,_,_,h,_,_=>by simp at h
 | _::_,_,[],_,_,_,h,_,_,_=>by simp at h
 | _::_,_,_::_,[],_,_,_,h,_,_=>by simp at h
theorem Na {w:World} {t:TypeId} {ks:List CK} (h:sW P t=some ks):QC enc P w t ks:=by
 intro fuel cs x hx
 unfold sW at h
 split at h
 ·rename_i ks' hk
  injection h with h
  subst h
  obtain ⟨l,h1,h2⟩:=mN 8 t ks' hk _ _ _ hx
  exact ⟨l,l,h1,bh.refl h2.plain,h2.two,h2.length⟩
 ·split at h
  ·rename_i e hu
   split at h
   ·rename_i ks' hk
    split at h
    ·rename_i l0 hl0
     split at h
     ·rename_i hc
      injection h with h
      subst h
      have hm:=Pz hl0
      obtain ⟨v,L,h1,h2,⟨L0,h3,h4⟩,h5,h6,_⟩:=MQ (ks:=ks') (W:=cd ks') hu hc.1 hc.2 (fun fuel cs x hx=>by
       obtain ⟨l,g1,g2⟩:=mN 8 e ks' hk _ _ _ hx
       exact ⟨l,l,g1,bh.refl g2.plain,g2⟩) hx
      have hpl:L=[]\/dJ ks'=true:=by
       cases L with
       | nil=>exact .inl rfl
       | cons o r=>exact .inr (h5 o (by simp)).plain
      have hrd:bH (·<w.heap.size) w ks' L v:=by
       rcases hpl with rfl|hp
       ·have:=h3.nil
        subst this
        exact h4
       ·exact h3.reads hp h4
      refine ⟨[.l (.slice none 0 0) L],[.l v L],?_,⟨⟨rfl,?_⟩,trivial⟩,⟨⟨by rw [hm];exact h5,h6⟩,trivial⟩,rfl⟩
      ·rw [h1]
       simp only [mkEl,CK.cell,List.headD_cons,vC h2]
      ·rw [hm]
       simp only [List.headD_cons,vC h2]
       exact hrd
     ·cases h
    ·cases h
   ·cases h
  ·cases h
theorem OY {w:World} {fuel:Nat} :
  ∀ (fs:List Field) (off:Nat) (ks:List CK) (cs:List Value),ksF P (sW P) fs off=some ks->cs.length=off+ks.length ->
  (∀ (i:Nat) (fd:Field),fs[i]?=some fd->∃ y,DataW.trod enc P w 0 (fun _=>true) true fuel fd.type ((cs.drop fd.offset).take (P.cellsOf fd.type))=some y) ->
  ∃ l l0,mkEl ks l0=cs.drop off/\bh (·<w.heap.size) w ks l l0/\gk ks l/\l0.length=ks.length
 | [],off,ks,cs,hk,hl,_=>by
  simp [ksF] at hk
  subst hk
  refine ⟨[],[],?_,trivial,trivial,rfl⟩
  rw [List.drop_eq_nil_of_le (by simpa using Nat.le_of_eq hl)]
  rfl
 | fd::fs,off,ks,cs,hk,hl,h=>by
  unfold ksF at hk
  split at hk
  ·rename_i k hk1
   split at hk
   ·rename_i l hk2
    split at hk
    ·rename_i hc
     injection hk with hk
     subst hk
     obtain ⟨y,hy⟩:=h 0 fd rfl
     rw [hc.1,hc.2] at hy
     obtain ⟨d,d0,h1,h2,h3,h4⟩:=Na hk1 _ _ _ hy
     obtain ⟨ds,ds0,g1,g2,g3,g4⟩:=OY (fuel:=fuel) fs (off+k.length) l cs hk2 (by rw [hl,List.length_append];omega) (fun i f e=>h (i+1) f (by simpa using e))
     refine ⟨d++ds,d0++ds0,?_,bh.append h3.length h4 h2 g2,h3.append g3,by simp [h4,g4]⟩
     rw [w8 h4,h1,g1,<- List.drop_drop,List.take_append_drop]
    ·cases hk
   ·cases hk
  ·cases hk
theorem qbm {w:World} {t:TypeId} {ks:List CK} (h:CX P t=some ks):QC enc P w t ks:=by
 unfold CX at h
 split at h
 ·rename_i fs hu
  split at h
  ·rename_i ks' hk
   split at h
   ·rename_i hc
    injection h with h
    subst h
    intro fuel cs x hx
    obtain ⟨xs,m,_,_,hl,hn,hfd⟩:=DataW.trod_struct hu hx
    obtain ⟨l,l0,h1,h2,h3,h4⟩:=OY (enc:=enc) (w:=w) (fuel:=m) fs.toList 0 ks' cs hk (by rw [hl,hc];omega) (fun i fd hi=>by
     have hi':fs[i]?=some fd:=by simpa using hi
     have hlt:i<xs.length:=by rw [hn];exact (Array.getElem?_eq_some_iff.1 hi').1
     exact ⟨xs[i],by rw [hfd i fd hi',List.getElem?_eq_getElem hlt]⟩)
    exact ⟨l,l0,by rw [h1,List.drop_zero],h2,h3,h4⟩
   ·cases h
  ·cases h
 ·exact Na h
inductive TK where
 | p (k:CK)
 | r (e:TypeId) (ks:List CK)
inductive TD where
 | d (x:Dat)
 | L (L:List (List Dat))
def tkIn:List TK->List TD->List In0
 | .p k::ts,.d x::xs=>.v (k.cell x)::tkIn ts xs
 | .r e ks::ts,.L L::xs=>.row e ks L::tkIn ts xs
 | _,_=>[]
def kY:List TK->List TD->Prop
 | [],[]=>True
 | .p k::ts,.d x::xs=>kZ k x/\kY ts xs
 | .r _ ks::ts,.L L::xs=>((∀ o∈L,gk ks o)/\L.length<=maxLen)/\kY ts xs
 | _,_=>False
def o5 (P:Program):List Field->Nat->Option (List TK)
 | [],_=>some []
 | fd::r,off=>match jD P 8 fd.type with
  | some ks=>match o5 P r (off+ks.length) with
   | some l=>if fd.offset=off/\P.cellsOf fd.type=ks.length then some (ks.map .p++l) else none
   | none=>none
  | none=>match P.underlying fd.type with
   | some (.slice e)=>match CX P e,o5 P r (off+1) with
    | some ks,some l=>if (fd.offset=off/\P.cellsOf fd.type=1)/\(P.cellsOf e=ks.length/\0<ks.length) then some (.r e ks::l) else none
    | _,_=>none
   | _=>none
theorem Ms {w:World} {ts:List TK} {xs:List TD} {vs:List Value} (h:lg w (tkIn ts xs) vs) (hw:kY ts xs):∀ {ks:List CK} {l:List Dat},cd ks l->lg w (tkIn (ks.map .p++ts) (l.map .d++xs)) (mkEl ks l++vs)/\kY (ks.map .p++ts) (l.map .d++xs)
 | [],[],_=>⟨h,hw⟩
 | k::ks,d::l,hl=>by
  obtain ⟨h1,h2⟩:=Ms h hw (ks:=ks) (l:=l) hl.2
  exact ⟨⟨rfl,h1⟩,hl.1,h2⟩
 | [],_::_,hl=>hl.elim
 | _::_,[],hl=>hl.elim
theorem Bq {w:World} {fuel:Nat} :
  ∀ (fs:List Field) (off:Nat) (ts:List TK) (cs:List Value),o5 P fs off=some ts->cs.length=off+ts.length ->
  (∀ (i:Nat) (fd:Field),fs[i]?=some fd->∃ y,DataW.trod enc P w 0 (fun _=>true) true fuel fd.type ((cs.drop fd.offset).take (P.cellsOf fd.type))=some y) ->
  ∃ xs,lg w (tkIn ts xs) (cs.drop off)/\kY ts xs
 | [],off,ts,cs,hk,hl,_=>by
  simp [o5] at hk
  subst hk
  refine ⟨[],?_,trivial⟩
  rw [List.drop_eq_nil_of_le (by simpa using Nat.le_of_eq hl)]
  trivial
 | fd::fs,off,ts,cs,hk,hl,h=>by
  unfold o5 at hk
  split at hk
  ·rename_i k hk1
   split at hk
   ·rename_i l hk2
    split at hk
    ·rename_i hc
     injection hk with hk
     subst hk
     obtain ⟨y,hy⟩:=h 0 fd rfl
     rw [hc.1,hc.2] at hy
     obtain ⟨d,h1,h2⟩:=mN 8 _ k hk1 _ _ _ hy
     obtain ⟨xs,g1,g2⟩:=Bq (fuel:=fuel) fs (off+k.length) l cs hk2 (by rw [hl,List.length_append,List.length_map];omega) (fun i f e=>h (i+1) f (by simpa using e))
     refine ⟨d.map .d++xs,?_⟩
     have:=Ms g1 g2 h2
     rwa [h1,<- List.drop_drop,List.take_append_drop] at this
    ·cases hk
   ·cases hk
  ·split at hk
   ·rename_i e hu
    split at hk
    ·rename_i ks l hks hk2
     split at hk
     ·rename_i hc
      injection hk with hk
      subst hk
      obtain ⟨y,hy⟩:=h 0 fd rfl
      rw [hc.1.1,hc.1.2] at hy
      obtain ⟨v,L,h1,_,h3,h4,h5,_⟩:=MQ (W:=gk ks) hu hc.2.1 hc.2.2 (fun fuel cs x hx=>by
       obtain ⟨l,l0,g1,g2,g3,_⟩:=qbm (enc:=enc) hks _ _ _ hx
       exact ⟨l,l0,g1,g2,g3⟩) hy
      obtain ⟨xs,g1,g2⟩:=Bq (fuel:=fuel) fs (off+1) l cs hk2 (by rw [hl,List.length_cons];omega) (fun i f e=>h (i+1) f (by simpa using e))
      refine ⟨.L L::xs,?_,⟨h4,h5⟩,g2⟩
      have e2:cs.drop off=v::cs.drop (off+1):=by
       have:=List.take_append_drop 1 (cs.drop off)
       rw [h1,List.drop_drop] at this
       exact this.symm
      rw [e2]
      exact ⟨h3,g1⟩
     ·cases hk
    ·cases hk
   ·cases hk
theorem open_rec {w:World} {b0:Nat} {t:TypeId} {fs:Array Field} {ts:List TK} {v:Value} {d:DataW H} {ps:List MemPlace} (hs:P.underlying t=some (.struct fs)) (hts:o5 P fs.toList 0=some ts) (hc:P.cellsOf t=ts.length)
  (hv:Value.okWide P w .any b0 t v) (h:DataW.Trod enc P w 0 (fun _=>true) true t v d ps):∃ xs vs,v=.agg vs.toArray/\lg w (tkIn ts xs) vs/\kY ts xs:=by
 obtain ⟨cs,rfl,hsz⟩:=okWide_struct hs hv
 obtain ⟨fuel,hf⟩:=h
 obtain ⟨xs,m,_,_,hl,hn,hfd⟩:=DataW.trod_struct hs hf
 obtain ⟨xs',h1,h2⟩:=Bq (enc:=enc) (w:=w) (fuel:=m) fs.toList 0 ts cs.toList hts (by simp [hsz,hc]) (fun i fd hi=>by
  have hi':fs[i]?=some fd:=by simpa using hi
  have hlt:i<xs.length:=by rw [hn];exact (Array.getElem?_eq_some_iff.1 hi').1
  have:=hfd i fd hi'
  exact ⟨xs[i],by rw [<- List.getElem?_eq_getElem hlt,<- this];rfl⟩)
 exact ⟨xs',cs.toList,by simp,by simpa using h1,h2⟩
end
end Go.Sx
namespace Go.Sx
section
variable {R:Type} (Γ:Orc) (P:Program)
def nU (Λ:aV) (cut:St->St) (body:Code) (st:St) (nx:St->Option R) (k:Ex->St->Option R):Option R :=
 ev Γ Λ P body st (fun e st'=>match e with
  | .normal=>nN Γ.conc (cut st') nx
  | .exit id=>k (.exit id) st'
  | .ret=>k .ret st')
def kH (Λs:Nat->aV) (cut:St->St) (body:Code):Nat->St->(Ex->St->Option R)->Option R
 | 0,_,_=>none
 | n+1,st,k=>nU Γ P (Λs n) cut body st (fun st'=>kH Λs cut body n st' k) k
end
section
variable {R:Type} {Γ:Orc} {P:Program} {w0:Base}
theorem qho {Λs:Nat->aV} {cut:St->St} {body:Code} {n:Nat} {st:St} {k:Ex->St->Option R}:kH Γ P Λs cut body (n+1) st k=nU Γ P (Λs n) cut body st (fun st'=>kH Γ P Λs cut body n st' k) k:=rfl
theorem O8 (hΓ:Γ.Ok P) (hm:P.follows .mixedOrders=true) {Λs:Nat->aV} {body:Code} (hL:∀ n,∀ b∈loopsOf body,aQ (Λs n) P w0 b) {cut:St->St} (hcut:∀ st a w,ba P cc w0 st a w->ba P cc w0 (cut st) a w)
  {k:Ex->St->Option R} {r:R} {Q:Exit->Act->World->Prop} (hQ:∀ e st',e≠.normal->k e st'=some r->∀ a w,ba P cc w0 st' a w->Q e.out a w):∀ (n:Nat) (st:St) (a:Act) (w:World),
  kH Γ P Λs cut body n st k=some r->ba P cc w0 st a w->Code.rounds P body Q n a w
 | 0,st,a,w,h,hR=>by simp [kH] at h
 | n+1,st,a,w,h,hR=>by
  rw [qho] at h
  unfold nU at h
  rw [rounds_succ]
  refine jO hΓ hm body (hL n) st _ r _ a w h hR ?_
  intro e st' hk a' w' hR'
  cases e with
  | normal =>
   rw [qo] at hk
   exact O8 hΓ hm hL hcut hQ n (cut st') a' w' hk (hcut _ _ _ hR')
  | exit id=>exact hQ (.exit id) st' (by simp) hk a' w' hR'
  | ret=>exact hQ .ret st' (by simp) hk a' w' hR'
theorem qcl (hΓ:Γ.Ok P) (hm:P.follows .mixedOrders=true) {Λ':aV} {body:Code} {n m:Nat} (hn:w0.L.length=n) (hm':w0.U.length=m) {keep:List Bool} {kx:Ex->List Bool} {G:List SV->Mem->Option (Bool×Ex×St)} (hF:∀ st,Λ' body st=cE n m keep G st)
  (h:∀ vals mm e st',G vals mm=some (true,e,st')->∃ Λs:Nat->aV,(∀ n,∀ b∈loopsOf body,aQ (Λs n) P w0 b)/\∃ k,kH (R:=Ex×St) Γ P Λs (ab n m keep) body k (mk keep vals mm) (fun e st=>some (e,ab n m (kx e) st))=some (e,st')):aQ Λ' P w0 body:=by
 intro st t hs a w hR
 rw [hF] at hs
 unfold cE at hs
 split at hs
 ·rename_i vals mm hv
  split at hs
  case h_2=>cases hs
  rename_i g e st' hG
  injection hs with hs
  injection hs with h1 h2
  subst h1 h2
  obtain ⟨Λs,hL,k,hk⟩:=h vals mm e st' hG
  have hc:=kM hn hm' (keep:=keep) hR
  unfold ab at hc
  rw [hv] at hc
  refine wp_loop_rounds k (O8 hΓ hm hL (fun _ _ _ h=>kM hn hm' h) (r:=(e,st')) ?_ k _ a w hk hc)
  intro e1 st1 _ hk a' w' hR'
  injection hk with hk
  injection hk with h1 h2
  subst h1 h2
  exact ⟨rfl,kM hn hm' hR'⟩
 ·cases hs
end
end Go.Sx
namespace Go.Sx
open Go.RowKit
end Go.Sx
