/-
  What is known of this program: flashes and latches.
-/
import Derived.Test.YtainfdcfkgemhaaGreatYe
import Derived.Test.YtainfdcfkgemhaaGreatYd
import Derived.Test.YtainfdcfkgemhaaGreatSw
set_option maxRecDepth 100000
noncomputable section
open Go.Proofs.Tryz
namespace Go.Proofs.YtainfdcfkgemhaaGreat.Fq
open Go Go.Proofs Go.Sx
set_option linter.unusedVariables false
def ΓF1:Orc:=aC 59 xM ΓO
theorem OkF1:ΓF1.Ok prog:=aA cw N9
def FM (L:List (List Dat)) (mark:Bool) (mx v:Int) (down waits:Bool) (lets:Int):Mem:=⟨[[.row 0,.ptr 1 0,.v (Bo down),.v (Bo waits),.v (I lets)],[.v (I mx),.v (I v)]],[true,true],[.live ⟨5,[.num .u8],L,true,mark⟩]⟩
def refE (down:Bool) (size k n:Int):Int:=bif down then 11 else bif decide (k<0) then 2 else bif decide (k>size) then 2 else bif decide (n<0) then 2 else bif decide (n>wI (size - k)) then 2 else 0
def okL (L:List (List Dat)) (lets:Int):Bool:=dW (L=cp (ao L))&&(Nat.ble (ao L).size 1000000&&decide (0<=lets))
theorem okL_iff {L:List (List Dat)} {lets:Int}:okL L lets=true↔L=cp (ao L)/\(ao L).size<=1000000/\0<=lets:=by
 unfold okL
 rw [Bool.and_eq_true,Bool.and_eq_true,iG,decide_eq_true_iff]
 exact ⟨fun ⟨a,b,c⟩=>⟨a,Nat.le_of_ble_eq_true b,c⟩,fun ⟨a,b,c⟩=>⟨a,Nat.ble_eq_true_of_le b,c⟩⟩
theorem refE_ok {down:Bool} {size k n:Int} (hs:0<=size/\size<=1000000):refE down size k n=0↔down=false/\0<=k/\0<=n/\k+n<=size:=by
 unfold refE
 cases down with
 | true=>simp
 | false =>
 simp only [cond_false,true_and]
 by_cases h1:k<0
 ·simp [h1];omega
 by_cases h2:k>size
 ·simp [h1,h2];omega
 by_cases h3:n<0
 ·simp [h1,h2,h3];omega
 rw [az (n:=size - k) (by omega)]
 by_cases h4:n>size - k
 ·simp [h1,h2,h3,h4];omega
 ·simp [h1,h2,h3,h4];omega
def tornS (waits:Bool) (lets:Int) (s:ByteArray):ByteArray:=bif waits then s.extract 0 (if (s.size:Int)<lets then (s.size:Int) else lets).toNat else s
def wrN (B:ByteArray) (down:Bool) (k:Int) (s:ByteArray):Bool:=refE down (B.size:Int) k (s.size:Int) != 0
def wrE (B:ByteArray) (down waits:Bool) (k:Int) (s:ByteArray):Int:=bif wrN B down k s then refE down (B.size:Int) k (s.size:Int) else bif waits then 11 else 0
def wrB (B:ByteArray) (down waits:Bool) (lets k:Int) (s:ByteArray):ByteArray:=bif wrN B down k s then B else dD B k.toNat (tornS waits lets s)
def wrV (B:ByteArray) (mx v:Int) (down:Bool) (k:Int) (s:ByteArray):Int:=bif wrN B down k s then v else au mx v 1
def wrD (B:ByteArray) (down waits:Bool) (k:Int) (s:ByteArray):Bool:=bif wrN B down k s then down else waits
def wrW (B:ByteArray) (down waits:Bool) (k:Int) (s:ByteArray):Bool:=bif wrN B down k s then waits else false
theorem tornS_size (waits:Bool) {lets:Int} (h:0<=lets) (s:ByteArray):(tornS waits lets s).size<=s.size:=by
 unfold tornS
 cases waits
 ·exact Nat.le_refl _
 ·simp only [cond_true,ByteArray.size_extract]
  omega
theorem runCUp0 (a v:Int):runG ΓF1 L0 prog f175 [.ptr 0 0] (MC a v)=some (.v (I (au a v 1)),MC a (au a v 1)):=by kernel_rfl
def gCUp (xs:List SV) (m:Mem):Option (Bool×SV×Mem) :=
 match xs,m with
 | [.ptr 0 0],⟨[[.v (.int .i64 a),.v (.int .i64 v)]],[true],[]⟩=>some (true,.v (I (au a v 1)),MC a (au a v 1))
 | _,_=>none
theorem gCUp_ok:aQ 175 gCUp:=by
 intro xs m r m' h
 unfold gCUp at h
 split at h
 ·rename_i a v
  obtain ⟨h1,rfl,rfl⟩:=aw h
  refine aj (Λ:=L0) OkF1 func175 rfl ai ?_
  exact (runCUp0 a v).trans (rfl)
 ·cases h
def ΓL1:Orc:=aC 175 gCUp ΓF1
theorem IH:ΓL1.Ok prog:=aA OkF1 gCUp_ok
theorem Xo (k n:Int) (down waits:Bool) (lets mx v:Int) (L:List (List Dat)) (mark:Bool):runG ΓL1 L0 prog f248 [.ptr 0 0,.v (I k),.v (I n)] (FM L mark mx v down waits lets)=(bif down then some (.v (I 11),(FM L mark mx v down waits lets)) else (bif decide (k<0) then some (.v (I 2),(FM L mark mx v down waits lets)) else (bif decide (k>(L.length:Int)) then some (.v (I 2),(FM L mark mx v down waits lets)) else (bif decide (n<0) then some (.v (I 2),(FM L mark mx v down waits lets)) else (bif decide (n>wI ((L.length:Int) - k)) then some (.v (I 2),(FM L mark mx v down waits lets)) else some (.v (I 0),(FM L mark mx v down waits lets))))))):=by kernel_rfl
theorem Xn (k n:Int):runG ΓL1 L0 prog f248 [.v (.pointer none),.v (I k),.v (I n)] M0=some (.v (I 9),M0):=by kernel_rfl
def Eu (xs:List SV) (m:Mem):Option (Bool×Value) :=
 match xs,m with
 | [.ptr 0 0,.v (.int .i64 k),.v (.int .i64 n)],⟨[[.row 0,.ptr 1 0,.v (.bool down),.v (.bool waits),.v (.int .i64 lets)],[.v (.int .i64 mx),.v (.int .i64 v)]],[true,true],[.live ⟨5,[.num .u8],L,true,mark⟩]⟩=>some (true,I (refE down (L.length:Int) k n))
 | [.v (.pointer none),.v (.int .i64 k),.v (.int .i64 n)],⟨[],[],[]⟩=>some (true,I 9)
 | _,_=>none
theorem qfe:bk 248 Eu:=by
 intro xs m r h
 unfold Eu at h
 split at h
 ·rename_i k n down waits lets mx v L mark
  obtain ⟨h1,rfl⟩:=ab h
  refine aj (Λ:=L0) IH func248 rfl ai ?_
  exact (Xo k n down waits lets mx v L mark).trans (by
   unfold refE
   cases down
   ·cases decide (k<0)
    ·cases decide (k>(L.length:Int))
     ·cases decide (n<0)
      ·cases decide (n>wI ((L.length:Int) - k))<;>rfl
      ·rfl
     ·rfl
    ·rfl
   ·rfl)
 ·rename_i k n
  obtain ⟨h1,rfl⟩:=ab h
  refine aj (Λ:=L0) IH func248 rfl ai ?_
  exact (Xn k n).trans (rfl)
 ·cases h
def ΓL2:Orc:=aU 248 Eu ΓL1
theorem IG:ΓL2.Ok prog:=aO IH qfe
theorem V3 (k:Int) (down waits:Bool) (lets mx v:Int) (L:List (List Dat)) (mark:Bool):runG ΓL2 L0 prog f39 [.ptr 0 0,.v (I k)] (FM L mark mx v down waits lets)=some (.v (.tuple #[]),FM L mark mx v down true (if k>0 then k else 0)):=by kernel_rfl
theorem V0 (k:Int):runG ΓL2 L0 prog f39 [.v (.pointer none),.v (I k)] M0=some (.v (.tuple #[]),M0):=by kernel_rfl
def gTear (xs:List SV) (m:Mem):Option (Bool×SV×Mem) :=
 match xs,m with
 | [.ptr 0 0,.v (.int .i64 k)],⟨[[.row 0,.ptr 1 0,.v (.bool down),.v (.bool waits),.v (.int .i64 lets)],[.v (.int .i64 mx),.v (.int .i64 v)]],[true,true],[.live ⟨5,[.num .u8],L,true,mark⟩]⟩=>some (true,.v (.tuple #[]),FM L mark mx v down true (if k>0 then k else 0))
 | [.v (.pointer none),.v (.int .i64 k)],⟨[],[],[]⟩=>some (true,.v (.tuple #[]),M0)
 | _,_=>none
theorem gTear_ok:aQ 39 gTear:=by
 intro xs m r m' h
 unfold gTear at h
 split at h
 ·rename_i k down waits lets mx v L mark
  obtain ⟨h1,rfl,rfl⟩:=aw h
  refine aj (Λ:=L0) IG func39 rfl ai ?_
  exact (V3 k down waits lets mx v L mark).trans (rfl)
 ·rename_i k
  obtain ⟨h1,rfl,rfl⟩:=aw h
  refine aj (Λ:=L0) IG func39 rfl ai ?_
  exact (V0 k).trans (rfl)
 ·cases h
def ΓL3:Orc:=aC 39 gTear ΓL2
theorem IF:ΓL3.Ok prog:=aA IG gTear_ok
theorem Zj (down waits:Bool) (lets mx v:Int) (L:List (List Dat)) (mark:Bool):runG ΓL3 L0 prog f134 [.ptr 0 0] (FM L mark mx v down waits lets)=some (.v (.tuple #[]),FM L mark mx v false false lets):=by kernel_rfl
theorem Zi:runG ΓL3 L0 prog f134 [.v (.pointer none)] M0=some (.v (.tuple #[]),M0):=by kernel_rfl
def gFUp (xs:List SV) (m:Mem):Option (Bool×SV×Mem) :=
 match xs,m with
 | [.ptr 0 0],⟨[[.row 0,.ptr 1 0,.v (.bool down),.v (.bool waits),.v (.int .i64 lets)],[.v (.int .i64 mx),.v (.int .i64 v)]],[true,true],[.live ⟨5,[.num .u8],L,true,mark⟩]⟩=>some (true,.v (.tuple #[]),FM L mark mx v false false lets)
 | [.v (.pointer none)],⟨[],[],[]⟩=>some (true,.v (.tuple #[]),M0)
 | _,_=>none
theorem gFUp_ok:aQ 134 gFUp:=by
 intro xs m r m' h
 unfold gFUp at h
 split at h
 ·rename_i down waits lets mx v L mark
  obtain ⟨h1,rfl,rfl⟩:=aw h
  refine aj (Λ:=L0) IF func134 rfl ai ?_
  exact (Zj down waits lets mx v L mark).trans (rfl)
 ·obtain ⟨h1,rfl,rfl⟩:=aw h
  refine aj (Λ:=L0) IF func134 rfl ai ?_
  exact (Zi ).trans (rfl)
 ·cases h
def ΓL4:Orc:=aC 134 gFUp ΓL3
theorem IE:ΓL4.Ok prog:=aA IF gFUp_ok
theorem Zs (down waits:Bool) (lets mx v:Int) (L:List (List Dat)) (mark:Bool):runG ΓL4 L0 prog f21 [.ptr 0 0] (FM L mark mx v down waits lets)=some (.v (Bo down),(FM L mark mx v down waits lets)):=by kernel_rfl
theorem Zr:runG ΓL4 L0 prog f21 [.v (.pointer none)] M0=some (.v (Bo true),M0):=by kernel_rfl
def F3 (xs:List SV) (m:Mem):Option (Bool×Value) :=
 match xs,m with
 | [.ptr 0 0],⟨[[.row 0,.ptr 1 0,.v (.bool down),.v (.bool waits),.v (.int .i64 lets)],[.v (.int .i64 mx),.v (.int .i64 v)]],[true,true],[.live ⟨5,[.num .u8],L,true,mark⟩]⟩=>some (true,Bo down)
 | [.v (.pointer none)],⟨[],[],[]⟩=>some (true,Bo true)
 | _,_=>none
theorem qgL:bk 21 F3:=by
 intro xs m r h
 unfold F3 at h
 split at h
 ·rename_i down waits lets mx v L mark
  obtain ⟨h1,rfl⟩:=ab h
  refine aj (Λ:=L0) IE func21 rfl ai ?_
  exact (Zs down waits lets mx v L mark).trans (rfl)
 ·obtain ⟨h1,rfl⟩:=ab h
  refine aj (Λ:=L0) IE func21 rfl ai ?_
  exact (Zr ).trans (rfl)
 ·cases h
def ΓL5:Orc:=aU 21 F3 ΓL4
theorem qk3:ΓL5.Ok prog:=aO IE qgL
def ΓL6:Orc:=ΓL5
theorem qk2:ΓL6.Ok prog:=qk3
def ΓL7:Orc:=ΓL6
theorem ID:ΓL7.Ok prog:=qk2
theorem Zo (k n:Int) (down waits:Bool) (lets mx v:Int) (L:List (List Dat)) (mark:Bool):runG ΓL7 L0 prog f186 [.ptr 0 0,.v (I k),.v (I n)] (FM L mark mx v down waits lets)=(bif refE down (L.length:Int) k n != 0 then some (.v (.tuple #[S ⟨#[]⟩,I (refE down (L.length:Int) k n)]),FM L mark mx v down waits lets) else (bif decide (0<=k)&&(decide (k<=wI (k+n))&&decide (wI (k+n)<=(L.length:Int))) then some (.v (.tuple #[S (strOfNums (cU ((L.drop k.toNat).take (wI (k+n) - k).toNat))),I 0]),FM L mark mx v down waits lets) else none)):=by kernel_rfl
theorem Zn (k n:Int):runG ΓL7 L0 prog f186 [.v (.pointer none),.v (I k),.v (I n)] M0=some (.v (.tuple #[S ⟨#[]⟩,I 9]),M0):=by kernel_rfl
def F1 (xs:List SV) (m:Mem):Option (Bool×Value) :=
 match xs,m with
 | [.ptr 0 0,.v (.int .i64 k),.v (.int .i64 n)],⟨[[.row 0,.ptr 1 0,.v (.bool down),.v (.bool waits),.v (.int .i64 lets)],[.v (.int .i64 mx),.v (.int .i64 v)]],[true,true],[.live ⟨5,[.num .u8],L,true,mark⟩]⟩=>some (okL L lets,.tuple #[S (bif refE down ((ao L).size:Int) k n != 0 then ⟨#[]⟩ else (ao L).extract k.toNat (k+n).toNat),I (refE down ((ao L).size:Int) k n)])
 | [.v (.pointer none),.v (.int .i64 k),.v (.int .i64 n)],⟨[],[],[]⟩=>some (true,.tuple #[S ⟨#[]⟩,I 9])
 | _,_=>none
theorem qgJ:bk 186 F1:=by
 intro xs m r h
 unfold F1 at h
 split at h
 ·rename_i k n down waits lets mx v L mark
  obtain ⟨h1,rfl⟩:=ab h
  refine aj (Λ:=L0) ID func186 rfl ai ?_
  exact (Zo k n down waits lets mx v L mark).trans (by
   obtain ⟨hL,hB,h0⟩:=okL_iff.1 h1
   obtain ⟨B,rfl⟩:∃ B,L=cp B:=⟨ao L,hL⟩
   rw [nb] at hB
   rw [nb,vZ]
   by_cases hr:refE down (B.size:Int) k n=0
   ·obtain ⟨rfl,k0,s0,ks⟩:=(refE_ok (by omega)).1 hr
    rw [hr,az (n:=k+n) (by omega),TW]
    have g1:(decide (0<=k)&&(decide (k<=k+n)&&decide (k+n<=(B.size:Int))))=true:=by simp;omega
    rw [g1,show k.toNat+(k+n - k).toNat=(k+n).toNat by omega]
    rfl
   ·rw [bne_iff_ne.2 hr]
    rfl)
 ·rename_i k n
  obtain ⟨h1,rfl⟩:=ab h
  refine aj (Λ:=L0) ID func186 rfl ai ?_
  exact (Zn k n).trans (rfl)
 ·cases h
def ΓL8:Orc:=aU 186 F1 ΓL7
theorem IC:ΓL8.Ok prog:=aO ID qgJ
theorem Zh (k:Int) (s:ByteArray) (down waits:Bool) (lets mx v:Int) (L:List (List Dat)) (mark:Bool):runG ΓL8 L0 prog f223 [.ptr 0 0,.v (I k),.v (S s)] (FM L mark mx v down waits lets)=(bif refE down (L.length:Int) k (s.size:Int) != 0 then some (.v (I (refE down (L.length:Int) k (s.size:Int))),FM L mark mx v down waits lets) else (bif waits then (bif true&&(decide (0<=(if (s.size:Int)<lets then (s.size:Int) else lets))&&decide ((if (s.size:Int)<lets then (s.size:Int) else lets)<=(s.size:Int))) then (bif decide (0<=k)&&(decide (k<=(L.length:Int))&&decide ((L.length:Int)<=(L.length:Int))) then (bif decide (0<=k)&&decide (k+((s.extract 0 (if (s.size:Int)<lets then (s.size:Int) else lets).toNat).size:Int)<=(L.length:Int)) then some (.v (I 11),FM (L.take k.toNat++aq (bK (s.extract 0 (if (s.size:Int)<lets then (s.size:Int) else lets).toNat))++L.drop (k.toNat+(s.extract 0 (if (s.size:Int)<lets then (s.size:Int) else lets).toNat).size)) mark mx (au mx v 1) true false lets) else none) else none) else none) else (bif decide (0<=k)&&(decide (k<=(L.length:Int))&&decide ((L.length:Int)<=(L.length:Int))) then (bif decide (0<=k)&&decide (k+(s.size:Int)<=(L.length:Int)) then (bif down then some (.v (I 11),FM (L.take k.toNat++aq (bK s)++L.drop (k.toNat+s.size)) mark mx (au mx v 1) down waits lets) else some (.v (I 0),FM (L.take k.toNat++aq (bK s)++L.drop (k.toNat+s.size)) mark mx (au mx v 1) down waits lets)) else none) else none))):=by kernel_rfl
theorem Zg (k:Int) (s:ByteArray):runG ΓL8 L0 prog f223 [.v (.pointer none),.v (I k),.v (S s)] M0=some (.v (I 9),M0):=by kernel_rfl
def FX (xs:List SV) (m:Mem):Option (Bool×SV×Mem) :=
 match xs,m with
 | [.ptr 0 0,.v (.int .i64 k),.v (.string s)],⟨[[.row 0,.ptr 1 0,.v (.bool down),.v (.bool waits),.v (.int .i64 lets)],[.v (.int .i64 mx),.v (.int .i64 v)]],[true,true],[.live ⟨5,[.num .u8],L,true,mark⟩]⟩=>some (okL L lets,.v (I (wrE (ao L) down waits k s)),FM (cp (wrB (ao L) down waits lets k s)) mark mx (wrV (ao L) mx v down k s) (wrD (ao L) down waits k s) (wrW (ao L) down waits k s) lets)
 | [.v (.pointer none),.v (.int .i64 k),.v (.string s)],⟨[],[],[]⟩=>some (true,.v (I 9),M0)
 | _,_=>none
theorem qgF:aQ 223 FX:=by
 intro xs m r m' h
 unfold FX at h
 split at h
 ·rename_i k s down waits lets mx v L mark
  obtain ⟨h1,rfl,rfl⟩:=aw h
  refine aj (Λ:=L0) IC func223 rfl ai ?_
  exact (Zh k s down waits lets mx v L mark).trans (by
   obtain ⟨hL,hB,h0⟩:=okL_iff.1 h1
   obtain ⟨B,rfl⟩:∃ B,L=cp B:=⟨ao L,hL⟩
   rw [nb] at hB
   rw [nb,vZ]
   by_cases hr:refE down (B.size:Int) k (s.size:Int)=0
   ·obtain ⟨rfl,k0,s0,ks⟩:=(refE_ok (by omega)).1 hr
    have e:wrN B false k s=false:=by unfold wrN;rw [hr];rfl
    unfold wrE wrB wrV wrD wrW tornS
    rw [e,hr]
    have g1:(decide (0<=k)&&(decide (k<=(B.size:Int))&&decide ((B.size:Int)<=(B.size:Int))))=true:=by simp;omega
    cases waits
    ·have g2:(decide (0<=k)&&decide (k+(s.size:Int)<=(B.size:Int)))=true:=by simp;omega
     rw [g1,g2,LF B s k.toNat]
     rfl
    ·have g2:(true&&(decide (0<=(if (s.size:Int)<lets then (s.size:Int) else lets))&&decide ((if (s.size:Int)<lets then (s.size:Int) else lets)<=(s.size:Int))))=true:=by simp;split<;>omega
     have g3:(decide (0<=k)&&decide (k+((s.extract 0 (if (s.size:Int)<lets then (s.size:Int) else lets).toNat).size:Int)<=(B.size:Int)))=true:=by
      rw [Bool.and_eq_true,decide_eq_true_iff,decide_eq_true_iff,ByteArray.size_extract]
      omega
     rw [g1,g2,g3,LF B (s.extract 0 (if (s.size:Int)<lets then (s.size:Int) else lets).toNat) k.toNat]
     rfl
   ·have e:wrN B down k s=true:=bne_iff_ne.2 hr
    unfold wrE wrB wrV wrD wrW
    rw [e,bne_iff_ne.2 hr]
    rfl)
 ·rename_i k s
  obtain ⟨h1,rfl,rfl⟩:=aw h
  refine aj (Λ:=L0) IC func223 rfl ai ?_
  exact (Zg k s).trans (rfl)
 ·cases h
def ΓL9:Orc:=aC 223 FX ΓL8
theorem R6:ΓL9.Ok prog:=aA IC qgF
theorem Zq (n:Int):runG ΓL9 L0 prog f17 [.v (I n)] M0=(bif decide (n<1) then some (.v (.tuple #[Value.pointer none,I 1]),M0) else (bif decide (n>4096) then some (.v (.tuple #[Value.pointer none,I 1]),M0) else (bif decide (1<=n/\n<=8192) then some (.tup [.one (.ptr 0 0),.one (.v (I 0))],FM (nt n 255) true 1000000 0 false false 0) else none))):=by kernel_rfl
def gFNew (xs:List SV) (m:Mem):Option (Bool×SV×Mem) :=
 match xs,m with
 | [.v (.int .i64 n)],⟨[],[],[]⟩=>some (decide (1<=n/\n<=4096),.tup [.one (.ptr 0 0),.one (.v (I 0))],FM (cp (Cn n.toNat 255)) true 1000000 0 false false 0)
 | _,_=>none
theorem gFNew_ok:aQ 17 gFNew:=by
 intro xs m r m' h
 unfold gFNew at h
 split at h
 ·rename_i n
  obtain ⟨h1,rfl,rfl⟩:=aw h
  refine aj (Λ:=L0) R6 func17 rfl ai ?_
  exact (Zq n).trans (by
   have h1:=of_decide_eq_true h1
   rw [decide_eq_false (show ¬ n<1 by omega),decide_eq_false (show ¬ n>4096 by omega),decide_eq_true (show 1<=n/\n<=8192 by omega),qat]
   rfl)
 ·cases h
def ΓL10:Orc:=aC 17 gFNew ΓL9
theorem qk4:ΓL10.Ok prog:=aA R6 gFNew_ok
def ΓFl:Orc:=ΓL10
theorem qlb:ΓFl.Ok prog:=qk4
end Go.Proofs.YtainfdcfkgemhaaGreat.Fq
namespace Go.Proofs.YtainfdcfkgemhaaGreat.La
open Go Go.Proofs Go.Sx Fq
set_option linter.unusedVariables false
def withB (n l m:Int):Bool:=bif decide (n>=l) then decide (n<=m) else false
theorem Kf (n:Int):IntKind.u8.wrap n=n % 256:=by rw [<- cF true];rfl
theorem ub (b:UInt8):0<=(b.toNat:Int)/\(b.toNat:Int)<256:=by
 have:=dO b
 omega
theorem runUpTo (n m:Int):runG ΓO L0 prog f285 [.v (I n),.v (I m)] M0=(bif decide (n>=(0:Int)) then some (.v (Bo (decide (n<=m))),M0) else some (.v (Bo false),M0)):=by kernel_rfl
def gUpTo (vs:List Value):Option (Bool×Value) :=
 match vs with
 | [.int .i64 n,.int .i64 m]=>some (true,Bo (withB n 0 m))
 | _=>none
theorem gUpTo_ok:am 285 gUpTo:=by
 intro vs r h
 unfold gUpTo at h
 split at h
 ·rename_i n m
  obtain ⟨h1,rfl⟩:=ab h
  refine ak (vs:=[I n,I m]) (Λ:=L0) (m':=M0) cw func285 rfl ai ?_
  exact (runUpTo n m).trans (by
   unfold withB
   cases decide (n>=0)<;>rfl)
 ·cases h
def ΓA1:Orc:=ah 285 gUpTo ΓFl
theorem OkA1:ΓA1.Ok prog:=af qlb gUpTo_ok
def ΓA2:Orc:=ΓA1
theorem OkA2:ΓA2.Ok prog:=OkA1
theorem Vw (n:Int):runG ΓA2 L0 prog f286 [.v (I n)] M0=some (.v (S (be (4:Nat) (IntKind.u64.wrap n))),M0):=by kernel_rfl
def C9 (vs:List Value):Option (Bool×Value) :=
 match vs with
 | [.int .i64 n]=>some (true,S (be 4 n))
 | _=>none
theorem qd6:am 286 C9:=by
 intro vs r h
 unfold C9 at h
 split at h
 ·rename_i n
  obtain ⟨h1,rfl⟩:=ab h
  refine ak (vs:=[I n]) (Λ:=L0) (m':=M0) OkA2 func286 rfl ai ?_
  exact (Vw n).trans (by rw [zk])
 ·cases h
def ΓA3:Orc:=ah 286 C9 ΓA2
theorem OkA3:ΓA3.Ok prog:=af OkA2 qd6
theorem Ya (n:Int):runG ΓA3 L0 prog f287 [.v (I n)] M0=some (.v (S (be (1:Nat) (IntKind.u64.wrap n))),M0):=by kernel_rfl
def E2 (vs:List Value):Option (Bool×Value) :=
 match vs with
 | [.int .i64 n]=>some (true,S (be 1 n))
 | _=>none
theorem qfM:am 287 E2:=by
 intro vs r h
 unfold E2 at h
 split at h
 ·rename_i n
  obtain ⟨h1,rfl⟩:=ab h
  refine ak (vs:=[I n]) (Λ:=L0) (m':=M0) OkA3 func287 rfl ai ?_
  exact (Ya n).trans (by rw [HF])
 ·cases h
def ΓA4:Orc:=ah 287 E2 ΓA3
theorem OkA4:ΓA4.Ok prog:=af OkA3 qfM
theorem YD (s:ByteArray):runG ΓA4 L0 prog f249 [.v (S s)] M0=bif bv s then some (.v (I (wI ((numN s:Nat):Int))),M0) else none:=by kernel_rfl
def Fs (vs:List Value):Option (Bool×Value) :=
 match vs with
 | [.string s]=>some (bv s,I (wI ((numN s:Nat):Int)))
 | _=>none
theorem qgb:am 249 Fs:=by
 intro vs r h
 unfold Fs at h
 split at h
 ·rename_i s
  obtain ⟨h1,rfl⟩:=ab h
  refine ak (vs:=[S s]) (Λ:=L0) (m':=M0) OkA4 func249 rfl ai ?_
  exact (YD s).trans (by rw [h1];rfl)
 ·cases h
def ΓA5:Orc:=ah 249 Fs ΓA4
theorem OkA5:ΓA5.Ok prog:=af OkA4 qgb
def ΓA6:Orc:=ΓA5
theorem OkA6:ΓA6.Ok prog:=OkA5
def ΓA7:Orc:=ΓA6
theorem OkA7:ΓA7.Ok prog:=OkA6
theorem qab (n:Int):runG ΓA7 L0 prog f188 [.v (I n)] M0=some (.v (I ((wI (n+1)).tmod 2)),M0):=by kernel_rfl
def GE (vs:List Value):Option (Bool×Value) :=
 match vs with
 | [.int .i64 n]=>some (true,I ((wI (n+1)).tmod 2))
 | _=>none
theorem qhk:am 188 GE:=by
 intro vs r h
 unfold GE at h
 split at h
 ·rename_i n
  obtain ⟨h1,rfl⟩:=ab h
  refine ak (vs:=[I n]) (Λ:=L0) (m':=M0) OkA7 func188 rfl ai ?_
  exact (qab n).trans (rfl)
 ·cases h
def ΓA8:Orc:=ah 188 GE ΓA7
theorem OkA8:ΓA8.Ok prog:=af OkA7 qhk
def ΓLa:Orc:=ΓA8
theorem zP:ΓLa.Ok prog:=OkA8
end Go.Proofs.YtainfdcfkgemhaaGreat.La
namespace Go.Proofs.YtainfdcfkgemhaaGreat.La
open Go Go.Proofs Go.Sx Fq
set_option linter.unusedVariables false
def rightL (q c p s f v d i n:Int):Bool:=bif withB v 0 255 then (bif withB d 0 255 then (bif withB i 0 255 then (bif withB p 0 3 then (bif withB s 0 2 then (bif withB f 0 1 then (bif withB q 1 2147483648 then (bif withB c 0 1000000 then withB n 0 1000000 else false) else false) else false) else false) else false) else false) else false) else false
def MR (q c p s f v d i n:Int):Mem:=⟨[[.v (I q),.v (I c),.v (I p),.v (I s),.v (I f),.v (I v),.v (I d),.v (I i),.v (I n)]],[true],[]⟩
def zl:Code:=ch (f222.body.getD .skip) 0
def CE:List Bool:=aB 53 [1,11,12]
def Ke (e:Ex):List Bool:=match e with
 | .exit _=>aB 53 [1]
 | _=>aB 53 [2]
def KRt (e:Ex) (st:St):Option (Ex×St):=some (e,ac 0 0 (Ke e) st)
def HRt (q c p s f v d i n:Int):St:=mk CE [.ptr 0 0,.v (.agg #[I v,I d,I i]),.v (I 0)] (MR q c p s f v d i n)
def zB:St:=mk (aB 53 [2]) [.v (Bo false)] M0
def SR (q c p s f v d i n:Int):St:=mk (aB 53 [1]) [.ptr 0 0] (MR q c p s f v d i n)
def lz (v d i:Int):Bool:=bif withB v 0 255 then (bif withB d 0 255 then withB i 0 255 else false) else false
theorem M9:aF (f222.body.getD .skip)=[zl]:=by kernel_rfl
theorem qca:aF zl=[]:=by kernel_rfl
theorem K0 (q c p s f v d i n:Int):an ΓLa prog L0 (ac 0 0 CE) zl 4 (HRt q c p s f v d i n) KRt=bif !withB v 0 255 then some (.ret,zB) else (bif !withB d 0 255 then some (.ret,zB) else (bif !withB i 0 255 then some (.ret,zB) else some (.exit 0,SR q c p s f v d i n))):=by kernel_rfl
def Jz (bad:Bool) (vals:List SV) (m:Mem):Option (Bool×Ex×St) :=
 match vals,m with
 | [.ptr 0 0,.v (.agg ⟨[.int .i64 v',.int .i64 d',.int .i64 i']⟩),.v (.int .i64 0)],⟨[[.v (.int .i64 q),.v (.int .i64 c),.v (.int .i64 p),.v (.int .i64 s),.v (.int .i64 f),.v (.int .i64 v),.v (.int .i64 d),.v (.int .i64 i),.v (.int .i64 n)]],[true],[]⟩=>bif bad then some (v'==v&&(d'==d&&(i'==i&&!lz v d i)),.ret,zB) else some (v'==v&&(d'==d&&(i'==i&&lz v d i)),.exit 0,SR q c p s f v d i n)
 | _,_=>none
def ΛRt (bad:Bool):aV:=fun _ st=>cJ 0 0 CE (Jz bad) st
theorem Nf (bad:Bool) (z:Base) (z1:z.L.length=0) (z2:z.U.length=0):aS (ΛRt bad) prog z zl:=by
 refine du (Λ:=L0) (kx:=Ke) zP mixed z1 z2 (fun b hb=>by rw [qca] at hb;cases hb) (G:=Jz bad) (fun _=>rfl) ?_
 intro vals m e st' h
 unfold Jz at h
 split at h
 ·rename_i v' d' i' q c p s f v d i n
  cases bad
  ·simp only [cond_false] at h
   obtain ⟨h1,rfl,rfl⟩:=aw h
   simp only [Bool.and_eq_true,beq_iff_eq] at h1
   obtain ⟨rfl,rfl,rfl,h1⟩:=h1
   refine ⟨4,(K0 q c p s f v' d' i' n).trans ?_⟩
   unfold lz at h1
   revert h1
   cases withB v' 0 255<;>cases withB d' 0 255<;>cases withB i' 0 255<;>intro h1<;>first|rfl|cases h1
  ·simp only [cond_true] at h
   obtain ⟨h1,rfl,rfl⟩:=aw h
   simp only [Bool.and_eq_true,beq_iff_eq] at h1
   obtain ⟨rfl,rfl,rfl,h1⟩:=h1
   refine ⟨4,(K0 q c p s f v' d' i' n).trans ?_⟩
   unfold lz at h1
   revert h1
   cases withB v' 0 255<;>cases withB d' 0 255<;>cases withB i' 0 255<;>intro h1<;>first|rfl|cases h1
 ·cases h
theorem Xa (q c p s f v d i n:Int):runG ΓLa (ΛRt true) prog f222 [.v (.agg #[I q,I c,I p,I s,I f,I v,I d,I i,I n])] M0 =
 (bif v==v&&(d==d&&(i==i&&!lz v d i)) then some (.v (Bo false),M0) else none):=by kernel_rfl
theorem W9 (q c p s f v d i n:Int):runG ΓLa (ΛRt false) prog f222 [.v (.agg #[I q,I c,I p,I s,I f,I v,I d,I i,I n])] M0 =
 (bif v==v&&(d==d&&(i==i&&lz v d i)) then (bif !withB p (0:Int) (3:Int) then some (.v (Bo false),M0) else (bif !withB s (0:Int) (2:Int) then some (.v (Bo false),M0) else (bif !withB f (0:Int) (1:Int) then some (.v (Bo false),M0) else (bif decide (q>(0:Int)) then (bif withB q (0:Int) (2147483648:Int) then (bif withB c (0:Int) (1000000:Int) then some (.v (Bo (withB n (0:Int) (1000000:Int))),M0) else some (.v (Bo false),M0)) else some (.v (Bo false),M0)) else some (.v (Bo false),M0))))) else none):=by kernel_rfl
def gRight (vs:List Value):Option (Bool×Value) :=
 match vs with
 | [.agg ⟨[.int .i64 q,.int .i64 c,.int .i64 p,.int .i64 s,.int .i64 f,.int .i64 v,.int .i64 d,.int .i64 i,.int .i64 n]⟩]=>some (true,Bo (rightL q c p s f v d i n))
 | _=>none
theorem Tt (q:Int):withB q 1 2147483648=(bif decide (q>0) then withB q 0 2147483648 else false):=by
 unfold withB
 by_cases h:q>0
 ·rw [decide_eq_true h,decide_eq_true (show q>=1 by omega),decide_eq_true (show q>=0 by omega)];rfl
 ·rw [decide_eq_false h,decide_eq_false (show ¬ q>=1 by omega)];rfl
theorem gRight_ok:am 222 gRight:=by
 intro vs r h
 unfold gRight at h
 split at h
 ·rename_i q c p s f v d i n
  obtain ⟨h1,rfl⟩:=ab h
  cases ha:lz v d i
  ·refine ak (vs:=[.agg #[I q,I c,I p,I s,I f,I v,I d,I i,I n]]) (Λ:=ΛRt true) (m':=M0) zP func222 rfl (fun z z1 z2=>bR (c:=f222.body.getD .skip) M9 (Nf true z z1 z2)) ?_
   refine (Xa q c p s f v d i n).trans ?_
   rw [beq_self_eq_true,beq_self_eq_true,beq_self_eq_true,ha]
   have e:rightL q c p s f v d i n=false:=by
    unfold lz at ha
    unfold rightL
    revert ha
    cases withB v 0 255<;>cases withB d 0 255<;>cases withB i 0 255<;>intro ha<;>first|rfl|cases ha
   rw [e]
   rfl
  ·refine ak (vs:=[.agg #[I q,I c,I p,I s,I f,I v,I d,I i,I n]]) (Λ:=ΛRt false) (m':=M0) zP func222 rfl (fun z z1 z2=>bR (c:=f222.body.getD .skip) M9 (Nf false z z1 z2)) ?_
   refine (W9 q c p s f v d i n).trans ?_
   rw [beq_self_eq_true,beq_self_eq_true,beq_self_eq_true,ha]
   have e:rightL q c p s f v d i n=(bif withB p 0 3 then (bif withB s 0 2 then (bif withB f 0 1 then (bif withB q 1 2147483648 then (bif withB c 0 1000000 then withB n 0 1000000 else false) else false) else false) else false) else false):=by
    unfold lz at ha
    unfold rightL
    revert ha
    cases withB v 0 255<;>cases withB d 0 255<;>cases withB i 0 255<;>intro ha<;>first|rfl|cases ha
   rw [e,Tt]
   cases withB p 0 3
   ·rfl
   cases withB s 0 2
   ·rfl
   cases withB f 0 1
   ·rfl
   cases decide (q>0)
   ·rfl
   cases withB q 0 2147483648
   ·rfl
   cases withB c 0 1000000
   ·rfl
   rfl
 ·cases h
def ΓLb:Orc:=ah 222 gRight ΓLa
theorem qk1:ΓLb.Ok prog:=af zP gRight_ok
def ΓLc:Orc:=ΓLb
theorem qk0:ΓLc.Ok prog:=qk1
def ΓLd:Orc:=ΓLc
theorem R5:ΓLd.Ok prog:=qk0
end Go.Proofs.YtainfdcfkgemhaaGreat.La
namespace Go.Proofs.YtainfdcfkgemhaaGreat.La
open Go Go.Proofs Go.Sx Fq
set_option linter.unusedVariables false
def oB (q c p s f v d i n:Int):ByteArray:=be 4 q++be 4 c++be 1 (wI (wI (p+wI (4*f))+wI (16*s)))++(be 1 v++be 1 d++be 1 i)++be 4 n
def recS (q c p s f v d i n:Int):ByteArray:=bif !rightL q c p s f v d i n then ⟨#[]⟩ else oB q c p s f v d i n++be 4 (wI (f7 (oB q c p s f v d i n)))++be 4 q
theorem YC (q c p s f v d i n:Int):runG ΓLd L0 prog f224 [.v (.agg #[I q,I c,I p,I s,I f,I v,I d,I i,I n])] M0 =
 (bif !rightL q c p s f v d i n then some (.v (S { data:=#[]:ByteArray }),M0) else some (.v (S (be (4:Nat) q++be (4:Nat) c++be (1:Nat) (wI (wI (p+wI ((4:Int)*f))+wI ((16:Int)*s)))++(be (1:Nat) v++be (1:Nat) d++be (1:Nat) i)++be (4:Nat) n++be (4:Nat) (wI (f7 (be (4:Nat) q++be (4:Nat) c++be (1:Nat) (wI (wI (p+wI ((4:Int)*f))+wI ((16:Int)*s)))++(be (1:Nat) v++be (1:Nat) d++be (1:Nat) i)++be (4:Nat) n)))++be (4:Nat) q)),M0)):=by kernel_rfl
def gPrint (vs:List Value):Option (Bool×Value) :=
 match vs with
 | [.agg ⟨[.int .i64 q,.int .i64 c,.int .i64 p,.int .i64 s,.int .i64 f,.int .i64 v,.int .i64 d,.int .i64 i,.int .i64 n]⟩]=>some (true,S (recS q c p s f v d i n))
 | _=>none
theorem qga:am 224 gPrint:=by
 intro vs r h
 unfold gPrint at h
 split at h
 ·rename_i q c p s f v d i n
  obtain ⟨h1,rfl⟩:=ab h
  refine ak (vs:=[.agg #[I q,I c,I p,I s,I f,I v,I d,I i,I n]]) (Λ:=L0) (m':=M0) R5 func224 rfl (fun z z1 z2=>l0Ok' _ z) ?_
  refine (YC q c p s f v d i n).trans ?_
  unfold recS
  cases rightL q c p s f v d i n<;>rfl
 ·cases h
def ΓLe:Orc:=ah 224 gPrint ΓLd
theorem zO:ΓLe.Ok prog:=af R5 qga
def ΓLf:Orc:=ΓLe
theorem zN:ΓLf.Ok prog:=zO
def ΓLfa:Orc:={ ΓLf with av:=true }
theorem qkZ:ΓLfa.Ok prog:=⟨zN.call,zN.rd,zN.eqv⟩
def vJ (s:ByteArray):Option (SV×Mem):=bif !(recS (wI (((numN (s.extract (0:Nat) (4:Nat))):Int):Int)) (wI (((numN (s.extract (4:Nat) (8:Nat))):Int):Int)) (wI ((aa s (8:Int)).tmod (4:Int))) (wI (IntKind.u8.wrap ((aa s (8:Int)).tdiv (16:Int)))) (wI (IntKind.u8.wrap (((aa s (8:Int)).tmod (16:Int)).tdiv (4:Int)))) (wI (aa s (9:Int))) (wI (aa s (10:Int))) (wI (aa s (11:Int))) (wI (((numN (s.extract (12:Nat) (16:Nat))):Int):Int))).toList==s.toList then some (.v (.tuple #[(.agg #[(I 0),(I 0),(I 0),(I 0),(I 0),(I 0),(I 0),(I 0),(I 0)]),(Bo false)]),M0) else some (.v (.tuple #[(.agg #[(I (wI (((numN (s.extract (0:Nat) (4:Nat))):Int):Int))),(I (wI (((numN (s.extract (4:Nat) (8:Nat))):Int):Int))),(I (wI ((aa s (8:Int)).tmod (4:Int)))),(I (wI (IntKind.u8.wrap ((aa s (8:Int)).tdiv (16:Int))))),(I (wI (IntKind.u8.wrap (((aa s (8:Int)).tmod (16:Int)).tdiv (4:Int))))),(I (wI (aa s (9:Int)))),(I (wI (aa s (10:Int)))),(I (wI (aa s (11:Int)))),(I (wI (((numN (s.extract (12:Nat) (16:Nat))):Int):Int)))]),(Bo true)]),M0)
def vL (s:ByteArray):Option (SV×Mem):=same ((vJ s)) ((vJ s))
def vN (s:ByteArray):Option (SV×Mem):=bif true&&decide ((9:Int)<((s.size:Int):Int)) then (bif true&&decide ((10:Int)<((s.size:Int):Int)) then (bif true&&decide ((11:Int)<((s.size:Int):Int)) then (same ((same ((vJ s)) ((vL s)))) ((same ((vL s)) ((vL s))))) else none) else none) else none
def vP (s:ByteArray):Option (SV×Mem):=same ((vN s)) ((vN s))
theorem YB (s:ByteArray):runG ΓLfa L0 prog f187 [.v (S s)] M0 =
 (bif ((s.size:Int):Int) != (24:Int) then some (.v (.tuple #[(.agg #[(I 0),(I 0),(I 0),(I 0),(I 0),(I 0),(I 0),(I 0),(I 0)]),(Bo false)]),M0) else (bif true&&(true&&decide ((4:Int)<=((s.size:Int):Int))) then (bif bv (s.extract (0:Nat) (4:Nat)) then (bif true&&(true&&decide ((8:Int)<=((s.size:Int):Int))) then (bif bv (s.extract (4:Nat) (8:Nat)) then (bif true&&(true&&decide ((16:Int)<=((s.size:Int):Int))) then (bif bv (s.extract (12:Nat) (16:Nat)) then (bif true&&decide ((8:Int)<((s.size:Int):Int)) then (bif true&&decide ((8:Int)<((s.size:Int):Int)) then (bif true&&decide ((8:Int)<((s.size:Int):Int)) then (same ((same ((vN s)) ((vP s)))) ((same ((vP s)) ((vP s))))) else none) else none) else none) else none) else none) else none) else none) else none) else none)):=by kernel_rfl
end Go.Proofs.YtainfdcfkgemhaaGreat.La
namespace Go.Proofs.YtainfdcfkgemhaaGreat.La
open Go Go.Proofs Go.Sx Fq
set_option linter.unusedVariables false
def qS (s:ByteArray):Int:=((numN (s.extract 0 4):Nat):Int)
def cS (s:ByteArray):Int:=((numN (s.extract 4 8):Nat):Int)
def nS (s:ByteArray):Int:=((numN (s.extract 12 16):Nat):Int)
def pS (s:ByteArray):Int:=aa s 8 % 4
def uS (s:ByteArray):Int:=aa s 8 / 16
def fS (s:ByteArray):Int:=aa s 8 % 16 / 4
def ny (s:ByteArray):ByteArray:=recS (qS s) (cS s) (pS s) (uS s) (fS s) (aa s 9) (aa s 10) (aa s 11) (nS s)
def okS (s:ByteArray):Bool:=bif (s.size:Int) != 24 then false else (ny s).toList==s.toList
def zI (b:Bool) (x:Int):Int:=bif b then x else 0
def gRead (vs:List Value):Option (Bool×Value) :=
 match vs with
 | [.string s]=>some (true,.tuple #[.agg #[I (zI (okS s) (qS s)),I (zI (okS s) (cS s)),I (zI (okS s) (pS s)),I (zI (okS s) (uS s)),I (zI (okS s) (fS s)),I (zI (okS s) (aa s 9)),I (zI (okS s) (aa s 10)),I (zI (okS s) (aa s 11)),I (zI (okS s) (nS s))],Bo (okS s)])
 | _=>none
theorem zb {b:Int} (h:0<=b/\b<256):wI (b.tmod 4)=b % 4/\wI (IntKind.u8.wrap (b.tdiv 16))=b / 16/\wI (IntKind.u8.wrap ((b.tmod 16).tdiv 4))=b % 16 / 4/\b.tmod 4=b % 4/\wI (b.tdiv 16)=b / 16/\wI ((b.tmod 16).tdiv 4)=b % 16 / 4/\wI b=b:=by
 rw [Int.tmod_eq_emod_of_nonneg h.1,Int.tmod_eq_emod_of_nonneg h.1,Int.tdiv_eq_ediv_of_nonneg h.1,Int.tdiv_eq_ediv_of_nonneg (show 0<=b % 16 by omega),Kf,Kf,az (n:=b % 4) (by omega),az (n:=b / 16 % 256) (by omega),az (n:=b % 16 / 4 % 256) (by omega),az (n:=b / 16) (by omega),az (n:=b % 16 / 4) (by omega),az (n:=b) (by omega)]
 refine ⟨rfl,by omega,by omega,rfl,rfl,rfl,rfl⟩
theorem vp (s:ByteArray) (k:Nat):0<=aa s (k:Int)/\aa s (k:Int)<256:=by
 rw [dR]
 cases (L s)[k]? with
 | none=>exact ⟨by decide,by decide⟩
 | some b=>exact ub b
theorem qbC {s:ByteArray} {i:Nat} (h:i+4<=s.size):((numN (s.extract i (i+4)):Nat):Int)<4294967296:=by
 obtain ⟨b0,b1,b2,b3,hb,e0,e1,e2,e3⟩:=GQ h
 rw [wM hb]
 have:=ub b0
 have:=ub b1
 have:=ub b2
 have:=ub b3
 omega
theorem Ch {s:ByteArray} {i:Nat} (h:i+4<=s.size):wI ((numN (s.extract i (i+4)):Nat):Int)=((numN (s.extract i (i+4)):Nat):Int):=by
 have:=qbC h
 exact az (by omega)
theorem szS_ext {s:ByteArray} (h:s.size=24) (a b:Nat):bv (s.extract a b)=true:=Nat.ble_eq_true_of_le (by rw [ByteArray.size_extract];omega)
theorem qf9:am 187 gRead:=by
 intro vs r h
 unfold gRead at h
 split at h
 ·rename_i s
  obtain ⟨h1,rfl⟩:=ab h
  refine ak (vs:=[S s]) (Λ:=L0) (m':=M0) qkZ func187 rfl (fun z z1 z2=>l0Ok' _ z) ?_
  refine (YB s).trans ?_
  unfold vP vN vL vJ
  by_cases hs:s.size=24
  ·have e0:wI ((numN (s.extract 0 4):Nat):Int)=qS s:=Ch (i:=0) (by omega)
   have e1:wI ((numN (s.extract 4 8):Nat):Int)=cS s:=Ch (i:=4) (by omega)
   have e2:wI ((numN (s.extract 12 16):Nat):Int)=nS s:=Ch (i:=12) (by omega)
   obtain ⟨a1,a2,a3,_⟩:=zb (vp s 8)
   have b9:wI (aa s 9)=aa s 9:=(zb (vp s 9)).2.2.2.2.2.2
   have b10:wI (aa s 10)=aa s 10:=(zb (vp s 10)).2.2.2.2.2.2
   have b11:wI (aa s 11)=aa s 11:=(zb (vp s 11)).2.2.2.2.2.2
   rw [show ((8:Nat):Int)=(8:Int) from rfl] at a1 a2 a3
   rw [e0,e1,e2,a1,a2,a3,b9,b10,b11,szS_ext hs,szS_ext hs,szS_ext hs]
   have hz:okS s=((ny s).toList==s.toList):=by
    unfold okS
    rw [hs]
    rfl
   rw [hs,hz,show (true&&decide ((9:Int)<((24:Nat):Int)))=true from rfl,show (true&&decide ((10:Int)<((24:Nat):Int)))=true from rfl,show (true&&decide ((11:Int)<((24:Nat):Int)))=true from rfl]
   simp only [cond_true,iV]
   show (bif !((ny s).toList==s.toList) then _ else _)=_
   cases ((ny s).toList==s.toList)<;>rfl
  ·have hz:okS s=false:=by
    unfold okS
    rw [bne_iff_ne.2 (show (s.size:Int)≠24 by omega)]
    rfl
   rw [bne_iff_ne.2 (show (s.size:Int)≠24 by omega),hz]
   rfl
 ·cases h
def ΓLg:Orc:=ah 187 gRead ΓLf
theorem qkY:ΓLg.Ok prog:=af zN qf9
def ΓLh:Orc:=ΓLg
theorem uE:ΓLh.Ok prog:=qkY
end Go.Proofs.YtainfdcfkgemhaaGreat.La
namespace Go.Proofs.YtainfdcfkgemhaaGreat.La
open Go Go.Proofs Go.Sx Fq
set_option linter.unusedVariables false
def ML (base q c p s f v d i n next:Int) (L:List (List Dat)) (mark:Bool) (mx w:Int) (down waits:Bool) (lets:Int):Mem:=⟨[[.ptr 1 0,.v (I base),.v (I q),.v (I c),.v (I p),.v (I s),.v (I f),.v (I v),.v (I d),.v (I i),.v (I n),.v (I next)],[.row 0,.ptr 2 0,.v (Bo down),.v (Bo waits),.v (I lets)],[.v (I mx),.v (I w)]],[true,true,true],[.live ⟨5,[.num .u8],L,true,mark⟩]⟩
def ΓLv:Orc:={ ΓLh with av:=true }
theorem qkV:ΓLv.Ok prog:=⟨uE.call,uE.rd,uE.eqv⟩
theorem Yz (base q c p s f v d i n next:Int) (down waits:Bool) (lets mx w:Int) (L:List (List Dat)) (mark:Bool):runG ΓLv L0 prog f66 [.ptr 0 0] (ML base q c p s f v d i n next L mark mx w down waits lets) =
 (same (some (.v (.tuple #[(.agg #[(I q),(I c),(I p),(I s),(I f),(I v),(I d),(I i),(I n)]),(Bo (decide (q>(0:Int))))]),⟨[[.ptr 1 0,.v (I base),.v (I q),.v (I c),.v (I p),.v (I s),.v (I f),.v (I v),.v (I d),.v (I i),.v (I n),.v (I next)],[.row 0,.ptr 2 0,.v (Bo down),.v (Bo waits),.v (I lets)],[.v (I mx),.v (I w)]],[true,true,true],[.live ⟨5,[.num .u8],L,true,mark⟩]⟩)) (some (.v (.tuple #[(.agg #[(I q),(I c),(I p),(I s),(I f),(I v),(I d),(I i),(I n)]),(Bo (decide (q>(0:Int))))]),⟨[[.ptr 1 0,.v (I base),.v (I q),.v (I c),.v (I p),.v (I s),.v (I f),.v (I v),.v (I d),.v (I i),.v (I n),.v (I next)],[.row 0,.ptr 2 0,.v (Bo down),.v (Bo waits),.v (I lets)],[.v (I mx),.v (I w)]],[true,true,true],[.live ⟨5,[.num .u8],L,true,mark⟩]⟩))):=by kernel_rfl
theorem YA (base q c p s f v d i n next:Int) (down waits:Bool) (lets mx w:Int) (L:List (List Dat)) (mark:Bool):runG ΓLv L0 prog f66 [.ptr 0 0] (ML base q c p s f v d i n next L mark mx w down waits lets)=some (.v (.tuple #[.agg #[I q,I c,I p,I s,I f,I v,I d,I i,I n],Bo (decide (q>0))]),(ML base q c p s f v d i n next L mark mx w down waits lets)):=(Yz base q c p s f v d i n next down waits lets mx w L mark).trans (by (try simp only [iV]);try rfl)
theorem Yy:runG ΓLh L0 prog f66 [.v (.pointer none)] M0=some (.v (.tuple #[.agg #[I 0,I 0,I 0,I 0,I 0,I 0,I 0,I 0,I 0],Bo false]),M0):=by kernel_rfl
def gLast (xs:List SV) (m:Mem):Option (Bool×Value) :=
 match xs,m with
 | [.ptr 0 0],⟨[[.ptr 1 0,.v (.int .i64 base),.v (.int .i64 q),.v (.int .i64 c),.v (.int .i64 p),.v (.int .i64 s),.v (.int .i64 f),.v (.int .i64 v),.v (.int .i64 d),.v (.int .i64 i),.v (.int .i64 n),.v (.int .i64 next)],[.row 0,.ptr 2 0,.v (.bool down),.v (.bool waits),.v (.int .i64 lets)],[.v (.int .i64 mx),.v (.int .i64 w)]],[true,true,true],[.live ⟨5,[.num .u8],L,true,mark⟩]⟩=>some (true,.tuple #[.agg #[I q,I c,I p,I s,I f,I v,I d,I i,I n],Bo (decide (q>0))])
 | [.v (.pointer none)],⟨[],[],[]⟩=>some (true,.tuple #[.agg #[I 0,I 0,I 0,I 0,I 0,I 0,I 0,I 0,I 0],Bo false])
 | _,_=>none
theorem gLast_ok:bk 66 gLast:=by
 intro xs m r h
 unfold gLast at h
 split at h
 ·rename_i base q c p s f v d i n next down waits lets mx w L mark
  obtain ⟨h1,rfl⟩:=ab h
  refine aj (Λ:=L0) qkV func66 rfl ai ?_
  exact YA base q c p s f v d i n next down waits lets mx w L mark
 ·obtain ⟨h1,rfl⟩:=ab h
  refine aj (Λ:=L0) uE func66 rfl ai ?_
  exact (Yy ).trans (rfl)
 ·cases h
def ΓN1:Orc:=aU 66 gLast ΓLh
theorem OkN1:ΓN1.Ok prog:=aO uE gLast_ok
def ΓLj:Orc:=ΓN1
theorem qkX:ΓLj.Ok prog:=OkN1
end Go.Proofs.YtainfdcfkgemhaaGreat.La
namespace Go.Proofs.YtainfdcfkgemhaaGreat.La
open Go Go.Proofs Go.Sx Fq
set_option linter.unusedVariables false
def ΓLk:Orc:=ΓLj
theorem qkW:ΓLk.Ok prog:=qkX
def ΓLw:Orc:={ ΓLe with wr:=fun f=>Nat.beq f 223 }
theorem R4:ΓLw.Ok prog:=⟨zO.call,zO.rd,zO.eqv⟩
def Lx (base:Int) (q:Int) (next:Int) (down:Bool) (waits:Bool) (lets:Int) (mx:Int) (w:Int) (L:List (List Dat)) (mark:Bool) (c':Int) (p':Int) (s':Int) (f':Int) (v':Int) (d':Int) (i':Int) (n':Int):Option (SV×Mem):=some (.v (I 0),⟨[[.ptr 1 0,.v (I base),.v (I (wI (q+(1:Int)))),.v (I c'),.v (I p'),.v (I s'),.v (I f'),.v (I v'),.v (I d'),.v (I i'),.v (I n'),.v (I ((wI (next+(1:Int))).tmod (2)))],[.row 0,.ptr 2 0,.v (Bo (wrD (ao L) down waits (wI (base+wI (next*(24:Int)))) (recS (wI (q+(1:Int))) c' p' s' f' v' d' i' n'))),.v (Bo (wrW (ao L) down waits (wI (base+wI (next*(24:Int)))) (recS (wI (q+(1:Int))) c' p' s' f' v' d' i' n'))),.v (I lets)],[.v (I mx),.v (I (wrV (ao L) mx w down (wI (base+wI (next*(24:Int)))) (recS (wI (q+(1:Int))) c' p' s' f' v' d' i' n')))]],[true,true,true],[.live ⟨5,[.num .u8],(cp (Fq.wrB (ao L) down waits lets (wI (base+wI (next*(24:Int)))) (recS (wI (q+(1:Int))) c' p' s' f' v' d' i' n'))),true,mark⟩]⟩)
theorem WM (base q c p s f v d i n next:Int) (down waits:Bool) (lets mx w:Int) (L:List (List Dat)) (mark:Bool) (q' c' p' s' f' v' d' i' n':Int):runG ΓLw L0 prog f156 [.ptr 0 0,.v (.agg #[I q',I c',I p',I s',I f',I v',I d',I i',I n'])] (ML base q c p s f v d i n next L mark mx w down waits lets) =
 (bif !rightL (wI (q+(1:Int))) c' p' s' f' v' d' i' n' then some (.v (I 1),⟨[[.ptr 1 0,.v (I base),.v (I q),.v (I c),.v (I p),.v (I s),.v (I f),.v (I v),.v (I d),.v (I i),.v (I n),.v (I next)],[.row 0,.ptr 2 0,.v (Bo down),.v (Bo waits),.v (I lets)],[.v (I mx),.v (I w)]],[true,true,true],[.live ⟨5,[.num .u8],L,true,mark⟩]⟩) else (bif okL L lets then (bif wrE (ao L) down waits (wI (base+wI (next*(24:Int)))) (recS (wI (q+(1:Int))) c' p' s' f' v' d' i' n') != (0:Int) then some (.v (I (wrE (ao L) down waits (wI (base+wI (next*(24:Int)))) (recS (wI (q+(1:Int))) c' p' s' f' v' d' i' n'))),⟨[[.ptr 1 0,.v (I base),.v (I q),.v (I c),.v (I p),.v (I s),.v (I f),.v (I v),.v (I d),.v (I i),.v (I n),.v (I next)],[.row 0,.ptr 2 0,.v (Bo (wrD (ao L) down waits (wI (base+wI (next*(24:Int)))) (recS (wI (q+(1:Int))) c' p' s' f' v' d' i' n'))),.v (Bo (wrW (ao L) down waits (wI (base+wI (next*(24:Int)))) (recS (wI (q+(1:Int))) c' p' s' f' v' d' i' n'))),.v (I lets)],[.v (I mx),.v (I (wrV (ao L) mx w down (wI (base+wI (next*(24:Int)))) (recS (wI (q+(1:Int))) c' p' s' f' v' d' i' n')))]],[true,true,true],[.live ⟨5,[.num .u8],(cp (Fq.wrB (ao L) down waits lets (wI (base+wI (next*(24:Int)))) (recS (wI (q+(1:Int))) c' p' s' f' v' d' i' n'))),true,mark⟩]⟩) else (same (Lx base q next down waits lets mx w L mark c' p' s' f' v' d' i' n') (Lx base q next down waits lets mx w L mark c' p' s' f' v' d' i' n'))) else none)):=by kernel_rfl
theorem WO (base q c p s f v d i n next:Int) (down waits:Bool) (lets mx w:Int) (L:List (List Dat)) (mark:Bool) (q' c' p' s' f' v' d' i' n':Int):runG ΓLw L0 prog f156 [.ptr 0 0,.v (.agg #[I q',I c',I p',I s',I f',I v',I d',I i',I n'])] (ML base q c p s f v d i n next L mark mx w down waits lets) =
 (bif !rightL (wI (q+(1:Int))) c' p' s' f' v' d' i' n' then some (.v (I 1),⟨[[.ptr 1 0,.v (I base),.v (I q),.v (I c),.v (I p),.v (I s),.v (I f),.v (I v),.v (I d),.v (I i),.v (I n),.v (I next)],[.row 0,.ptr 2 0,.v (Bo down),.v (Bo waits),.v (I lets)],[.v (I mx),.v (I w)]],[true,true,true],[.live ⟨5,[.num .u8],L,true,mark⟩]⟩) else (bif okL L lets then (bif wrE (ao L) down waits (wI (base+wI (next*(24:Int)))) (recS (wI (q+(1:Int))) c' p' s' f' v' d' i' n') != (0:Int) then some (.v (I (wrE (ao L) down waits (wI (base+wI (next*(24:Int)))) (recS (wI (q+(1:Int))) c' p' s' f' v' d' i' n'))),⟨[[.ptr 1 0,.v (I base),.v (I q),.v (I c),.v (I p),.v (I s),.v (I f),.v (I v),.v (I d),.v (I i),.v (I n),.v (I next)],[.row 0,.ptr 2 0,.v (Bo (wrD (ao L) down waits (wI (base+wI (next*(24:Int)))) (recS (wI (q+(1:Int))) c' p' s' f' v' d' i' n'))),.v (Bo (wrW (ao L) down waits (wI (base+wI (next*(24:Int)))) (recS (wI (q+(1:Int))) c' p' s' f' v' d' i' n'))),.v (I lets)],[.v (I mx),.v (I (wrV (ao L) mx w down (wI (base+wI (next*(24:Int)))) (recS (wI (q+(1:Int))) c' p' s' f' v' d' i' n')))]],[true,true,true],[.live ⟨5,[.num .u8],(cp (Fq.wrB (ao L) down waits lets (wI (base+wI (next*(24:Int)))) (recS (wI (q+(1:Int))) c' p' s' f' v' d' i' n'))),true,mark⟩]⟩) else some (.v (I 0),⟨[[.ptr 1 0,.v (I base),.v (I (wI (q+(1:Int)))),.v (I c'),.v (I p'),.v (I s'),.v (I f'),.v (I v'),.v (I d'),.v (I i'),.v (I n'),.v (I ((wI (next+(1:Int))).tmod (2)))],[.row 0,.ptr 2 0,.v (Bo (wrD (ao L) down waits (wI (base+wI (next*(24:Int)))) (recS (wI (q+(1:Int))) c' p' s' f' v' d' i' n'))),.v (Bo (wrW (ao L) down waits (wI (base+wI (next*(24:Int)))) (recS (wI (q+(1:Int))) c' p' s' f' v' d' i' n'))),.v (I lets)],[.v (I mx),.v (I (wrV (ao L) mx w down (wI (base+wI (next*(24:Int)))) (recS (wI (q+(1:Int))) c' p' s' f' v' d' i' n')))]],[true,true,true],[.live ⟨5,[.num .u8],(cp (Fq.wrB (ao L) down waits lets (wI (base+wI (next*(24:Int)))) (recS (wI (q+(1:Int))) c' p' s' f' v' d' i' n'))),true,mark⟩]⟩)) else none)):=(WM base q c p s f v d i n next down waits lets mx w L mark q' c' p' s' f' v' d' i' n').trans (by (try simp only [iV]);try rfl)
def aT (base:Int) (down:Bool) (L:List (List Dat)):ByteArray:=bif refE down (((ao L).size:Int):Int) base (48:Int) != (0:Int) then { data:=#[]:ByteArray } else (ao L).extract base.toNat (base+(48:Int)).toNat
def BB (base:Int) (down:Bool) (waits:Bool) (lets:Int) (mx:Int) (w:Int) (L:List (List Dat)) (mark:Bool):Option (SV×Mem):=some (.tup [.one (.ptr 2 0),.one (.v (I 0))],⟨[[.row 0,.ptr 1 0,.v (Bo down),.v (Bo waits),.v (I lets)],[.v (I mx),.v (I w)],[.ptr 0 0,.v (I base),.v (I (zI (okS ((aT base down L).extract (24:Nat) (48:Nat))) (qS ((aT base down L).extract (24:Nat) (48:Nat))))),.v (I (zI (okS ((aT base down L).extract (24:Nat) (48:Nat))) (cS ((aT base down L).extract (24:Nat) (48:Nat))))),.v (I (zI (okS ((aT base down L).extract (24:Nat) (48:Nat))) (pS ((aT base down L).extract (24:Nat) (48:Nat))))),.v (I (zI (okS ((aT base down L).extract (24:Nat) (48:Nat))) (uS ((aT base down L).extract (24:Nat) (48:Nat))))),.v (I (zI (okS ((aT base down L).extract (24:Nat) (48:Nat))) (fS ((aT base down L).extract (24:Nat) (48:Nat))))),.v (I (zI (okS ((aT base down L).extract (24:Nat) (48:Nat))) (aa ((aT base down L).extract (24:Nat) (48:Nat)) (9:Int)))),.v (I (zI (okS ((aT base down L).extract (24:Nat) (48:Nat))) (aa ((aT base down L).extract (24:Nat) (48:Nat)) (10:Int)))),.v (I (zI (okS ((aT base down L).extract (24:Nat) (48:Nat))) (aa ((aT base down L).extract (24:Nat) (48:Nat)) (11:Int)))),.v (I (zI (okS ((aT base down L).extract (24:Nat) (48:Nat))) (nS ((aT base down L).extract (24:Nat) (48:Nat))))),.v (I 0)]],[true,true,true],[.live ⟨5,[.num .u8],L,true,mark⟩]⟩)
def BC (base:Int) (down:Bool) (waits:Bool) (lets:Int) (mx:Int) (w:Int) (L:List (List Dat)) (mark:Bool):Option (SV×Mem):=same (BB base down waits lets mx w L mark) (BB base down waits lets mx w L mark)
def BE (base:Int) (down:Bool) (waits:Bool) (lets:Int) (mx:Int) (w:Int) (L:List (List Dat)) (mark:Bool):Option (SV×Mem):=bif true&&(true&&decide ((48:Int)<=(((aT base down L).size:Int):Int))) then (bif okS ((aT base down L).extract (24:Nat) (48:Nat)) then (bif decide (zI (okS ((aT base down L).extract (24:Nat) (48:Nat))) (qS ((aT base down L).extract (24:Nat) (48:Nat)))>zI (okS ((aT base down L).extract (0:Nat) (24:Nat))) (qS ((aT base down L).extract (0:Nat) (24:Nat)))) then (BC base down waits lets mx w L mark) else some (.tup [.one (.ptr 2 0),.one (.v (I 0))],⟨[[.row 0,.ptr 1 0,.v (Bo down),.v (Bo waits),.v (I lets)],[.v (I mx),.v (I w)],[.ptr 0 0,.v (I base),.v (I (zI (okS ((aT base down L).extract (0:Nat) (24:Nat))) (qS ((aT base down L).extract (0:Nat) (24:Nat))))),.v (I (zI (okS ((aT base down L).extract (0:Nat) (24:Nat))) (cS ((aT base down L).extract (0:Nat) (24:Nat))))),.v (I (zI (okS ((aT base down L).extract (0:Nat) (24:Nat))) (pS ((aT base down L).extract (0:Nat) (24:Nat))))),.v (I (zI (okS ((aT base down L).extract (0:Nat) (24:Nat))) (uS ((aT base down L).extract (0:Nat) (24:Nat))))),.v (I (zI (okS ((aT base down L).extract (0:Nat) (24:Nat))) (fS ((aT base down L).extract (0:Nat) (24:Nat))))),.v (I (zI (okS ((aT base down L).extract (0:Nat) (24:Nat))) (aa ((aT base down L).extract (0:Nat) (24:Nat)) (9:Int)))),.v (I (zI (okS ((aT base down L).extract (0:Nat) (24:Nat))) (aa ((aT base down L).extract (0:Nat) (24:Nat)) (10:Int)))),.v (I (zI (okS ((aT base down L).extract (0:Nat) (24:Nat))) (aa ((aT base down L).extract (0:Nat) (24:Nat)) (11:Int)))),.v (I (zI (okS ((aT base down L).extract (0:Nat) (24:Nat))) (nS ((aT base down L).extract (0:Nat) (24:Nat))))),.v (I 1)]],[true,true,true],[.live ⟨5,[.num .u8],L,true,mark⟩]⟩)) else some (.tup [.one (.ptr 2 0),.one (.v (I 0))],⟨[[.row 0,.ptr 1 0,.v (Bo down),.v (Bo waits),.v (I lets)],[.v (I mx),.v (I w)],[.ptr 0 0,.v (I base),.v (I (zI (okS ((aT base down L).extract (0:Nat) (24:Nat))) (qS ((aT base down L).extract (0:Nat) (24:Nat))))),.v (I (zI (okS ((aT base down L).extract (0:Nat) (24:Nat))) (cS ((aT base down L).extract (0:Nat) (24:Nat))))),.v (I (zI (okS ((aT base down L).extract (0:Nat) (24:Nat))) (pS ((aT base down L).extract (0:Nat) (24:Nat))))),.v (I (zI (okS ((aT base down L).extract (0:Nat) (24:Nat))) (uS ((aT base down L).extract (0:Nat) (24:Nat))))),.v (I (zI (okS ((aT base down L).extract (0:Nat) (24:Nat))) (fS ((aT base down L).extract (0:Nat) (24:Nat))))),.v (I (zI (okS ((aT base down L).extract (0:Nat) (24:Nat))) (aa ((aT base down L).extract (0:Nat) (24:Nat)) (9:Int)))),.v (I (zI (okS ((aT base down L).extract (0:Nat) (24:Nat))) (aa ((aT base down L).extract (0:Nat) (24:Nat)) (10:Int)))),.v (I (zI (okS ((aT base down L).extract (0:Nat) (24:Nat))) (aa ((aT base down L).extract (0:Nat) (24:Nat)) (11:Int)))),.v (I (zI (okS ((aT base down L).extract (0:Nat) (24:Nat))) (nS ((aT base down L).extract (0:Nat) (24:Nat))))),.v (I 1)]],[true,true,true],[.live ⟨5,[.num .u8],L,true,mark⟩]⟩)) else none
def BD (base:Int) (down:Bool) (waits:Bool) (lets:Int) (mx:Int) (w:Int) (L:List (List Dat)) (mark:Bool):Option (SV×Mem):=bif true&&(true&&decide ((48:Int)<=(((aT base down L).size:Int):Int))) then (bif okS ((aT base down L).extract (24:Nat) (48:Nat)) then (bif decide (zI (okS ((aT base down L).extract (24:Nat) (48:Nat))) (qS ((aT base down L).extract (24:Nat) (48:Nat)))>(0:Int)) then (BC base down waits lets mx w L mark) else some (.tup [.one (.ptr 2 0),.one (.v (I 0))],⟨[[.row 0,.ptr 1 0,.v (Bo down),.v (Bo waits),.v (I lets)],[.v (I mx),.v (I w)],[.ptr 0 0,.v (I base),.v (I 0),.v (I 0),.v (I 0),.v (I 0),.v (I 0),.v (I 0),.v (I 0),.v (I 0),.v (I 0),.v (I 0)]],[true,true,true],[.live ⟨5,[.num .u8],L,true,mark⟩]⟩)) else some (.tup [.one (.ptr 2 0),.one (.v (I 0))],⟨[[.row 0,.ptr 1 0,.v (Bo down),.v (Bo waits),.v (I lets)],[.v (I mx),.v (I w)],[.ptr 0 0,.v (I base),.v (I 0),.v (I 0),.v (I 0),.v (I 0),.v (I 0),.v (I 0),.v (I 0),.v (I 0),.v (I 0),.v (I 0)]],[true,true,true],[.live ⟨5,[.num .u8],L,true,mark⟩]⟩)) else none
theorem X9 (base:Int) (down waits:Bool) (lets mx w:Int) (L:List (List Dat)) (mark:Bool):runG ΓLk L0 prog f119 [.ptr 0 0,.v (I base)] (FM L mark mx w down waits lets) =
 (bif okL L lets then (bif refE down (((ao L).size:Int):Int) base (48:Int) != (0:Int) then some (.v (.tuple #[(Value.pointer none),(I (refE down (((ao L).size:Int):Int) base (48:Int)))]),⟨[[.row 0,.ptr 1 0,.v (Bo down),.v (Bo waits),.v (I lets)],[.v (I mx),.v (I w)]],[true,true],[.live ⟨5,[.num .u8],L,true,mark⟩]⟩) else (bif true&&(true&&decide ((24:Int)<=(((aT base down L).size:Int):Int))) then (bif okS ((aT base down L).extract (0:Nat) (24:Nat)) then (bif decide (zI (okS ((aT base down L).extract (0:Nat) (24:Nat))) (qS ((aT base down L).extract (0:Nat) (24:Nat)))>(0:Int)) then (same ((BE base down waits lets mx w L mark)) ((BE base down waits lets mx w L mark))) else (BD base down waits lets mx w L mark)) else (BD base down waits lets mx w L mark)) else none)) else none):=by kernel_rfl
def aJ (base:Int) (down:Bool) (L:List (List Dat)):ByteArray:=bif refE down (((ao L).size:Int):Int) base (48:Int) != (0:Int) then { data:=#[]:ByteArray } else (ao L).extract base.toNat (base+(48:Int)).toNat
def vH (base:Int) (down:Bool) (waits:Bool) (lets:Int) (mx:Int) (w:Int) (L:List (List Dat)) (mark:Bool):Option (SV×Mem):=bif true&&(true&&decide ((48:Int)<=(((aJ base down L).size:Int):Int))) then (bif okS ((aJ base down L).extract (24:Nat) (48:Nat)) then (bif decide (zI (okS ((aJ base down L).extract (24:Nat) (48:Nat))) (qS ((aJ base down L).extract (24:Nat) (48:Nat)))>(0:Int)) then some (.tup [.one (.ptr 2 0),.one (.v (I 0))],⟨[[.row 0,.ptr 1 0,.v (Bo down),.v (Bo waits),.v (I lets)],[.v (I mx),.v (I w)],[.ptr 0 0,.v (I base),.v (I (zI (okS ((aJ base down L).extract (24:Nat) (48:Nat))) (qS ((aJ base down L).extract (24:Nat) (48:Nat))))),.v (I (zI (okS ((aJ base down L).extract (24:Nat) (48:Nat))) (cS ((aJ base down L).extract (24:Nat) (48:Nat))))),.v (I (zI (okS ((aJ base down L).extract (24:Nat) (48:Nat))) (pS ((aJ base down L).extract (24:Nat) (48:Nat))))),.v (I (zI (okS ((aJ base down L).extract (24:Nat) (48:Nat))) (uS ((aJ base down L).extract (24:Nat) (48:Nat))))),.v (I (zI (okS ((aJ base down L).extract (24:Nat) (48:Nat))) (fS ((aJ base down L).extract (24:Nat) (48:Nat))))),.v (I (zI (okS ((aJ base down L).extract (24:Nat) (48:Nat))) (aa ((aJ base down L).extract (24:Nat) (48:Nat)) (9:Int)))),.v (I (zI (okS ((aJ base down L).extract (24:Nat) (48:Nat))) (aa ((aJ base down L).extract (24:Nat) (48:Nat)) (10:Int)))),.v (I (zI (okS ((aJ base down L).extract (24:Nat) (48:Nat))) (aa ((aJ base down L).extract (24:Nat) (48:Nat)) (11:Int)))),.v (I (zI (okS ((aJ base down L).extract (24:Nat) (48:Nat))) (nS ((aJ base down L).extract (24:Nat) (48:Nat))))),.v (I 0)]],[true,true,true],[.live ⟨5,[.num .u8],L,true,mark⟩]⟩) else some (.tup [.one (.ptr 2 0),.one (.v (I 0))],⟨[[.row 0,.ptr 1 0,.v (Bo down),.v (Bo waits),.v (I lets)],[.v (I mx),.v (I w)],[.ptr 0 0,.v (I base),.v (I 0),.v (I 0),.v (I 0),.v (I 0),.v (I 0),.v (I 0),.v (I 0),.v (I 0),.v (I 0),.v (I 0)]],[true,true,true],[.live ⟨5,[.num .u8],L,true,mark⟩]⟩)) else some (.tup [.one (.ptr 2 0),.one (.v (I 0))],⟨[[.row 0,.ptr 1 0,.v (Bo down),.v (Bo waits),.v (I lets)],[.v (I mx),.v (I w)],[.ptr 0 0,.v (I base),.v (I 0),.v (I 0),.v (I 0),.v (I 0),.v (I 0),.v (I 0),.v (I 0),.v (I 0),.v (I 0),.v (I 0)]],[true,true,true],[.live ⟨5,[.num .u8],L,true,mark⟩]⟩)) else none
theorem runOpen (base:Int) (down waits:Bool) (lets mx w:Int) (L:List (List Dat)) (mark:Bool):runG ΓLk L0 prog f119 [.ptr 0 0,.v (I base)] (FM L mark mx w down waits lets) =
 (bif okL L lets then (bif refE down (((ao L).size:Int):Int) base (48:Int) != (0:Int) then some (.v (.tuple #[(Value.pointer none),(I (refE down (((ao L).size:Int):Int) base (48:Int)))]),⟨[[.row 0,.ptr 1 0,.v (Bo down),.v (Bo waits),.v (I lets)],[.v (I mx),.v (I w)]],[true,true],[.live ⟨5,[.num .u8],L,true,mark⟩]⟩) else (bif true&&(true&&decide ((24:Int)<=(((aJ base down L).size:Int):Int))) then (bif okS ((aJ base down L).extract (0:Nat) (24:Nat)) then (bif decide (zI (okS ((aJ base down L).extract (0:Nat) (24:Nat))) (qS ((aJ base down L).extract (0:Nat) (24:Nat)))>(0:Int)) then (bif true&&(true&&decide ((48:Int)<=(((aJ base down L).size:Int):Int))) then (bif okS ((aJ base down L).extract (24:Nat) (48:Nat)) then (bif decide (zI (okS ((aJ base down L).extract (24:Nat) (48:Nat))) (qS ((aJ base down L).extract (24:Nat) (48:Nat)))>zI (okS ((aJ base down L).extract (0:Nat) (24:Nat))) (qS ((aJ base down L).extract (0:Nat) (24:Nat)))) then some (.tup [.one (.ptr 2 0),.one (.v (I 0))],⟨[[.row 0,.ptr 1 0,.v (Bo down),.v (Bo waits),.v (I lets)],[.v (I mx),.v (I w)],[.ptr 0 0,.v (I base),.v (I (zI (okS ((aJ base down L).extract (24:Nat) (48:Nat))) (qS ((aJ base down L).extract (24:Nat) (48:Nat))))),.v (I (zI (okS ((aJ base down L).extract (24:Nat) (48:Nat))) (cS ((aJ base down L).extract (24:Nat) (48:Nat))))),.v (I (zI (okS ((aJ base down L).extract (24:Nat) (48:Nat))) (pS ((aJ base down L).extract (24:Nat) (48:Nat))))),.v (I (zI (okS ((aJ base down L).extract (24:Nat) (48:Nat))) (uS ((aJ base down L).extract (24:Nat) (48:Nat))))),.v (I (zI (okS ((aJ base down L).extract (24:Nat) (48:Nat))) (fS ((aJ base down L).extract (24:Nat) (48:Nat))))),.v (I (zI (okS ((aJ base down L).extract (24:Nat) (48:Nat))) (aa ((aJ base down L).extract (24:Nat) (48:Nat)) (9:Int)))),.v (I (zI (okS ((aJ base down L).extract (24:Nat) (48:Nat))) (aa ((aJ base down L).extract (24:Nat) (48:Nat)) (10:Int)))),.v (I (zI (okS ((aJ base down L).extract (24:Nat) (48:Nat))) (aa ((aJ base down L).extract (24:Nat) (48:Nat)) (11:Int)))),.v (I (zI (okS ((aJ base down L).extract (24:Nat) (48:Nat))) (nS ((aJ base down L).extract (24:Nat) (48:Nat))))),.v (I 0)]],[true,true,true],[.live ⟨5,[.num .u8],L,true,mark⟩]⟩) else some (.tup [.one (.ptr 2 0),.one (.v (I 0))],⟨[[.row 0,.ptr 1 0,.v (Bo down),.v (Bo waits),.v (I lets)],[.v (I mx),.v (I w)],[.ptr 0 0,.v (I base),.v (I (zI (okS ((aJ base down L).extract (0:Nat) (24:Nat))) (qS ((aJ base down L).extract (0:Nat) (24:Nat))))),.v (I (zI (okS ((aJ base down L).extract (0:Nat) (24:Nat))) (cS ((aJ base down L).extract (0:Nat) (24:Nat))))),.v (I (zI (okS ((aJ base down L).extract (0:Nat) (24:Nat))) (pS ((aJ base down L).extract (0:Nat) (24:Nat))))),.v (I (zI (okS ((aJ base down L).extract (0:Nat) (24:Nat))) (uS ((aJ base down L).extract (0:Nat) (24:Nat))))),.v (I (zI (okS ((aJ base down L).extract (0:Nat) (24:Nat))) (fS ((aJ base down L).extract (0:Nat) (24:Nat))))),.v (I (zI (okS ((aJ base down L).extract (0:Nat) (24:Nat))) (aa ((aJ base down L).extract (0:Nat) (24:Nat)) (9:Int)))),.v (I (zI (okS ((aJ base down L).extract (0:Nat) (24:Nat))) (aa ((aJ base down L).extract (0:Nat) (24:Nat)) (10:Int)))),.v (I (zI (okS ((aJ base down L).extract (0:Nat) (24:Nat))) (aa ((aJ base down L).extract (0:Nat) (24:Nat)) (11:Int)))),.v (I (zI (okS ((aJ base down L).extract (0:Nat) (24:Nat))) (nS ((aJ base down L).extract (0:Nat) (24:Nat))))),.v (I 1)]],[true,true,true],[.live ⟨5,[.num .u8],L,true,mark⟩]⟩)) else some (.tup [.one (.ptr 2 0),.one (.v (I 0))],⟨[[.row 0,.ptr 1 0,.v (Bo down),.v (Bo waits),.v (I lets)],[.v (I mx),.v (I w)],[.ptr 0 0,.v (I base),.v (I (zI (okS ((aJ base down L).extract (0:Nat) (24:Nat))) (qS ((aJ base down L).extract (0:Nat) (24:Nat))))),.v (I (zI (okS ((aJ base down L).extract (0:Nat) (24:Nat))) (cS ((aJ base down L).extract (0:Nat) (24:Nat))))),.v (I (zI (okS ((aJ base down L).extract (0:Nat) (24:Nat))) (pS ((aJ base down L).extract (0:Nat) (24:Nat))))),.v (I (zI (okS ((aJ base down L).extract (0:Nat) (24:Nat))) (uS ((aJ base down L).extract (0:Nat) (24:Nat))))),.v (I (zI (okS ((aJ base down L).extract (0:Nat) (24:Nat))) (fS ((aJ base down L).extract (0:Nat) (24:Nat))))),.v (I (zI (okS ((aJ base down L).extract (0:Nat) (24:Nat))) (aa ((aJ base down L).extract (0:Nat) (24:Nat)) (9:Int)))),.v (I (zI (okS ((aJ base down L).extract (0:Nat) (24:Nat))) (aa ((aJ base down L).extract (0:Nat) (24:Nat)) (10:Int)))),.v (I (zI (okS ((aJ base down L).extract (0:Nat) (24:Nat))) (aa ((aJ base down L).extract (0:Nat) (24:Nat)) (11:Int)))),.v (I (zI (okS ((aJ base down L).extract (0:Nat) (24:Nat))) (nS ((aJ base down L).extract (0:Nat) (24:Nat))))),.v (I 1)]],[true,true,true],[.live ⟨5,[.num .u8],L,true,mark⟩]⟩)) else none) else (vH base down waits lets mx w L mark)) else (vH base down waits lets mx w L mark)) else none)) else none):=(X9 base down waits lets mx w L mark).trans (by unfold BD BE BC BB aT vH aJ;(try simp only [iV]);try rfl)
end Go.Proofs.YtainfdcfkgemhaaGreat.La
namespace Go.Proofs.YtainfdcfkgemhaaGreat.La
open Go Go.Proofs Go.Sx Fq
set_option linter.unusedVariables false
def svE (right:Bool) (e:Int):Int:=bif right then e else 1
def svI (ok:Bool) (x y:Int):Int:=bif ok then x else y
def svB (ok:Bool) (x y:Bool):Bool:=bif ok then x else y
def svT (ok:Bool) (x y:ByteArray):ByteArray:=bif ok then x else y
def gSave (xs:List SV) (m:Mem):Option (Bool×SV×Mem) :=
 match xs,m with
 | [.ptr 0 0,.v (.agg ⟨[.int .i64 q',.int .i64 c',.int .i64 p',.int .i64 s',.int .i64 f',.int .i64 v',.int .i64 d',.int .i64 i',.int .i64 n']⟩)],⟨[[.ptr 1 0,.v (.int .i64 base),.v (.int .i64 q),.v (.int .i64 c),.v (.int .i64 p),.v (.int .i64 s),.v (.int .i64 f),.v (.int .i64 v),.v (.int .i64 d),.v (.int .i64 i),.v (.int .i64 n),.v (.int .i64 next)],[.row 0,.ptr 2 0,.v (.bool down),.v (.bool waits),.v (.int .i64 lets)],[.v (.int .i64 mx),.v (.int .i64 w)]],[true,true,true],[.live ⟨5,[.num .u8],L,true,mark⟩]⟩ =>
  some (okL L lets,.v (I (svE (rightL (wI (q+1)) c' p' s' f' v' d' i' n') (wrE (ao L) down waits (wI (base+wI (next*24))) (recS (wI (q+1)) c' p' s' f' v' d' i' n')))),
   ML base (svI (rightL (wI (q+1)) c' p' s' f' v' d' i' n'&&wrE (ao L) down waits (wI (base+wI (next*24))) (recS (wI (q+1)) c' p' s' f' v' d' i' n')==0) (wI (q+1)) q) (svI (rightL (wI (q+1)) c' p' s' f' v' d' i' n'&&wrE (ao L) down waits (wI (base+wI (next*24))) (recS (wI (q+1)) c' p' s' f' v' d' i' n')==0) c' c) (svI (rightL (wI (q+1)) c' p' s' f' v' d' i' n'&&wrE (ao L) down waits (wI (base+wI (next*24))) (recS (wI (q+1)) c' p' s' f' v' d' i' n')==0) p' p) (svI (rightL (wI (q+1)) c' p' s' f' v' d' i' n'&&wrE (ao L) down waits (wI (base+wI (next*24))) (recS (wI (q+1)) c' p' s' f' v' d' i' n')==0) s' s) (svI (rightL (wI (q+1)) c' p' s' f' v' d' i' n'&&wrE (ao L) down waits (wI (base+wI (next*24))) (recS (wI (q+1)) c' p' s' f' v' d' i' n')==0) f' f) (svI (rightL (wI (q+1)) c' p' s' f' v' d' i' n'&&wrE (ao L) down waits (wI (base+wI (next*24))) (recS (wI (q+1)) c' p' s' f' v' d' i' n')==0) v' v) (svI (rightL (wI (q+1)) c' p' s' f' v' d' i' n'&&wrE (ao L) down waits (wI (base+wI (next*24))) (recS (wI (q+1)) c' p' s' f' v' d' i' n')==0) d' d) (svI (rightL (wI (q+1)) c' p' s' f' v' d' i' n'&&wrE (ao L) down waits (wI (base+wI (next*24))) (recS (wI (q+1)) c' p' s' f' v' d' i' n')==0) i' i) (svI (rightL (wI (q+1)) c' p' s' f' v' d' i' n'&&wrE (ao L) down waits (wI (base+wI (next*24))) (recS (wI (q+1)) c' p' s' f' v' d' i' n')==0) n' n) (svI (rightL (wI (q+1)) c' p' s' f' v' d' i' n'&&wrE (ao L) down waits (wI (base+wI (next*24))) (recS (wI (q+1)) c' p' s' f' v' d' i' n')==0) ((wI (next+1)).tmod 2) next)
    (cp (svT (rightL (wI (q+1)) c' p' s' f' v' d' i' n') (Fq.wrB (ao L) down waits lets (wI (base+wI (next*24))) (recS (wI (q+1)) c' p' s' f' v' d' i' n')) (ao L))) mark mx (svI (rightL (wI (q+1)) c' p' s' f' v' d' i' n') (wrV (ao L) mx w down (wI (base+wI (next*24))) (recS (wI (q+1)) c' p' s' f' v' d' i' n')) w) (svB (rightL (wI (q+1)) c' p' s' f' v' d' i' n') (wrD (ao L) down waits (wI (base+wI (next*24))) (recS (wI (q+1)) c' p' s' f' v' d' i' n')) down) (svB (rightL (wI (q+1)) c' p' s' f' v' d' i' n') (wrW (ao L) down waits (wI (base+wI (next*24))) (recS (wI (q+1)) c' p' s' f' v' d' i' n')) waits) lets)
 | [.v (.pointer none),.v (.agg ⟨[.int .i64 q',.int .i64 c',.int .i64 p',.int .i64 s',.int .i64 f',.int .i64 v',.int .i64 d',.int .i64 i',.int .i64 n']⟩)],⟨[],[],[]⟩=>some (true,.v (I 9),M0)
 | _,_=>none
theorem WN (q' c' p' s' f' v' d' i' n':Int):runG ΓLw L0 prog f156 [.v (.pointer none),.v (.agg #[I q',I c',I p',I s',I f',I v',I d',I i',I n'])] M0=some (.v (I 9),M0):=by kernel_rfl
theorem gSave_ok:aQ 156 gSave:=by
 intro xs m r m' h
 unfold gSave at h
 split at h
 ·rename_i q' c' p' s' f' v' d' i' n' base q c p s f v d i n next down waits lets mx w L mark
  obtain ⟨h1,rfl,rfl⟩:=aw h
  refine aj (Λ:=L0) R4 func156 rfl ai ?_
  refine (WO base q c p s f v d i n next down waits lets mx w L mark q' c' p' s' f' v' d' i' n').trans ?_
  have hL:cp (ao L)=L:=(okL_iff.1 h1).1.symm
  rw [h1]
  cases hr:rightL (wI (q+1)) c' p' s' f' v' d' i' n'
  ·show _=some (_,ML base q c p s f v d i n next (cp (ao L)) mark mx w down waits lets)
   rw [hL]
   rfl
  ·by_cases he:wrE (ao L) down waits (wI (base+wI (next*24))) (recS (wI (q+1)) c' p' s' f' v' d' i' n')=0
   ·rw [he]
    rfl
   ·rw [bne_iff_ne.2 he,beq_eq_false_iff_ne.2 he]
    rfl
 ·rename_i q' c' p' s' f' v' d' i' n'
  obtain ⟨h1,rfl,rfl⟩:=aw h
  refine aj (Λ:=L0) R4 func156 rfl ai ?_
  exact WN q' c' p' s' f' v' d' i' n'
 ·cases h
def mu (a:ByteArray):Bool:=okS a&&decide (zI (okS a) (qS a)>0)
def kZ (a b:ByteArray):Bool:=okS b&&(bif mu a then decide (zI (okS b) (qS b)>zI (okS a) (qS a)) else decide (zI (okS b) (qS b)>0))
def opI (a b:ByteArray) (g:ByteArray->Int):Int:=bif kZ a b then zI (okS b) (g b) else bif mu a then zI (okS a) (g a) else 0
def opN (a b:ByteArray):Int:=bif kZ a b then 0 else bif mu a then 1 else 0
def sl0 (B:ByteArray) (base:Int):ByteArray:=(B.extract base.toNat (base+48).toNat).extract 0 24
def sl1 (B:ByteArray) (base:Int):ByteArray:=(B.extract base.toNat (base+48).toNat).extract 24 48
def at9 (s:ByteArray):Int:=aa s 9
def at10 (s:ByteArray):Int:=aa s 10
def at11 (s:ByteArray):Int:=aa s 11
def opM (base:Int) (a b:ByteArray) (L:List (List Dat)) (mark:Bool) (mx w:Int) (down waits:Bool) (lets:Int):Mem:=⟨[[.row 0,.ptr 1 0,.v (Bo down),.v (Bo waits),.v (I lets)],[.v (I mx),.v (I w)],[.ptr 0 0,.v (I base),.v (I (opI a b qS)),.v (I (opI a b cS)),.v (I (opI a b pS)),.v (I (opI a b uS)),.v (I (opI a b fS)),.v (I (opI a b at9)),.v (I (opI a b at10)),.v (I (opI a b at11)),.v (I (opI a b nS)),.v (I (opN a b))]],[true,true,true],[.live ⟨5,[.num .u8],L,true,mark⟩]⟩
def Oi (xs:List SV) (m:Mem):Option (Bool×SV×Mem) :=
 match xs,m with
 | [.ptr 0 0,.v (.int .i64 base)],⟨[[.row 0,.ptr 1 0,.v (.bool down),.v (.bool waits),.v (.int .i64 lets)],[.v (.int .i64 mx),.v (.int .i64 w)]],[true,true],[.live ⟨5,[.num .u8],L,true,mark⟩]⟩ =>
  some (okL L lets&&refE down ((ao L).size:Int) base 48==0,.tup [.one (.ptr 2 0),.one (.v (I 0))],opM base (sl0 (ao L) base) (sl1 (ao L) base) L mark mx w down waits lets)
 | _,_=>none
theorem gOpenS_ok:aQ 119 Oi:=by
 intro xs m r m' h
 unfold Oi at h
 split at h
 ·rename_i base down waits lets mx w L mark
  obtain ⟨h1,rfl,rfl⟩:=aw h
  rw [Bool.and_eq_true,beq_iff_eq] at h1
  obtain ⟨hL,hr⟩:=h1
  obtain ⟨_,hB,_⟩:=okL_iff.1 hL
  obtain ⟨_,b0,_,b1⟩:=(refE_ok (by omega)).1 hr
  refine aj (Λ:=L0) qkW func119 rfl ai ?_
  refine (runOpen base down waits lets mx w L mark).trans ?_
  unfold vH aJ
  have hz:((ao L).extract base.toNat (base+48).toNat).size=48:=by rw [ByteArray.size_extract];omega
  rw [hL,hr]
  simp only [bne_self_eq_false,cond_false,cond_true,hz]
  unfold opM opI opN kZ mu sl0 sl1 at9 at10 at11
  generalize ((ao L).extract base.toNat (base+48).toNat).extract 0 24=a
  generalize ((ao L).extract base.toNat (base+48).toNat).extract 24 48=b
  cases okS a<;>cases okS b
  ·rfl
  ·cases decide (zI true (qS b)>0)<;>rfl
  ·cases decide (zI true (qS a)>0)<;>rfl
  ·cases decide (zI true (qS a)>0)
   ·cases decide (zI true (qS b)>0)<;>rfl
   ·cases decide (zI true (qS b)>zI true (qS a))<;>rfl
 ·cases h
end Go.Proofs.YtainfdcfkgemhaaGreat.La
