/-
  What is known of this program: flashes and latches.
-/
import Derived.Test.YtainfdcfkgemhaaGreatYe
import Derived.Test.YtainfdcfkgemhaaGreatYd
import Derived.Test.YtainfdcfkgemhaaGreatSw
set_option maxRecDepth 100000
noncomputable section
namespace Go.Proofs.YtainfdcfkgemhaaGreat.Fq
open Go Go.Proofs Go.Sx
set_option linter.unusedVariables false
def ΓF1:Orc:=qau 59 qIV ΓO
theorem OkF1:ΓF1.Ok Tryz.prog:=qad OkO qrM
def FM (L:List (List Dat)) (mark:Bool) (mx v:Int) (down waits:Bool) (lets:Int):Mem:=⟨[[.row 0,.ptr 1 0,.v (Bo down),.v (Bo waits),.v (I lets)],[.v (I mx),.v (I v)]],[true,true],[.live ⟨5,[.num .u8],L,true,mark⟩]⟩
def refE (down:Bool) (size k n:Int):Int:=bif down then 11 else bif decide (k<0) then 2 else bif decide (k>size) then 2 else bif decide (n<0) then 2 else bif decide (n>wI (size - k)) then 2 else 0
def okL (L:List (List Dat)) (lets:Int):Bool:=isT (L=qdG (txt L))&&(Nat.ble (txt L).size 1000000&&decide (0≤lets))
theorem okL_iff {L:List (List Dat)} {lets:Int}:okL L lets=true↔L=qdG (txt L)∧(txt L).size≤1000000∧0≤lets:=by
 unfold okL
 rw [Bool.and_eq_true,Bool.and_eq_true,qcP,decide_eq_true_iff]
 exact ⟨fun ⟨a,b,c⟩=>⟨a,Nat.le_of_ble_eq_true b,c⟩,fun ⟨a,b,c⟩=>⟨a,Nat.ble_eq_true_of_le b,c⟩⟩
theorem refE_ok {down:Bool} {size k n:Int} (hs:0≤size∧size≤1000000):refE down size k n=0↔down=false∧0≤k∧0≤n∧k+n≤size:=by
 unfold refE
 cases down with
 | true=>simp
 | false =>
 simp only [cond_false,true_and]
 by_cases h1:k<0
 ·simp [h1];omega
 by_cases h2:k>size
 ·simp [h1,h2];omega
 by_cases h3:n<0
 ·simp [h1,h2,h3];omega
 rw [qaw (n:=size - k) (by omega)]
 by_cases h4:n>size - k
 ·simp [h1,h2,h3,h4];omega
 ·simp [h1,h2,h3,h4];omega
def qtL (waits:Bool) (lets:Int) (s:ByteArray):ByteArray:=bif waits then s.extract 0 (if (s.size:Int)<lets then (s.size:Int) else lets).toNat else s
def wrN (B:ByteArray) (down:Bool) (k:Int) (s:ByteArray):Bool:=refE down (B.size:Int) k (s.size:Int) != 0
def wrE (B:ByteArray) (down waits:Bool) (k:Int) (s:ByteArray):Int:=bif wrN B down k s then refE down (B.size:Int) k (s.size:Int) else bif waits then 11 else 0
def wrB (B:ByteArray) (down waits:Bool) (lets k:Int) (s:ByteArray):ByteArray:=bif wrN B down k s then B else qFZ B k.toNat (qtL waits lets s)
def wrV (B:ByteArray) (mx v:Int) (down:Bool) (k:Int) (s:ByteArray):Int:=bif wrN B down k s then v else qap mx v 1
def wrD (B:ByteArray) (down waits:Bool) (k:Int) (s:ByteArray):Bool:=bif wrN B down k s then down else waits
def wrW (B:ByteArray) (down waits:Bool) (k:Int) (s:ByteArray):Bool:=bif wrN B down k s then waits else false
theorem tornS_size (waits:Bool) {lets:Int} (h:0≤lets) (s:ByteArray):(qtL waits lets s).size≤s.size:=by
 unfold qtL
 cases waits
 ·exact Nat.le_refl _
 ·simp only [cond_true,ByteArray.size_extract]
  omega
theorem runCUp0 (a v:Int):runG ΓF1 L0 Tryz.prog Tryz.f175 [.ptr 0 0] (MC a v)=some (.v (I (qap a v 1)),MC a (qap a v 1)):=by kernel_rfl
def gCUp (xs:List SV) (m:Mem):Option (Bool×SV×Mem) :=
 match xs,m with
 | [.ptr 0 0],⟨[[.v (.int .i64 a),.v (.int .i64 v)]],[true],[]⟩=>some (true,.v (I (qap a v 1)),MC a (qap a v 1))
 | _,_=>none
theorem gCUp_ok:CtC 175 gCUp:=by
 intro xs m r m' h
 unfold gCUp at h
 split at h
 ·rename_i a v
  obtain ⟨h1,rfl,rfl⟩:=qaf h
  refine qal (Λ:=L0) OkF1 Tryz.func175 rfl l00 ?_
  exact (runCUp0 a v).trans (rfl)
 ·cases h
def ΓL1:Orc:=qau 175 gCUp ΓF1
theorem qNG:ΓL1.Ok Tryz.prog:=qad OkF1 gCUp_ok
theorem qk5 (k n:Int) (down waits:Bool) (lets mx v:Int) (L:List (List Dat)) (mark:Bool):runG ΓL1 L0 Tryz.prog Tryz.f248 [.ptr 0 0,.v (I k),.v (I n)] (FM L mark mx v down waits lets)=(bif down then some (.v (I 11),(FM L mark mx v down waits lets)) else (bif decide (k<0) then some (.v (I 2),(FM L mark mx v down waits lets)) else (bif decide (k>(L.length:Int)) then some (.v (I 2),(FM L mark mx v down waits lets)) else (bif decide (n<0) then some (.v (I 2),(FM L mark mx v down waits lets)) else (bif decide (n>wI ((L.length:Int) - k)) then some (.v (I 2),(FM L mark mx v down waits lets)) else some (.v (I 0),(FM L mark mx v down waits lets))))))):=by kernel_rfl
theorem qk4 (k n:Int):runG ΓL1 L0 Tryz.prog Tryz.f248 [.v (.pointer none),.v (I k),.v (I n)] M0=some (.v (I 9),M0):=by kernel_rfl
def qiv (xs:List SV) (m:Mem):Option (Bool×Value) :=
 match xs,m with
 | [.ptr 0 0,.v (.int .i64 k),.v (.int .i64 n)],⟨[[.row 0,.ptr 1 0,.v (.bool down),.v (.bool waits),.v (.int .i64 lets)],[.v (.int .i64 mx),.v (.int .i64 v)]],[true,true],[.live ⟨5,[.num .u8],L,true,mark⟩]⟩=>some (true,I (refE down (L.length:Int) k n))
 | [.v (.pointer none),.v (.int .i64 k),.v (.int .i64 n)],⟨[],[],[]⟩=>some (true,I 9)
 | _,_=>none
theorem qlK:CtR 248 qiv:=by
 intro xs m r h
 unfold qiv at h
 split at h
 ·rename_i k n down waits lets mx v L mark
  obtain ⟨h1,rfl⟩:=qac h
  refine qal (Λ:=L0) qNG Tryz.func248 rfl l00 ?_
  exact (qk5 k n down waits lets mx v L mark).trans (by
   unfold refE
   cases down
   ·cases decide (k<0)
    ·cases decide (k>(L.length:Int))
     ·cases decide (n<0)
      ·cases decide (n>wI ((L.length:Int) - k))<;>rfl
      ·rfl
     ·rfl
    ·rfl
   ·rfl)
 ·rename_i k n
  obtain ⟨h1,rfl⟩:=qac h
  refine qal (Λ:=L0) qNG Tryz.func248 rfl l00 ?_
  exact (qk4 k n).trans (rfl)
 ·cases h
def ΓL2:Orc:=qay 248 qiv ΓL1
theorem qNE:ΓL2.Ok Tryz.prog:=qai qNG qlK
theorem qt8 (k:Int) (down waits:Bool) (lets mx v:Int) (L:List (List Dat)) (mark:Bool):runG ΓL2 L0 Tryz.prog Tryz.f39 [.ptr 0 0,.v (I k)] (FM L mark mx v down waits lets)=some (.v (.tuple #[]),FM L mark mx v down true (if k>0 then k else 0)):=by kernel_rfl
theorem qt7 (k:Int):runG ΓL2 L0 Tryz.prog Tryz.f39 [.v (.pointer none),.v (I k)] M0=some (.v (.tuple #[]),M0):=by kernel_rfl
def gTear (xs:List SV) (m:Mem):Option (Bool×SV×Mem) :=
 match xs,m with
 | [.ptr 0 0,.v (.int .i64 k)],⟨[[.row 0,.ptr 1 0,.v (.bool down),.v (.bool waits),.v (.int .i64 lets)],[.v (.int .i64 mx),.v (.int .i64 v)]],[true,true],[.live ⟨5,[.num .u8],L,true,mark⟩]⟩=>some (true,.v (.tuple #[]),FM L mark mx v down true (if k>0 then k else 0))
 | [.v (.pointer none),.v (.int .i64 k)],⟨[],[],[]⟩=>some (true,.v (.tuple #[]),M0)
 | _,_=>none
theorem gTear_ok:CtC 39 gTear:=by
 intro xs m r m' h
 unfold gTear at h
 split at h
 ·rename_i k down waits lets mx v L mark
  obtain ⟨h1,rfl,rfl⟩:=qaf h
  refine qal (Λ:=L0) qNE Tryz.func39 rfl l00 ?_
  exact (qt8 k down waits lets mx v L mark).trans (rfl)
 ·rename_i k
  obtain ⟨h1,rfl,rfl⟩:=qaf h
  refine qal (Λ:=L0) qNE Tryz.func39 rfl l00 ?_
  exact (qt7 k).trans (rfl)
 ·cases h
def ΓL3:Orc:=qau 39 gTear ΓL2
theorem qND:ΓL3.Ok Tryz.prog:=qad qNE gTear_ok
theorem qzy (down waits:Bool) (lets mx v:Int) (L:List (List Dat)) (mark:Bool):runG ΓL3 L0 Tryz.prog Tryz.f134 [.ptr 0 0] (FM L mark mx v down waits lets)=some (.v (.tuple #[]),FM L mark mx v false false lets):=by kernel_rfl
theorem qzx:runG ΓL3 L0 Tryz.prog Tryz.f134 [.v (.pointer none)] M0=some (.v (.tuple #[]),M0):=by kernel_rfl
def gFUp (xs:List SV) (m:Mem):Option (Bool×SV×Mem) :=
 match xs,m with
 | [.ptr 0 0],⟨[[.row 0,.ptr 1 0,.v (.bool down),.v (.bool waits),.v (.int .i64 lets)],[.v (.int .i64 mx),.v (.int .i64 v)]],[true,true],[.live ⟨5,[.num .u8],L,true,mark⟩]⟩=>some (true,.v (.tuple #[]),FM L mark mx v false false lets)
 | [.v (.pointer none)],⟨[],[],[]⟩=>some (true,.v (.tuple #[]),M0)
 | _,_=>none
theorem gFUp_ok:CtC 134 gFUp:=by
 intro xs m r m' h
 unfold gFUp at h
 split at h
 ·rename_i down waits lets mx v L mark
  obtain ⟨h1,rfl,rfl⟩:=qaf h
  refine qal (Λ:=L0) qND Tryz.func134 rfl l00 ?_
  exact (qzy down waits lets mx v L mark).trans (rfl)
 ·obtain ⟨h1,rfl,rfl⟩:=qaf h
  refine qal (Λ:=L0) qND Tryz.func134 rfl l00 ?_
  exact (qzx ).trans (rfl)
 ·cases h
def ΓL4:Orc:=qau 134 gFUp ΓL3
theorem qNC:ΓL4.Ok Tryz.prog:=qad qND gFUp_ok
theorem qqi (down waits:Bool) (lets mx v:Int) (L:List (List Dat)) (mark:Bool):runG ΓL4 L0 Tryz.prog Tryz.f21 [.ptr 0 0] (FM L mark mx v down waits lets)=some (.v (Bo down),(FM L mark mx v down waits lets)):=by kernel_rfl
theorem qqh:runG ΓL4 L0 Tryz.prog Tryz.f21 [.v (.pointer none)] M0=some (.v (Bo true),M0):=by kernel_rfl
def qsj (xs:List SV) (m:Mem):Option (Bool×Value) :=
 match xs,m with
 | [.ptr 0 0],⟨[[.row 0,.ptr 1 0,.v (.bool down),.v (.bool waits),.v (.int .i64 lets)],[.v (.int .i64 mx),.v (.int .i64 v)]],[true,true],[.live ⟨5,[.num .u8],L,true,mark⟩]⟩=>some (true,Bo down)
 | [.v (.pointer none)],⟨[],[],[]⟩=>some (true,Bo true)
 | _,_=>none
theorem qsi:CtR 21 qsj:=by
 intro xs m r h
 unfold qsj at h
 split at h
 ·rename_i down waits lets mx v L mark
  obtain ⟨h1,rfl⟩:=qac h
  refine qal (Λ:=L0) qNC Tryz.func21 rfl l00 ?_
  exact (qqi down waits lets mx v L mark).trans (rfl)
 ·obtain ⟨h1,rfl⟩:=qac h
  refine qal (Λ:=L0) qNC Tryz.func21 rfl l00 ?_
  exact (qqh ).trans (rfl)
 ·cases h
def ΓL5:Orc:=qay 21 qsj ΓL4
theorem OkL5:ΓL5.Ok Tryz.prog:=qai qNC qsi
def ΓL6:Orc:=ΓL5
theorem OkL6:ΓL6.Ok Tryz.prog:=OkL5
def ΓL7:Orc:=ΓL6
theorem qNB:ΓL7.Ok Tryz.prog:=OkL6
theorem qqg (k n:Int) (down waits:Bool) (lets mx v:Int) (L:List (List Dat)) (mark:Bool):runG ΓL7 L0 Tryz.prog Tryz.f186 [.ptr 0 0,.v (I k),.v (I n)] (FM L mark mx v down waits lets)=(bif refE down (L.length:Int) k n != 0 then some (.v (.tuple #[S ⟨#[]⟩,I (refE down (L.length:Int) k n)]),FM L mark mx v down waits lets) else (bif decide (0≤k)&&(decide (k≤wI (k+n))&&decide (wI (k+n)≤(L.length:Int))) then some (.v (.tuple #[S (strOfNums (qaL ((L.drop k.toNat).take (wI (k+n) - k).toNat))),I 0]),FM L mark mx v down waits lets) else none)):=by kernel_rfl
theorem qqf (k n:Int):runG ΓL7 L0 Tryz.prog Tryz.f186 [.v (.pointer none),.v (I k),.v (I n)] M0=some (.v (.tuple #[S ⟨#[]⟩,I 9]),M0):=by kernel_rfl
def qsh (xs:List SV) (m:Mem):Option (Bool×Value) :=
 match xs,m with
 | [.ptr 0 0,.v (.int .i64 k),.v (.int .i64 n)],⟨[[.row 0,.ptr 1 0,.v (.bool down),.v (.bool waits),.v (.int .i64 lets)],[.v (.int .i64 mx),.v (.int .i64 v)]],[true,true],[.live ⟨5,[.num .u8],L,true,mark⟩]⟩=>some (okL L lets,.tuple #[S (bif refE down ((txt L).size:Int) k n != 0 then ⟨#[]⟩ else (txt L).extract k.toNat (k+n).toNat),I (refE down ((txt L).size:Int) k n)])
 | [.v (.pointer none),.v (.int .i64 k),.v (.int .i64 n)],⟨[],[],[]⟩=>some (true,.tuple #[S ⟨#[]⟩,I 9])
 | _,_=>none
theorem qsg:CtR 186 qsh:=by
 intro xs m r h
 unfold qsh at h
 split at h
 ·rename_i k n down waits lets mx v L mark
  obtain ⟨h1,rfl⟩:=qac h
  refine qal (Λ:=L0) qNB Tryz.func186 rfl l00 ?_
  exact (qqg k n down waits lets mx v L mark).trans (by
   obtain ⟨hL,hB,h0⟩:=okL_iff.1 h1
   obtain ⟨B,rfl⟩:∃ B,L=qdG B:=⟨txt L,hL⟩
   rw [qdh] at hB
   rw [qdh,qfv]
   by_cases hr:refE down (B.size:Int) k n=0
   ·obtain ⟨rfl,k0,s0,ks⟩:=(refE_ok (by omega)).1 hr
    rw [hr,qaw (n:=k+n) (by omega),qtI]
    have g1:(decide (0≤k)&&(decide (k≤k+n)&&decide (k+n≤(B.size:Int))))=true:=by simp;omega
    rw [g1,show k.toNat+(k+n - k).toNat=(k+n).toNat by omega]
    rfl
   ·rw [bne_iff_ne.2 hr]
    rfl)
 ·rename_i k n
  obtain ⟨h1,rfl⟩:=qac h
  refine qal (Λ:=L0) qNB Tryz.func186 rfl l00 ?_
  exact (qqf k n).trans (rfl)
 ·cases h
def ΓL8:Orc:=qay 186 qsh ΓL7
theorem qNA:ΓL8.Ok Tryz.prog:=qai qNB qsg
theorem qoj (k:Int) (s:ByteArray) (down waits:Bool) (lets mx v:Int) (L:List (List Dat)) (mark:Bool):runG ΓL8 L0 Tryz.prog Tryz.f223 [.ptr 0 0,.v (I k),.v (S s)] (FM L mark mx v down waits lets)=(bif refE down (L.length:Int) k (s.size:Int) != 0 then some (.v (I (refE down (L.length:Int) k (s.size:Int))),FM L mark mx v down waits lets) else (bif waits then (bif true&&(decide (0≤(if (s.size:Int)<lets then (s.size:Int) else lets))&&decide ((if (s.size:Int)<lets then (s.size:Int) else lets)≤(s.size:Int))) then (bif decide (0≤k)&&(decide (k≤(L.length:Int))&&decide ((L.length:Int)≤(L.length:Int))) then (bif decide (0≤k)&&decide (k+((s.extract 0 (if (s.size:Int)<lets then (s.size:Int) else lets).toNat).size:Int)≤(L.length:Int)) then some (.v (I 11),FM (L.take k.toNat++qaE (qaD (s.extract 0 (if (s.size:Int)<lets then (s.size:Int) else lets).toNat))++L.drop (k.toNat+(s.extract 0 (if (s.size:Int)<lets then (s.size:Int) else lets).toNat).size)) mark mx (qap mx v 1) true false lets) else none) else none) else none) else (bif decide (0≤k)&&(decide (k≤(L.length:Int))&&decide ((L.length:Int)≤(L.length:Int))) then (bif decide (0≤k)&&decide (k+(s.size:Int)≤(L.length:Int)) then (bif down then some (.v (I 11),FM (L.take k.toNat++qaE (qaD s)++L.drop (k.toNat+s.size)) mark mx (qap mx v 1) down waits lets) else some (.v (I 0),FM (L.take k.toNat++qaE (qaD s)++L.drop (k.toNat+s.size)) mark mx (qap mx v 1) down waits lets)) else none) else none))):=by kernel_rfl
theorem qoi (k:Int) (s:ByteArray):runG ΓL8 L0 Tryz.prog Tryz.f223 [.v (.pointer none),.v (I k),.v (S s)] M0=some (.v (I 9),M0):=by kernel_rfl
def ql1 (xs:List SV) (m:Mem):Option (Bool×SV×Mem) :=
 match xs,m with
 | [.ptr 0 0,.v (.int .i64 k),.v (.string s)],⟨[[.row 0,.ptr 1 0,.v (.bool down),.v (.bool waits),.v (.int .i64 lets)],[.v (.int .i64 mx),.v (.int .i64 v)]],[true,true],[.live ⟨5,[.num .u8],L,true,mark⟩]⟩=>some (okL L lets,.v (I (wrE (txt L) down waits k s)),FM (qdG (wrB (txt L) down waits lets k s)) mark mx (wrV (txt L) mx v down k s) (wrD (txt L) down waits k s) (wrW (txt L) down waits k s) lets)
 | [.v (.pointer none),.v (.int .i64 k),.v (.string s)],⟨[],[],[]⟩=>some (true,.v (I 9),M0)
 | _,_=>none
theorem qoX:CtC 223 ql1:=by
 intro xs m r m' h
 unfold ql1 at h
 split at h
 ·rename_i k s down waits lets mx v L mark
  obtain ⟨h1,rfl,rfl⟩:=qaf h
  refine qal (Λ:=L0) qNA Tryz.func223 rfl l00 ?_
  exact (qoj k s down waits lets mx v L mark).trans (by
   obtain ⟨hL,hB,h0⟩:=okL_iff.1 h1
   obtain ⟨B,rfl⟩:∃ B,L=qdG B:=⟨txt L,hL⟩
   rw [qdh] at hB
   rw [qdh,qfv]
   by_cases hr:refE down (B.size:Int) k (s.size:Int)=0
   ·obtain ⟨rfl,k0,s0,ks⟩:=(refE_ok (by omega)).1 hr
    have e:wrN B false k s=false:=by unfold wrN;rw [hr];rfl
    unfold wrE wrB wrV wrD wrW qtL
    rw [e,hr]
    have g1:(decide (0≤k)&&(decide (k≤(B.size:Int))&&decide ((B.size:Int)≤(B.size:Int))))=true:=by simp;omega
    cases waits
    ·have g2:(decide (0≤k)&&decide (k+(s.size:Int)≤(B.size:Int)))=true:=by simp;omega
     rw [g1,g2,qmQ B s k.toNat]
     rfl
    ·have g2:(true&&(decide (0≤(if (s.size:Int)<lets then (s.size:Int) else lets))&&decide ((if (s.size:Int)<lets then (s.size:Int) else lets)≤(s.size:Int))))=true:=by simp;split<;>omega
     have g3:(decide (0≤k)&&decide (k+((s.extract 0 (if (s.size:Int)<lets then (s.size:Int) else lets).toNat).size:Int)≤(B.size:Int)))=true:=by
      rw [Bool.and_eq_true,decide_eq_true_iff,decide_eq_true_iff,ByteArray.size_extract]
      omega
     rw [g1,g2,g3,qmQ B (s.extract 0 (if (s.size:Int)<lets then (s.size:Int) else lets).toNat) k.toNat]
     rfl
   ·have e:wrN B down k s=true:=bne_iff_ne.2 hr
    unfold wrE wrB wrV wrD wrW
    rw [e,bne_iff_ne.2 hr]
    rfl)
 ·rename_i k s
  obtain ⟨h1,rfl,rfl⟩:=qaf h
  refine qal (Λ:=L0) qNA Tryz.func223 rfl l00 ?_
  exact (qoi k s).trans (rfl)
 ·cases h
def ΓL9:Orc:=qau 223 ql1 ΓL8
theorem qPw:ΓL9.Ok Tryz.prog:=qad qNA qoX
theorem quW (n:Int):runG ΓL9 L0 Tryz.prog Tryz.f17 [.v (I n)] M0=(bif decide (n<1) then some (.v (.tuple #[Value.pointer none,I 1]),M0) else (bif decide (n>4096) then some (.v (.tuple #[Value.pointer none,I 1]),M0) else (bif decide (1≤n∧n≤8192) then some (.tup [.one (.ptr 0 0),.one (.v (I 0))],FM (qzE n 255) true 1000000 0 false false 0) else none))):=by kernel_rfl
def gFNew (xs:List SV) (m:Mem):Option (Bool×SV×Mem) :=
 match xs,m with
 | [.v (.int .i64 n)],⟨[],[],[]⟩=>some (decide (1≤n∧n≤4096),.tup [.one (.ptr 0 0),.one (.v (I 0))],FM (qdG (qzV n.toNat 255)) true 1000000 0 false false 0)
 | _,_=>none
theorem gFNew_ok:CtC 17 gFNew:=by
 intro xs m r m' h
 unfold gFNew at h
 split at h
 ·rename_i n
  obtain ⟨h1,rfl,rfl⟩:=qaf h
  refine qal (Λ:=L0) qPw Tryz.func17 rfl l00 ?_
  exact (quW n).trans (by
   have h1:=of_decide_eq_true h1
   rw [decide_eq_false (show ¬ n<1 by omega),decide_eq_false (show ¬ n>4096 by omega),decide_eq_true (show 1≤n∧n≤8192 by omega),qqt]
   rfl)
 ·cases h
def ΓL10:Orc:=qau 17 gFNew ΓL9
theorem qNF:ΓL10.Ok Tryz.prog:=qad qPw gFNew_ok
def ΓFl:Orc:=ΓL10
theorem OkFl:ΓFl.Ok Tryz.prog:=qNF
end Go.Proofs.YtainfdcfkgemhaaGreat.Fq
namespace Go.Proofs.YtainfdcfkgemhaaGreat.La
open Go Go.Proofs Go.Sx Fq
set_option linter.unusedVariables false
def qaN (n l m:Int):Bool:=bif decide (n≥l) then decide (n≤m) else false
theorem qpl (n:Int):IntKind.u8.wrap n=n % 256:=by rw [← qbr true];rfl
theorem qs2 (b:UInt8):0≤(b.toNat:Int)∧(b.toNat:Int)<256:=by
 have:=qba b
 omega
theorem runUpTo (n m:Int):runG ΓO L0 Tryz.prog Tryz.f285 [.v (I n),.v (I m)] M0=(bif decide (n≥(0:Int)) then some (.v (Bo (decide (n≤m))),M0) else some (.v (Bo false),M0)):=by kernel_rfl
def gUpTo (vs:List Value):Option (Bool×Value) :=
 match vs with
 | [.int .i64 n,.int .i64 m]=>some (true,Bo (qaN n 0 m))
 | _=>none
theorem gUpTo_ok:CtV 285 gUpTo:=by
 intro vs r h
 unfold gUpTo at h
 split at h
 ·rename_i n m
  obtain ⟨h1,rfl⟩:=qac h
  refine qaA (vs:=[I n,I m]) (Λ:=L0) (m':=M0) OkO Tryz.func285 rfl l00 ?_
  exact (runUpTo n m).trans (by
   unfold qaN
   cases decide (n≥0)<;>rfl)
 ·cases h
def ΓA1:Orc:=qah 285 gUpTo ΓFl
theorem OkA1:ΓA1.Ok Tryz.prog:=qaa OkFl gUpTo_ok
def ΓA2:Orc:=ΓA1
theorem OkA2:ΓA2.Ok Tryz.prog:=OkA1
theorem qyX (n:Int):runG ΓA2 L0 Tryz.prog Tryz.f286 [.v (I n)] M0=some (.v (S (be (4:Nat) (IntKind.u64.wrap n))),M0):=by kernel_rfl
def qAm (vs:List Value):Option (Bool×Value) :=
 match vs with
 | [.int .i64 n]=>some (true,S (be 4 n))
 | _=>none
theorem qv5:CtV 286 qAm:=by
 intro vs r h
 unfold qAm at h
 split at h
 ·rename_i n
  obtain ⟨h1,rfl⟩:=qac h
  refine qaA (vs:=[I n]) (Λ:=L0) (m':=M0) OkA2 Tryz.func286 rfl l00 ?_
  exact (qyX n).trans (by rw [qfO])
 ·cases h
def ΓA3:Orc:=qah 286 qAm ΓA2
theorem OkA3:ΓA3.Ok Tryz.prog:=qaa OkA2 qv5
theorem qog (n:Int):runG ΓA3 L0 Tryz.prog Tryz.f287 [.v (I n)] M0=some (.v (S (be (1:Nat) (IntKind.u64.wrap n))),M0):=by kernel_rfl
def qiA (vs:List Value):Option (Bool×Value) :=
 match vs with
 | [.int .i64 n]=>some (true,S (be 1 n))
 | _=>none
theorem qlT:CtV 287 qiA:=by
 intro vs r h
 unfold qiA at h
 split at h
 ·rename_i n
  obtain ⟨h1,rfl⟩:=qac h
  refine qaA (vs:=[I n]) (Λ:=L0) (m':=M0) OkA3 Tryz.func287 rfl l00 ?_
  exact (qog n).trans (by rw [qiP])
 ·cases h
def ΓA4:Orc:=qah 287 qiA ΓA3
theorem OkA4:ΓA4.Ok Tryz.prog:=qaa OkA3 qlT
theorem qoh (s:ByteArray):runG ΓA4 L0 Tryz.prog Tryz.f249 [.v (S s)] M0=bif szS s then some (.v (I (wI ((numN s:Nat):Int))),M0) else none:=by kernel_rfl
def qiC (vs:List Value):Option (Bool×Value) :=
 match vs with
 | [.string s]=>some (szS s,I (wI ((numN s:Nat):Int)))
 | _=>none
theorem qlZ:CtV 249 qiC:=by
 intro vs r h
 unfold qiC at h
 split at h
 ·rename_i s
  obtain ⟨h1,rfl⟩:=qac h
  refine qaA (vs:=[S s]) (Λ:=L0) (m':=M0) OkA4 Tryz.func249 rfl l00 ?_
  exact (qoh s).trans (by rw [h1];rfl)
 ·cases h
def ΓA5:Orc:=qah 249 qiC ΓA4
theorem OkA5:ΓA5.Ok Tryz.prog:=qaa OkA4 qlZ
def ΓA6:Orc:=ΓA5
theorem OkA6:ΓA6.Ok Tryz.prog:=OkA5
def ΓA7:Orc:=ΓA6
theorem OkA7:ΓA7.Ok Tryz.prog:=OkA6
theorem qqq (n:Int):runG ΓA7 L0 Tryz.prog Tryz.f188 [.v (I n)] M0=some (.v (I ((wI (n+1)).tmod 2)),M0):=by kernel_rfl
def ql7 (vs:List Value):Option (Bool×Value) :=
 match vs with
 | [.int .i64 n]=>some (true,I ((wI (n+1)).tmod 2))
 | _=>none
theorem qo0:CtV 188 ql7:=by
 intro vs r h
 unfold ql7 at h
 split at h
 ·rename_i n
  obtain ⟨h1,rfl⟩:=qac h
  refine qaA (vs:=[I n]) (Λ:=L0) (m':=M0) OkA7 Tryz.func188 rfl l00 ?_
  exact (qqq n).trans (rfl)
 ·cases h
def ΓA8:Orc:=qah 188 ql7 ΓA7
theorem OkA8:ΓA8.Ok Tryz.prog:=qaa OkA7 qo0
def ΓLa:Orc:=ΓA8
theorem qJi:ΓLa.Ok Tryz.prog:=OkA8
end Go.Proofs.YtainfdcfkgemhaaGreat.La
namespace Go.Proofs.YtainfdcfkgemhaaGreat.La
open Go Go.Proofs Go.Sx Fq
set_option linter.unusedVariables false
def rightL (q c p s f v d i n:Int):Bool:=bif qaN v 0 255 then (bif qaN d 0 255 then (bif qaN i 0 255 then (bif qaN p 0 3 then (bif qaN s 0 2 then (bif qaN f 0 1 then (bif qaN q 1 2147483648 then (bif qaN c 0 1000000 then qaN n 0 1000000 else false) else false) else false) else false) else false) else false) else false) else false
def MR (q c p s f v d i n:Int):Mem:=⟨[[.v (I q),.v (I c),.v (I p),.v (I s),.v (I f),.v (I v),.v (I d),.v (I i),.v (I n)]],[true],[]⟩
def qI4:Code:=qaH (Tryz.f222.body.getD .skip) 0
def kRt:List Bool:=qam 53 [1,11,12]
def xRt (e:Ex):List Bool:=match e with
 | .exit _=>qam 53 [1]
 | _=>qam 53 [2]
def KRt (e:Ex) (st:St):Option (Ex×St):=some (e,qav 0 0 (xRt e) st)
def HRt (q c p s f v d i n:Int):St:=mk kRt [.ptr 0 0,.v (.agg #[I v,I d,I i]),.v (I 0)] (MR q c p s f v d i n)
def RRt:St:=mk (qam 53 [2]) [.v (Bo false)] M0
def ERt (q c p s f v d i n:Int):St:=mk (qam 53 [1]) [.ptr 0 0] (MR q c p s f v d i n)
def qxh (v d i:Int):Bool:=bif qaN v 0 255 then (bif qaN d 0 255 then qaN i 0 255 else false) else false
theorem qq8:qak (Tryz.f222.body.getD .skip)=[qI4]:=by kernel_rfl
theorem qvv:qak qI4=[]:=by kernel_rfl
theorem qxJ (q c p s f v d i n:Int):qaj ΓLa Tryz.prog L0 (qav 0 0 kRt) qI4 4 (HRt q c p s f v d i n) KRt=bif !qaN v 0 255 then some (.ret,RRt) else (bif !qaN d 0 255 then some (.ret,RRt) else (bif !qaN i 0 255 then some (.ret,RRt) else some (.exit 0,ERt q c p s f v d i n))):=by kernel_rfl
def GRt (bad:Bool) (vals:List SV) (m:Mem):Option (Bool×Ex×St) :=
 match vals,m with
 | [.ptr 0 0,.v (.agg ⟨[.int .i64 v',.int .i64 d',.int .i64 i']⟩),.v (.int .i64 0)],⟨[[.v (.int .i64 q),.v (.int .i64 c),.v (.int .i64 p),.v (.int .i64 s),.v (.int .i64 f),.v (.int .i64 v),.v (.int .i64 d),.v (.int .i64 i),.v (.int .i64 n)]],[true],[]⟩=>bif bad then some (v'==v&&(d'==d&&(i'==i&&!qxh v d i)),.ret,RRt) else some (v'==v&&(d'==d&&(i'==i&&qxh v d i)),.exit 0,ERt q c p s f v d i n)
 | _,_=>none
def ΛRt (bad:Bool):qao:=fun _ st=>qeb 0 0 kRt (GRt bad) st
theorem qnd (bad:Bool) (z:Base) (z1:z.L.length=0) (z2:z.U.length=0):qas (ΛRt bad) Tryz.prog z qI4:=by
 refine qaF (Λ:=L0) (kx:=xRt) qJi mixed z1 z2 (fun b hb=>by rw [qvv] at hb;cases hb) (G:=GRt bad) (fun _=>rfl) ?_
 intro vals m e st' h
 unfold GRt at h
 split at h
 ·rename_i v' d' i' q c p s f v d i n
  cases bad
  ·simp only [cond_false] at h
   obtain ⟨h1,rfl,rfl⟩:=qaf h
   simp only [Bool.and_eq_true,beq_iff_eq] at h1
   obtain ⟨rfl,rfl,rfl,h1⟩:=h1
   refine ⟨4,(qxJ q c p s f v' d' i' n).trans ?_⟩
   unfold qxh at h1
   revert h1
   cases qaN v' 0 255<;>cases qaN d' 0 255<;>cases qaN i' 0 255<;>intro h1<;>first|rfl|cases h1
  ·simp only [cond_true] at h
   obtain ⟨h1,rfl,rfl⟩:=qaf h
   simp only [Bool.and_eq_true,beq_iff_eq] at h1
   obtain ⟨rfl,rfl,rfl,h1⟩:=h1
   refine ⟨4,(qxJ q c p s f v' d' i' n).trans ?_⟩
   unfold qxh at h1
   revert h1
   cases qaN v' 0 255<;>cases qaN d' 0 255<;>cases qaN i' 0 255<;>intro h1<;>first|rfl|cases h1
 ·cases h
theorem qES (q c p s f v d i n:Int):runG ΓLa (ΛRt true) Tryz.prog Tryz.f222 [.v (.agg #[I q,I c,I p,I s,I f,I v,I d,I i,I n])] M0 =
 (bif v==v&&(d==d&&(i==i&&!qxh v d i)) then some (.v (Bo false),M0) else none):=by kernel_rfl
theorem qER (q c p s f v d i n:Int):runG ΓLa (ΛRt false) Tryz.prog Tryz.f222 [.v (.agg #[I q,I c,I p,I s,I f,I v,I d,I i,I n])] M0 =
 (bif v==v&&(d==d&&(i==i&&qxh v d i)) then (bif !qaN p (0:Int) (3:Int) then some (.v (Bo false),M0) else (bif !qaN s (0:Int) (2:Int) then some (.v (Bo false),M0) else (bif !qaN f (0:Int) (1:Int) then some (.v (Bo false),M0) else (bif decide (q>(0:Int)) then (bif qaN q (0:Int) (2147483648:Int) then (bif qaN c (0:Int) (1000000:Int) then some (.v (Bo (qaN n (0:Int) (1000000:Int))),M0) else some (.v (Bo false),M0)) else some (.v (Bo false),M0)) else some (.v (Bo false),M0))))) else none):=by kernel_rfl
def gRight (vs:List Value):Option (Bool×Value) :=
 match vs with
 | [.agg ⟨[.int .i64 q,.int .i64 c,.int .i64 p,.int .i64 s,.int .i64 f,.int .i64 v,.int .i64 d,.int .i64 i,.int .i64 n]⟩]=>some (true,Bo (rightL q c p s f v d i n))
 | _=>none
theorem qJt (q:Int):qaN q 1 2147483648=(bif decide (q>0) then qaN q 0 2147483648 else false):=by
 unfold qaN
 by_cases h:q>0
 ·rw [decide_eq_true h,decide_eq_true (show q≥1 by omega),decide_eq_true (show q≥0 by omega)];rfl
 ·rw [decide_eq_false h,decide_eq_false (show ¬ q≥1 by omega)];rfl
theorem gRight_ok:CtV 222 gRight:=by
 intro vs r h
 unfold gRight at h
 split at h
 ·rename_i q c p s f v d i n
  obtain ⟨h1,rfl⟩:=qac h
  cases ha:qxh v d i
  ·refine qaA (vs:=[.agg #[I q,I c,I p,I s,I f,I v,I d,I i,I n]]) (Λ:=ΛRt true) (m':=M0) qJi Tryz.func222 rfl (fun z z1 z2=>qax (c:=Tryz.f222.body.getD .skip) qq8 (qnd true z z1 z2)) ?_
   refine (qES q c p s f v d i n).trans ?_
   rw [beq_self_eq_true,beq_self_eq_true,beq_self_eq_true,ha]
   have e:rightL q c p s f v d i n=false:=by
    unfold qxh at ha
    unfold rightL
    revert ha
    cases qaN v 0 255<;>cases qaN d 0 255<;>cases qaN i 0 255<;>intro ha<;>first|rfl|cases ha
   rw [e]
   rfl
  ·refine qaA (vs:=[.agg #[I q,I c,I p,I s,I f,I v,I d,I i,I n]]) (Λ:=ΛRt false) (m':=M0) qJi Tryz.func222 rfl (fun z z1 z2=>qax (c:=Tryz.f222.body.getD .skip) qq8 (qnd false z z1 z2)) ?_
   refine (qER q c p s f v d i n).trans ?_
   rw [beq_self_eq_true,beq_self_eq_true,beq_self_eq_true,ha]
   have e:rightL q c p s f v d i n=(bif qaN p 0 3 then (bif qaN s 0 2 then (bif qaN f 0 1 then (bif qaN q 1 2147483648 then (bif qaN c 0 1000000 then qaN n 0 1000000 else false) else false) else false) else false) else false):=by
    unfold qxh at ha
    unfold rightL
    revert ha
    cases qaN v 0 255<;>cases qaN d 0 255<;>cases qaN i 0 255<;>intro ha<;>first|rfl|cases ha
   rw [e,qJt]
   cases qaN p 0 3
   ·rfl
   cases qaN s 0 2
   ·rfl
   cases qaN f 0 1
   ·rfl
   cases decide (q>0)
   ·rfl
   cases qaN q 0 2147483648
   ·rfl
   cases qaN c 0 1000000
   ·rfl
   rfl
 ·cases h
def ΓLb:Orc:=qah 222 gRight ΓLa
theorem OkLb:ΓLb.Ok Tryz.prog:=qaa qJi gRight_ok
def ΓLc:Orc:=ΓLb
theorem OkLc:ΓLc.Ok Tryz.prog:=OkLb
def ΓLd:Orc:=ΓLc
theorem qPv:ΓLd.Ok Tryz.prog:=OkLc
end Go.Proofs.YtainfdcfkgemhaaGreat.La
namespace Go.Proofs.YtainfdcfkgemhaaGreat.La
open Go Go.Proofs Go.Sx Fq
set_option linter.unusedVariables false
def qHG (q c p s f v d i n:Int):ByteArray:=be 4 q++be 4 c++be 1 (wI (wI (p+wI (4*f))+wI (16*s)))++(be 1 v++be 1 d++be 1 i)++be 4 n
def recS (q c p s f v d i n:Int):ByteArray:=bif !rightL q c p s f v d i n then ⟨#[]⟩ else qHG q c p s f v d i n++be 4 (wI (qf0 (qHG q c p s f v d i n)))++be 4 q
theorem qqa (q c p s f v d i n:Int):runG ΓLd L0 Tryz.prog Tryz.f224 [.v (.agg #[I q,I c,I p,I s,I f,I v,I d,I i,I n])] M0 =
 (bif !rightL q c p s f v d i n then some (.v (S { data:=#[]:ByteArray }),M0) else some (.v (S (be (4:Nat) q++be (4:Nat) c++be (1:Nat) (wI (wI (p+wI ((4:Int)*f))+wI ((16:Int)*s)))++(be (1:Nat) v++be (1:Nat) d++be (1:Nat) i)++be (4:Nat) n++be (4:Nat) (wI (qf0 (be (4:Nat) q++be (4:Nat) c++be (1:Nat) (wI (wI (p+wI ((4:Int)*f))+wI ((16:Int)*s)))++(be (1:Nat) v++be (1:Nat) d++be (1:Nat) i)++be (4:Nat) n)))++be (4:Nat) q)),M0)):=by kernel_rfl
def gPrint (vs:List Value):Option (Bool×Value) :=
 match vs with
 | [.agg ⟨[.int .i64 q,.int .i64 c,.int .i64 p,.int .i64 s,.int .i64 f,.int .i64 v,.int .i64 d,.int .i64 i,.int .i64 n]⟩]=>some (true,S (recS q c p s f v d i n))
 | _=>none
theorem qoW:CtV 224 gPrint:=by
 intro vs r h
 unfold gPrint at h
 split at h
 ·rename_i q c p s f v d i n
  obtain ⟨h1,rfl⟩:=qac h
  refine qaA (vs:=[.agg #[I q,I c,I p,I s,I f,I v,I d,I i,I n]]) (Λ:=L0) (m':=M0) qPv Tryz.func224 rfl (fun z z1 z2=>qAe _ z) ?_
  refine (qqa q c p s f v d i n).trans ?_
  unfold recS
  cases rightL q c p s f v d i n<;>rfl
 ·cases h
def ΓLe:Orc:=qah 224 gPrint ΓLd
theorem qJh:ΓLe.Ok Tryz.prog:=qaa qPv qoW
def ΓLf:Orc:=ΓLe
theorem qJg:ΓLf.Ok Tryz.prog:=qJh
def ΓLfa:Orc:={ ΓLf with av:=true }
theorem qNz:ΓLfa.Ok Tryz.prog:=⟨qJg.call,qJg.rd,qJg.eqv⟩
def qdm (s:ByteArray):Option (SV×Mem):=bif !(recS (wI (((numN (s.extract (0:Nat) (4:Nat))):Int):Int)) (wI (((numN (s.extract (4:Nat) (8:Nat))):Int):Int)) (wI ((qan s (8:Int)).tmod (4:Int))) (wI (IntKind.u8.wrap ((qan s (8:Int)).tdiv (16:Int)))) (wI (IntKind.u8.wrap (((qan s (8:Int)).tmod (16:Int)).tdiv (4:Int)))) (wI (qan s (9:Int))) (wI (qan s (10:Int))) (wI (qan s (11:Int))) (wI (((numN (s.extract (12:Nat) (16:Nat))):Int):Int))).toList==s.toList then some (.v (.tuple #[(.agg #[(I 0),(I 0),(I 0),(I 0),(I 0),(I 0),(I 0),(I 0),(I 0)]),(Bo false)]),M0) else some (.v (.tuple #[(.agg #[(I (wI (((numN (s.extract (0:Nat) (4:Nat))):Int):Int))),(I (wI (((numN (s.extract (4:Nat) (8:Nat))):Int):Int))),(I (wI ((qan s (8:Int)).tmod (4:Int)))),(I (wI (IntKind.u8.wrap ((qan s (8:Int)).tdiv (16:Int))))),(I (wI (IntKind.u8.wrap (((qan s (8:Int)).tmod (16:Int)).tdiv (4:Int))))),(I (wI (qan s (9:Int)))),(I (wI (qan s (10:Int)))),(I (wI (qan s (11:Int)))),(I (wI (((numN (s.extract (12:Nat) (16:Nat))):Int):Int)))]),(Bo true)]),M0)
def qdn (s:ByteArray):Option (SV×Mem):=same ((qdm s)) ((qdm s))
def qdo (s:ByteArray):Option (SV×Mem):=bif true&&decide ((9:Int)<((s.size:Int):Int)) then (bif true&&decide ((10:Int)<((s.size:Int):Int)) then (bif true&&decide ((11:Int)<((s.size:Int):Int)) then (same ((same ((qdm s)) ((qdn s)))) ((same ((qdn s)) ((qdn s))))) else none) else none) else none
def qdp (s:ByteArray):Option (SV×Mem):=same ((qdo s)) ((qdo s))
theorem quQ (s:ByteArray):runG ΓLfa L0 Tryz.prog Tryz.f187 [.v (S s)] M0 =
 (bif ((s.size:Int):Int) != (24:Int) then some (.v (.tuple #[(.agg #[(I 0),(I 0),(I 0),(I 0),(I 0),(I 0),(I 0),(I 0),(I 0)]),(Bo false)]),M0) else (bif true&&(true&&decide ((4:Int)≤((s.size:Int):Int))) then (bif szS (s.extract (0:Nat) (4:Nat)) then (bif true&&(true&&decide ((8:Int)≤((s.size:Int):Int))) then (bif szS (s.extract (4:Nat) (8:Nat)) then (bif true&&(true&&decide ((16:Int)≤((s.size:Int):Int))) then (bif szS (s.extract (12:Nat) (16:Nat)) then (bif true&&decide ((8:Int)<((s.size:Int):Int)) then (bif true&&decide ((8:Int)<((s.size:Int):Int)) then (bif true&&decide ((8:Int)<((s.size:Int):Int)) then (same ((same ((qdo s)) ((qdp s)))) ((same ((qdp s)) ((qdp s))))) else none) else none) else none) else none) else none) else none) else none) else none) else none)):=by kernel_rfl
end Go.Proofs.YtainfdcfkgemhaaGreat.La
namespace Go.Proofs.YtainfdcfkgemhaaGreat.La
open Go Go.Proofs Go.Sx Fq
set_option linter.unusedVariables false
def qS (s:ByteArray):Int:=((numN (s.extract 0 4):Nat):Int)
def cS (s:ByteArray):Int:=((numN (s.extract 4 8):Nat):Int)
def nS (s:ByteArray):Int:=((numN (s.extract 12 16):Nat):Int)
def pS (s:ByteArray):Int:=qan s 8 % 4
def uS (s:ByteArray):Int:=qan s 8 / 16
def fS (s:ByteArray):Int:=qan s 8 % 16 / 4
def rdS (s:ByteArray):ByteArray:=recS (qS s) (cS s) (pS s) (uS s) (fS s) (qan s 9) (qan s 10) (qan s 11) (nS s)
def okS (s:ByteArray):Bool:=bif (s.size:Int) != 24 then false else (rdS s).toList==s.toList
def zI (b:Bool) (x:Int):Int:=bif b then x else 0
def gRead (vs:List Value):Option (Bool×Value) :=
 match vs with
 | [.string s]=>some (true,.tuple #[.agg #[I (zI (okS s) (qS s)),I (zI (okS s) (cS s)),I (zI (okS s) (pS s)),I (zI (okS s) (uS s)),I (zI (okS s) (fS s)),I (zI (okS s) (qan s 9)),I (zI (okS s) (qan s 10)),I (zI (okS s) (qan s 11)),I (zI (okS s) (nS s))],Bo (okS s)])
 | _=>none
theorem qw6 {b:Int} (h:0≤b∧b<256):wI (b.tmod 4)=b % 4∧wI (IntKind.u8.wrap (b.tdiv 16))=b / 16∧wI (IntKind.u8.wrap ((b.tmod 16).tdiv 4))=b % 16 / 4∧b.tmod 4=b % 4∧wI (b.tdiv 16)=b / 16∧wI ((b.tmod 16).tdiv 4)=b % 16 / 4∧wI b=b:=by
 rw [Int.tmod_eq_emod_of_nonneg h.1,Int.tmod_eq_emod_of_nonneg h.1,Int.tdiv_eq_ediv_of_nonneg h.1,Int.tdiv_eq_ediv_of_nonneg (show 0≤b % 16 by omega),qpl,qpl,qaw (n:=b % 4) (by omega),qaw (n:=b / 16 % 256) (by omega),qaw (n:=b % 16 / 4 % 256) (by omega),qaw (n:=b / 16) (by omega),qaw (n:=b % 16 / 4) (by omega),qaw (n:=b) (by omega)]
 refine ⟨rfl,by omega,by omega,rfl,rfl,rfl,rfl⟩
theorem qdj (s:ByteArray) (k:Nat):0≤qan s (k:Int)∧qan s (k:Int)<256:=by
 rw [qbL]
 cases (L s)[k]? with
 | none=>exact ⟨by decide,by decide⟩
 | some b=>exact qs2 b
theorem qzP {s:ByteArray} {i:Nat} (h:i+4≤s.size):((numN (s.extract i (i+4)):Nat):Int)<4294967296:=by
 obtain ⟨b0,b1,b2,b3,hb,e0,e1,e2,e3⟩:=qCa h
 rw [qqX hb]
 have:=qs2 b0
 have:=qs2 b1
 have:=qs2 b2
 have:=qs2 b3
 omega
theorem qll {s:ByteArray} {i:Nat} (h:i+4≤s.size):wI ((numN (s.extract i (i+4)):Nat):Int)=((numN (s.extract i (i+4)):Nat):Int):=by
 have:=qzP h
 exact qaw (by omega)
theorem szS_ext {s:ByteArray} (h:s.size=24) (a b:Nat):szS (s.extract a b)=true:=Nat.ble_eq_true_of_le (by rw [ByteArray.size_extract];omega)
theorem qrZ:CtV 187 gRead:=by
 intro vs r h
 unfold gRead at h
 split at h
 ·rename_i s
  obtain ⟨h1,rfl⟩:=qac h
  refine qaA (vs:=[S s]) (Λ:=L0) (m':=M0) qNz Tryz.func187 rfl (fun z z1 z2=>qAe _ z) ?_
  refine (quQ s).trans ?_
  unfold qdp qdo qdn qdm
  by_cases hs:s.size=24
  ·have e0:wI ((numN (s.extract 0 4):Nat):Int)=qS s:=qll (i:=0) (by omega)
   have e1:wI ((numN (s.extract 4 8):Nat):Int)=cS s:=qll (i:=4) (by omega)
   have e2:wI ((numN (s.extract 12 16):Nat):Int)=nS s:=qll (i:=12) (by omega)
   obtain ⟨a1,a2,a3,_⟩:=qw6 (qdj s 8)
   have b9:wI (qan s 9)=qan s 9:=(qw6 (qdj s 9)).2.2.2.2.2.2
   have b10:wI (qan s 10)=qan s 10:=(qw6 (qdj s 10)).2.2.2.2.2.2
   have b11:wI (qan s 11)=qan s 11:=(qw6 (qdj s 11)).2.2.2.2.2.2
   rw [show ((8:Nat):Int)=(8:Int) from rfl] at a1 a2 a3
   rw [e0,e1,e2,a1,a2,a3,b9,b10,b11,szS_ext hs,szS_ext hs,szS_ext hs]
   have hz:okS s=((rdS s).toList==s.toList):=by
    unfold okS
    rw [hs]
    rfl
   rw [hs,hz,show (true&&decide ((9:Int)<((24:Nat):Int)))=true from rfl,show (true&&decide ((10:Int)<((24:Nat):Int)))=true from rfl,show (true&&decide ((11:Int)<((24:Nat):Int)))=true from rfl]
   simp only [cond_true,qa1]
   show (bif !((rdS s).toList==s.toList) then _ else _)=_
   cases ((rdS s).toList==s.toList)<;>rfl
  ·have hz:okS s=false:=by
    unfold okS
    rw [bne_iff_ne.2 (show (s.size:Int)≠24 by omega)]
    rfl
   rw [bne_iff_ne.2 (show (s.size:Int)≠24 by omega),hz]
   rfl
 ·cases h
def ΓLg:Orc:=qah 187 gRead ΓLf
theorem OkLg:ΓLg.Ok Tryz.prog:=qaa qJg qrZ
def ΓLh:Orc:=ΓLg
theorem qIr:ΓLh.Ok Tryz.prog:=OkLg
end Go.Proofs.YtainfdcfkgemhaaGreat.La
namespace Go.Proofs.YtainfdcfkgemhaaGreat.La
open Go Go.Proofs Go.Sx Fq
set_option linter.unusedVariables false
def ML (base q c p s f v d i n next:Int) (L:List (List Dat)) (mark:Bool) (mx w:Int) (down waits:Bool) (lets:Int):Mem:=⟨[[.ptr 1 0,.v (I base),.v (I q),.v (I c),.v (I p),.v (I s),.v (I f),.v (I v),.v (I d),.v (I i),.v (I n),.v (I next)],[.row 0,.ptr 2 0,.v (Bo down),.v (Bo waits),.v (I lets)],[.v (I mx),.v (I w)]],[true,true,true],[.live ⟨5,[.num .u8],L,true,mark⟩]⟩
def ΓLv:Orc:={ ΓLh with av:=true }
theorem OkLv:ΓLv.Ok Tryz.prog:=⟨qIr.call,qIr.rd,qIr.eqv⟩
theorem qp9 (base q c p s f v d i n next:Int) (down waits:Bool) (lets mx w:Int) (L:List (List Dat)) (mark:Bool):runG ΓLv L0 Tryz.prog Tryz.f66 [.ptr 0 0] (ML base q c p s f v d i n next L mark mx w down waits lets) =
 (same (some (.v (.tuple #[(.agg #[(I q),(I c),(I p),(I s),(I f),(I v),(I d),(I i),(I n)]),(Bo (decide (q>(0:Int))))]),⟨[[.ptr 1 0,.v (I base),.v (I q),.v (I c),.v (I p),.v (I s),.v (I f),.v (I v),.v (I d),.v (I i),.v (I n),.v (I next)],[.row 0,.ptr 2 0,.v (Bo down),.v (Bo waits),.v (I lets)],[.v (I mx),.v (I w)]],[true,true,true],[.live ⟨5,[.num .u8],L,true,mark⟩]⟩)) (some (.v (.tuple #[(.agg #[(I q),(I c),(I p),(I s),(I f),(I v),(I d),(I i),(I n)]),(Bo (decide (q>(0:Int))))]),⟨[[.ptr 1 0,.v (I base),.v (I q),.v (I c),.v (I p),.v (I s),.v (I f),.v (I v),.v (I d),.v (I i),.v (I n),.v (I next)],[.row 0,.ptr 2 0,.v (Bo down),.v (Bo waits),.v (I lets)],[.v (I mx),.v (I w)]],[true,true,true],[.live ⟨5,[.num .u8],L,true,mark⟩]⟩))):=by kernel_rfl
theorem quP (base q c p s f v d i n next:Int) (down waits:Bool) (lets mx w:Int) (L:List (List Dat)) (mark:Bool):runG ΓLv L0 Tryz.prog Tryz.f66 [.ptr 0 0] (ML base q c p s f v d i n next L mark mx w down waits lets)=some (.v (.tuple #[.agg #[I q,I c,I p,I s,I f,I v,I d,I i,I n],Bo (decide (q>0))]),(ML base q c p s f v d i n next L mark mx w down waits lets)):=(qp9 base q c p s f v d i n next down waits lets mx w L mark).trans (by (try simp only [qa1]);try rfl)
theorem quO:runG ΓLh L0 Tryz.prog Tryz.f66 [.v (.pointer none)] M0=some (.v (.tuple #[.agg #[I 0,I 0,I 0,I 0,I 0,I 0,I 0,I 0,I 0],Bo false]),M0):=by kernel_rfl
def gLast (xs:List SV) (m:Mem):Option (Bool×Value) :=
 match xs,m with
 | [.ptr 0 0],⟨[[.ptr 1 0,.v (.int .i64 base),.v (.int .i64 q),.v (.int .i64 c),.v (.int .i64 p),.v (.int .i64 s),.v (.int .i64 f),.v (.int .i64 v),.v (.int .i64 d),.v (.int .i64 i),.v (.int .i64 n),.v (.int .i64 next)],[.row 0,.ptr 2 0,.v (.bool down),.v (.bool waits),.v (.int .i64 lets)],[.v (.int .i64 mx),.v (.int .i64 w)]],[true,true,true],[.live ⟨5,[.num .u8],L,true,mark⟩]⟩=>some (true,.tuple #[.agg #[I q,I c,I p,I s,I f,I v,I d,I i,I n],Bo (decide (q>0))])
 | [.v (.pointer none)],⟨[],[],[]⟩=>some (true,.tuple #[.agg #[I 0,I 0,I 0,I 0,I 0,I 0,I 0,I 0,I 0],Bo false])
 | _,_=>none
theorem gLast_ok:CtR 66 gLast:=by
 intro xs m r h
 unfold gLast at h
 split at h
 ·rename_i base q c p s f v d i n next down waits lets mx w L mark
  obtain ⟨h1,rfl⟩:=qac h
  refine qal (Λ:=L0) OkLv Tryz.func66 rfl l00 ?_
  exact quP base q c p s f v d i n next down waits lets mx w L mark
 ·obtain ⟨h1,rfl⟩:=qac h
  refine qal (Λ:=L0) qIr Tryz.func66 rfl l00 ?_
  exact (quO ).trans (rfl)
 ·cases h
def ΓN1:Orc:=qay 66 gLast ΓLh
theorem OkN1:ΓN1.Ok Tryz.prog:=qai qIr gLast_ok
def ΓLj:Orc:=ΓN1
theorem OkLj:ΓLj.Ok Tryz.prog:=OkN1
end Go.Proofs.YtainfdcfkgemhaaGreat.La
namespace Go.Proofs.YtainfdcfkgemhaaGreat.La
open Go Go.Proofs Go.Sx Fq
set_option linter.unusedVariables false
def ΓLk:Orc:=ΓLj
theorem OkLk:ΓLk.Ok Tryz.prog:=OkLj
def ΓLw:Orc:={ ΓLe with wr:=fun f=>Nat.beq f 223 }
theorem qPu:ΓLw.Ok Tryz.prog:=⟨qJh.call,qJh.rd,qJh.eqv⟩
def qg2 (base:Int) (q:Int) (next:Int) (down:Bool) (waits:Bool) (lets:Int) (mx:Int) (w:Int) (L:List (List Dat)) (mark:Bool) (c':Int) (p':Int) (s':Int) (f':Int) (v':Int) (d':Int) (i':Int) (n':Int):Option (SV×Mem):=some (.v (I 0),⟨[[.ptr 1 0,.v (I base),.v (I (wI (q+(1:Int)))),.v (I c'),.v (I p'),.v (I s'),.v (I f'),.v (I v'),.v (I d'),.v (I i'),.v (I n'),.v (I ((wI (next+(1:Int))).tmod (2)))],[.row 0,.ptr 2 0,.v (Bo (wrD (txt L) down waits (wI (base+wI (next*(24:Int)))) (recS (wI (q+(1:Int))) c' p' s' f' v' d' i' n'))),.v (Bo (wrW (txt L) down waits (wI (base+wI (next*(24:Int)))) (recS (wI (q+(1:Int))) c' p' s' f' v' d' i' n'))),.v (I lets)],[.v (I mx),.v (I (wrV (txt L) mx w down (wI (base+wI (next*(24:Int)))) (recS (wI (q+(1:Int))) c' p' s' f' v' d' i' n')))]],[true,true,true],[.live ⟨5,[.num .u8],(qdG (Fq.wrB (txt L) down waits lets (wI (base+wI (next*(24:Int)))) (recS (wI (q+(1:Int))) c' p' s' f' v' d' i' n'))),true,mark⟩]⟩)
theorem qul (base q c p s f v d i n next:Int) (down waits:Bool) (lets mx w:Int) (L:List (List Dat)) (mark:Bool) (q' c' p' s' f' v' d' i' n':Int):runG ΓLw L0 Tryz.prog Tryz.f156 [.ptr 0 0,.v (.agg #[I q',I c',I p',I s',I f',I v',I d',I i',I n'])] (ML base q c p s f v d i n next L mark mx w down waits lets) =
 (bif !rightL (wI (q+(1:Int))) c' p' s' f' v' d' i' n' then some (.v (I 1),⟨[[.ptr 1 0,.v (I base),.v (I q),.v (I c),.v (I p),.v (I s),.v (I f),.v (I v),.v (I d),.v (I i),.v (I n),.v (I next)],[.row 0,.ptr 2 0,.v (Bo down),.v (Bo waits),.v (I lets)],[.v (I mx),.v (I w)]],[true,true,true],[.live ⟨5,[.num .u8],L,true,mark⟩]⟩) else (bif okL L lets then (bif wrE (txt L) down waits (wI (base+wI (next*(24:Int)))) (recS (wI (q+(1:Int))) c' p' s' f' v' d' i' n') != (0:Int) then some (.v (I (wrE (txt L) down waits (wI (base+wI (next*(24:Int)))) (recS (wI (q+(1:Int))) c' p' s' f' v' d' i' n'))),⟨[[.ptr 1 0,.v (I base),.v (I q),.v (I c),.v (I p),.v (I s),.v (I f),.v (I v),.v (I d),.v (I i),.v (I n),.v (I next)],[.row 0,.ptr 2 0,.v (Bo (wrD (txt L) down waits (wI (base+wI (next*(24:Int)))) (recS (wI (q+(1:Int))) c' p' s' f' v' d' i' n'))),.v (Bo (wrW (txt L) down waits (wI (base+wI (next*(24:Int)))) (recS (wI (q+(1:Int))) c' p' s' f' v' d' i' n'))),.v (I lets)],[.v (I mx),.v (I (wrV (txt L) mx w down (wI (base+wI (next*(24:Int)))) (recS (wI (q+(1:Int))) c' p' s' f' v' d' i' n')))]],[true,true,true],[.live ⟨5,[.num .u8],(qdG (Fq.wrB (txt L) down waits lets (wI (base+wI (next*(24:Int)))) (recS (wI (q+(1:Int))) c' p' s' f' v' d' i' n'))),true,mark⟩]⟩) else (same (qg2 base q next down waits lets mx w L mark c' p' s' f' v' d' i' n') (qg2 base q next down waits lets mx w L mark c' p' s' f' v' d' i' n'))) else none)):=by kernel_rfl
theorem qy9 (base q c p s f v d i n next:Int) (down waits:Bool) (lets mx w:Int) (L:List (List Dat)) (mark:Bool) (q' c' p' s' f' v' d' i' n':Int):runG ΓLw L0 Tryz.prog Tryz.f156 [.ptr 0 0,.v (.agg #[I q',I c',I p',I s',I f',I v',I d',I i',I n'])] (ML base q c p s f v d i n next L mark mx w down waits lets) =
 (bif !rightL (wI (q+(1:Int))) c' p' s' f' v' d' i' n' then some (.v (I 1),⟨[[.ptr 1 0,.v (I base),.v (I q),.v (I c),.v (I p),.v (I s),.v (I f),.v (I v),.v (I d),.v (I i),.v (I n),.v (I next)],[.row 0,.ptr 2 0,.v (Bo down),.v (Bo waits),.v (I lets)],[.v (I mx),.v (I w)]],[true,true,true],[.live ⟨5,[.num .u8],L,true,mark⟩]⟩) else (bif okL L lets then (bif wrE (txt L) down waits (wI (base+wI (next*(24:Int)))) (recS (wI (q+(1:Int))) c' p' s' f' v' d' i' n') != (0:Int) then some (.v (I (wrE (txt L) down waits (wI (base+wI (next*(24:Int)))) (recS (wI (q+(1:Int))) c' p' s' f' v' d' i' n'))),⟨[[.ptr 1 0,.v (I base),.v (I q),.v (I c),.v (I p),.v (I s),.v (I f),.v (I v),.v (I d),.v (I i),.v (I n),.v (I next)],[.row 0,.ptr 2 0,.v (Bo (wrD (txt L) down waits (wI (base+wI (next*(24:Int)))) (recS (wI (q+(1:Int))) c' p' s' f' v' d' i' n'))),.v (Bo (wrW (txt L) down waits (wI (base+wI (next*(24:Int)))) (recS (wI (q+(1:Int))) c' p' s' f' v' d' i' n'))),.v (I lets)],[.v (I mx),.v (I (wrV (txt L) mx w down (wI (base+wI (next*(24:Int)))) (recS (wI (q+(1:Int))) c' p' s' f' v' d' i' n')))]],[true,true,true],[.live ⟨5,[.num .u8],(qdG (Fq.wrB (txt L) down waits lets (wI (base+wI (next*(24:Int)))) (recS (wI (q+(1:Int))) c' p' s' f' v' d' i' n'))),true,mark⟩]⟩) else some (.v (I 0),⟨[[.ptr 1 0,.v (I base),.v (I (wI (q+(1:Int)))),.v (I c'),.v (I p'),.v (I s'),.v (I f'),.v (I v'),.v (I d'),.v (I i'),.v (I n'),.v (I ((wI (next+(1:Int))).tmod (2)))],[.row 0,.ptr 2 0,.v (Bo (wrD (txt L) down waits (wI (base+wI (next*(24:Int)))) (recS (wI (q+(1:Int))) c' p' s' f' v' d' i' n'))),.v (Bo (wrW (txt L) down waits (wI (base+wI (next*(24:Int)))) (recS (wI (q+(1:Int))) c' p' s' f' v' d' i' n'))),.v (I lets)],[.v (I mx),.v (I (wrV (txt L) mx w down (wI (base+wI (next*(24:Int)))) (recS (wI (q+(1:Int))) c' p' s' f' v' d' i' n')))]],[true,true,true],[.live ⟨5,[.num .u8],(qdG (Fq.wrB (txt L) down waits lets (wI (base+wI (next*(24:Int)))) (recS (wI (q+(1:Int))) c' p' s' f' v' d' i' n'))),true,mark⟩]⟩)) else none)):=(qul base q c p s f v d i n next down waits lets mx w L mark q' c' p' s' f' v' d' i' n').trans (by (try simp only [qa1]);try rfl)
def qag (base:Int) (down:Bool) (L:List (List Dat)):ByteArray:=bif refE down (((txt L).size:Int):Int) base (48:Int) != (0:Int) then { data:=#[]:ByteArray } else (txt L).extract base.toNat (base+(48:Int)).toNat
def qeG (base:Int) (down:Bool) (waits:Bool) (lets:Int) (mx:Int) (w:Int) (L:List (List Dat)) (mark:Bool):Option (SV×Mem):=some (.tup [.one (.ptr 2 0),.one (.v (I 0))],⟨[[.row 0,.ptr 1 0,.v (Bo down),.v (Bo waits),.v (I lets)],[.v (I mx),.v (I w)],[.ptr 0 0,.v (I base),.v (I (zI (okS ((qag base down L).extract (24:Nat) (48:Nat))) (qS ((qag base down L).extract (24:Nat) (48:Nat))))),.v (I (zI (okS ((qag base down L).extract (24:Nat) (48:Nat))) (cS ((qag base down L).extract (24:Nat) (48:Nat))))),.v (I (zI (okS ((qag base down L).extract (24:Nat) (48:Nat))) (pS ((qag base down L).extract (24:Nat) (48:Nat))))),.v (I (zI (okS ((qag base down L).extract (24:Nat) (48:Nat))) (uS ((qag base down L).extract (24:Nat) (48:Nat))))),.v (I (zI (okS ((qag base down L).extract (24:Nat) (48:Nat))) (fS ((qag base down L).extract (24:Nat) (48:Nat))))),.v (I (zI (okS ((qag base down L).extract (24:Nat) (48:Nat))) (qan ((qag base down L).extract (24:Nat) (48:Nat)) (9:Int)))),.v (I (zI (okS ((qag base down L).extract (24:Nat) (48:Nat))) (qan ((qag base down L).extract (24:Nat) (48:Nat)) (10:Int)))),.v (I (zI (okS ((qag base down L).extract (24:Nat) (48:Nat))) (qan ((qag base down L).extract (24:Nat) (48:Nat)) (11:Int)))),.v (I (zI (okS ((qag base down L).extract (24:Nat) (48:Nat))) (nS ((qag base down L).extract (24:Nat) (48:Nat))))),.v (I 0)]],[true,true,true],[.live ⟨5,[.num .u8],L,true,mark⟩]⟩)
def qeH (base:Int) (down:Bool) (waits:Bool) (lets:Int) (mx:Int) (w:Int) (L:List (List Dat)) (mark:Bool):Option (SV×Mem):=same (qeG base down waits lets mx w L mark) (qeG base down waits lets mx w L mark)
def qeJ (base:Int) (down:Bool) (waits:Bool) (lets:Int) (mx:Int) (w:Int) (L:List (List Dat)) (mark:Bool):Option (SV×Mem):=bif true&&(true&&decide ((48:Int)≤(((qag base down L).size:Int):Int))) then (bif okS ((qag base down L).extract (24:Nat) (48:Nat)) then (bif decide (zI (okS ((qag base down L).extract (24:Nat) (48:Nat))) (qS ((qag base down L).extract (24:Nat) (48:Nat)))>zI (okS ((qag base down L).extract (0:Nat) (24:Nat))) (qS ((qag base down L).extract (0:Nat) (24:Nat)))) then (qeH base down waits lets mx w L mark) else some (.tup [.one (.ptr 2 0),.one (.v (I 0))],⟨[[.row 0,.ptr 1 0,.v (Bo down),.v (Bo waits),.v (I lets)],[.v (I mx),.v (I w)],[.ptr 0 0,.v (I base),.v (I (zI (okS ((qag base down L).extract (0:Nat) (24:Nat))) (qS ((qag base down L).extract (0:Nat) (24:Nat))))),.v (I (zI (okS ((qag base down L).extract (0:Nat) (24:Nat))) (cS ((qag base down L).extract (0:Nat) (24:Nat))))),.v (I (zI (okS ((qag base down L).extract (0:Nat) (24:Nat))) (pS ((qag base down L).extract (0:Nat) (24:Nat))))),.v (I (zI (okS ((qag base down L).extract (0:Nat) (24:Nat))) (uS ((qag base down L).extract (0:Nat) (24:Nat))))),.v (I (zI (okS ((qag base down L).extract (0:Nat) (24:Nat))) (fS ((qag base down L).extract (0:Nat) (24:Nat))))),.v (I (zI (okS ((qag base down L).extract (0:Nat) (24:Nat))) (qan ((qag base down L).extract (0:Nat) (24:Nat)) (9:Int)))),.v (I (zI (okS ((qag base down L).extract (0:Nat) (24:Nat))) (qan ((qag base down L).extract (0:Nat) (24:Nat)) (10:Int)))),.v (I (zI (okS ((qag base down L).extract (0:Nat) (24:Nat))) (qan ((qag base down L).extract (0:Nat) (24:Nat)) (11:Int)))),.v (I (zI (okS ((qag base down L).extract (0:Nat) (24:Nat))) (nS ((qag base down L).extract (0:Nat) (24:Nat))))),.v (I 1)]],[true,true,true],[.live ⟨5,[.num .u8],L,true,mark⟩]⟩)) else some (.tup [.one (.ptr 2 0),.one (.v (I 0))],⟨[[.row 0,.ptr 1 0,.v (Bo down),.v (Bo waits),.v (I lets)],[.v (I mx),.v (I w)],[.ptr 0 0,.v (I base),.v (I (zI (okS ((qag base down L).extract (0:Nat) (24:Nat))) (qS ((qag base down L).extract (0:Nat) (24:Nat))))),.v (I (zI (okS ((qag base down L).extract (0:Nat) (24:Nat))) (cS ((qag base down L).extract (0:Nat) (24:Nat))))),.v (I (zI (okS ((qag base down L).extract (0:Nat) (24:Nat))) (pS ((qag base down L).extract (0:Nat) (24:Nat))))),.v (I (zI (okS ((qag base down L).extract (0:Nat) (24:Nat))) (uS ((qag base down L).extract (0:Nat) (24:Nat))))),.v (I (zI (okS ((qag base down L).extract (0:Nat) (24:Nat))) (fS ((qag base down L).extract (0:Nat) (24:Nat))))),.v (I (zI (okS ((qag base down L).extract (0:Nat) (24:Nat))) (qan ((qag base down L).extract (0:Nat) (24:Nat)) (9:Int)))),.v (I (zI (okS ((qag base down L).extract (0:Nat) (24:Nat))) (qan ((qag base down L).extract (0:Nat) (24:Nat)) (10:Int)))),.v (I (zI (okS ((qag base down L).extract (0:Nat) (24:Nat))) (qan ((qag base down L).extract (0:Nat) (24:Nat)) (11:Int)))),.v (I (zI (okS ((qag base down L).extract (0:Nat) (24:Nat))) (nS ((qag base down L).extract (0:Nat) (24:Nat))))),.v (I 1)]],[true,true,true],[.live ⟨5,[.num .u8],L,true,mark⟩]⟩)) else none
def qeI (base:Int) (down:Bool) (waits:Bool) (lets:Int) (mx:Int) (w:Int) (L:List (List Dat)) (mark:Bool):Option (SV×Mem):=bif true&&(true&&decide ((48:Int)≤(((qag base down L).size:Int):Int))) then (bif okS ((qag base down L).extract (24:Nat) (48:Nat)) then (bif decide (zI (okS ((qag base down L).extract (24:Nat) (48:Nat))) (qS ((qag base down L).extract (24:Nat) (48:Nat)))>(0:Int)) then (qeH base down waits lets mx w L mark) else some (.tup [.one (.ptr 2 0),.one (.v (I 0))],⟨[[.row 0,.ptr 1 0,.v (Bo down),.v (Bo waits),.v (I lets)],[.v (I mx),.v (I w)],[.ptr 0 0,.v (I base),.v (I 0),.v (I 0),.v (I 0),.v (I 0),.v (I 0),.v (I 0),.v (I 0),.v (I 0),.v (I 0),.v (I 0)]],[true,true,true],[.live ⟨5,[.num .u8],L,true,mark⟩]⟩)) else some (.tup [.one (.ptr 2 0),.one (.v (I 0))],⟨[[.row 0,.ptr 1 0,.v (Bo down),.v (Bo waits),.v (I lets)],[.v (I mx),.v (I w)],[.ptr 0 0,.v (I base),.v (I 0),.v (I 0),.v (I 0),.v (I 0),.v (I 0),.v (I 0),.v (I 0),.v (I 0),.v (I 0),.v (I 0)]],[true,true,true],[.live ⟨5,[.num .u8],L,true,mark⟩]⟩)) else none
theorem quJ (base:Int) (down waits:Bool) (lets mx w:Int) (L:List (List Dat)) (mark:Bool):runG ΓLk L0 Tryz.prog Tryz.f119 [.ptr 0 0,.v (I base)] (FM L mark mx w down waits lets) =
 (bif okL L lets then (bif refE down (((txt L).size:Int):Int) base (48:Int) != (0:Int) then some (.v (.tuple #[(Value.pointer none),(I (refE down (((txt L).size:Int):Int) base (48:Int)))]),⟨[[.row 0,.ptr 1 0,.v (Bo down),.v (Bo waits),.v (I lets)],[.v (I mx),.v (I w)]],[true,true],[.live ⟨5,[.num .u8],L,true,mark⟩]⟩) else (bif true&&(true&&decide ((24:Int)≤(((qag base down L).size:Int):Int))) then (bif okS ((qag base down L).extract (0:Nat) (24:Nat)) then (bif decide (zI (okS ((qag base down L).extract (0:Nat) (24:Nat))) (qS ((qag base down L).extract (0:Nat) (24:Nat)))>(0:Int)) then (same ((qeJ base down waits lets mx w L mark)) ((qeJ base down waits lets mx w L mark))) else (qeI base down waits lets mx w L mark)) else (qeI base down waits lets mx w L mark)) else none)) else none):=by kernel_rfl
def qae (base:Int) (down:Bool) (L:List (List Dat)):ByteArray:=bif refE down (((txt L).size:Int):Int) base (48:Int) != (0:Int) then { data:=#[]:ByteArray } else (txt L).extract base.toNat (base+(48:Int)).toNat
def qeg (base:Int) (down:Bool) (waits:Bool) (lets:Int) (mx:Int) (w:Int) (L:List (List Dat)) (mark:Bool):Option (SV×Mem):=bif true&&(true&&decide ((48:Int)≤(((qae base down L).size:Int):Int))) then (bif okS ((qae base down L).extract (24:Nat) (48:Nat)) then (bif decide (zI (okS ((qae base down L).extract (24:Nat) (48:Nat))) (qS ((qae base down L).extract (24:Nat) (48:Nat)))>(0:Int)) then some (.tup [.one (.ptr 2 0),.one (.v (I 0))],⟨[[.row 0,.ptr 1 0,.v (Bo down),.v (Bo waits),.v (I lets)],[.v (I mx),.v (I w)],[.ptr 0 0,.v (I base),.v (I (zI (okS ((qae base down L).extract (24:Nat) (48:Nat))) (qS ((qae base down L).extract (24:Nat) (48:Nat))))),.v (I (zI (okS ((qae base down L).extract (24:Nat) (48:Nat))) (cS ((qae base down L).extract (24:Nat) (48:Nat))))),.v (I (zI (okS ((qae base down L).extract (24:Nat) (48:Nat))) (pS ((qae base down L).extract (24:Nat) (48:Nat))))),.v (I (zI (okS ((qae base down L).extract (24:Nat) (48:Nat))) (uS ((qae base down L).extract (24:Nat) (48:Nat))))),.v (I (zI (okS ((qae base down L).extract (24:Nat) (48:Nat))) (fS ((qae base down L).extract (24:Nat) (48:Nat))))),.v (I (zI (okS ((qae base down L).extract (24:Nat) (48:Nat))) (qan ((qae base down L).extract (24:Nat) (48:Nat)) (9:Int)))),.v (I (zI (okS ((qae base down L).extract (24:Nat) (48:Nat))) (qan ((qae base down L).extract (24:Nat) (48:Nat)) (10:Int)))),.v (I (zI (okS ((qae base down L).extract (24:Nat) (48:Nat))) (qan ((qae base down L).extract (24:Nat) (48:Nat)) (11:Int)))),.v (I (zI (okS ((qae base down L).extract (24:Nat) (48:Nat))) (nS ((qae base down L).extract (24:Nat) (48:Nat))))),.v (I 0)]],[true,true,true],[.live ⟨5,[.num .u8],L,true,mark⟩]⟩) else some (.tup [.one (.ptr 2 0),.one (.v (I 0))],⟨[[.row 0,.ptr 1 0,.v (Bo down),.v (Bo waits),.v (I lets)],[.v (I mx),.v (I w)],[.ptr 0 0,.v (I base),.v (I 0),.v (I 0),.v (I 0),.v (I 0),.v (I 0),.v (I 0),.v (I 0),.v (I 0),.v (I 0),.v (I 0)]],[true,true,true],[.live ⟨5,[.num .u8],L,true,mark⟩]⟩)) else some (.tup [.one (.ptr 2 0),.one (.v (I 0))],⟨[[.row 0,.ptr 1 0,.v (Bo down),.v (Bo waits),.v (I lets)],[.v (I mx),.v (I w)],[.ptr 0 0,.v (I base),.v (I 0),.v (I 0),.v (I 0),.v (I 0),.v (I 0),.v (I 0),.v (I 0),.v (I 0),.v (I 0),.v (I 0)]],[true,true,true],[.live ⟨5,[.num .u8],L,true,mark⟩]⟩)) else none
theorem qzl (base:Int) (down waits:Bool) (lets mx w:Int) (L:List (List Dat)) (mark:Bool):runG ΓLk L0 Tryz.prog Tryz.f119 [.ptr 0 0,.v (I base)] (FM L mark mx w down waits lets) =
 (bif okL L lets then (bif refE down (((txt L).size:Int):Int) base (48:Int) != (0:Int) then some (.v (.tuple #[(Value.pointer none),(I (refE down (((txt L).size:Int):Int) base (48:Int)))]),⟨[[.row 0,.ptr 1 0,.v (Bo down),.v (Bo waits),.v (I lets)],[.v (I mx),.v (I w)]],[true,true],[.live ⟨5,[.num .u8],L,true,mark⟩]⟩) else (bif true&&(true&&decide ((24:Int)≤(((qae base down L).size:Int):Int))) then (bif okS ((qae base down L).extract (0:Nat) (24:Nat)) then (bif decide (zI (okS ((qae base down L).extract (0:Nat) (24:Nat))) (qS ((qae base down L).extract (0:Nat) (24:Nat)))>(0:Int)) then (bif true&&(true&&decide ((48:Int)≤(((qae base down L).size:Int):Int))) then (bif okS ((qae base down L).extract (24:Nat) (48:Nat)) then (bif decide (zI (okS ((qae base down L).extract (24:Nat) (48:Nat))) (qS ((qae base down L).extract (24:Nat) (48:Nat)))>zI (okS ((qae base down L).extract (0:Nat) (24:Nat))) (qS ((qae base down L).extract (0:Nat) (24:Nat)))) then some (.tup [.one (.ptr 2 0),.one (.v (I 0))],⟨[[.row 0,.ptr 1 0,.v (Bo down),.v (Bo waits),.v (I lets)],[.v (I mx),.v (I w)],[.ptr 0 0,.v (I base),.v (I (zI (okS ((qae base down L).extract (24:Nat) (48:Nat))) (qS ((qae base down L).extract (24:Nat) (48:Nat))))),.v (I (zI (okS ((qae base down L).extract (24:Nat) (48:Nat))) (cS ((qae base down L).extract (24:Nat) (48:Nat))))),.v (I (zI (okS ((qae base down L).extract (24:Nat) (48:Nat))) (pS ((qae base down L).extract (24:Nat) (48:Nat))))),.v (I (zI (okS ((qae base down L).extract (24:Nat) (48:Nat))) (uS ((qae base down L).extract (24:Nat) (48:Nat))))),.v (I (zI (okS ((qae base down L).extract (24:Nat) (48:Nat))) (fS ((qae base down L).extract (24:Nat) (48:Nat))))),.v (I (zI (okS ((qae base down L).extract (24:Nat) (48:Nat))) (qan ((qae base down L).extract (24:Nat) (48:Nat)) (9:Int)))),.v (I (zI (okS ((qae base down L).extract (24:Nat) (48:Nat))) (qan ((qae base down L).extract (24:Nat) (48:Nat)) (10:Int)))),.v (I (zI (okS ((qae base down L).extract (24:Nat) (48:Nat))) (qan ((qae base down L).extract (24:Nat) (48:Nat)) (11:Int)))),.v (I (zI (okS ((qae base down L).extract (24:Nat) (48:Nat))) (nS ((qae base down L).extract (24:Nat) (48:Nat))))),.v (I 0)]],[true,true,true],[.live ⟨5,[.num .u8],L,true,mark⟩]⟩) else some (.tup [.one (.ptr 2 0),.one (.v (I 0))],⟨[[.row 0,.ptr 1 0,.v (Bo down),.v (Bo waits),.v (I lets)],[.v (I mx),.v (I w)],[.ptr 0 0,.v (I base),.v (I (zI (okS ((qae base down L).extract (0:Nat) (24:Nat))) (qS ((qae base down L).extract (0:Nat) (24:Nat))))),.v (I (zI (okS ((qae base down L).extract (0:Nat) (24:Nat))) (cS ((qae base down L).extract (0:Nat) (24:Nat))))),.v (I (zI (okS ((qae base down L).extract (0:Nat) (24:Nat))) (pS ((qae base down L).extract (0:Nat) (24:Nat))))),.v (I (zI (okS ((qae base down L).extract (0:Nat) (24:Nat))) (uS ((qae base down L).extract (0:Nat) (24:Nat))))),.v (I (zI (okS ((qae base down L).extract (0:Nat) (24:Nat))) (fS ((qae base down L).extract (0:Nat) (24:Nat))))),.v (I (zI (okS ((qae base down L).extract (0:Nat) (24:Nat))) (qan ((qae base down L).extract (0:Nat) (24:Nat)) (9:Int)))),.v (I (zI (okS ((qae base down L).extract (0:Nat) (24:Nat))) (qan ((qae base down L).extract (0:Nat) (24:Nat)) (10:Int)))),.v (I (zI (okS ((qae base down L).extract (0:Nat) (24:Nat))) (qan ((qae base down L).extract (0:Nat) (24:Nat)) (11:Int)))),.v (I (zI (okS ((qae base down L).extract (0:Nat) (24:Nat))) (nS ((qae base down L).extract (0:Nat) (24:Nat))))),.v (I 1)]],[true,true,true],[.live ⟨5,[.num .u8],L,true,mark⟩]⟩)) else some (.tup [.one (.ptr 2 0),.one (.v (I 0))],⟨[[.row 0,.ptr 1 0,.v (Bo down),.v (Bo waits),.v (I lets)],[.v (I mx),.v (I w)],[.ptr 0 0,.v (I base),.v (I (zI (okS ((qae base down L).extract (0:Nat) (24:Nat))) (qS ((qae base down L).extract (0:Nat) (24:Nat))))),.v (I (zI (okS ((qae base down L).extract (0:Nat) (24:Nat))) (cS ((qae base down L).extract (0:Nat) (24:Nat))))),.v (I (zI (okS ((qae base down L).extract (0:Nat) (24:Nat))) (pS ((qae base down L).extract (0:Nat) (24:Nat))))),.v (I (zI (okS ((qae base down L).extract (0:Nat) (24:Nat))) (uS ((qae base down L).extract (0:Nat) (24:Nat))))),.v (I (zI (okS ((qae base down L).extract (0:Nat) (24:Nat))) (fS ((qae base down L).extract (0:Nat) (24:Nat))))),.v (I (zI (okS ((qae base down L).extract (0:Nat) (24:Nat))) (qan ((qae base down L).extract (0:Nat) (24:Nat)) (9:Int)))),.v (I (zI (okS ((qae base down L).extract (0:Nat) (24:Nat))) (qan ((qae base down L).extract (0:Nat) (24:Nat)) (10:Int)))),.v (I (zI (okS ((qae base down L).extract (0:Nat) (24:Nat))) (qan ((qae base down L).extract (0:Nat) (24:Nat)) (11:Int)))),.v (I (zI (okS ((qae base down L).extract (0:Nat) (24:Nat))) (nS ((qae base down L).extract (0:Nat) (24:Nat))))),.v (I 1)]],[true,true,true],[.live ⟨5,[.num .u8],L,true,mark⟩]⟩)) else none) else (qeg base down waits lets mx w L mark)) else (qeg base down waits lets mx w L mark)) else none)) else none):=(quJ base down waits lets mx w L mark).trans (by unfold qeI qeJ qeH qeG qag qeg qae;(try simp only [qa1]);try rfl)
end Go.Proofs.YtainfdcfkgemhaaGreat.La
namespace Go.Proofs.YtainfdcfkgemhaaGreat.La
open Go Go.Proofs Go.Sx Fq
set_option linter.unusedVariables false
def svE (right:Bool) (e:Int):Int:=bif right then e else 1
def svI (ok:Bool) (x y:Int):Int:=bif ok then x else y
def svB (ok:Bool) (x y:Bool):Bool:=bif ok then x else y
def svT (ok:Bool) (x y:ByteArray):ByteArray:=bif ok then x else y
def gSave (xs:List SV) (m:Mem):Option (Bool×SV×Mem) :=
 match xs,m with
 | [.ptr 0 0,.v (.agg ⟨[.int .i64 q',.int .i64 c',.int .i64 p',.int .i64 s',.int .i64 f',.int .i64 v',.int .i64 d',.int .i64 i',.int .i64 n']⟩)],⟨[[.ptr 1 0,.v (.int .i64 base),.v (.int .i64 q),.v (.int .i64 c),.v (.int .i64 p),.v (.int .i64 s),.v (.int .i64 f),.v (.int .i64 v),.v (.int .i64 d),.v (.int .i64 i),.v (.int .i64 n),.v (.int .i64 next)],[.row 0,.ptr 2 0,.v (.bool down),.v (.bool waits),.v (.int .i64 lets)],[.v (.int .i64 mx),.v (.int .i64 w)]],[true,true,true],[.live ⟨5,[.num .u8],L,true,mark⟩]⟩ =>
  some (okL L lets,.v (I (svE (rightL (wI (q+1)) c' p' s' f' v' d' i' n') (wrE (txt L) down waits (wI (base+wI (next*24))) (recS (wI (q+1)) c' p' s' f' v' d' i' n')))),
   ML base (svI (rightL (wI (q+1)) c' p' s' f' v' d' i' n'&&wrE (txt L) down waits (wI (base+wI (next*24))) (recS (wI (q+1)) c' p' s' f' v' d' i' n')==0) (wI (q+1)) q) (svI (rightL (wI (q+1)) c' p' s' f' v' d' i' n'&&wrE (txt L) down waits (wI (base+wI (next*24))) (recS (wI (q+1)) c' p' s' f' v' d' i' n')==0) c' c) (svI (rightL (wI (q+1)) c' p' s' f' v' d' i' n'&&wrE (txt L) down waits (wI (base+wI (next*24))) (recS (wI (q+1)) c' p' s' f' v' d' i' n')==0) p' p) (svI (rightL (wI (q+1)) c' p' s' f' v' d' i' n'&&wrE (txt L) down waits (wI (base+wI (next*24))) (recS (wI (q+1)) c' p' s' f' v' d' i' n')==0) s' s) (svI (rightL (wI (q+1)) c' p' s' f' v' d' i' n'&&wrE (txt L) down waits (wI (base+wI (next*24))) (recS (wI (q+1)) c' p' s' f' v' d' i' n')==0) f' f) (svI (rightL (wI (q+1)) c' p' s' f' v' d' i' n'&&wrE (txt L) down waits (wI (base+wI (next*24))) (recS (wI (q+1)) c' p' s' f' v' d' i' n')==0) v' v) (svI (rightL (wI (q+1)) c' p' s' f' v' d' i' n'&&wrE (txt L) down waits (wI (base+wI (next*24))) (recS (wI (q+1)) c' p' s' f' v' d' i' n')==0) d' d) (svI (rightL (wI (q+1)) c' p' s' f' v' d' i' n'&&wrE (txt L) down waits (wI (base+wI (next*24))) (recS (wI (q+1)) c' p' s' f' v' d' i' n')==0) i' i) (svI (rightL (wI (q+1)) c' p' s' f' v' d' i' n'&&wrE (txt L) down waits (wI (base+wI (next*24))) (recS (wI (q+1)) c' p' s' f' v' d' i' n')==0) n' n) (svI (rightL (wI (q+1)) c' p' s' f' v' d' i' n'&&wrE (txt L) down waits (wI (base+wI (next*24))) (recS (wI (q+1)) c' p' s' f' v' d' i' n')==0) ((wI (next+1)).tmod 2) next)
    (qdG (svT (rightL (wI (q+1)) c' p' s' f' v' d' i' n') (Fq.wrB (txt L) down waits lets (wI (base+wI (next*24))) (recS (wI (q+1)) c' p' s' f' v' d' i' n')) (txt L))) mark mx (svI (rightL (wI (q+1)) c' p' s' f' v' d' i' n') (wrV (txt L) mx w down (wI (base+wI (next*24))) (recS (wI (q+1)) c' p' s' f' v' d' i' n')) w) (svB (rightL (wI (q+1)) c' p' s' f' v' d' i' n') (wrD (txt L) down waits (wI (base+wI (next*24))) (recS (wI (q+1)) c' p' s' f' v' d' i' n')) down) (svB (rightL (wI (q+1)) c' p' s' f' v' d' i' n') (wrW (txt L) down waits (wI (base+wI (next*24))) (recS (wI (q+1)) c' p' s' f' v' d' i' n')) waits) lets)
 | [.v (.pointer none),.v (.agg ⟨[.int .i64 q',.int .i64 c',.int .i64 p',.int .i64 s',.int .i64 f',.int .i64 v',.int .i64 d',.int .i64 i',.int .i64 n']⟩)],⟨[],[],[]⟩=>some (true,.v (I 9),M0)
 | _,_=>none
theorem qum (q' c' p' s' f' v' d' i' n':Int):runG ΓLw L0 Tryz.prog Tryz.f156 [.v (.pointer none),.v (.agg #[I q',I c',I p',I s',I f',I v',I d',I i',I n'])] M0=some (.v (I 9),M0):=by kernel_rfl
theorem gSave_ok:CtC 156 gSave:=by
 intro xs m r m' h
 unfold gSave at h
 split at h
 ·rename_i q' c' p' s' f' v' d' i' n' base q c p s f v d i n next down waits lets mx w L mark
  obtain ⟨h1,rfl,rfl⟩:=qaf h
  refine qal (Λ:=L0) qPu Tryz.func156 rfl l00 ?_
  refine (qy9 base q c p s f v d i n next down waits lets mx w L mark q' c' p' s' f' v' d' i' n').trans ?_
  have hL:qdG (txt L)=L:=(okL_iff.1 h1).1.symm
  rw [h1]
  cases hr:rightL (wI (q+1)) c' p' s' f' v' d' i' n'
  ·show _=some (_,ML base q c p s f v d i n next (qdG (txt L)) mark mx w down waits lets)
   rw [hL]
   rfl
  ·by_cases he:wrE (txt L) down waits (wI (base+wI (next*24))) (recS (wI (q+1)) c' p' s' f' v' d' i' n')=0
   ·rw [he]
    rfl
   ·rw [bne_iff_ne.2 he,beq_eq_false_iff_ne.2 he]
    rfl
 ·rename_i q' c' p' s' f' v' d' i' n'
  obtain ⟨h1,rfl,rfl⟩:=qaf h
  refine qal (Λ:=L0) qPu Tryz.func156 rfl l00 ?_
  exact qum q' c' p' s' f' v' d' i' n'
 ·cases h
def qIS (a:ByteArray):Bool:=okS a&&decide (zI (okS a) (qS a)>0)
def qK1 (a b:ByteArray):Bool:=okS b&&(bif qIS a then decide (zI (okS b) (qS b)>zI (okS a) (qS a)) else decide (zI (okS b) (qS b)>0))
def opI (a b:ByteArray) (g:ByteArray→Int):Int:=bif qK1 a b then zI (okS b) (g b) else bif qIS a then zI (okS a) (g a) else 0
def opN (a b:ByteArray):Int:=bif qK1 a b then 0 else bif qIS a then 1 else 0
def sl0 (B:ByteArray) (base:Int):ByteArray:=(B.extract base.toNat (base+48).toNat).extract 0 24
def sl1 (B:ByteArray) (base:Int):ByteArray:=(B.extract base.toNat (base+48).toNat).extract 24 48
def at9 (s:ByteArray):Int:=qan s 9
def at10 (s:ByteArray):Int:=qan s 10
def at11 (s:ByteArray):Int:=qan s 11
def opM (base:Int) (a b:ByteArray) (L:List (List Dat)) (mark:Bool) (mx w:Int) (down waits:Bool) (lets:Int):Mem:=⟨[[.row 0,.ptr 1 0,.v (Bo down),.v (Bo waits),.v (I lets)],[.v (I mx),.v (I w)],[.ptr 0 0,.v (I base),.v (I (opI a b qS)),.v (I (opI a b cS)),.v (I (opI a b pS)),.v (I (opI a b uS)),.v (I (opI a b fS)),.v (I (opI a b at9)),.v (I (opI a b at10)),.v (I (opI a b at11)),.v (I (opI a b nS)),.v (I (opN a b))]],[true,true,true],[.live ⟨5,[.num .u8],L,true,mark⟩]⟩
def qyg (xs:List SV) (m:Mem):Option (Bool×SV×Mem) :=
 match xs,m with
 | [.ptr 0 0,.v (.int .i64 base)],⟨[[.row 0,.ptr 1 0,.v (.bool down),.v (.bool waits),.v (.int .i64 lets)],[.v (.int .i64 mx),.v (.int .i64 w)]],[true,true],[.live ⟨5,[.num .u8],L,true,mark⟩]⟩ =>
  some (okL L lets&&refE down ((txt L).size:Int) base 48==0,.tup [.one (.ptr 2 0),.one (.v (I 0))],opM base (sl0 (txt L) base) (sl1 (txt L) base) L mark mx w down waits lets)
 | _,_=>none
theorem gOpenS_ok:CtC 119 qyg:=by
 intro xs m r m' h
 unfold qyg at h
 split at h
 ·rename_i base down waits lets mx w L mark
  obtain ⟨h1,rfl,rfl⟩:=qaf h
  rw [Bool.and_eq_true,beq_iff_eq] at h1
  obtain ⟨hL,hr⟩:=h1
  obtain ⟨_,hB,_⟩:=okL_iff.1 hL
  obtain ⟨_,b0,_,b1⟩:=(refE_ok (by omega)).1 hr
  refine qal (Λ:=L0) OkLk Tryz.func119 rfl l00 ?_
  refine (qzl base down waits lets mx w L mark).trans ?_
  unfold qeg qae
  have hz:((txt L).extract base.toNat (base+48).toNat).size=48:=by rw [ByteArray.size_extract];omega
  rw [hL,hr]
  simp only [bne_self_eq_false,cond_false,cond_true,hz]
  unfold opM opI opN qK1 qIS sl0 sl1 at9 at10 at11
  generalize ((txt L).extract base.toNat (base+48).toNat).extract 0 24=a
  generalize ((txt L).extract base.toNat (base+48).toNat).extract 24 48=b
  cases okS a<;>cases okS b
  ·rfl
  ·cases decide (zI true (qS b)>0)<;>rfl
  ·cases decide (zI true (qS a)>0)<;>rfl
  ·cases decide (zI true (qS a)>0)
   ·cases decide (zI true (qS b)>0)<;>rfl
   ·cases decide (zI true (qS b)>zI true (qS a))<;>rfl
 ·cases h
end Go.Proofs.YtainfdcfkgemhaaGreat.La
