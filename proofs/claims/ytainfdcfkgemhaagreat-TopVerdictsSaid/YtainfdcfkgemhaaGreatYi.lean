/-
  What is known of this program: flashes and latches.
-/
import Derived.Test.YtainfdcfkgemhaaGreatYe
import Derived.Test.YtainfdcfkgemhaaGreatYd
import Derived.Test.YtainfdcfkgemhaaGreatSw
set_option maxRecDepth 100000
noncomputable section
open Go.Proofs.Tryz
namespace Go.Proofs.YtainfdcfkgemhaaGreat.Fq
open Go Go.Proofs Go.Sx
set_option linter.unusedVariables false
def ΓF1:Orc:=aE 59 xU ΓO
theorem OkF1:ΓF1.Ok prog:=aA bR Om
def FM (L:List (List Dat)) (mark:Bool) (mx v:Int) (down waits:Bool) (lets:Int):Mem:=⟨[[.row 0,.ptr 1 0,.v (Bo down),.v (Bo waits),.v (I lets)],[.v (I mx),.v (I v)]],[true,true],[.live ⟨5,[.num .u8],L,true,mark⟩]⟩
def refE (down:Bool) (size k n:Int):Int:=bif down then 11 else bif decide (k<0) then 2 else bif decide (k>size) then 2 else bif decide (n<0) then 2 else bif decide (n>wI (size - k)) then 2 else 0
def okL (L:List (List Dat)) (lets:Int):Bool:=eQ (L=cB (aJ L))&&(Nat.ble (aJ L).size 1000000&&decide (0<=lets))
theorem okL_iff {L:List (List Dat)} {lets:Int}:okL L lets=true↔L=cB (aJ L)/\(aJ L).size<=1000000/\0<=lets:=by
 unfold okL
 rw [Bool.and_eq_true,Bool.and_eq_true,nH,decide_eq_true_iff]
 exact ⟨fun ⟨a,b,c⟩=>⟨a,Nat.le_of_ble_eq_true b,c⟩,fun ⟨a,b,c⟩=>⟨a,Nat.ble_eq_true_of_le b,c⟩⟩
theorem Ca {down:Bool} {size k n:Int} (hs:0<=size/\size<=1000000):refE down size k n=0↔down=false/\0<=k/\0<=n/\k+n<=size:=by
 unfold refE
 cases down with
 | true=>simp
 | false =>
 simp only [cond_false,true_and]
 by_cases h1:k<0
 ·simp [h1];omega
 by_cases h2:k>size
 ·simp [h1,h2];omega
 by_cases h3:n<0
 ·simp [h1,h2,h3];omega
 rw [aM (n:=size - k) (by omega)]
 by_cases h4:n>size - k
 ·simp [h1,h2,h3,h4];omega
 ·simp [h1,h2,h3,h4];omega
def KQ (waits:Bool) (lets:Int) (s:ByteArray):ByteArray:=bif waits then s.extract 0 (if (s.size:Int)<lets then (s.size:Int) else lets).toNat else s
def lp (B:ByteArray) (down:Bool) (k:Int) (s:ByteArray):Bool:=refE down (B.size:Int) k (s.size:Int) != 0
def wrE (B:ByteArray) (down waits:Bool) (k:Int) (s:ByteArray):Int:=bif lp B down k s then refE down (B.size:Int) k (s.size:Int) else bif waits then 11 else 0
def wrB (B:ByteArray) (down waits:Bool) (lets k:Int) (s:ByteArray):ByteArray:=bif lp B down k s then B else Cl B k.toNat (KQ waits lets s)
def wrV (B:ByteArray) (mx v:Int) (down:Bool) (k:Int) (s:ByteArray):Int:=bif lp B down k s then v else au mx v 1
def wrD (B:ByteArray) (down waits:Bool) (k:Int) (s:ByteArray):Bool:=bif lp B down k s then down else waits
def wrW (B:ByteArray) (down waits:Bool) (k:Int) (s:ByteArray):Bool:=bif lp B down k s then waits else false
theorem runCUp0 (a v:Int):runG ΓF1 L0 prog f175 [.ptr 0 0] (MC a v)=some (.v (I (au a v 1)),MC a (au a v 1)):=by kernel_rfl
def gCUp (xs:List SV) (m:Mem):Option (Bool×SV×Mem) :=
 match xs,m with
 | [.ptr 0 0],⟨[[.v (.int .i64 a),.v (.int .i64 v)]],[true],[]⟩=>some (true,.v (I (au a v 1)),MC a (au a v 1))
 | _,_=>none
theorem gCUp_ok:aT 175 gCUp:=by
 intro xs m r m' h
 unfold gCUp at h
 split at h
 ·rename_i a v
  obtain ⟨h1,rfl,rfl⟩:=az h
  refine aj (Λ:=L0) OkF1 func175 rfl af ?_
  exact (runCUp0 a v).trans (rfl)
 ·cases h
def ΓL1:Orc:=aE 175 gCUp ΓF1
theorem IQ:ΓL1.Ok prog:=aA OkF1 gCUp_ok
theorem Xj (k n:Int) (down waits:Bool) (lets mx v:Int) (L:List (List Dat)) (mark:Bool):runG ΓL1 L0 prog f248 [.ptr 0 0,.v (I k),.v (I n)] (FM L mark mx v down waits lets)=(bif down then some (.v (I 11),(FM L mark mx v down waits lets)) else (bif decide (k<0) then some (.v (I 2),(FM L mark mx v down waits lets)) else (bif decide (k>(L.length:Int)) then some (.v (I 2),(FM L mark mx v down waits lets)) else (bif decide (n<0) then some (.v (I 2),(FM L mark mx v down waits lets)) else (bif decide (n>wI ((L.length:Int) - k)) then some (.v (I 2),(FM L mark mx v down waits lets)) else some (.v (I 0),(FM L mark mx v down waits lets))))))):=by kernel_rfl
theorem Xi (k n:Int):runG ΓL1 L0 prog f248 [.v (.pointer none),.v (I k),.v (I n)] M0=some (.v (I 9),M0):=by kernel_rfl
def EN (xs:List SV) (m:Mem):Option (Bool×Value) :=
 match xs,m with
 | [.ptr 0 0,.v (.int .i64 k),.v (.int .i64 n)],⟨[[.row 0,.ptr 1 0,.v (.bool down),.v (.bool waits),.v (.int .i64 lets)],[.v (.int .i64 mx),.v (.int .i64 v)]],[true,true],[.live ⟨5,[.num .u8],L,true,mark⟩]⟩=>some (true,I (refE down (L.length:Int) k n))
 | [.v (.pointer none),.v (.int .i64 k),.v (.int .i64 n)],⟨[],[],[]⟩=>some (true,I 9)
 | _,_=>none
theorem qeM:bi 248 EN:=by
 intro xs m r h
 unfold EN at h
 split at h
 ·rename_i k n down waits lets mx v L mark
  obtain ⟨h1,rfl⟩:=aa h
  refine aj (Λ:=L0) IQ func248 rfl af ?_
  exact (Xj k n down waits lets mx v L mark).trans (by
   unfold refE
   cases down
   ·cases decide (k<0)
    ·cases decide (k>(L.length:Int))
     ·cases decide (n<0)
      ·cases decide (n>wI ((L.length:Int) - k))<;>rfl
      ·rfl
     ·rfl
    ·rfl
   ·rfl)
 ·rename_i k n
  obtain ⟨h1,rfl⟩:=aa h
  refine aj (Λ:=L0) IQ func248 rfl af ?_
  exact (Xi k n).trans (rfl)
 ·cases h
def ΓL2:Orc:=aR 248 EN ΓL1
theorem IP:ΓL2.Ok prog:=aL IQ qeM
theorem VU (k:Int) (down waits:Bool) (lets mx v:Int) (L:List (List Dat)) (mark:Bool):runG ΓL2 L0 prog f39 [.ptr 0 0,.v (I k)] (FM L mark mx v down waits lets)=some (.v (.tuple #[]),FM L mark mx v down true (if k>0 then k else 0)):=by kernel_rfl
theorem VT (k:Int):runG ΓL2 L0 prog f39 [.v (.pointer none),.v (I k)] M0=some (.v (.tuple #[]),M0):=by kernel_rfl
def gTear (xs:List SV) (m:Mem):Option (Bool×SV×Mem) :=
 match xs,m with
 | [.ptr 0 0,.v (.int .i64 k)],⟨[[.row 0,.ptr 1 0,.v (.bool down),.v (.bool waits),.v (.int .i64 lets)],[.v (.int .i64 mx),.v (.int .i64 v)]],[true,true],[.live ⟨5,[.num .u8],L,true,mark⟩]⟩=>some (true,.v (.tuple #[]),FM L mark mx v down true (if k>0 then k else 0))
 | [.v (.pointer none),.v (.int .i64 k)],⟨[],[],[]⟩=>some (true,.v (.tuple #[]),M0)
 | _,_=>none
theorem gTear_ok:aT 39 gTear:=by
 intro xs m r m' h
 unfold gTear at h
 split at h
 ·rename_i k down waits lets mx v L mark
  obtain ⟨h1,rfl,rfl⟩:=az h
  refine aj (Λ:=L0) IP func39 rfl af ?_
  exact (VU k down waits lets mx v L mark).trans (rfl)
 ·rename_i k
  obtain ⟨h1,rfl,rfl⟩:=az h
  refine aj (Λ:=L0) IP func39 rfl af ?_
  exact (VT k).trans (rfl)
 ·cases h
def ΓL3:Orc:=aE 39 gTear ΓL2
theorem IO:ΓL3.Ok prog:=aA IP gTear_ok
theorem Y8 (down waits:Bool) (lets mx v:Int) (L:List (List Dat)) (mark:Bool):runG ΓL3 L0 prog f134 [.ptr 0 0] (FM L mark mx v down waits lets)=some (.v (.tuple #[]),FM L mark mx v false false lets):=by kernel_rfl
theorem Y7:runG ΓL3 L0 prog f134 [.v (.pointer none)] M0=some (.v (.tuple #[]),M0):=by kernel_rfl
def gFUp (xs:List SV) (m:Mem):Option (Bool×SV×Mem) :=
 match xs,m with
 | [.ptr 0 0],⟨[[.row 0,.ptr 1 0,.v (.bool down),.v (.bool waits),.v (.int .i64 lets)],[.v (.int .i64 mx),.v (.int .i64 v)]],[true,true],[.live ⟨5,[.num .u8],L,true,mark⟩]⟩=>some (true,.v (.tuple #[]),FM L mark mx v false false lets)
 | [.v (.pointer none)],⟨[],[],[]⟩=>some (true,.v (.tuple #[]),M0)
 | _,_=>none
theorem gFUp_ok:aT 134 gFUp:=by
 intro xs m r m' h
 unfold gFUp at h
 split at h
 ·rename_i down waits lets mx v L mark
  obtain ⟨h1,rfl,rfl⟩:=az h
  refine aj (Λ:=L0) IO func134 rfl af ?_
  exact (Y8 down waits lets mx v L mark).trans (rfl)
 ·obtain ⟨h1,rfl,rfl⟩:=az h
  refine aj (Λ:=L0) IO func134 rfl af ?_
  exact (Y7 ).trans (rfl)
 ·cases h
def ΓL4:Orc:=aE 134 gFUp ΓL3
theorem qkb:ΓL4.Ok prog:=aA IO gFUp_ok
def ΓL5:Orc:=ΓL4
theorem qka:ΓL5.Ok prog:=qkb
def ΓL6:Orc:=ΓL5
theorem qj9:ΓL6.Ok prog:=qka
def ΓL7:Orc:=ΓL6
theorem IN:ΓL7.Ok prog:=qj9
theorem Zd (k n:Int) (down waits:Bool) (lets mx v:Int) (L:List (List Dat)) (mark:Bool):runG ΓL7 L0 prog f186 [.ptr 0 0,.v (I k),.v (I n)] (FM L mark mx v down waits lets)=(bif refE down (L.length:Int) k n != 0 then some (.v (.tuple #[S ⟨#[]⟩,I (refE down (L.length:Int) k n)]),FM L mark mx v down waits lets) else (bif decide (0<=k)&&(decide (k<=wI (k+n))&&decide (wI (k+n)<=(L.length:Int))) then some (.v (.tuple #[S (strOfNums (bY ((L.drop k.toNat).take (wI (k+n) - k).toNat))),I 0]),FM L mark mx v down waits lets) else none)):=by kernel_rfl
theorem Zc (k n:Int):runG ΓL7 L0 prog f186 [.v (.pointer none),.v (I k),.v (I n)] M0=some (.v (.tuple #[S ⟨#[]⟩,I 9]),M0):=by kernel_rfl
def Gh (xs:List SV) (m:Mem):Option (Bool×Value) :=
 match xs,m with
 | [.ptr 0 0,.v (.int .i64 k),.v (.int .i64 n)],⟨[[.row 0,.ptr 1 0,.v (.bool down),.v (.bool waits),.v (.int .i64 lets)],[.v (.int .i64 mx),.v (.int .i64 v)]],[true,true],[.live ⟨5,[.num .u8],L,true,mark⟩]⟩=>some (okL L lets,.tuple #[S (bif refE down ((aJ L).size:Int) k n != 0 then ⟨#[]⟩ else (aJ L).extract k.toNat (k+n).toNat),I (refE down ((aJ L).size:Int) k n)])
 | [.v (.pointer none),.v (.int .i64 k),.v (.int .i64 n)],⟨[],[],[]⟩=>some (true,.tuple #[S ⟨#[]⟩,I 9])
 | _,_=>none
theorem qga:bi 186 Gh:=by
 intro xs m r h
 unfold Gh at h
 split at h
 ·rename_i k n down waits lets mx v L mark
  obtain ⟨h1,rfl⟩:=aa h
  refine aj (Λ:=L0) IN func186 rfl af ?_
  exact (Zd k n down waits lets mx v L mark).trans (by
   obtain ⟨hL,hB,h0⟩:=okL_iff.1 h1
   obtain ⟨B,rfl⟩:∃ B,L=cB B:=⟨aJ L,hL⟩
   rw [r9] at hB
   rw [r9,B6]
   by_cases hr:refE down (B.size:Int) k n=0
   ·obtain ⟨rfl,k0,s0,ks⟩:=(Ca (by omega)).1 hr
    rw [hr,aM (n:=k+n) (by omega),TY]
    have g1:(decide (0<=k)&&(decide (k<=k+n)&&decide (k+n<=(B.size:Int))))=true:=by simp;omega
    rw [g1,show k.toNat+(k+n - k).toNat=(k+n).toNat by omega]
    rfl
   ·rw [bne_iff_ne.2 hr]
    rfl)
 ·rename_i k n
  obtain ⟨h1,rfl⟩:=aa h
  refine aj (Λ:=L0) IN func186 rfl af ?_
  exact (Zc k n).trans (rfl)
 ·cases h
def ΓL8:Orc:=aR 186 Gh ΓL7
theorem IM:ΓL8.Ok prog:=aL IN qga
theorem Y6 (k:Int) (s:ByteArray) (down waits:Bool) (lets mx v:Int) (L:List (List Dat)) (mark:Bool):runG ΓL8 L0 prog f223 [.ptr 0 0,.v (I k),.v (S s)] (FM L mark mx v down waits lets)=(bif refE down (L.length:Int) k (s.size:Int) != 0 then some (.v (I (refE down (L.length:Int) k (s.size:Int))),FM L mark mx v down waits lets) else (bif waits then (bif true&&(decide (0<=(if (s.size:Int)<lets then (s.size:Int) else lets))&&decide ((if (s.size:Int)<lets then (s.size:Int) else lets)<=(s.size:Int))) then (bif decide (0<=k)&&(decide (k<=(L.length:Int))&&decide ((L.length:Int)<=(L.length:Int))) then (bif decide (0<=k)&&decide (k+((s.extract 0 (if (s.size:Int)<lets then (s.size:Int) else lets).toNat).size:Int)<=(L.length:Int)) then some (.v (I 11),FM (L.take k.toNat++aq (bG (s.extract 0 (if (s.size:Int)<lets then (s.size:Int) else lets).toNat))++L.drop (k.toNat+(s.extract 0 (if (s.size:Int)<lets then (s.size:Int) else lets).toNat).size)) mark mx (au mx v 1) true false lets) else none) else none) else none) else (bif decide (0<=k)&&(decide (k<=(L.length:Int))&&decide ((L.length:Int)<=(L.length:Int))) then (bif decide (0<=k)&&decide (k+(s.size:Int)<=(L.length:Int)) then (bif down then some (.v (I 11),FM (L.take k.toNat++aq (bG s)++L.drop (k.toNat+s.size)) mark mx (au mx v 1) down waits lets) else some (.v (I 0),FM (L.take k.toNat++aq (bG s)++L.drop (k.toNat+s.size)) mark mx (au mx v 1) down waits lets)) else none) else none))):=by kernel_rfl
theorem Y5 (k:Int) (s:ByteArray):runG ΓL8 L0 prog f223 [.v (.pointer none),.v (I k),.v (S s)] M0=some (.v (I 9),M0):=by kernel_rfl
def Gd (xs:List SV) (m:Mem):Option (Bool×SV×Mem) :=
 match xs,m with
 | [.ptr 0 0,.v (.int .i64 k),.v (.string s)],⟨[[.row 0,.ptr 1 0,.v (.bool down),.v (.bool waits),.v (.int .i64 lets)],[.v (.int .i64 mx),.v (.int .i64 v)]],[true,true],[.live ⟨5,[.num .u8],L,true,mark⟩]⟩=>some (okL L lets,.v (I (wrE (aJ L) down waits k s)),FM (cB (wrB (aJ L) down waits lets k s)) mark mx (wrV (aJ L) mx v down k s) (wrD (aJ L) down waits k s) (wrW (aJ L) down waits k s) lets)
 | [.v (.pointer none),.v (.int .i64 k),.v (.string s)],⟨[],[],[]⟩=>some (true,.v (I 9),M0)
 | _,_=>none
theorem qf6:aT 223 Gd:=by
 intro xs m r m' h
 unfold Gd at h
 split at h
 ·rename_i k s down waits lets mx v L mark
  obtain ⟨h1,rfl,rfl⟩:=az h
  refine aj (Λ:=L0) IM func223 rfl af ?_
  exact (Y6 k s down waits lets mx v L mark).trans (by
   obtain ⟨hL,hB,h0⟩:=okL_iff.1 h1
   obtain ⟨B,rfl⟩:∃ B,L=cB B:=⟨aJ L,hL⟩
   rw [r9] at hB
   rw [r9,B6]
   by_cases hr:refE down (B.size:Int) k (s.size:Int)=0
   ·obtain ⟨rfl,k0,s0,ks⟩:=(Ca (by omega)).1 hr
    have e:lp B false k s=false:=by unfold lp;rw [hr];rfl
    unfold wrE wrB wrV wrD wrW KQ
    rw [e,hr]
    have g1:(decide (0<=k)&&(decide (k<=(B.size:Int))&&decide ((B.size:Int)<=(B.size:Int))))=true:=by simp;omega
    cases waits
    ·have g2:(decide (0<=k)&&decide (k+(s.size:Int)<=(B.size:Int)))=true:=by simp;omega
     rw [g1,g2,LY B s k.toNat]
     rfl
    ·have g2:(true&&(decide (0<=(if (s.size:Int)<lets then (s.size:Int) else lets))&&decide ((if (s.size:Int)<lets then (s.size:Int) else lets)<=(s.size:Int))))=true:=by simp;split<;>omega
     have g3:(decide (0<=k)&&decide (k+((s.extract 0 (if (s.size:Int)<lets then (s.size:Int) else lets).toNat).size:Int)<=(B.size:Int)))=true:=by
      rw [Bool.and_eq_true,decide_eq_true_iff,decide_eq_true_iff,ByteArray.size_extract]
      omega
     rw [g1,g2,g3,LY B (s.extract 0 (if (s.size:Int)<lets then (s.size:Int) else lets).toNat) k.toNat]
     rfl
   ·have e:lp B down k s=true:=bne_iff_ne.2 hr
    unfold wrE wrB wrV wrD wrW
    rw [e,bne_iff_ne.2 hr]
    rfl)
 ·rename_i k s
  obtain ⟨h1,rfl,rfl⟩:=az h
  refine aj (Λ:=L0) IM func223 rfl af ?_
  exact (Y5 k s).trans (rfl)
 ·cases h
def ΓL9:Orc:=aE 223 Gd ΓL8
theorem R9:ΓL9.Ok prog:=aA IM qf6
theorem Zf (n:Int):runG ΓL9 L0 prog f17 [.v (I n)] M0=(bif decide (n<1) then some (.v (.tuple #[Value.pointer none,I 1]),M0) else (bif decide (n>4096) then some (.v (.tuple #[Value.pointer none,I 1]),M0) else (bif decide (1<=n/\n<=8192) then some (.tup [.one (.ptr 0 0),.one (.v (I 0))],FM (nc n 255) true 1000000 0 false false 0) else none))):=by kernel_rfl
def gFNew (xs:List SV) (m:Mem):Option (Bool×SV×Mem) :=
 match xs,m with
 | [.v (.int .i64 n)],⟨[],[],[]⟩=>some (decide (1<=n/\n<=4096),.tup [.one (.ptr 0 0),.one (.v (I 0))],FM (cB (CH n.toNat 255)) true 1000000 0 false false 0)
 | _,_=>none
theorem gFNew_ok:aT 17 gFNew:=by
 intro xs m r m' h
 unfold gFNew at h
 split at h
 ·rename_i n
  obtain ⟨h1,rfl,rfl⟩:=az h
  refine aj (Λ:=L0) R9 func17 rfl af ?_
  exact (Zf n).trans (by
   have h1:=of_decide_eq_true h1
   rw [decide_eq_false (show ¬ n<1 by omega),decide_eq_false (show ¬ n>4096 by omega),decide_eq_true (show 1<=n/\n<=8192 by omega),qai]
   rfl)
 ·cases h
def ΓL10:Orc:=aE 17 gFNew ΓL9
theorem qkc:ΓL10.Ok prog:=aA R9 gFNew_ok
def ΓFl:Orc:=ΓL10
theorem qkk:ΓFl.Ok prog:=qkc
end Go.Proofs.YtainfdcfkgemhaaGreat.Fq
namespace Go.Proofs.YtainfdcfkgemhaaGreat.La
open Go Go.Proofs Go.Sx Fq
set_option linter.unusedVariables false
def bm (n l m:Int):Bool:=bif decide (n>=l) then decide (n<=m) else false
theorem Kn (n:Int):IntKind.u8.wrap n=n % 256:=by rw [<- cA true];rfl
theorem t5 (b:UInt8):0<=(b.toNat:Int)/\(b.toNat:Int)<256:=by
 have:=fc b
 omega
theorem runUpTo (n m:Int):runG ΓO L0 prog f285 [.v (I n),.v (I m)] M0=(bif decide (n>=(0:Int)) then some (.v (Bo (decide (n<=m))),M0) else some (.v (Bo false),M0)):=by kernel_rfl
def gUpTo (vs:List Value):Option (Bool×Value) :=
 match vs with
 | [.int .i64 n,.int .i64 m]=>some (true,Bo (bm n 0 m))
 | _=>none
theorem gUpTo_ok:an 285 gUpTo:=by
 intro vs r h
 unfold gUpTo at h
 split at h
 ·rename_i n m
  obtain ⟨h1,rfl⟩:=aa h
  refine am (vs:=[I n,I m]) (Λ:=L0) (m':=M0) bR func285 rfl af ?_
  exact (runUpTo n m).trans (by
   unfold bm
   cases decide (n>=0)<;>rfl)
 ·cases h
def ΓA1:Orc:=ah 285 gUpTo ΓFl
theorem OkA1:ΓA1.Ok prog:=ac qkk gUpTo_ok
def ΓA2:Orc:=ΓA1
theorem OkA2:ΓA2.Ok prog:=OkA1
theorem Vn (n:Int):runG ΓA2 L0 prog f286 [.v (I n)] M0=some (.v (S (be (4:Nat) (IntKind.u64.wrap n))),M0):=by kernel_rfl
def Dp (vs:List Value):Option (Bool×Value) :=
 match vs with
 | [.int .i64 n]=>some (true,S (be 4 n))
 | _=>none
theorem qdC:an 286 Dp:=by
 intro vs r h
 unfold Dp at h
 split at h
 ·rename_i n
  obtain ⟨h1,rfl⟩:=aa h
  refine am (vs:=[I n]) (Λ:=L0) (m':=M0) OkA2 func286 rfl af ?_
  exact (Vn n).trans (by rw [zu])
 ·cases h
def ΓA3:Orc:=ah 286 Dp ΓA2
theorem OkA3:ΓA3.Ok prog:=ac OkA2 qdC
theorem X1 (n:Int):runG ΓA3 L0 prog f287 [.v (I n)] M0=some (.v (S (be (1:Nat) (IntKind.u64.wrap n))),M0):=by kernel_rfl
def Fe (vs:List Value):Option (Bool×Value) :=
 match vs with
 | [.int .i64 n]=>some (true,S (be 1 n))
 | _=>none
theorem qfe:an 287 Fe:=by
 intro vs r h
 unfold Fe at h
 split at h
 ·rename_i n
  obtain ⟨h1,rfl⟩:=aa h
  refine am (vs:=[I n]) (Λ:=L0) (m':=M0) OkA3 func287 rfl af ?_
  exact (X1 n).trans (by rw [HT])
 ·cases h
def ΓA4:Orc:=ah 287 Fe ΓA3
theorem OkA4:ΓA4.Ok prog:=ac OkA3 qfe
theorem Yw (s:ByteArray):runG ΓA4 L0 prog f249 [.v (S s)] M0=bif bL s then some (.v (I (wI ((numN s:Nat):Int))),M0) else none:=by kernel_rfl
def FJ (vs:List Value):Option (Bool×Value) :=
 match vs with
 | [.string s]=>some (bL s,I (wI ((numN s:Nat):Int)))
 | _=>none
theorem qfF:an 249 FJ:=by
 intro vs r h
 unfold FJ at h
 split at h
 ·rename_i s
  obtain ⟨h1,rfl⟩:=aa h
  refine am (vs:=[S s]) (Λ:=L0) (m':=M0) OkA4 func249 rfl af ?_
  exact (Yw s).trans (by rw [h1];rfl)
 ·cases h
def ΓA5:Orc:=ah 249 FJ ΓA4
theorem OkA5:ΓA5.Ok prog:=ac OkA4 qfF
def ΓA6:Orc:=ΓA5
theorem OkA6:ΓA6.Ok prog:=OkA5
def ΓA7:Orc:=ΓA6
theorem OkA7:ΓA7.Ok prog:=OkA6
theorem ZX (n:Int):runG ΓA7 L0 prog f188 [.v (I n)] M0=some (.v (I ((wI (n+1)).tmod 2)),M0):=by kernel_rfl
def GV (vs:List Value):Option (Bool×Value) :=
 match vs with
 | [.int .i64 n]=>some (true,I ((wI (n+1)).tmod 2))
 | _=>none
theorem qgN:an 188 GV:=by
 intro vs r h
 unfold GV at h
 split at h
 ·rename_i n
  obtain ⟨h1,rfl⟩:=aa h
  refine am (vs:=[I n]) (Λ:=L0) (m':=M0) OkA7 func188 rfl af ?_
  exact (ZX n).trans (rfl)
 ·cases h
def ΓA8:Orc:=ah 188 GV ΓA7
theorem OkA8:ΓA8.Ok prog:=ac OkA7 qgN
def ΓLa:Orc:=ΓA8
theorem z9:ΓLa.Ok prog:=OkA8
end Go.Proofs.YtainfdcfkgemhaaGreat.La
namespace Go.Proofs.YtainfdcfkgemhaaGreat.La
open Go Go.Proofs Go.Sx Fq
set_option linter.unusedVariables false
def rightL (q c p s f v d i n:Int):Bool:=bif bm v 0 255 then (bif bm d 0 255 then (bif bm i 0 255 then (bif bm p 0 3 then (bif bm s 0 2 then (bif bm f 0 1 then (bif bm q 1 2147483648 then (bif bm c 0 1000000 then bm n 0 1000000 else false) else false) else false) else false) else false) else false) else false) else false
def MR (q c p s f v d i n:Int):Mem:=⟨[[.v (I q),.v (I c),.v (I p),.v (I s),.v (I f),.v (I v),.v (I d),.v (I i),.v (I n)]],[true],[]⟩
def zw:Code:=bX (f222.body.getD .skip) 0
def C0:List Bool:=aB 53 [1,11,12]
def Kk (e:Ex):List Bool:=match e with
 | .exit _=>aB 53 [1]
 | _=>aB 53 [2]
def KRt (e:Ex) (st:St):Option (Ex×St):=some (e,ab 0 0 (Kk e) st)
def HRt (q c p s f v d i n:Int):St:=mk C0 [.ptr 0 0,.v (.agg #[I v,I d,I i]),.v (I 0)] (MR q c p s f v d i n)
def zR:St:=mk (aB 53 [2]) [.v (Bo false)] M0
def SQ (q c p s f v d i n:Int):St:=mk (aB 53 [1]) [.ptr 0 0] (MR q c p s f v d i n)
def kU (v d i:Int):Bool:=bif bm v 0 255 then (bif bm d 0 255 then bm i 0 255 else false) else false
theorem Nx:loopsOf (f222.body.getD .skip)=[zw]:=by kernel_rfl
theorem qbO:loopsOf zw=[]:=by kernel_rfl
theorem Lg (q c p s f v d i n:Int):ao ΓLa prog L0 (ab 0 0 C0) zw 4 (HRt q c p s f v d i n) KRt=bif !bm v 0 255 then some (.ret,zR) else (bif !bm d 0 255 then some (.ret,zR) else (bif !bm i 0 255 then some (.ret,zR) else some (.exit 0,SQ q c p s f v d i n))):=by kernel_rfl
def JH (bad:Bool) (vals:List SV) (m:Mem):Option (Bool×Ex×St) :=
 match vals,m with
 | [.ptr 0 0,.v (.agg ⟨[.int .i64 v',.int .i64 d',.int .i64 i']⟩),.v (.int .i64 0)],⟨[[.v (.int .i64 q),.v (.int .i64 c),.v (.int .i64 p),.v (.int .i64 s),.v (.int .i64 f),.v (.int .i64 v),.v (.int .i64 d),.v (.int .i64 i),.v (.int .i64 n)]],[true],[]⟩=>bif bad then some (v'==v&&(d'==d&&(i'==i&&!kU v d i)),.ret,zR) else some (v'==v&&(d'==d&&(i'==i&&kU v d i)),.exit 0,SQ q c p s f v d i n)
 | _,_=>none
def ΛRt (bad:Bool):aV:=fun _ st=>cE 0 0 C0 (JH bad) st
theorem NB (bad:Bool) (z:Base) (z1:z.L.length=0) (z2:z.U.length=0):aQ (ΛRt bad) prog z zw:=by
 refine di (Λ:=L0) (kx:=Kk) z9 mixed z1 z2 (fun b hb=>by rw [qbO] at hb;cases hb) (G:=JH bad) (fun _=>rfl) ?_
 intro vals m e st' h
 unfold JH at h
 split at h
 ·rename_i v' d' i' q c p s f v d i n
  cases bad
  ·simp only [cond_false] at h
   obtain ⟨h1,rfl,rfl⟩:=az h
   simp only [Bool.and_eq_true,beq_iff_eq] at h1
   obtain ⟨rfl,rfl,rfl,h1⟩:=h1
   refine ⟨4,(Lg q c p s f v' d' i' n).trans ?_⟩
   unfold kU at h1
   revert h1
   cases bm v' 0 255<;>cases bm d' 0 255<;>cases bm i' 0 255<;>intro h1<;>first|rfl|cases h1
  ·simp only [cond_true] at h
   obtain ⟨h1,rfl,rfl⟩:=az h
   simp only [Bool.and_eq_true,beq_iff_eq] at h1
   obtain ⟨rfl,rfl,rfl,h1⟩:=h1
   refine ⟨4,(Lg q c p s f v' d' i' n).trans ?_⟩
   unfold kU at h1
   revert h1
   cases bm v' 0 255<;>cases bm d' 0 255<;>cases bm i' 0 255<;>intro h1<;>first|rfl|cases h1
 ·cases h
theorem W5 (q c p s f v d i n:Int):runG ΓLa (ΛRt true) prog f222 [.v (.agg #[I q,I c,I p,I s,I f,I v,I d,I i,I n])] M0 =
 (bif v==v&&(d==d&&(i==i&&!kU v d i)) then some (.v (Bo false),M0) else none):=by kernel_rfl
theorem W4 (q c p s f v d i n:Int):runG ΓLa (ΛRt false) prog f222 [.v (.agg #[I q,I c,I p,I s,I f,I v,I d,I i,I n])] M0 =
 (bif v==v&&(d==d&&(i==i&&kU v d i)) then (bif !bm p (0:Int) (3:Int) then some (.v (Bo false),M0) else (bif !bm s (0:Int) (2:Int) then some (.v (Bo false),M0) else (bif !bm f (0:Int) (1:Int) then some (.v (Bo false),M0) else (bif decide (q>(0:Int)) then (bif bm q (0:Int) (2147483648:Int) then (bif bm c (0:Int) (1000000:Int) then some (.v (Bo (bm n (0:Int) (1000000:Int))),M0) else some (.v (Bo false),M0)) else some (.v (Bo false),M0)) else some (.v (Bo false),M0))))) else none):=by kernel_rfl
def gRight (vs:List Value):Option (Bool×Value) :=
 match vs with
 | [.agg ⟨[.int .i64 q,.int .i64 c,.int .i64 p,.int .i64 s,.int .i64 f,.int .i64 v,.int .i64 d,.int .i64 i,.int .i64 n]⟩]=>some (true,Bo (rightL q c p s f v d i n))
 | _=>none
theorem To (q:Int):bm q 1 2147483648=(bif decide (q>0) then bm q 0 2147483648 else false):=by
 unfold bm
 by_cases h:q>0
 ·rw [decide_eq_true h,decide_eq_true (show q>=1 by omega),decide_eq_true (show q>=0 by omega)];rfl
 ·rw [decide_eq_false h,decide_eq_false (show ¬ q>=1 by omega)];rfl
theorem gRight_ok:an 222 gRight:=by
 intro vs r h
 unfold gRight at h
 split at h
 ·rename_i q c p s f v d i n
  obtain ⟨h1,rfl⟩:=aa h
  cases ha:kU v d i
  ·refine am (vs:=[.agg #[I q,I c,I p,I s,I f,I v,I d,I i,I n]]) (Λ:=ΛRt true) (m':=M0) z9 func222 rfl (fun z z1 z2=>bW (c:=f222.body.getD .skip) Nx (NB true z z1 z2)) ?_
   refine (W5 q c p s f v d i n).trans ?_
   rw [beq_self_eq_true,beq_self_eq_true,beq_self_eq_true,ha]
   have e:rightL q c p s f v d i n=false:=by
    unfold kU at ha
    unfold rightL
    revert ha
    cases bm v 0 255<;>cases bm d 0 255<;>cases bm i 0 255<;>intro ha<;>first|rfl|cases ha
   rw [e]
   rfl
  ·refine am (vs:=[.agg #[I q,I c,I p,I s,I f,I v,I d,I i,I n]]) (Λ:=ΛRt false) (m':=M0) z9 func222 rfl (fun z z1 z2=>bW (c:=f222.body.getD .skip) Nx (NB false z z1 z2)) ?_
   refine (W4 q c p s f v d i n).trans ?_
   rw [beq_self_eq_true,beq_self_eq_true,beq_self_eq_true,ha]
   have e:rightL q c p s f v d i n=(bif bm p 0 3 then (bif bm s 0 2 then (bif bm f 0 1 then (bif bm q 1 2147483648 then (bif bm c 0 1000000 then bm n 0 1000000 else false) else false) else false) else false) else false):=by
    unfold kU at ha
    unfold rightL
    revert ha
    cases bm v 0 255<;>cases bm d 0 255<;>cases bm i 0 255<;>intro ha<;>first|rfl|cases ha
   rw [e,To]
   cases bm p 0 3
   ·rfl
   cases bm s 0 2
   ·rfl
   cases bm f 0 1
   ·rfl
   cases decide (q>0)
   ·rfl
   cases bm q 0 2147483648
   ·rfl
   cases bm c 0 1000000
   ·rfl
   rfl
 ·cases h
def ΓLb:Orc:=ah 222 gRight ΓLa
theorem qj8:ΓLb.Ok prog:=ac z9 gRight_ok
def ΓLc:Orc:=ΓLb
theorem qj7:ΓLc.Ok prog:=qj8
def ΓLd:Orc:=ΓLc
theorem R8:ΓLd.Ok prog:=qj7
end Go.Proofs.YtainfdcfkgemhaaGreat.La
namespace Go.Proofs.YtainfdcfkgemhaaGreat.La
open Go Go.Proofs Go.Sx Fq
set_option linter.unusedVariables false
def P2 (q c p s f v d i n:Int):ByteArray:=be 4 q++be 4 c++be 1 (wI (wI (p+wI (4*f))+wI (16*s)))++(be 1 v++be 1 d++be 1 i)++be 4 n
def recS (q c p s f v d i n:Int):ByteArray:=bif !rightL q c p s f v d i n then ⟨#[]⟩ else P2 q c p s f v d i n++be 4 (wI (ip (P2 q c p s f v d i n)))++be 4 q
theorem Yu (q c p s f v d i n:Int):runG ΓLd L0 prog f224 [.v (.agg #[I q,I c,I p,I s,I f,I v,I d,I i,I n])] M0 =
 (bif !rightL q c p s f v d i n then some (.v (S { data:=#[]:ByteArray }),M0) else some (.v (S (be (4:Nat) q++be (4:Nat) c++be (1:Nat) (wI (wI (p+wI ((4:Int)*f))+wI ((16:Int)*s)))++(be (1:Nat) v++be (1:Nat) d++be (1:Nat) i)++be (4:Nat) n++be (4:Nat) (wI (ip (be (4:Nat) q++be (4:Nat) c++be (1:Nat) (wI (wI (p+wI ((4:Int)*f))+wI ((16:Int)*s)))++(be (1:Nat) v++be (1:Nat) d++be (1:Nat) i)++be (4:Nat) n)))++be (4:Nat) q)),M0)):=by kernel_rfl
def gPrint (vs:List Value):Option (Bool×Value) :=
 match vs with
 | [.agg ⟨[.int .i64 q,.int .i64 c,.int .i64 p,.int .i64 s,.int .i64 f,.int .i64 v,.int .i64 d,.int .i64 i,.int .i64 n]⟩]=>some (true,S (recS q c p s f v d i n))
 | _=>none
theorem qfD:an 224 gPrint:=by
 intro vs r h
 unfold gPrint at h
 split at h
 ·rename_i q c p s f v d i n
  obtain ⟨h1,rfl⟩:=aa h
  refine am (vs:=[.agg #[I q,I c,I p,I s,I f,I v,I d,I i,I n]]) (Λ:=L0) (m':=M0) R8 func224 rfl (fun z z1 z2=>CU _ z) ?_
  refine (Yu q c p s f v d i n).trans ?_
  unfold recS
  cases rightL q c p s f v d i n<;>rfl
 ·cases h
def ΓLe:Orc:=ah 224 gPrint ΓLd
theorem z7:ΓLe.Ok prog:=ac R8 qfD
def ΓLf:Orc:=ΓLe
theorem z6:ΓLf.Ok prog:=z7
def ΓLfa:Orc:={ ΓLf with av:=true }
theorem qj6:ΓLfa.Ok prog:=⟨z6.call,z6.rd,z6.eqv⟩
def vR (s:ByteArray):Option (SV×Mem):=bif !(recS (wI (((numN (s.extract (0:Nat) (4:Nat))):Int):Int)) (wI (((numN (s.extract (4:Nat) (8:Nat))):Int):Int)) (wI ((aw s (8:Int)).tmod (4:Int))) (wI (IntKind.u8.wrap ((aw s (8:Int)).tdiv (16:Int)))) (wI (IntKind.u8.wrap (((aw s (8:Int)).tmod (16:Int)).tdiv (4:Int)))) (wI (aw s (9:Int))) (wI (aw s (10:Int))) (wI (aw s (11:Int))) (wI (((numN (s.extract (12:Nat) (16:Nat))):Int):Int))).toList==s.toList then some (.v (.tuple #[(.agg #[(I 0),(I 0),(I 0),(I 0),(I 0),(I 0),(I 0),(I 0),(I 0)]),(Bo false)]),M0) else some (.v (.tuple #[(.agg #[(I (wI (((numN (s.extract (0:Nat) (4:Nat))):Int):Int))),(I (wI (((numN (s.extract (4:Nat) (8:Nat))):Int):Int))),(I (wI ((aw s (8:Int)).tmod (4:Int)))),(I (wI (IntKind.u8.wrap ((aw s (8:Int)).tdiv (16:Int))))),(I (wI (IntKind.u8.wrap (((aw s (8:Int)).tmod (16:Int)).tdiv (4:Int))))),(I (wI (aw s (9:Int)))),(I (wI (aw s (10:Int)))),(I (wI (aw s (11:Int)))),(I (wI (((numN (s.extract (12:Nat) (16:Nat))):Int):Int)))]),(Bo true)]),M0)
def vS (s:ByteArray):Option (SV×Mem):=same ((vR s)) ((vR s))
def vT (s:ByteArray):Option (SV×Mem):=bif true&&decide ((9:Int)<((s.size:Int):Int)) then (bif true&&decide ((10:Int)<((s.size:Int):Int)) then (bif true&&decide ((11:Int)<((s.size:Int):Int)) then (same ((same ((vR s)) ((vS s)))) ((same ((vS s)) ((vS s))))) else none) else none) else none
def vU (s:ByteArray):Option (SV×Mem):=same ((vT s)) ((vT s))
theorem Yt (s:ByteArray):runG ΓLfa L0 prog f187 [.v (S s)] M0 =
 (bif ((s.size:Int):Int) != (24:Int) then some (.v (.tuple #[(.agg #[(I 0),(I 0),(I 0),(I 0),(I 0),(I 0),(I 0),(I 0),(I 0)]),(Bo false)]),M0) else (bif true&&(true&&decide ((4:Int)<=((s.size:Int):Int))) then (bif bL (s.extract (0:Nat) (4:Nat)) then (bif true&&(true&&decide ((8:Int)<=((s.size:Int):Int))) then (bif bL (s.extract (4:Nat) (8:Nat)) then (bif true&&(true&&decide ((16:Int)<=((s.size:Int):Int))) then (bif bL (s.extract (12:Nat) (16:Nat)) then (bif true&&decide ((8:Int)<((s.size:Int):Int)) then (bif true&&decide ((8:Int)<((s.size:Int):Int)) then (bif true&&decide ((8:Int)<((s.size:Int):Int)) then (same ((same ((vT s)) ((vU s)))) ((same ((vU s)) ((vU s))))) else none) else none) else none) else none) else none) else none) else none) else none) else none)):=by kernel_rfl
end Go.Proofs.YtainfdcfkgemhaaGreat.La
namespace Go.Proofs.YtainfdcfkgemhaaGreat.La
open Go Go.Proofs Go.Sx Fq
set_option linter.unusedVariables false
def qS (s:ByteArray):Int:=((numN (s.extract 0 4):Nat):Int)
def cS (s:ByteArray):Int:=((numN (s.extract 4 8):Nat):Int)
def nS (s:ByteArray):Int:=((numN (s.extract 12 16):Nat):Int)
def pS (s:ByteArray):Int:=aw s 8 % 4
def uS (s:ByteArray):Int:=aw s 8 / 16
def fS (s:ByteArray):Int:=aw s 8 % 16 / 4
def wq (s:ByteArray):ByteArray:=recS (qS s) (cS s) (pS s) (uS s) (fS s) (aw s 9) (aw s 10) (aw s 11) (nS s)
def aD (s:ByteArray):Bool:=bif (s.size:Int) != 24 then false else (wq s).toList==s.toList
def zI (b:Bool) (x:Int):Int:=bif b then x else 0
def gRead (vs:List Value):Option (Bool×Value) :=
 match vs with
 | [.string s]=>some (true,.tuple #[.agg #[I (zI (aD s) (qS s)),I (zI (aD s) (cS s)),I (zI (aD s) (pS s)),I (zI (aD s) (uS s)),I (zI (aD s) (fS s)),I (zI (aD s) (aw s 9)),I (zI (aD s) (aw s 10)),I (zI (aD s) (aw s 11)),I (zI (aD s) (nS s))],Bo (aD s)])
 | _=>none
theorem zj {b:Int} (h:0<=b/\b<256):wI (b.tmod 4)=b % 4/\wI (IntKind.u8.wrap (b.tdiv 16))=b / 16/\wI (IntKind.u8.wrap ((b.tmod 16).tdiv 4))=b % 16 / 4/\b.tmod 4=b % 4/\wI (b.tdiv 16)=b / 16/\wI ((b.tmod 16).tdiv 4)=b % 16 / 4/\wI b=b:=by
 rw [Int.tmod_eq_emod_of_nonneg h.1,Int.tmod_eq_emod_of_nonneg h.1,Int.tdiv_eq_ediv_of_nonneg h.1,Int.tdiv_eq_ediv_of_nonneg (show 0<=b % 16 by omega),Kn,Kn,aM (n:=b % 4) (by omega),aM (n:=b / 16 % 256) (by omega),aM (n:=b % 16 / 4 % 256) (by omega),aM (n:=b / 16) (by omega),aM (n:=b % 16 / 4) (by omega),aM (n:=b) (by omega)]
 refine ⟨rfl,by omega,by omega,rfl,rfl,rfl,rfl⟩
theorem vp (s:ByteArray) (k:Nat):0<=aw s (k:Int)/\aw s (k:Int)<256:=by
 rw [gL]
 cases (L s)[k]? with
 | none=>exact ⟨by decide,by decide⟩
 | some b=>exact t5 b
theorem qbg {s:ByteArray} {i:Nat} (h:i+4<=s.size):((numN (s.extract i (i+4)):Nat):Int)<4294967296:=by
 obtain ⟨b0,b1,b2,b3,hb,e0,e1,e2,e3⟩:=qg2 h
 rw [qbf hb]
 have:=t5 b0
 have:=t5 b1
 have:=t5 b2
 have:=t5 b3
 omega
theorem Cz {s:ByteArray} {i:Nat} (h:i+4<=s.size):wI ((numN (s.extract i (i+4)):Nat):Int)=((numN (s.extract i (i+4)):Nat):Int):=by
 have:=qbg h
 exact aM (by omega)
theorem szS_ext {s:ByteArray} (h:s.size=24) (a b:Nat):bL (s.extract a b)=true:=Nat.ble_eq_true_of_le (by rw [ByteArray.size_extract];omega)
theorem qfC:an 187 gRead:=by
 intro vs r h
 unfold gRead at h
 split at h
 ·rename_i s
  obtain ⟨h1,rfl⟩:=aa h
  refine am (vs:=[S s]) (Λ:=L0) (m':=M0) qj6 func187 rfl (fun z z1 z2=>CU _ z) ?_
  refine (Yt s).trans ?_
  unfold vU vT vS vR
  by_cases hs:s.size=24
  ·have e0:wI ((numN (s.extract 0 4):Nat):Int)=qS s:=Cz (i:=0) (by omega)
   have e1:wI ((numN (s.extract 4 8):Nat):Int)=cS s:=Cz (i:=4) (by omega)
   have e2:wI ((numN (s.extract 12 16):Nat):Int)=nS s:=Cz (i:=12) (by omega)
   obtain ⟨a1,a2,a3,_⟩:=zj (vp s 8)
   have b9:wI (aw s 9)=aw s 9:=(zj (vp s 9)).2.2.2.2.2.2
   have b10:wI (aw s 10)=aw s 10:=(zj (vp s 10)).2.2.2.2.2.2
   have b11:wI (aw s 11)=aw s 11:=(zj (vp s 11)).2.2.2.2.2.2
   rw [show ((8:Nat):Int)=(8:Int) from rfl] at a1 a2 a3
   rw [e0,e1,e2,a1,a2,a3,b9,b10,b11,szS_ext hs,szS_ext hs,szS_ext hs]
   have hz:aD s=((wq s).toList==s.toList):=by
    unfold aD
    rw [hs]
    rfl
   rw [hs,hz,show (true&&decide ((9:Int)<((24:Nat):Int)))=true from rfl,show (true&&decide ((10:Int)<((24:Nat):Int)))=true from rfl,show (true&&decide ((11:Int)<((24:Nat):Int)))=true from rfl]
   simp only [cond_true,fY]
   show (bif !((wq s).toList==s.toList) then _ else _)=_
   cases ((wq s).toList==s.toList)<;>rfl
  ·have hz:aD s=false:=by
    unfold aD
    rw [bne_iff_ne.2 (show (s.size:Int)≠24 by omega)]
    rfl
   rw [bne_iff_ne.2 (show (s.size:Int)≠24 by omega),hz]
   rfl
 ·cases h
def ΓLg:Orc:=ah 187 gRead ΓLf
theorem qj5:ΓLg.Ok prog:=ac z6 qfC
def ΓLh:Orc:=ΓLg
theorem ux:ΓLh.Ok prog:=qj5
end Go.Proofs.YtainfdcfkgemhaaGreat.La
namespace Go.Proofs.YtainfdcfkgemhaaGreat.La
open Go Go.Proofs Go.Sx Fq
set_option linter.unusedVariables false
def ML (base q c p s f v d i n next:Int) (L:List (List Dat)) (mark:Bool) (mx w:Int) (down waits:Bool) (lets:Int):Mem:=⟨[[.ptr 1 0,.v (I base),.v (I q),.v (I c),.v (I p),.v (I s),.v (I f),.v (I v),.v (I d),.v (I i),.v (I n),.v (I next)],[.row 0,.ptr 2 0,.v (Bo down),.v (Bo waits),.v (I lets)],[.v (I mx),.v (I w)]],[true,true,true],[.live ⟨5,[.num .u8],L,true,mark⟩]⟩
def ΓLv:Orc:={ ΓLh with av:=true }
theorem qj2:ΓLv.Ok prog:=⟨ux.call,ux.rd,ux.eqv⟩
theorem Yr (base q c p s f v d i n next:Int) (down waits:Bool) (lets mx w:Int) (L:List (List Dat)) (mark:Bool):runG ΓLv L0 prog f66 [.ptr 0 0] (ML base q c p s f v d i n next L mark mx w down waits lets) =
 (same (some (.v (.tuple #[(.agg #[(I q),(I c),(I p),(I s),(I f),(I v),(I d),(I i),(I n)]),(Bo (decide (q>(0:Int))))]),⟨[[.ptr 1 0,.v (I base),.v (I q),.v (I c),.v (I p),.v (I s),.v (I f),.v (I v),.v (I d),.v (I i),.v (I n),.v (I next)],[.row 0,.ptr 2 0,.v (Bo down),.v (Bo waits),.v (I lets)],[.v (I mx),.v (I w)]],[true,true,true],[.live ⟨5,[.num .u8],L,true,mark⟩]⟩)) (some (.v (.tuple #[(.agg #[(I q),(I c),(I p),(I s),(I f),(I v),(I d),(I i),(I n)]),(Bo (decide (q>(0:Int))))]),⟨[[.ptr 1 0,.v (I base),.v (I q),.v (I c),.v (I p),.v (I s),.v (I f),.v (I v),.v (I d),.v (I i),.v (I n),.v (I next)],[.row 0,.ptr 2 0,.v (Bo down),.v (Bo waits),.v (I lets)],[.v (I mx),.v (I w)]],[true,true,true],[.live ⟨5,[.num .u8],L,true,mark⟩]⟩))):=by kernel_rfl
theorem Ys (base q c p s f v d i n next:Int) (down waits:Bool) (lets mx w:Int) (L:List (List Dat)) (mark:Bool):runG ΓLv L0 prog f66 [.ptr 0 0] (ML base q c p s f v d i n next L mark mx w down waits lets)=some (.v (.tuple #[.agg #[I q,I c,I p,I s,I f,I v,I d,I i,I n],Bo (decide (q>0))]),(ML base q c p s f v d i n next L mark mx w down waits lets)):=(Yr base q c p s f v d i n next down waits lets mx w L mark).trans (by (try simp only [fY]);try rfl)
theorem Yq:runG ΓLh L0 prog f66 [.v (.pointer none)] M0=some (.v (.tuple #[.agg #[I 0,I 0,I 0,I 0,I 0,I 0,I 0,I 0,I 0],Bo false]),M0):=by kernel_rfl
def gLast (xs:List SV) (m:Mem):Option (Bool×Value) :=
 match xs,m with
 | [.ptr 0 0],⟨[[.ptr 1 0,.v (.int .i64 base),.v (.int .i64 q),.v (.int .i64 c),.v (.int .i64 p),.v (.int .i64 s),.v (.int .i64 f),.v (.int .i64 v),.v (.int .i64 d),.v (.int .i64 i),.v (.int .i64 n),.v (.int .i64 next)],[.row 0,.ptr 2 0,.v (.bool down),.v (.bool waits),.v (.int .i64 lets)],[.v (.int .i64 mx),.v (.int .i64 w)]],[true,true,true],[.live ⟨5,[.num .u8],L,true,mark⟩]⟩=>some (true,.tuple #[.agg #[I q,I c,I p,I s,I f,I v,I d,I i,I n],Bo (decide (q>0))])
 | [.v (.pointer none)],⟨[],[],[]⟩=>some (true,.tuple #[.agg #[I 0,I 0,I 0,I 0,I 0,I 0,I 0,I 0,I 0],Bo false])
 | _,_=>none
theorem gLast_ok:bi 66 gLast:=by
 intro xs m r h
 unfold gLast at h
 split at h
 ·rename_i base q c p s f v d i n next down waits lets mx w L mark
  obtain ⟨h1,rfl⟩:=aa h
  refine aj (Λ:=L0) qj2 func66 rfl af ?_
  exact Ys base q c p s f v d i n next down waits lets mx w L mark
 ·obtain ⟨h1,rfl⟩:=aa h
  refine aj (Λ:=L0) ux func66 rfl af ?_
  exact (Yq ).trans (rfl)
 ·cases h
def ΓN1:Orc:=aR 66 gLast ΓLh
theorem OkN1:ΓN1.Ok prog:=aL ux gLast_ok
def ΓLj:Orc:=ΓN1
theorem qj4:ΓLj.Ok prog:=OkN1
end Go.Proofs.YtainfdcfkgemhaaGreat.La
namespace Go.Proofs.YtainfdcfkgemhaaGreat.La
open Go Go.Proofs Go.Sx Fq
set_option linter.unusedVariables false
def ΓLk:Orc:=ΓLj
theorem qj3:ΓLk.Ok prog:=qj4
def ΓLw:Orc:={ ΓLe with wr:=fun f=>Nat.beq f 223 }
theorem R7:ΓLw.Ok prog:=⟨z7.call,z7.rd,z7.eqv⟩
def LR (base:Int) (q:Int) (next:Int) (down:Bool) (waits:Bool) (lets:Int) (mx:Int) (w:Int) (L:List (List Dat)) (mark:Bool) (c':Int) (p':Int) (s':Int) (f':Int) (v':Int) (d':Int) (i':Int) (n':Int):Option (SV×Mem):=some (.v (I 0),⟨[[.ptr 1 0,.v (I base),.v (I (wI (q+(1:Int)))),.v (I c'),.v (I p'),.v (I s'),.v (I f'),.v (I v'),.v (I d'),.v (I i'),.v (I n'),.v (I ((wI (next+(1:Int))).tmod (2)))],[.row 0,.ptr 2 0,.v (Bo (wrD (aJ L) down waits (wI (base+wI (next*(24:Int)))) (recS (wI (q+(1:Int))) c' p' s' f' v' d' i' n'))),.v (Bo (wrW (aJ L) down waits (wI (base+wI (next*(24:Int)))) (recS (wI (q+(1:Int))) c' p' s' f' v' d' i' n'))),.v (I lets)],[.v (I mx),.v (I (wrV (aJ L) mx w down (wI (base+wI (next*(24:Int)))) (recS (wI (q+(1:Int))) c' p' s' f' v' d' i' n')))]],[true,true,true],[.live ⟨5,[.num .u8],(cB (Fq.wrB (aJ L) down waits lets (wI (base+wI (next*(24:Int)))) (recS (wI (q+(1:Int))) c' p' s' f' v' d' i' n'))),true,mark⟩]⟩)
theorem WH (base q c p s f v d i n next:Int) (down waits:Bool) (lets mx w:Int) (L:List (List Dat)) (mark:Bool) (q' c' p' s' f' v' d' i' n':Int):runG ΓLw L0 prog f156 [.ptr 0 0,.v (.agg #[I q',I c',I p',I s',I f',I v',I d',I i',I n'])] (ML base q c p s f v d i n next L mark mx w down waits lets) =
 (bif !rightL (wI (q+(1:Int))) c' p' s' f' v' d' i' n' then some (.v (I 1),⟨[[.ptr 1 0,.v (I base),.v (I q),.v (I c),.v (I p),.v (I s),.v (I f),.v (I v),.v (I d),.v (I i),.v (I n),.v (I next)],[.row 0,.ptr 2 0,.v (Bo down),.v (Bo waits),.v (I lets)],[.v (I mx),.v (I w)]],[true,true,true],[.live ⟨5,[.num .u8],L,true,mark⟩]⟩) else (bif okL L lets then (bif wrE (aJ L) down waits (wI (base+wI (next*(24:Int)))) (recS (wI (q+(1:Int))) c' p' s' f' v' d' i' n') != (0:Int) then some (.v (I (wrE (aJ L) down waits (wI (base+wI (next*(24:Int)))) (recS (wI (q+(1:Int))) c' p' s' f' v' d' i' n'))),⟨[[.ptr 1 0,.v (I base),.v (I q),.v (I c),.v (I p),.v (I s),.v (I f),.v (I v),.v (I d),.v (I i),.v (I n),.v (I next)],[.row 0,.ptr 2 0,.v (Bo (wrD (aJ L) down waits (wI (base+wI (next*(24:Int)))) (recS (wI (q+(1:Int))) c' p' s' f' v' d' i' n'))),.v (Bo (wrW (aJ L) down waits (wI (base+wI (next*(24:Int)))) (recS (wI (q+(1:Int))) c' p' s' f' v' d' i' n'))),.v (I lets)],[.v (I mx),.v (I (wrV (aJ L) mx w down (wI (base+wI (next*(24:Int)))) (recS (wI (q+(1:Int))) c' p' s' f' v' d' i' n')))]],[true,true,true],[.live ⟨5,[.num .u8],(cB (Fq.wrB (aJ L) down waits lets (wI (base+wI (next*(24:Int)))) (recS (wI (q+(1:Int))) c' p' s' f' v' d' i' n'))),true,mark⟩]⟩) else (same (LR base q next down waits lets mx w L mark c' p' s' f' v' d' i' n') (LR base q next down waits lets mx w L mark c' p' s' f' v' d' i' n'))) else none)):=by kernel_rfl
theorem WJ (base q c p s f v d i n next:Int) (down waits:Bool) (lets mx w:Int) (L:List (List Dat)) (mark:Bool) (q' c' p' s' f' v' d' i' n':Int):runG ΓLw L0 prog f156 [.ptr 0 0,.v (.agg #[I q',I c',I p',I s',I f',I v',I d',I i',I n'])] (ML base q c p s f v d i n next L mark mx w down waits lets) =
 (bif !rightL (wI (q+(1:Int))) c' p' s' f' v' d' i' n' then some (.v (I 1),⟨[[.ptr 1 0,.v (I base),.v (I q),.v (I c),.v (I p),.v (I s),.v (I f),.v (I v),.v (I d),.v (I i),.v (I n),.v (I next)],[.row 0,.ptr 2 0,.v (Bo down),.v (Bo waits),.v (I lets)],[.v (I mx),.v (I w)]],[true,true,true],[.live ⟨5,[.num .u8],L,true,mark⟩]⟩) else (bif okL L lets then (bif wrE (aJ L) down waits (wI (base+wI (next*(24:Int)))) (recS (wI (q+(1:Int))) c' p' s' f' v' d' i' n') != (0:Int) then some (.v (I (wrE (aJ L) down waits (wI (base+wI (next*(24:Int)))) (recS (wI (q+(1:Int))) c' p' s' f' v' d' i' n'))),⟨[[.ptr 1 0,.v (I base),.v (I q),.v (I c),.v (I p),.v (I s),.v (I f),.v (I v),.v (I d),.v (I i),.v (I n),.v (I next)],[.row 0,.ptr 2 0,.v (Bo (wrD (aJ L) down waits (wI (base+wI (next*(24:Int)))) (recS (wI (q+(1:Int))) c' p' s' f' v' d' i' n'))),.v (Bo (wrW (aJ L) down waits (wI (base+wI (next*(24:Int)))) (recS (wI (q+(1:Int))) c' p' s' f' v' d' i' n'))),.v (I lets)],[.v (I mx),.v (I (wrV (aJ L) mx w down (wI (base+wI (next*(24:Int)))) (recS (wI (q+(1:Int))) c' p' s' f' v' d' i' n')))]],[true,true,true],[.live ⟨5,[.num .u8],(cB (Fq.wrB (aJ L) down waits lets (wI (base+wI (next*(24:Int)))) (recS (wI (q+(1:Int))) c' p' s' f' v' d' i' n'))),true,mark⟩]⟩) else some (.v (I 0),⟨[[.ptr 1 0,.v (I base),.v (I (wI (q+(1:Int)))),.v (I c'),.v (I p'),.v (I s'),.v (I f'),.v (I v'),.v (I d'),.v (I i'),.v (I n'),.v (I ((wI (next+(1:Int))).tmod (2)))],[.row 0,.ptr 2 0,.v (Bo (wrD (aJ L) down waits (wI (base+wI (next*(24:Int)))) (recS (wI (q+(1:Int))) c' p' s' f' v' d' i' n'))),.v (Bo (wrW (aJ L) down waits (wI (base+wI (next*(24:Int)))) (recS (wI (q+(1:Int))) c' p' s' f' v' d' i' n'))),.v (I lets)],[.v (I mx),.v (I (wrV (aJ L) mx w down (wI (base+wI (next*(24:Int)))) (recS (wI (q+(1:Int))) c' p' s' f' v' d' i' n')))]],[true,true,true],[.live ⟨5,[.num .u8],(cB (Fq.wrB (aJ L) down waits lets (wI (base+wI (next*(24:Int)))) (recS (wI (q+(1:Int))) c' p' s' f' v' d' i' n'))),true,mark⟩]⟩)) else none)):=(WH base q c p s f v d i n next down waits lets mx w L mark q' c' p' s' f' v' d' i' n').trans (by (try simp only [fY]);try rfl)
def aW (base:Int) (down:Bool) (L:List (List Dat)):ByteArray:=bif refE down (((aJ L).size:Int):Int) base (48:Int) != (0:Int) then { data:=#[]:ByteArray } else (aJ L).extract base.toNat (base+(48:Int)).toNat
def BT (base:Int) (down:Bool) (waits:Bool) (lets:Int) (mx:Int) (w:Int) (L:List (List Dat)) (mark:Bool):Option (SV×Mem):=some (.tup [.one (.ptr 2 0),.one (.v (I 0))],⟨[[.row 0,.ptr 1 0,.v (Bo down),.v (Bo waits),.v (I lets)],[.v (I mx),.v (I w)],[.ptr 0 0,.v (I base),.v (I (zI (aD ((aW base down L).extract (24:Nat) (48:Nat))) (qS ((aW base down L).extract (24:Nat) (48:Nat))))),.v (I (zI (aD ((aW base down L).extract (24:Nat) (48:Nat))) (cS ((aW base down L).extract (24:Nat) (48:Nat))))),.v (I (zI (aD ((aW base down L).extract (24:Nat) (48:Nat))) (pS ((aW base down L).extract (24:Nat) (48:Nat))))),.v (I (zI (aD ((aW base down L).extract (24:Nat) (48:Nat))) (uS ((aW base down L).extract (24:Nat) (48:Nat))))),.v (I (zI (aD ((aW base down L).extract (24:Nat) (48:Nat))) (fS ((aW base down L).extract (24:Nat) (48:Nat))))),.v (I (zI (aD ((aW base down L).extract (24:Nat) (48:Nat))) (aw ((aW base down L).extract (24:Nat) (48:Nat)) (9:Int)))),.v (I (zI (aD ((aW base down L).extract (24:Nat) (48:Nat))) (aw ((aW base down L).extract (24:Nat) (48:Nat)) (10:Int)))),.v (I (zI (aD ((aW base down L).extract (24:Nat) (48:Nat))) (aw ((aW base down L).extract (24:Nat) (48:Nat)) (11:Int)))),.v (I (zI (aD ((aW base down L).extract (24:Nat) (48:Nat))) (nS ((aW base down L).extract (24:Nat) (48:Nat))))),.v (I 0)]],[true,true,true],[.live ⟨5,[.num .u8],L,true,mark⟩]⟩)
def BU (base:Int) (down:Bool) (waits:Bool) (lets:Int) (mx:Int) (w:Int) (L:List (List Dat)) (mark:Bool):Option (SV×Mem):=same (BT base down waits lets mx w L mark) (BT base down waits lets mx w L mark)
def BW (base:Int) (down:Bool) (waits:Bool) (lets:Int) (mx:Int) (w:Int) (L:List (List Dat)) (mark:Bool):Option (SV×Mem):=bif true&&(true&&decide ((48:Int)<=(((aW base down L).size:Int):Int))) then (bif aD ((aW base down L).extract (24:Nat) (48:Nat)) then (bif decide (zI (aD ((aW base down L).extract (24:Nat) (48:Nat))) (qS ((aW base down L).extract (24:Nat) (48:Nat)))>zI (aD ((aW base down L).extract (0:Nat) (24:Nat))) (qS ((aW base down L).extract (0:Nat) (24:Nat)))) then (BU base down waits lets mx w L mark) else some (.tup [.one (.ptr 2 0),.one (.v (I 0))],⟨[[.row 0,.ptr 1 0,.v (Bo down),.v (Bo waits),.v (I lets)],[.v (I mx),.v (I w)],[.ptr 0 0,.v (I base),.v (I (zI (aD ((aW base down L).extract (0:Nat) (24:Nat))) (qS ((aW base down L).extract (0:Nat) (24:Nat))))),.v (I (zI (aD ((aW base down L).extract (0:Nat) (24:Nat))) (cS ((aW base down L).extract (0:Nat) (24:Nat))))),.v (I (zI (aD ((aW base down L).extract (0:Nat) (24:Nat))) (pS ((aW base down L).extract (0:Nat) (24:Nat))))),.v (I (zI (aD ((aW base down L).extract (0:Nat) (24:Nat))) (uS ((aW base down L).extract (0:Nat) (24:Nat))))),.v (I (zI (aD ((aW base down L).extract (0:Nat) (24:Nat))) (fS ((aW base down L).extract (0:Nat) (24:Nat))))),.v (I (zI (aD ((aW base down L).extract (0:Nat) (24:Nat))) (aw ((aW base down L).extract (0:Nat) (24:Nat)) (9:Int)))),.v (I (zI (aD ((aW base down L).extract (0:Nat) (24:Nat))) (aw ((aW base down L).extract (0:Nat) (24:Nat)) (10:Int)))),.v (I (zI (aD ((aW base down L).extract (0:Nat) (24:Nat))) (aw ((aW base down L).extract (0:Nat) (24:Nat)) (11:Int)))),.v (I (zI (aD ((aW base down L).extract (0:Nat) (24:Nat))) (nS ((aW base down L).extract (0:Nat) (24:Nat))))),.v (I 1)]],[true,true,true],[.live ⟨5,[.num .u8],L,true,mark⟩]⟩)) else some (.tup [.one (.ptr 2 0),.one (.v (I 0))],⟨[[.row 0,.ptr 1 0,.v (Bo down),.v (Bo waits),.v (I lets)],[.v (I mx),.v (I w)],[.ptr 0 0,.v (I base),.v (I (zI (aD ((aW base down L).extract (0:Nat) (24:Nat))) (qS ((aW base down L).extract (0:Nat) (24:Nat))))),.v (I (zI (aD ((aW base down L).extract (0:Nat) (24:Nat))) (cS ((aW base down L).extract (0:Nat) (24:Nat))))),.v (I (zI (aD ((aW base down L).extract (0:Nat) (24:Nat))) (pS ((aW base down L).extract (0:Nat) (24:Nat))))),.v (I (zI (aD ((aW base down L).extract (0:Nat) (24:Nat))) (uS ((aW base down L).extract (0:Nat) (24:Nat))))),.v (I (zI (aD ((aW base down L).extract (0:Nat) (24:Nat))) (fS ((aW base down L).extract (0:Nat) (24:Nat))))),.v (I (zI (aD ((aW base down L).extract (0:Nat) (24:Nat))) (aw ((aW base down L).extract (0:Nat) (24:Nat)) (9:Int)))),.v (I (zI (aD ((aW base down L).extract (0:Nat) (24:Nat))) (aw ((aW base down L).extract (0:Nat) (24:Nat)) (10:Int)))),.v (I (zI (aD ((aW base down L).extract (0:Nat) (24:Nat))) (aw ((aW base down L).extract (0:Nat) (24:Nat)) (11:Int)))),.v (I (zI (aD ((aW base down L).extract (0:Nat) (24:Nat))) (nS ((aW base down L).extract (0:Nat) (24:Nat))))),.v (I 1)]],[true,true,true],[.live ⟨5,[.num .u8],L,true,mark⟩]⟩)) else none
def BV (base:Int) (down:Bool) (waits:Bool) (lets:Int) (mx:Int) (w:Int) (L:List (List Dat)) (mark:Bool):Option (SV×Mem):=bif true&&(true&&decide ((48:Int)<=(((aW base down L).size:Int):Int))) then (bif aD ((aW base down L).extract (24:Nat) (48:Nat)) then (bif decide (zI (aD ((aW base down L).extract (24:Nat) (48:Nat))) (qS ((aW base down L).extract (24:Nat) (48:Nat)))>(0:Int)) then (BU base down waits lets mx w L mark) else some (.tup [.one (.ptr 2 0),.one (.v (I 0))],⟨[[.row 0,.ptr 1 0,.v (Bo down),.v (Bo waits),.v (I lets)],[.v (I mx),.v (I w)],[.ptr 0 0,.v (I base),.v (I 0),.v (I 0),.v (I 0),.v (I 0),.v (I 0),.v (I 0),.v (I 0),.v (I 0),.v (I 0),.v (I 0)]],[true,true,true],[.live ⟨5,[.num .u8],L,true,mark⟩]⟩)) else some (.tup [.one (.ptr 2 0),.one (.v (I 0))],⟨[[.row 0,.ptr 1 0,.v (Bo down),.v (Bo waits),.v (I lets)],[.v (I mx),.v (I w)],[.ptr 0 0,.v (I base),.v (I 0),.v (I 0),.v (I 0),.v (I 0),.v (I 0),.v (I 0),.v (I 0),.v (I 0),.v (I 0),.v (I 0)]],[true,true,true],[.live ⟨5,[.num .u8],L,true,mark⟩]⟩)) else none
theorem XZ (base:Int) (down waits:Bool) (lets mx w:Int) (L:List (List Dat)) (mark:Bool):runG ΓLk L0 prog f119 [.ptr 0 0,.v (I base)] (FM L mark mx w down waits lets) =
 (bif okL L lets then (bif refE down (((aJ L).size:Int):Int) base (48:Int) != (0:Int) then some (.v (.tuple #[(Value.pointer none),(I (refE down (((aJ L).size:Int):Int) base (48:Int)))]),⟨[[.row 0,.ptr 1 0,.v (Bo down),.v (Bo waits),.v (I lets)],[.v (I mx),.v (I w)]],[true,true],[.live ⟨5,[.num .u8],L,true,mark⟩]⟩) else (bif true&&(true&&decide ((24:Int)<=(((aW base down L).size:Int):Int))) then (bif aD ((aW base down L).extract (0:Nat) (24:Nat)) then (bif decide (zI (aD ((aW base down L).extract (0:Nat) (24:Nat))) (qS ((aW base down L).extract (0:Nat) (24:Nat)))>(0:Int)) then (same ((BW base down waits lets mx w L mark)) ((BW base down waits lets mx w L mark))) else (BV base down waits lets mx w L mark)) else (BV base down waits lets mx w L mark)) else none)) else none):=by kernel_rfl
def aI (base:Int) (down:Bool) (L:List (List Dat)):ByteArray:=bif refE down (((aJ L).size:Int):Int) base (48:Int) != (0:Int) then { data:=#[]:ByteArray } else (aJ L).extract base.toNat (base+(48:Int)).toNat
def vQ (base:Int) (down:Bool) (waits:Bool) (lets:Int) (mx:Int) (w:Int) (L:List (List Dat)) (mark:Bool):Option (SV×Mem):=bif true&&(true&&decide ((48:Int)<=(((aI base down L).size:Int):Int))) then (bif aD ((aI base down L).extract (24:Nat) (48:Nat)) then (bif decide (zI (aD ((aI base down L).extract (24:Nat) (48:Nat))) (qS ((aI base down L).extract (24:Nat) (48:Nat)))>(0:Int)) then some (.tup [.one (.ptr 2 0),.one (.v (I 0))],⟨[[.row 0,.ptr 1 0,.v (Bo down),.v (Bo waits),.v (I lets)],[.v (I mx),.v (I w)],[.ptr 0 0,.v (I base),.v (I (zI (aD ((aI base down L).extract (24:Nat) (48:Nat))) (qS ((aI base down L).extract (24:Nat) (48:Nat))))),.v (I (zI (aD ((aI base down L).extract (24:Nat) (48:Nat))) (cS ((aI base down L).extract (24:Nat) (48:Nat))))),.v (I (zI (aD ((aI base down L).extract (24:Nat) (48:Nat))) (pS ((aI base down L).extract (24:Nat) (48:Nat))))),.v (I (zI (aD ((aI base down L).extract (24:Nat) (48:Nat))) (uS ((aI base down L).extract (24:Nat) (48:Nat))))),.v (I (zI (aD ((aI base down L).extract (24:Nat) (48:Nat))) (fS ((aI base down L).extract (24:Nat) (48:Nat))))),.v (I (zI (aD ((aI base down L).extract (24:Nat) (48:Nat))) (aw ((aI base down L).extract (24:Nat) (48:Nat)) (9:Int)))),.v (I (zI (aD ((aI base down L).extract (24:Nat) (48:Nat))) (aw ((aI base down L).extract (24:Nat) (48:Nat)) (10:Int)))),.v (I (zI (aD ((aI base down L).extract (24:Nat) (48:Nat))) (aw ((aI base down L).extract (24:Nat) (48:Nat)) (11:Int)))),.v (I (zI (aD ((aI base down L).extract (24:Nat) (48:Nat))) (nS ((aI base down L).extract (24:Nat) (48:Nat))))),.v (I 0)]],[true,true,true],[.live ⟨5,[.num .u8],L,true,mark⟩]⟩) else some (.tup [.one (.ptr 2 0),.one (.v (I 0))],⟨[[.row 0,.ptr 1 0,.v (Bo down),.v (Bo waits),.v (I lets)],[.v (I mx),.v (I w)],[.ptr 0 0,.v (I base),.v (I 0),.v (I 0),.v (I 0),.v (I 0),.v (I 0),.v (I 0),.v (I 0),.v (I 0),.v (I 0),.v (I 0)]],[true,true,true],[.live ⟨5,[.num .u8],L,true,mark⟩]⟩)) else some (.tup [.one (.ptr 2 0),.one (.v (I 0))],⟨[[.row 0,.ptr 1 0,.v (Bo down),.v (Bo waits),.v (I lets)],[.v (I mx),.v (I w)],[.ptr 0 0,.v (I base),.v (I 0),.v (I 0),.v (I 0),.v (I 0),.v (I 0),.v (I 0),.v (I 0),.v (I 0),.v (I 0),.v (I 0)]],[true,true,true],[.live ⟨5,[.num .u8],L,true,mark⟩]⟩)) else none
theorem X0 (base:Int) (down waits:Bool) (lets mx w:Int) (L:List (List Dat)) (mark:Bool):runG ΓLk L0 prog f119 [.ptr 0 0,.v (I base)] (FM L mark mx w down waits lets) =
 (bif okL L lets then (bif refE down (((aJ L).size:Int):Int) base (48:Int) != (0:Int) then some (.v (.tuple #[(Value.pointer none),(I (refE down (((aJ L).size:Int):Int) base (48:Int)))]),⟨[[.row 0,.ptr 1 0,.v (Bo down),.v (Bo waits),.v (I lets)],[.v (I mx),.v (I w)]],[true,true],[.live ⟨5,[.num .u8],L,true,mark⟩]⟩) else (bif true&&(true&&decide ((24:Int)<=(((aI base down L).size:Int):Int))) then (bif aD ((aI base down L).extract (0:Nat) (24:Nat)) then (bif decide (zI (aD ((aI base down L).extract (0:Nat) (24:Nat))) (qS ((aI base down L).extract (0:Nat) (24:Nat)))>(0:Int)) then (bif true&&(true&&decide ((48:Int)<=(((aI base down L).size:Int):Int))) then (bif aD ((aI base down L).extract (24:Nat) (48:Nat)) then (bif decide (zI (aD ((aI base down L).extract (24:Nat) (48:Nat))) (qS ((aI base down L).extract (24:Nat) (48:Nat)))>zI (aD ((aI base down L).extract (0:Nat) (24:Nat))) (qS ((aI base down L).extract (0:Nat) (24:Nat)))) then some (.tup [.one (.ptr 2 0),.one (.v (I 0))],⟨[[.row 0,.ptr 1 0,.v (Bo down),.v (Bo waits),.v (I lets)],[.v (I mx),.v (I w)],[.ptr 0 0,.v (I base),.v (I (zI (aD ((aI base down L).extract (24:Nat) (48:Nat))) (qS ((aI base down L).extract (24:Nat) (48:Nat))))),.v (I (zI (aD ((aI base down L).extract (24:Nat) (48:Nat))) (cS ((aI base down L).extract (24:Nat) (48:Nat))))),.v (I (zI (aD ((aI base down L).extract (24:Nat) (48:Nat))) (pS ((aI base down L).extract (24:Nat) (48:Nat))))),.v (I (zI (aD ((aI base down L).extract (24:Nat) (48:Nat))) (uS ((aI base down L).extract (24:Nat) (48:Nat))))),.v (I (zI (aD ((aI base down L).extract (24:Nat) (48:Nat))) (fS ((aI base down L).extract (24:Nat) (48:Nat))))),.v (I (zI (aD ((aI base down L).extract (24:Nat) (48:Nat))) (aw ((aI base down L).extract (24:Nat) (48:Nat)) (9:Int)))),.v (I (zI (aD ((aI base down L).extract (24:Nat) (48:Nat))) (aw ((aI base down L).extract (24:Nat) (48:Nat)) (10:Int)))),.v (I (zI (aD ((aI base down L).extract (24:Nat) (48:Nat))) (aw ((aI base down L).extract (24:Nat) (48:Nat)) (11:Int)))),.v (I (zI (aD ((aI base down L).extract (24:Nat) (48:Nat))) (nS ((aI base down L).extract (24:Nat) (48:Nat))))),.v (I 0)]],[true,true,true],[.live ⟨5,[.num .u8],L,true,mark⟩]⟩) else some (.tup [.one (.ptr 2 0),.one (.v (I 0))],⟨[[.row 0,.ptr 1 0,.v (Bo down),.v (Bo waits),.v (I lets)],[.v (I mx),.v (I w)],[.ptr 0 0,.v (I base),.v (I (zI (aD ((aI base down L).extract (0:Nat) (24:Nat))) (qS ((aI base down L).extract (0:Nat) (24:Nat))))),.v (I (zI (aD ((aI base down L).extract (0:Nat) (24:Nat))) (cS ((aI base down L).extract (0:Nat) (24:Nat))))),.v (I (zI (aD ((aI base down L).extract (0:Nat) (24:Nat))) (pS ((aI base down L).extract (0:Nat) (24:Nat))))),.v (I (zI (aD ((aI base down L).extract (0:Nat) (24:Nat))) (uS ((aI base down L).extract (0:Nat) (24:Nat))))),.v (I (zI (aD ((aI base down L).extract (0:Nat) (24:Nat))) (fS ((aI base down L).extract (0:Nat) (24:Nat))))),.v (I (zI (aD ((aI base down L).extract (0:Nat) (24:Nat))) (aw ((aI base down L).extract (0:Nat) (24:Nat)) (9:Int)))),.v (I (zI (aD ((aI base down L).extract (0:Nat) (24:Nat))) (aw ((aI base down L).extract (0:Nat) (24:Nat)) (10:Int)))),.v (I (zI (aD ((aI base down L).extract (0:Nat) (24:Nat))) (aw ((aI base down L).extract (0:Nat) (24:Nat)) (11:Int)))),.v (I (zI (aD ((aI base down L).extract (0:Nat) (24:Nat))) (nS ((aI base down L).extract (0:Nat) (24:Nat))))),.v (I 1)]],[true,true,true],[.live ⟨5,[.num .u8],L,true,mark⟩]⟩)) else some (.tup [.one (.ptr 2 0),.one (.v (I 0))],⟨[[.row 0,.ptr 1 0,.v (Bo down),.v (Bo waits),.v (I lets)],[.v (I mx),.v (I w)],[.ptr 0 0,.v (I base),.v (I (zI (aD ((aI base down L).extract (0:Nat) (24:Nat))) (qS ((aI base down L).extract (0:Nat) (24:Nat))))),.v (I (zI (aD ((aI base down L).extract (0:Nat) (24:Nat))) (cS ((aI base down L).extract (0:Nat) (24:Nat))))),.v (I (zI (aD ((aI base down L).extract (0:Nat) (24:Nat))) (pS ((aI base down L).extract (0:Nat) (24:Nat))))),.v (I (zI (aD ((aI base down L).extract (0:Nat) (24:Nat))) (uS ((aI base down L).extract (0:Nat) (24:Nat))))),.v (I (zI (aD ((aI base down L).extract (0:Nat) (24:Nat))) (fS ((aI base down L).extract (0:Nat) (24:Nat))))),.v (I (zI (aD ((aI base down L).extract (0:Nat) (24:Nat))) (aw ((aI base down L).extract (0:Nat) (24:Nat)) (9:Int)))),.v (I (zI (aD ((aI base down L).extract (0:Nat) (24:Nat))) (aw ((aI base down L).extract (0:Nat) (24:Nat)) (10:Int)))),.v (I (zI (aD ((aI base down L).extract (0:Nat) (24:Nat))) (aw ((aI base down L).extract (0:Nat) (24:Nat)) (11:Int)))),.v (I (zI (aD ((aI base down L).extract (0:Nat) (24:Nat))) (nS ((aI base down L).extract (0:Nat) (24:Nat))))),.v (I 1)]],[true,true,true],[.live ⟨5,[.num .u8],L,true,mark⟩]⟩)) else none) else (vQ base down waits lets mx w L mark)) else (vQ base down waits lets mx w L mark)) else none)) else none):=(XZ base down waits lets mx w L mark).trans (by unfold BV BW BU BT aW vQ aI;(try simp only [fY]);try rfl)
end Go.Proofs.YtainfdcfkgemhaaGreat.La
namespace Go.Proofs.YtainfdcfkgemhaaGreat.La
open Go Go.Proofs Go.Sx Fq
set_option linter.unusedVariables false
def svE (right:Bool) (e:Int):Int:=bif right then e else 1
def svI (ok:Bool) (x y:Int):Int:=bif ok then x else y
def svB (ok:Bool) (x y:Bool):Bool:=bif ok then x else y
def svT (ok:Bool) (x y:ByteArray):ByteArray:=bif ok then x else y
def gSave (xs:List SV) (m:Mem):Option (Bool×SV×Mem) :=
 match xs,m with
 | [.ptr 0 0,.v (.agg ⟨[.int .i64 q',.int .i64 c',.int .i64 p',.int .i64 s',.int .i64 f',.int .i64 v',.int .i64 d',.int .i64 i',.int .i64 n']⟩)],⟨[[.ptr 1 0,.v (.int .i64 base),.v (.int .i64 q),.v (.int .i64 c),.v (.int .i64 p),.v (.int .i64 s),.v (.int .i64 f),.v (.int .i64 v),.v (.int .i64 d),.v (.int .i64 i),.v (.int .i64 n),.v (.int .i64 next)],[.row 0,.ptr 2 0,.v (.bool down),.v (.bool waits),.v (.int .i64 lets)],[.v (.int .i64 mx),.v (.int .i64 w)]],[true,true,true],[.live ⟨5,[.num .u8],L,true,mark⟩]⟩ =>
  some (okL L lets,.v (I (svE (rightL (wI (q+1)) c' p' s' f' v' d' i' n') (wrE (aJ L) down waits (wI (base+wI (next*24))) (recS (wI (q+1)) c' p' s' f' v' d' i' n')))),
   ML base (svI (rightL (wI (q+1)) c' p' s' f' v' d' i' n'&&wrE (aJ L) down waits (wI (base+wI (next*24))) (recS (wI (q+1)) c' p' s' f' v' d' i' n')==0) (wI (q+1)) q) (svI (rightL (wI (q+1)) c' p' s' f' v' d' i' n'&&wrE (aJ L) down waits (wI (base+wI (next*24))) (recS (wI (q+1)) c' p' s' f' v' d' i' n')==0) c' c) (svI (rightL (wI (q+1)) c' p' s' f' v' d' i' n'&&wrE (aJ L) down waits (wI (base+wI (next*24))) (recS (wI (q+1)) c' p' s' f' v' d' i' n')==0) p' p) (svI (rightL (wI (q+1)) c' p' s' f' v' d' i' n'&&wrE (aJ L) down waits (wI (base+wI (next*24))) (recS (wI (q+1)) c' p' s' f' v' d' i' n')==0) s' s) (svI (rightL (wI (q+1)) c' p' s' f' v' d' i' n'&&wrE (aJ L) down waits (wI (base+wI (next*24))) (recS (wI (q+1)) c' p' s' f' v' d' i' n')==0) f' f) (svI (rightL (wI (q+1)) c' p' s' f' v' d' i' n'&&wrE (aJ L) down waits (wI (base+wI (next*24))) (recS (wI (q+1)) c' p' s' f' v' d' i' n')==0) v' v) (svI (rightL (wI (q+1)) c' p' s' f' v' d' i' n'&&wrE (aJ L) down waits (wI (base+wI (next*24))) (recS (wI (q+1)) c' p' s' f' v' d' i' n')==0) d' d) (svI (rightL (wI (q+1)) c' p' s' f' v' d' i' n'&&wrE (aJ L) down waits (wI (base+wI (next*24))) (recS (wI (q+1)) c' p' s' f' v' d' i' n')==0) i' i) (svI (rightL (wI (q+1)) c' p' s' f' v' d' i' n'&&wrE (aJ L) down waits (wI (base+wI (next*24))) (recS (wI (q+1)) c' p' s' f' v' d' i' n')==0) n' n) (svI (rightL (wI (q+1)) c' p' s' f' v' d' i' n'&&wrE (aJ L) down waits (wI (base+wI (next*24))) (recS (wI (q+1)) c' p' s' f' v' d' i' n')==0) ((wI (next+1)).tmod 2) next)
    (cB (svT (rightL (wI (q+1)) c' p' s' f' v' d' i' n') (Fq.wrB (aJ L) down waits lets (wI (base+wI (next*24))) (recS (wI (q+1)) c' p' s' f' v' d' i' n')) (aJ L))) mark mx (svI (rightL (wI (q+1)) c' p' s' f' v' d' i' n') (wrV (aJ L) mx w down (wI (base+wI (next*24))) (recS (wI (q+1)) c' p' s' f' v' d' i' n')) w) (svB (rightL (wI (q+1)) c' p' s' f' v' d' i' n') (wrD (aJ L) down waits (wI (base+wI (next*24))) (recS (wI (q+1)) c' p' s' f' v' d' i' n')) down) (svB (rightL (wI (q+1)) c' p' s' f' v' d' i' n') (wrW (aJ L) down waits (wI (base+wI (next*24))) (recS (wI (q+1)) c' p' s' f' v' d' i' n')) waits) lets)
 | [.v (.pointer none),.v (.agg ⟨[.int .i64 q',.int .i64 c',.int .i64 p',.int .i64 s',.int .i64 f',.int .i64 v',.int .i64 d',.int .i64 i',.int .i64 n']⟩)],⟨[],[],[]⟩=>some (true,.v (I 9),M0)
 | _,_=>none
theorem WI (q' c' p' s' f' v' d' i' n':Int):runG ΓLw L0 prog f156 [.v (.pointer none),.v (.agg #[I q',I c',I p',I s',I f',I v',I d',I i',I n'])] M0=some (.v (I 9),M0):=by kernel_rfl
theorem gSave_ok:aT 156 gSave:=by
 intro xs m r m' h
 unfold gSave at h
 split at h
 ·rename_i q' c' p' s' f' v' d' i' n' base q c p s f v d i n next down waits lets mx w L mark
  obtain ⟨h1,rfl,rfl⟩:=az h
  refine aj (Λ:=L0) R7 func156 rfl af ?_
  refine (WJ base q c p s f v d i n next down waits lets mx w L mark q' c' p' s' f' v' d' i' n').trans ?_
  have hL:cB (aJ L)=L:=(okL_iff.1 h1).1.symm
  rw [h1]
  cases hr:rightL (wI (q+1)) c' p' s' f' v' d' i' n'
  ·show _=some (_,ML base q c p s f v d i n next (cB (aJ L)) mark mx w down waits lets)
   rw [hL]
   rfl
  ·by_cases he:wrE (aJ L) down waits (wI (base+wI (next*24))) (recS (wI (q+1)) c' p' s' f' v' d' i' n')=0
   ·rw [he]
    rfl
   ·rw [bne_iff_ne.2 he,beq_eq_false_iff_ne.2 he]
    rfl
 ·rename_i q' c' p' s' f' v' d' i' n'
  obtain ⟨h1,rfl,rfl⟩:=az h
  refine aj (Λ:=L0) R7 func156 rfl af ?_
  exact WI q' c' p' s' f' v' d' i' n'
 ·cases h
def xH (a:ByteArray):Bool:=aD a&&decide (zI (aD a) (qS a)>0)
def Dl (a b:ByteArray):Bool:=aD b&&(bif xH a then decide (zI (aD b) (qS b)>zI (aD a) (qS a)) else decide (zI (aD b) (qS b)>0))
def opI (a b:ByteArray) (g:ByteArray->Int):Int:=bif Dl a b then zI (aD b) (g b) else bif xH a then zI (aD a) (g a) else 0
def opN (a b:ByteArray):Int:=bif Dl a b then 0 else bif xH a then 1 else 0
def sl0 (B:ByteArray) (base:Int):ByteArray:=(B.extract base.toNat (base+48).toNat).extract 0 24
def sl1 (B:ByteArray) (base:Int):ByteArray:=(B.extract base.toNat (base+48).toNat).extract 24 48
def at9 (s:ByteArray):Int:=aw s 9
def at10 (s:ByteArray):Int:=aw s 10
def at11 (s:ByteArray):Int:=aw s 11
def opM (base:Int) (a b:ByteArray) (L:List (List Dat)) (mark:Bool) (mx w:Int) (down waits:Bool) (lets:Int):Mem:=⟨[[.row 0,.ptr 1 0,.v (Bo down),.v (Bo waits),.v (I lets)],[.v (I mx),.v (I w)],[.ptr 0 0,.v (I base),.v (I (opI a b qS)),.v (I (opI a b cS)),.v (I (opI a b pS)),.v (I (opI a b uS)),.v (I (opI a b fS)),.v (I (opI a b at9)),.v (I (opI a b at10)),.v (I (opI a b at11)),.v (I (opI a b nS)),.v (I (opN a b))]],[true,true,true],[.live ⟨5,[.num .u8],L,true,mark⟩]⟩
def Ox (xs:List SV) (m:Mem):Option (Bool×SV×Mem) :=
 match xs,m with
 | [.ptr 0 0,.v (.int .i64 base)],⟨[[.row 0,.ptr 1 0,.v (.bool down),.v (.bool waits),.v (.int .i64 lets)],[.v (.int .i64 mx),.v (.int .i64 w)]],[true,true],[.live ⟨5,[.num .u8],L,true,mark⟩]⟩ =>
  some (okL L lets&&refE down ((aJ L).size:Int) base 48==0,.tup [.one (.ptr 2 0),.one (.v (I 0))],opM base (sl0 (aJ L) base) (sl1 (aJ L) base) L mark mx w down waits lets)
 | _,_=>none
theorem gOpenS_ok:aT 119 Ox:=by
 intro xs m r m' h
 unfold Ox at h
 split at h
 ·rename_i base down waits lets mx w L mark
  obtain ⟨h1,rfl,rfl⟩:=az h
  rw [Bool.and_eq_true,beq_iff_eq] at h1
  obtain ⟨hL,hr⟩:=h1
  obtain ⟨_,hB,_⟩:=okL_iff.1 hL
  obtain ⟨_,b0,_,b1⟩:=(Ca (by omega)).1 hr
  refine aj (Λ:=L0) qj3 func119 rfl af ?_
  refine (X0 base down waits lets mx w L mark).trans ?_
  unfold vQ aI
  have hz:((aJ L).extract base.toNat (base+48).toNat).size=48:=by rw [ByteArray.size_extract];omega
  rw [hL,hr]
  simp only [bne_self_eq_false,cond_false,cond_true,hz]
  unfold opM opI opN Dl xH sl0 sl1 at9 at10 at11
  generalize ((aJ L).extract base.toNat (base+48).toNat).extract 0 24=a
  generalize ((aJ L).extract base.toNat (base+48).toNat).extract 24 48=b
  cases aD a<;>cases aD b
  ·rfl
  ·cases decide (zI true (qS b)>0)<;>rfl
  ·cases decide (zI true (qS a)>0)<;>rfl
  ·cases decide (zI true (qS a)>0)
   ·cases decide (zI true (qS b)>0)<;>rfl
   ·cases decide (zI true (qS b)>zI true (qS a))<;>rfl
 ·cases h
end Go.Proofs.YtainfdcfkgemhaaGreat.La
