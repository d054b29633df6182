/-
  What is known of this program: sums,bytes and numbers;tables that are made once.
-/
import Derived.Test.YtainfdcfkgemhaaGreatYc
import Derived.Laws.Strings
import Derived.Test.YtainfdcfkgemhaaGreatSx
import Derived.Tactics
import Derived.Tactics2
import Derived.Defers
import Derived.Laws.Pointers
import Derived.Laws.LoneSync
import Derived.RegionTactic
import Derived.RegionCalls
import Derived.ChangeAlike
set_option maxRecDepth 100000
noncomputable section
namespace Go.Proofs.YtainfdcfkgemhaaGreat
open Go Go.Proofs Go.Sx
def n16 (n:Nat):Nat:=bif Nat.ble 32768 n then Nat.xor (2*n % 65536) 4129 else 2*n % 65536
def n32 (n:Nat):Nat:=bif Nat.beq (n % 2) 1 then Nat.xor (n / 2) 3988292384 else n / 2
def it (f:Nat→Nat):Nat→Nat→Nat
 | 0,n=>n
 | k+1,n=>it f k (f n)
def N16 (n:Nat):Nat:=it n16 8 n
def N32 (n:Nat):Nat:=it n32 8 n
theorem qcZ {a b:Nat} (k:Nat) (ha:a<2 ^ k) (hb:b<2 ^ k):Nat.xor a b<2 ^ k:=Nat.xor_lt_two_pow ha hb
theorem qq0 (n:Nat):n16 n<65536:=by
 unfold n16
 cases Nat.ble 32768 n
 ·exact Nat.mod_lt _ (by decide)
 ·exact qcZ 16 (Nat.mod_lt _ (by decide)) (by decide)
theorem qqZ {n:Nat} (h:n<4294967296):n32 n<4294967296:=by
 unfold n32
 cases Nat.beq (n % 2) 1
 ·show n / 2<_;omega
 ·exact qcZ 32 (by have:(2:Nat) ^ 32=4294967296:=by decide
                   omega) (by decide)
theorem qAg {f:Nat→Nat} {m:Nat} (hf:∀ n,n<m→f n<m):∀ (k n:Nat),n<m→it f k n<m
 | 0,_,h=>h
 | k+1,n,h=>qAg hf k (f n) (hf n h)
theorem qIu {n:Nat} (h:n<65536):N16 n<65536:=qAg (fun n _=>qq0 n) 8 n h
theorem qIt {n:Nat} (h:n<4294967296):N32 n<4294967296:=qAg (fun _=>qqZ) 8 n h
theorem qja (n:Nat):IntKind.u16.wrap (n:Int)=((n % 65536:Nat):Int):=by
 rw [← qbr true];simp only [wr];omega
theorem qfX (n:Nat):IntKind.u32.wrap (n:Int)=((n % 4294967296:Nat):Int):=by
 rw [← qbr true];simp only [wr];omega
theorem qC4 (w a b:Nat) (ha:a<2 ^ w) (hb:b<2 ^ w):(((BitVec.ofInt w (a:Int) ^^^ BitVec.ofInt w (b:Int)).toNat:Nat):Int)=((Nat.xor a b:Nat):Int):=by
 rw [BitVec.toNat_xor,BitVec.ofInt_natCast,BitVec.ofInt_natCast,BitVec.toNat_ofNat,BitVec.toNat_ofNat,Nat.mod_eq_of_lt ha,Nat.mod_eq_of_lt hb]
 rfl
theorem andB (w a b:Nat) (ha:a<2 ^ w) (hb:b<2 ^ w):(((BitVec.ofInt w (a:Int) &&& BitVec.ofInt w (b:Int)).toNat:Nat):Int)=((Nat.land a b:Nat):Int):=by
 rw [BitVec.toNat_and,BitVec.ofInt_natCast,BitVec.ofInt_natCast,BitVec.toNat_ofNat,BitVec.toNat_ofNat,Nat.mod_eq_of_lt ha,Nat.mod_eq_of_lt hb]
 rfl
theorem qwW {α:Type} (E:Nat→Int→Int→Option α) (F:Int→Option α) (c:Int→Bool) (A B:Int→Int) (f:Nat→Nat) (m:Nat) (hf:∀ n,n<m→f n<m) (hc:∀ n:Nat,n<m→(bif c (n:Int) then A (n:Int) else B (n:Int))=((f n:Nat):Int))
  (hE:∀ k x i,E (k+1) x i=bif decide (i<(8:Int)) then (bif c x then E k (A x) (wI (i+1)) else E k (B x) (wI (i+1))) else F x) :
  ∀ (j n:Nat),j≤8→n<m→E (j+1) (n:Int) ((8 - j:Nat):Int)=F ((it f j n:Nat):Int):=by
 intro j
 induction j with
 | zero =>
  intro n _ _
  rw [hE]
  rfl
 | succ j ih =>
  intro n hj hn
  rw [hE,show decide (((8 - (j+1):Nat):Int)<8)=true from decide_eq_true (by omega),qaw (by omega),show ((8 - (j+1):Nat):Int)+1=((8 - j:Nat):Int) by omega]
  have hx:=hc n hn
  have h2:(bif c (n:Int) then E (j+1) (A n) ((8 - j:Nat):Int) else E (j+1) (B n) ((8 - j:Nat):Int))=E (j+1) (bif c (n:Int) then A (n:Int) else B (n:Int)) ((8 - j:Nat):Int):=by
   cases c (n:Int)<;>rfl
  rw [cond_true,h2,hx,ih (f n) (by omega) (hf n hn)]
  rfl
def a16 (x:Int):Int:=IntKind.u16.wrap (((BitVec.ofInt 16 (IntKind.u16.wrap (x*2 ^ min (Int.toNat 1) 16)) ^^^ BitVec.ofInt 16 4129).toNat:Nat):Int)
def b16 (x:Int):Int:=IntKind.u16.wrap (x*2 ^ min (Int.toNat 1) 16)
theorem qmL (n:Nat) (_:n<65536):(bif decide ((n:Int)≥32768) then a16 n else b16 n)=((n16 n:Nat):Int):=by
 have e:(n:Int)*2 ^ min (Int.toNat 1) 16=((2*n:Nat):Int):=by
  rw [show min (Int.toNat 1) 16=1 from rfl];omega
 unfold a16 b16 n16
 rw [e,qja (2*n),show (4129:Int)=((4129:Nat):Int) from rfl,qC4 16 _ _ (Nat.mod_lt _ (by decide)) (by decide),qja]
 by_cases h:32768≤n
 ·rw [decide_eq_true (by omega),show Nat.ble 32768 n=true from by rw [Nat.ble_eq];exact h]
  simp only [cond_true]
  rw [Nat.mod_eq_of_lt (qcZ 16 (Nat.mod_lt _ (by decide)) (by decide))]
 ·rw [decide_eq_false (by omega),show Nat.ble 32768 n=false from by rw [← Bool.not_eq_true,Nat.ble_eq];exact h]
  rfl
def c32 (x:Int):Bool:=IntKind.u32.wrap (((BitVec.ofInt 32 x &&& BitVec.ofInt 32 1).toNat:Nat):Int)==1
def a32 (x:Int):Int:=IntKind.u32.wrap (((BitVec.ofInt 32 (Int.fdiv x (2 ^ min (Int.toNat 1) 32)) ^^^ BitVec.ofInt 32 3988292384).toNat:Nat):Int)
def b32 (x:Int):Int:=Int.fdiv x (2 ^ min (Int.toNat 1) 32)
theorem qec:(2:Nat) ^ 32=4294967296:=by decide
theorem qtU (n:Nat) (h:n<4294967296):(bif c32 n then a32 n else b32 n)=((n32 n:Nat):Int):=by
 have e:Int.fdiv (n:Int) (2 ^ min (Int.toNat 1) 32)=((n / 2:Nat):Int):=by
  rw [show min (Int.toNat 1) 32=1 from rfl,Int.fdiv_eq_ediv_of_nonneg _ (by decide)];omega
 unfold c32 a32 b32 n32
 rw [e,show (3988292384:Int)=((3988292384:Nat):Int) from rfl,show (1:Int)=((1:Nat):Int) from rfl,andB 32 _ _ (by rw [qec];exact h) (by decide),qC4 32 _ _ (by rw [qec];omega) (by decide),qfX,qfX]
 have e2:Nat.land n 1=n % 2:=Nat.and_one_is_mod n
 rw [e2]
 rcases Nat.mod_two_eq_zero_or_one n with h0|h0
 ·rw [h0];rfl
 ·rw [h0,Nat.mod_eq_of_lt (qcZ 32 (by rw [qec];omega) (by decide))];rfl
def d32 (x:Int):Bool:=Int.tmod x 2==1
def g32 (x:Int):Int:=IntKind.u32.wrap (((BitVec.ofInt 32 (IntKind.u32.wrap (Int.tdiv x 2)) ^^^ BitVec.ofInt 32 3988292384).toNat:Nat):Int)
def h32 (x:Int):Int:=IntKind.u32.wrap (Int.tdiv x 2)
theorem qtT (n:Nat) (h:n<4294967296):(bif d32 n then g32 n else h32 n)=((n32 n:Nat):Int):=by
 have e:Int.tdiv (n:Int) 2=((n / 2:Nat):Int):=by
  rw [Int.tdiv_eq_ediv_of_nonneg (by omega)];omega
 have e1:Int.tmod (n:Int) 2=((n % 2:Nat):Int):=by
  rw [Int.tmod_eq_emod_of_nonneg (by omega)];omega
 unfold d32 g32 h32 n32
 rw [e,e1,qfX (n / 2),Nat.mod_eq_of_lt (show n / 2<4294967296 by omega),show (3988292384:Int)=((3988292384:Nat):Int) from rfl,qC4 32 _ _ (by rw [qec];omega) (by decide),qfX]
 rcases Nat.mod_two_eq_zero_or_one n with h0|h0
 ·rw [h0];rfl
 ·rw [h0,Nat.mod_eq_of_lt (qcZ 32 (by rw [qec];omega) (by decide))];rfl
def p16 (x:Nat) (b:UInt8):Nat:=N16 (Nat.xor x (b.toNat*256))
def p32 (x:Nat) (b:UInt8):Nat:=N32 (Nat.xor x b.toNat)
theorem qba (b:UInt8):b.toNat<256:=b.toNat_lt
theorem qxY {x:Nat} (b:UInt8) (h:x<65536):p16 x b<65536 :=
 qIu (qcZ 16 h (by have:=qba b;show _<65536;omega))
theorem qqM {x:Nat} (b:UInt8) (h:x<4294967296):p32 x b<4294967296 :=
 qIt (qcZ 32 h (by have:=qba b;rw [qec];omega))
def R16 (x:Int) (s:ByteArray):Int:=((s.data.toList.foldl p16 x.toNat:Nat):Int)
def F32 (s:ByteArray):Nat:=s.data.toList.foldl p32 4294967295
theorem qsH {α:Type} {f:Nat→α→Nat} {m:Nat} (hf:∀ n b,n<m→f n b<m):∀ (l:List α) (n:Nat),n<m→l.foldl f n<m
 | [],_,h=>h
 | b::l,n,h=>qsH hf l _ (hf n b h)
theorem qdi {s:ByteArray} {k:Nat} {b:UInt8} (h:s.data[k]?=some b):qan s (k:Int)=(b.toNat:Int):=by
 unfold qan
 have:s[(k:Int).toNat]?=some b:=by
  rw [Int.toNat_natCast]
  have hk:k<s.size:=by
   have:=(Array.getElem?_eq_some_iff.1 h).1
   exact this
  rw [getElem?_pos s k hk]
  have h2:=(Array.getElem?_eq_some_iff.1 h).2
  rw [← h2]
  rfl
 rw [this]
theorem qqN {α:Type} (s:ByteArray) (hs:s.size≤9223372036854775807) (E:Nat→Int→Int→Option α) (F:Int→Option α) (g:Int→Int→Bool) (A:Int→Int→Int) (f:Nat→UInt8→Nat) (m:Nat) (hf:∀ n b,n<m→f n b<m)
  (hg:∀ (n k:Nat) b,n<m→s.data[k]?=some b→g n k=true∧A n k=((f n b:Nat):Int))
  (hE:∀ k x i,E (k+1) x i=bif decide (i<(s.size:Int)) then (bif decide (0≤i)&&decide (i<(s.size:Int)) then (bif g x i then E k (A x i) (wI (i+1)) else none) else none) else F x) :
  ∀ (j k n:Nat),k+j=s.size→n<m→E (j+1) (n:Int) (k:Int)=F (((s.data.toList.drop k).foldl f n:Nat):Int):=by
 intro j
 induction j with
 | zero =>
  intro k n hk _
  rw [hE,show decide ((k:Int)<(s.size:Int))=false from decide_eq_false (by omega)]
  rw [List.drop_eq_nil_of_le (by simp;omega)]
  rfl
 | succ j ih =>
  intro k n hk hn
  have hlt:k<s.data.size:=by show k<s.size;omega
  obtain ⟨b,hb⟩:∃ b,s.data[k]?=some b:=⟨s.data[k],by simp⟩
  obtain ⟨h1,h2⟩:=hg n k b hn hb
  rw [hE,show decide ((k:Int)<(s.size:Int))=true from decide_eq_true (by omega),show decide ((0:Int)≤(k:Int))=true from decide_eq_true (by omega),qaw (by omega),h1,h2]
  simp only [cond_true,Bool.and_self]
  rw [show (k:Int)+1=((k+1:Nat):Int) by omega,ih (k+1) _ (by omega) (hf n b hn)]
  have e2:s.data.toList.drop k=b::s.data.toList.drop (k+1):=by
   rw [List.drop_eq_getElem_cons (by simpa using hlt)]
   have:=(Array.getElem?_eq_some_iff.1 hb).2
   simp [this]
  rw [e2,List.foldl_cons]
def q16 (s:ByteArray) (x i:Int):Int:=IntKind.u16.wrap (((BitVec.ofInt 16 x ^^^ BitVec.ofInt 16 (IntKind.u16.wrap (IntKind.u16.wrap (qan s i)*2 ^ min (Int.toNat 8) 16))).toNat:Nat):Int)
def q32 (s:ByteArray) (x i:Int):Int:=IntKind.u32.wrap (((BitVec.ofInt 32 x ^^^ BitVec.ofInt 32 (IntKind.u32.wrap (qan s i))).toNat:Nat):Int)
theorem qzI {s:ByteArray} {n k:Nat} {b:UInt8} (hn:n<65536) (hb:s.data[k]?=some b):q16 s n k=((Nat.xor n (b.toNat*256):Nat):Int):=by
 have h:=qba b
 unfold q16
 rw [qdi hb,qja b.toNat,Nat.mod_eq_of_lt (show b.toNat<65536 by omega)]
 have e:((b.toNat:Nat):Int)*2 ^ min (Int.toNat 8) 16=((b.toNat*256:Nat):Int):=by
  rw [show min (Int.toNat 8) 16=8 from rfl];omega
 rw [e,qja (b.toNat*256),Nat.mod_eq_of_lt (show b.toNat*256<65536 by omega),qC4 16 _ _ hn (by show _<65536;omega),qja,Nat.mod_eq_of_lt (qcZ 16 hn (by show _<65536;omega))]
theorem qzH {s:ByteArray} {n k:Nat} {b:UInt8} (hn:n<4294967296) (hb:s.data[k]?=some b):q32 s n k=((Nat.xor n b.toNat:Nat):Int):=by
 have h:=qba b
 unfold q32
 rw [qdi hb,qfX b.toNat,Nat.mod_eq_of_lt (show b.toNat<4294967296 by omega)]
 rw [qC4 32 _ _ (by rw [qec];exact hn) (by rw [qec];omega),qfX,Nat.mod_eq_of_lt (qcZ 32 (by rw [qec];exact hn) (by rw [qec];omega))]
def inN (m:Nat) (x:Int):Bool :=
 match x with
 | .ofNat n=>Nat.ble (n+1) m
 | .negSucc _=>false
theorem qgn {m:Nat} {x:Int} (h:inN m x=true):∃ n:Nat,x=(n:Int)∧n<m:=by
 cases x with
 | ofNat n=>exact ⟨n,rfl,Nat.le_of_ble_eq_true h⟩
 | negSucc n=>cases h
theorem qrp {m n:Nat} (h:n<m):inN m (n:Int)=true:=Nat.ble_eq_true_of_le h
def qhg (x:Int):Bool:=inN 65536 x
def qkQ (x:Int):Bool:=inN 4294967296 x
def S16 (x:Int):Int:=((N16 x.toNat:Nat):Int)
def S32 (x:Int):Int:=((N32 x.toNat:Nat):Int)
theorem qfI {x:Int} (h:qhg x=true):∃ n:Nat,x=(n:Int)∧n<65536:=qgn h
theorem qfH {x:Int} (h:qkQ x=true):∃ n:Nat,x=(n:Int)∧n<4294967296:=qgn h
def R32 (x:Int) (s:ByteArray):Int:=((s.data.toList.foldl p32 x.toNat:Nat):Int)
def qf0 (s:ByteArray):Int:=((Nat.xor (F32 s) 4294967295:Nat):Int)
def qwM (s:ByteArray):Int:=IntKind.u32.wrap (((BitVec.ofInt 32 (R32 4294967295 s) ^^^ BitVec.ofInt 32 4294967295).toNat:Nat):Int)
theorem qIw (s:ByteArray):F32 s<4294967296:=qsH (fun _ b=>qqM b) _ _ (by decide)
theorem qny (s:ByteArray):qwM s=qf0 s:=by
 have h:=qIw s
 unfold qwM qf0
 have e:R32 4294967295 s=((F32 s:Nat):Int):=rfl
 rw [e,show (4294967295:Int)=((4294967295:Nat):Int) from rfl,qC4 32 _ _ (by rw [qec];exact h) (by decide),qfX,Nat.mod_eq_of_lt (qcZ 32 (by rw [qec];exact h) (by decide))]
def szS (s:ByteArray):Bool:=Nat.ble s.size 9223372036854775807
theorem qOn (s:ByteArray) (n k:Nat) (b:UInt8) (hn:n<65536) (hb:s.data[k]?=some b):qhg (q16 s n k)=true∧S16 (q16 s n k)=((p16 n b:Nat):Int):=by
 rw [qzI hn hb]
 exact ⟨qrp (qcZ 16 hn (by have:=qba b;show _<65536;omega)),rfl⟩
theorem qOm (s:ByteArray) (n k:Nat) (b:UInt8) (hn:n<4294967296) (hb:s.data[k]?=some b):qkQ (q32 s n k)=true∧S32 (q32 s n k)=((p32 n b:Nat):Int):=by
 rw [qzH hn hb]
 exact ⟨qrp (qcZ 32 (by rw [qec];exact hn) (by have:=qba b;rw [qec];omega)),rfl⟩
def qbS:List Bool:=qam 15 [0,4]
def qd8:List Bool:=qam 15 [0]
def qbm:Code:=qaH (Tryz.f348.body.getD .skip) 0
theorem qjL:qak (Tryz.f348.body.getD .skip)=[qbm]:=by kernel_rfl
theorem qie:qak qbm=[]:=by kernel_rfl
def qfQ (e:Ex) (st:St):Option (Ex×St):=some (e,qav 0 0 qd8 st)
theorem qk3 (k:Nat) (x i:Int):qaj ΓA13 Tryz.prog L0 (qav 0 0 qbS) qbm (k+1) (mk qbS [.v (U16 x),.v (I i)] M0) qfQ =
 bif decide (i<8) then (bif decide (x≥32768) then qaj ΓA13 Tryz.prog L0 (qav 0 0 qbS) qbm k (mk qbS [.v (U16 (a16 x)),.v (I (wI (i+1)))] M0) qfQ else qaj ΓA13 Tryz.prog L0 (qav 0 0 qbS) qbm k (mk qbS [.v (U16 (b16 x)),.v (I (wI (i+1)))] M0) qfQ)
 else some (.exit 0,mk qd8 [.v (U16 x)] M0):=by kernel_rfl
def qi0 (vals:List SV) (m:Mem):Option (Bool×Ex×St) :=
 match vals,m with
 | [.v (.int .u16 x),.v (.int .i64 i)],⟨[],[],[]⟩=>some (i==0&&qhg x,.exit 0,mk qd8 [.v (U16 (S16 x))] M0)
 | _,_=>none
def ΛEight16:qao:=fun _ st=>qeb 0 0 qbS qi0 st
theorem qih (z:Base) (z1:z.L.length=0) (z2:z.U.length=0):qas ΛEight16 Tryz.prog z qbm:=by
 refine qaF (Λ:=L0) (kx:=fun _=>qd8) qtl mixed z1 z2 (fun b hb=>by rw [qie] at hb;cases hb) (G:=qi0) (fun _=>rfl) ?_
 intro vals m e st' h
 unfold qi0 at h
 split at h
 ·rename_i x i
  obtain ⟨h1,rfl,rfl⟩:=qaf h
  simp only [Bool.and_eq_true,beq_iff_eq] at h1
  obtain ⟨rfl,h1⟩:=h1
  obtain ⟨n,rfl,hn⟩:=qfI h1
  exact ⟨9,qwW (fun k x i=>qaj ΓA13 Tryz.prog L0 (qav 0 0 qbS) qbm k (mk qbS [.v (U16 x),.v (I i)] M0) qfQ) (fun x=>some (.exit 0,mk qd8 [.v (U16 x)] M0)) (fun x=>decide (x≥32768)) a16 b16 n16 65536 (fun n _=>qq0 n) qmL qk3 8 n (Nat.le_refl 8) hn⟩
 ·cases h
theorem qom (x:Int):runG ΓA13 ΛEight16 Tryz.prog Tryz.f348 [.v (U16 x)] M0=bif (0:Int)==0&&qhg x then some (.v (U16 (S16 x)),M0) else none:=by kernel_rfl
def qiF (vs:List Value):Option (Bool×Value) :=
 match vs with
 | [.int .u16 x]=>some (qhg x,U16 (S16 x))
 | _=>none
theorem ql5:CtV 348 qiF:=by
 intro vs r h
 unfold qiF at h
 split at h
 ·rename_i x
  obtain ⟨h1,rfl⟩:=qac h
  refine qaA (vs:=[U16 x]) (Λ:=ΛEight16) (m':=M0) qtl Tryz.func348 rfl (fun z z1 z2=>qax (c:=Tryz.f348.body.getD .skip) qjL (qih z z1 z2)) ?_
  exact (qom x).trans (by rw [h1];rfl)
 ·cases h
def ΓK1:Orc:=qah 348 qiF ΓA13
theorem qNN:ΓK1.Ok Tryz.prog:=qaa qtl ql5
def qcO:List Bool:=qam 16 [0,3]
def qfT:List Bool:=qam 16 [0]
def qbC:Code:=qaH (Tryz.f265.body.getD .skip) 0
theorem qlq:qak (Tryz.f265.body.getD .skip)=[qbC]:=by kernel_rfl
theorem qjF:qak qbC=[]:=by kernel_rfl
def qi2 (e:Ex) (st:St):Option (Ex×St):=some (e,qav 0 0 qfT st)
theorem qn4 (k:Nat) (x i:Int):qaj ΓK1 Tryz.prog L0 (qav 0 0 qcO) qbC (k+1) (mk qcO [.v (U16 x),.v (I i)] M0) qi2 =
 bif decide (i<8) then (bif decide (x≥32768) then qaj ΓK1 Tryz.prog L0 (qav 0 0 qcO) qbC k (mk qcO [.v (U16 (a16 x)),.v (I (wI (i+1)))] M0) qi2 else qaj ΓK1 Tryz.prog L0 (qav 0 0 qcO) qbC k (mk qcO [.v (U16 (b16 x)),.v (I (wI (i+1)))] M0) qi2)
 else some (.exit 0,mk qfT [.v (U16 x)] M0):=by kernel_rfl
def qmu (vals:List SV) (m:Mem):Option (Bool×Ex×St) :=
 match vals,m with
 | [.v (.int .u16 x),.v (.int .i64 i)],⟨[],[],[]⟩=>some (i==0&&qhg x,.exit 0,mk qfT [.v (U16 (S16 x))] M0)
 | _,_=>none
def ΛStep16:qao:=fun _ st=>qeb 0 0 qcO qmu st
theorem qjN (z:Base) (z1:z.L.length=0) (z2:z.U.length=0):qas ΛStep16 Tryz.prog z qbC:=by
 refine qaF (Λ:=L0) (kx:=fun _=>qfT) qNN mixed z1 z2 (fun b hb=>by rw [qjF] at hb;cases hb) (G:=qmu) (fun _=>rfl) ?_
 intro vals m e st' h
 unfold qmu at h
 split at h
 ·rename_i x i
  obtain ⟨h1,rfl,rfl⟩:=qaf h
  simp only [Bool.and_eq_true,beq_iff_eq] at h1
  obtain ⟨rfl,h1⟩:=h1
  obtain ⟨n,rfl,hn⟩:=qfI h1
  exact ⟨9,qwW (fun k x i=>qaj ΓK1 Tryz.prog L0 (qav 0 0 qcO) qbC k (mk qcO [.v (U16 x),.v (I i)] M0) qi2) (fun x=>some (.exit 0,mk qfT [.v (U16 x)] M0)) (fun x=>decide (x≥32768)) a16 b16 n16 65536 (fun n _=>qq0 n) qmL qn4 8 n (Nat.le_refl 8) hn⟩
 ·cases h
theorem qpW (x:Int):runG ΓK1 ΛStep16 Tryz.prog Tryz.f265 [.v (U16 x)] M0=bif (0:Int)==0&&qhg x then some (.v (U16 (S16 x)),M0) else none:=by kernel_rfl
def qlG (vs:List Value):Option (Bool×Value) :=
 match vs with
 | [.int .u16 x]=>some (qhg x,U16 (S16 x))
 | _=>none
theorem qoL:CtV 265 qlG:=by
 intro vs r h
 unfold qlG at h
 split at h
 ·rename_i x
  obtain ⟨h1,rfl⟩:=qac h
  refine qaA (vs:=[U16 x]) (Λ:=ΛStep16) (m':=M0) qNN Tryz.func265 rfl (fun z z1 z2=>qax (c:=Tryz.f265.body.getD .skip) qlq (qjN z z1 z2)) ?_
  exact (qpW x).trans (by rw [h1];rfl)
 ·cases h
def ΓK2:Orc:=qah 265 qlG ΓK1
theorem qNM:ΓK2.Ok Tryz.prog:=qaa qNN qoL
def qgj:List Bool:=qam 21 [0,1,7,8]
def qfW:List Bool:=qam 21 [0]
def qb4:Code:=qaH (Tryz.f313.body.getD .skip) 0
theorem qlt:qak (Tryz.f313.body.getD .skip)=[qb4]:=by kernel_rfl
theorem qjJ:qak qb4=[]:=by kernel_rfl
def qmA (e:Ex) (st:St):Option (Ex×St):=some (e,qav 0 0 qfW st)
def qms (s:ByteArray) (x i:Int):St:=mk qgj [.v (U16 x),.v (S s),.v (I (s.size:Int)),.v (I i)] M0
theorem qn8 (s:ByteArray) (k:Nat) (x i:Int):qaj ΓK2 Tryz.prog L0 (qav 0 0 qgj) qb4 (k+1) (qms s x i) qmA =
 bif decide (i<(s.size:Int)) then (bif decide (0≤i)&&decide (i<(s.size:Int)) then (bif qhg (q16 s x i) then qaj ΓK2 Tryz.prog L0 (qav 0 0 qgj) qb4 k (qms s (S16 (q16 s x i)) (wI (i+1))) qmA else none) else none)
 else some (.exit 0,mk qfW [.v (U16 x)] M0):=by kernel_rfl
def qmx (vals:List SV) (m:Mem):Option (Bool×Ex×St) :=
 match vals,m with
 | [.v (.int .u16 x),.v (.string s),.v (.int .i64 n),.v (.int .i64 i)],⟨[],[],[]⟩=>some (n==(s.size:Int)&&(i==0&&(qhg x&&szS s)),.exit 0,mk qfW [.v (U16 (R16 x s))] M0)
 | _,_=>none
def ΛMore16:qao:=fun _ st=>qeb 0 0 qgj qmx st
theorem qjQ (z:Base) (z1:z.L.length=0) (z2:z.U.length=0):qas ΛMore16 Tryz.prog z qb4:=by
 refine qaF (Λ:=L0) (kx:=fun _=>qfW) qNM mixed z1 z2 (fun b hb=>by rw [qjJ] at hb;cases hb) (G:=qmx) (fun _=>rfl) ?_
 intro vals m e st' h
 unfold qmx at h
 split at h
 ·rename_i x s n i
  obtain ⟨h1,rfl,rfl⟩:=qaf h
  simp only [Bool.and_eq_true,beq_iff_eq] at h1
  obtain ⟨rfl,rfl,h1,h4⟩:=h1
  obtain ⟨n,rfl,hn⟩:=qfI h1
  exact ⟨s.size+1,qqN s (Nat.le_of_ble_eq_true h4) (fun k x i=>qaj ΓK2 Tryz.prog L0 (qav 0 0 qgj) qb4 k (qms s x i) qmA) (fun x=>some (.exit 0,mk qfW [.v (U16 x)] M0)) (fun x i=>qhg (q16 s x i)) (fun x i=>S16 (q16 s x i)) p16 65536 (fun n b=>qxY b) (qOn s) (qn8 s) s.size 0 n (by omega) hn⟩
 ·cases h
theorem qp8 (x:Int) (s:ByteArray):runG ΓK2 ΛMore16 Tryz.prog Tryz.f313 [.v (U16 x),.v (S s)] M0=bif (s.size:Int)==(s.size:Int)&&((0:Int)==0&&(qhg x&&szS s)) then some (.v (U16 (R16 x s)),M0) else none:=by kernel_rfl
def qlY (vs:List Value):Option (Bool×Value) :=
 match vs with
 | [.int .u16 x,.string s]=>some (qhg x&&szS s,(U16 (R16 x s)))
 | _=>none
theorem qoV:CtV 313 qlY:=by
 intro vs r h
 unfold qlY at h
 split at h
 ·rename_i x s
  obtain ⟨h1,rfl⟩:=qac h
  refine qaA (vs:=[U16 x,S s]) (Λ:=ΛMore16) (m':=M0) qNM Tryz.func313 rfl (fun z z1 z2=>qax (c:=Tryz.f313.body.getD .skip) qlt (qjQ z z1 z2)) ?_
  exact (qp8 x s).trans (by rw [h1,beq_self_eq_true];rfl)
 ·cases h
def ΓK3:Orc:=qah 313 qlY ΓK2
theorem qNL:ΓK3.Ok Tryz.prog:=qaa qNM qoV
def qep:List Bool:=qam 21 [0,1,5]
def qd6:List Bool:=qam 21 [0]
def qbD:Code:=qaH (Tryz.f201.body.getD .skip) 0
theorem qjH:qak (Tryz.f201.body.getD .skip)=[qbD]:=by kernel_rfl
theorem qib:qak qbD=[]:=by kernel_rfl
def qi3 (e:Ex) (st:St):Option (Ex×St):=some (e,qav 0 0 qd6 st)
def qiX (s:ByteArray) (x i:Int):St:=mk qep [.v (U16 x),.v (S s),.v (I i)] M0
theorem qk1 (s:ByteArray) (k:Nat) (x i:Int):qaj ΓK3 Tryz.prog L0 (qav 0 0 qep) qbD (k+1) (qiX s x i) qi3 =
 bif decide (i<(s.size:Int)) then (bif decide (0≤i)&&decide (i<(s.size:Int)) then (bif qhg (q16 s x i) then qaj ΓK3 Tryz.prog L0 (qav 0 0 qep) qbD k (qiX s (S16 (q16 s x i)) (wI (i+1))) qi3 else none) else none)
 else some (.exit 0,mk qd6 [.v (U16 x)] M0):=by kernel_rfl
def qiY (vals:List SV) (m:Mem):Option (Bool×Ex×St) :=
 match vals,m with
 | [.v (.int .u16 x),.v (.string s),.v (.int .i64 i)],⟨[],[],[]⟩=>some (i==0&&(qhg x&&szS s),.exit 0,mk qd6 [.v (U16 (R16 x s))] M0)
 | _,_=>none
def ΛRMore16:qao:=fun _ st=>qeb 0 0 qep qiY st
theorem qif (z:Base) (z1:z.L.length=0) (z2:z.U.length=0):qas ΛRMore16 Tryz.prog z qbD:=by
 refine qaF (Λ:=L0) (kx:=fun _=>qd6) qNL mixed z1 z2 (fun b hb=>by rw [qib] at hb;cases hb) (G:=qiY) (fun _=>rfl) ?_
 intro vals m e st' h
 unfold qiY at h
 split at h
 ·rename_i x s i
  obtain ⟨h1,rfl,rfl⟩:=qaf h
  simp only [Bool.and_eq_true,beq_iff_eq] at h1
  obtain ⟨rfl,h1,h4⟩:=h1
  obtain ⟨n,rfl,hn⟩:=qfI h1
  exact ⟨s.size+1,qqN s (Nat.le_of_ble_eq_true h4) (fun k x i=>qaj ΓK3 Tryz.prog L0 (qav 0 0 qep) qbD k (qiX s x i) qi3) (fun x=>some (.exit 0,mk qd6 [.v (U16 x)] M0)) (fun x i=>qhg (q16 s x i)) (fun x i=>S16 (q16 s x i)) p16 65536 (fun n b=>qxY b) (qOn s) (qk1 s) s.size 0 n (by omega) hn⟩
 ·cases h
theorem qof (x:Int) (s:ByteArray):runG ΓK3 ΛRMore16 Tryz.prog Tryz.f201 [.v (U16 x),.v (S s)] M0=bif (0:Int)==0&&(qhg x&&szS s) then some (.v (U16 (R16 x s)),M0) else none:=by kernel_rfl
def qiz (vs:List Value):Option (Bool×Value) :=
 match vs with
 | [.int .u16 x,.string s]=>some (qhg x&&szS s,(U16 (R16 x s)))
 | _=>none
theorem qlR:CtV 201 qiz:=by
 intro vs r h
 unfold qiz at h
 split at h
 ·rename_i x s
  obtain ⟨h1,rfl⟩:=qac h
  refine qaA (vs:=[U16 x,S s]) (Λ:=ΛRMore16) (m':=M0) qNL Tryz.func201 rfl (fun z z1 z2=>qax (c:=Tryz.f201.body.getD .skip) qjH (qif z z1 z2)) ?_
  exact (qof x s).trans (by rw [h1];rfl)
 ·cases h
def ΓK4:Orc:=qah 201 qiz ΓK3
theorem qPx:ΓK4.Ok Tryz.prog:=qaa qNL qlR
theorem quk (s:ByteArray):runG ΓK4 L0 Tryz.prog Tryz.f256 [.v (S s)] M0=bif qhg 65535&&szS s then some (.v (U16 (R16 65535 s)),M0) else none:=by kernel_rfl
def qrH (vs:List Value):Option (Bool×Value) :=
 match vs with
 | [.string s]=>some (szS s,U16 (R16 65535 s))
 | _=>none
theorem qrG:CtV 256 qrH:=by
 intro vs r h
 unfold qrH at h
 split at h
 ·rename_i s
  obtain ⟨h1,rfl⟩:=qac h
  refine qaA (vs:=[S s]) (Λ:=L0) (m':=M0) qPx Tryz.func256 rfl (fun z _ _=>qaq (by kernel_rfl) z) ?_
  exact (quk s).trans (by rw [h1];rfl)
 ·cases h
def ΓK5:Orc:=qah 256 qrH ΓK4
theorem qNK:ΓK5.Ok Tryz.prog:=qaa qPx qrG
def qbR:List Bool:=qam 16 [0,4]
def qd7:List Bool:=qam 16 [0]
def qbl:Code:=qaH (Tryz.f308.body.getD .skip) 0
theorem qjK:qak (Tryz.f308.body.getD .skip)=[qbl]:=by kernel_rfl
theorem qid:qak qbl=[]:=by kernel_rfl
def qfP (e:Ex) (st:St):Option (Ex×St):=some (e,qav 0 0 qd7 st)
theorem qk2 (k:Nat) (x i:Int):qaj ΓK5 Tryz.prog L0 (qav 0 0 qbR) qbl (k+1) (mk qbR [.v (U32 x),.v (I i)] M0) qfP =
 bif decide (i<8) then (bif c32 x then qaj ΓK5 Tryz.prog L0 (qav 0 0 qbR) qbl k (mk qbR [.v (U32 (a32 x)),.v (I (wI (i+1)))] M0) qfP else qaj ΓK5 Tryz.prog L0 (qav 0 0 qbR) qbl k (mk qbR [.v (U32 (b32 x)),.v (I (wI (i+1)))] M0) qfP)
 else some (.exit 0,mk qd7 [.v (U32 x)] M0):=by kernel_rfl
def qiZ (vals:List SV) (m:Mem):Option (Bool×Ex×St) :=
 match vals,m with
 | [.v (.int .u32 x),.v (.int .i64 i)],⟨[],[],[]⟩=>some (i==0&&qkQ x,.exit 0,mk qd7 [.v (U32 (S32 x))] M0)
 | _,_=>none
def ΛEight32:qao:=fun _ st=>qeb 0 0 qbR qiZ st
theorem qig (z:Base) (z1:z.L.length=0) (z2:z.U.length=0):qas ΛEight32 Tryz.prog z qbl:=by
 refine qaF (Λ:=L0) (kx:=fun _=>qd7) qNK mixed z1 z2 (fun b hb=>by rw [qid] at hb;cases hb) (G:=qiZ) (fun _=>rfl) ?_
 intro vals m e st' h
 unfold qiZ at h
 split at h
 ·rename_i x i
  obtain ⟨h1,rfl,rfl⟩:=qaf h
  simp only [Bool.and_eq_true,beq_iff_eq] at h1
  obtain ⟨rfl,h1⟩:=h1
  obtain ⟨n,rfl,hn⟩:=qfH h1
  exact ⟨9,qwW (fun k x i=>qaj ΓK5 Tryz.prog L0 (qav 0 0 qbR) qbl k (mk qbR [.v (U32 x),.v (I i)] M0) qfP) (fun x=>some (.exit 0,mk qd7 [.v (U32 x)] M0)) (fun x=>c32 x) a32 b32 n32 4294967296 (fun n=>qqZ) qtU qk2 8 n (Nat.le_refl 8) hn⟩
 ·cases h
theorem qol (x:Int):runG ΓK5 ΛEight32 Tryz.prog Tryz.f308 [.v (U32 x)] M0=bif (0:Int)==0&&qkQ x then some (.v (U32 (S32 x)),M0) else none:=by kernel_rfl
def qiE (vs:List Value):Option (Bool×Value) :=
 match vs with
 | [.int .u32 x]=>some (qkQ x,U32 (S32 x))
 | _=>none
theorem ql4:CtV 308 qiE:=by
 intro vs r h
 unfold qiE at h
 split at h
 ·rename_i x
  obtain ⟨h1,rfl⟩:=qac h
  refine qaA (vs:=[U32 x]) (Λ:=ΛEight32) (m':=M0) qNK Tryz.func308 rfl (fun z z1 z2=>qax (c:=Tryz.f308.body.getD .skip) qjK (qig z z1 z2)) ?_
  exact (qol x).trans (by rw [h1];rfl)
 ·cases h
def ΓK6:Orc:=qah 308 qiE ΓK5
theorem qNJ:ΓK6.Ok Tryz.prog:=qaa qNK ql4
def qcN:List Bool:=qam 17 [0,3]
def qfS:List Bool:=qam 17 [0]
def qbB:Code:=qaH (Tryz.f203.body.getD .skip) 0
theorem qlp:qak (Tryz.f203.body.getD .skip)=[qbB]:=by kernel_rfl
theorem qjE:qak qbB=[]:=by kernel_rfl
def qi1 (e:Ex) (st:St):Option (Ex×St):=some (e,qav 0 0 qfS st)
theorem qn3 (k:Nat) (x i:Int):qaj ΓK6 Tryz.prog L0 (qav 0 0 qcN) qbB (k+1) (mk qcN [.v (U32 x),.v (I i)] M0) qi1 =
 bif decide (i<8) then (bif d32 x then qaj ΓK6 Tryz.prog L0 (qav 0 0 qcN) qbB k (mk qcN [.v (U32 (g32 x)),.v (I (wI (i+1)))] M0) qi1 else qaj ΓK6 Tryz.prog L0 (qav 0 0 qcN) qbB k (mk qcN [.v (U32 (h32 x)),.v (I (wI (i+1)))] M0) qi1)
 else some (.exit 0,mk qfS [.v (U32 x)] M0):=by kernel_rfl
def qmt (vals:List SV) (m:Mem):Option (Bool×Ex×St) :=
 match vals,m with
 | [.v (.int .u32 x),.v (.int .i64 i)],⟨[],[],[]⟩=>some (i==0&&qkQ x,.exit 0,mk qfS [.v (U32 (S32 x))] M0)
 | _,_=>none
def ΛStep32:qao:=fun _ st=>qeb 0 0 qcN qmt st
theorem qjM (z:Base) (z1:z.L.length=0) (z2:z.U.length=0):qas ΛStep32 Tryz.prog z qbB:=by
 refine qaF (Λ:=L0) (kx:=fun _=>qfS) qNJ mixed z1 z2 (fun b hb=>by rw [qjE] at hb;cases hb) (G:=qmt) (fun _=>rfl) ?_
 intro vals m e st' h
 unfold qmt at h
 split at h
 ·rename_i x i
  obtain ⟨h1,rfl,rfl⟩:=qaf h
  simp only [Bool.and_eq_true,beq_iff_eq] at h1
  obtain ⟨rfl,h1⟩:=h1
  obtain ⟨n,rfl,hn⟩:=qfH h1
  exact ⟨9,qwW (fun k x i=>qaj ΓK6 Tryz.prog L0 (qav 0 0 qcN) qbB k (mk qcN [.v (U32 x),.v (I i)] M0) qi1) (fun x=>some (.exit 0,mk qfS [.v (U32 x)] M0)) (fun x=>d32 x) g32 h32 n32 4294967296 (fun n=>qqZ) qtT qn3 8 n (Nat.le_refl 8) hn⟩
 ·cases h
theorem qpV (x:Int):runG ΓK6 ΛStep32 Tryz.prog Tryz.f203 [.v (U32 x)] M0=bif (0:Int)==0&&qkQ x then some (.v (U32 (S32 x)),M0) else none:=by kernel_rfl
def qlF (vs:List Value):Option (Bool×Value) :=
 match vs with
 | [.int .u32 x]=>some (qkQ x,U32 (S32 x))
 | _=>none
theorem qoK:CtV 203 qlF:=by
 intro vs r h
 unfold qlF at h
 split at h
 ·rename_i x
  obtain ⟨h1,rfl⟩:=qac h
  refine qaA (vs:=[U32 x]) (Λ:=ΛStep32) (m':=M0) qNJ Tryz.func203 rfl (fun z z1 z2=>qax (c:=Tryz.f203.body.getD .skip) qlp (qjM z z1 z2)) ?_
  exact (qpV x).trans (by rw [h1];rfl)
 ·cases h
def ΓK7:Orc:=qah 203 qlF ΓK6
theorem qNI:ΓK7.Ok Tryz.prog:=qaa qNJ qoK
def qjU:List Bool:=qam 20 [0,3,6,7]
def qi7:List Bool:=qam 20 [3]
def qcH:Code:=qaH (Tryz.f247.body.getD .skip) 0
theorem qox:qak (Tryz.f247.body.getD .skip)=[qcH]:=by kernel_rfl
theorem qlo:qak qcH=[]:=by kernel_rfl
def qty (e:Ex) (st:St):Option (Ex×St):=some (e,qav 0 0 qi7 st)
def qtq (s:ByteArray) (x i:Int):St:=mk qjU [.v (S s),.v (U32 x),.v (I (s.size:Int)),.v (I i)] M0
theorem qpz (s:ByteArray) (k:Nat) (x i:Int):qaj ΓK7 Tryz.prog L0 (qav 0 0 qjU) qcH (k+1) (qtq s x i) qty =
 bif decide (i<(s.size:Int)) then (bif decide (0≤i)&&decide (i<(s.size:Int)) then (bif qkQ (q32 s x i) then qaj ΓK7 Tryz.prog L0 (qav 0 0 qjU) qcH k (qtq s (S32 (q32 s x i)) (wI (i+1))) qty else none) else none)
 else some (.exit 0,mk qi7 [.v (U32 x)] M0):=by kernel_rfl
def qtt (vals:List SV) (m:Mem):Option (Bool×Ex×St) :=
 match vals,m with
 | [.v (.string s),.v (.int .u32 x),.v (.int .i64 n),.v (.int .i64 i)],⟨[],[],[]⟩=>some (n==(s.size:Int)&&(i==0&&(qkQ x&&szS s)),.exit 0,mk qi7 [.v (U32 (R32 x s))] M0)
 | _,_=>none
def ΛSum32:qao:=fun _ st=>qeb 0 0 qjU qtt st
theorem qlu (z:Base) (z1:z.L.length=0) (z2:z.U.length=0):qas ΛSum32 Tryz.prog z qcH:=by
 refine qaF (Λ:=L0) (kx:=fun _=>qi7) qNI mixed z1 z2 (fun b hb=>by rw [qlo] at hb;cases hb) (G:=qtt) (fun _=>rfl) ?_
 intro vals m e st' h
 unfold qtt at h
 split at h
 ·rename_i s x n i
  obtain ⟨h1,rfl,rfl⟩:=qaf h
  simp only [Bool.and_eq_true,beq_iff_eq] at h1
  obtain ⟨rfl,rfl,h1,h4⟩:=h1
  obtain ⟨n,rfl,hn⟩:=qfH h1
  exact ⟨s.size+1,qqN s (Nat.le_of_ble_eq_true h4) (fun k x i=>qaj ΓK7 Tryz.prog L0 (qav 0 0 qjU) qcH k (qtq s x i) qty) (fun x=>some (.exit 0,mk qi7 [.v (U32 x)] M0)) (fun x i=>qkQ (q32 s x i)) (fun x i=>S32 (q32 s x i)) p32 4294967296 (fun n b=>qqM b) (qOm s) (qpz s) s.size 0 n (by omega) hn⟩
 ·cases h
theorem quj (s:ByteArray):runG ΓK7 ΛSum32 Tryz.prog Tryz.f247 [.v (S s)] M0=bif (s.size:Int)==(s.size:Int)&&((0:Int)==0&&(qkQ 4294967295&&szS s)) then some (.v (U32 (qwM s)),M0) else none:=by kernel_rfl
def qrF (vs:List Value):Option (Bool×Value) :=
 match vs with
 | [.string s]=>some (szS s,(U32 (qf0 s)))
 | _=>none
theorem qrE:CtV 247 qrF:=by
 intro vs r h
 unfold qrF at h
 split at h
 ·rename_i s
  obtain ⟨h1,rfl⟩:=qac h
  refine qaA (vs:=[S s]) (Λ:=ΛSum32) (m':=M0) qNI Tryz.func247 rfl (fun z z1 z2=>qax (c:=Tryz.f247.body.getD .skip) qox (qlu z z1 z2)) ?_
  exact (quj s).trans (by rw [h1,beq_self_eq_true,qny];rfl)
 ·cases h
def ΓK8:Orc:=qah 247 qrF ΓK7
theorem qNH:ΓK8.Ok Tryz.prog:=qaa qNI qrE
def qgh:List Bool:=qam 20 [0,3,4]
def qfU:List Bool:=qam 20 [3]
def qb2:Code:=qaH (Tryz.f131.body.getD .skip) 0
theorem qlr:qak (Tryz.f131.body.getD .skip)=[qb2]:=by kernel_rfl
theorem qjG:qak qb2=[]:=by kernel_rfl
def qmy (e:Ex) (st:St):Option (Ex×St):=some (e,qav 0 0 qfU st)
def qmq (s:ByteArray) (x i:Int):St:=mk qgh [.v (S s),.v (U32 x),.v (I i)] M0
theorem qn6 (s:ByteArray) (k:Nat) (x i:Int):qaj ΓK8 Tryz.prog L0 (qav 0 0 qgh) qb2 (k+1) (qmq s x i) qmy =
 bif decide (i<(s.size:Int)) then (bif decide (0≤i)&&decide (i<(s.size:Int)) then (bif qkQ (q32 s x i) then qaj ΓK8 Tryz.prog L0 (qav 0 0 qgh) qb2 k (qmq s (S32 (q32 s x i)) (wI (i+1))) qmy else none) else none)
 else some (.exit 0,mk qfU [.v (U32 x)] M0):=by kernel_rfl
def qmv (vals:List SV) (m:Mem):Option (Bool×Ex×St) :=
 match vals,m with
 | [.v (.string s),.v (.int .u32 x),.v (.int .i64 i)],⟨[],[],[]⟩=>some (i==0&&(qkQ x&&szS s),.exit 0,mk qfU [.v (U32 (R32 x s))] M0)
 | _,_=>none
def ΛRSum32:qao:=fun _ st=>qeb 0 0 qgh qmv st
theorem qjO (z:Base) (z1:z.L.length=0) (z2:z.U.length=0):qas ΛRSum32 Tryz.prog z qb2:=by
 refine qaF (Λ:=L0) (kx:=fun _=>qfU) qNH mixed z1 z2 (fun b hb=>by rw [qjG] at hb;cases hb) (G:=qmv) (fun _=>rfl) ?_
 intro vals m e st' h
 unfold qmv at h
 split at h
 ·rename_i s x i
  obtain ⟨h1,rfl,rfl⟩:=qaf h
  simp only [Bool.and_eq_true,beq_iff_eq] at h1
  obtain ⟨rfl,h1,h4⟩:=h1
  obtain ⟨n,rfl,hn⟩:=qfH h1
  exact ⟨s.size+1,qqN s (Nat.le_of_ble_eq_true h4) (fun k x i=>qaj ΓK8 Tryz.prog L0 (qav 0 0 qgh) qb2 k (qmq s x i) qmy) (fun x=>some (.exit 0,mk qfU [.v (U32 x)] M0)) (fun x i=>qkQ (q32 s x i)) (fun x i=>S32 (q32 s x i)) p32 4294967296 (fun n b=>qqM b) (qOm s) (qn6 s) s.size 0 n (by omega) hn⟩
 ·cases h
theorem qpZ (s:ByteArray):runG ΓK8 ΛRSum32 Tryz.prog Tryz.f131 [.v (S s)] M0=bif (0:Int)==0&&(qkQ 4294967295&&szS s) then some (.v (U32 (qwM s)),M0) else none:=by kernel_rfl
def qlM (vs:List Value):Option (Bool×Value) :=
 match vs with
 | [.string s]=>some (szS s,(U32 (qf0 s)))
 | _=>none
theorem qoO:CtV 131 qlM:=by
 intro vs r h
 unfold qlM at h
 split at h
 ·rename_i s
  obtain ⟨h1,rfl⟩:=qac h
  refine qaA (vs:=[S s]) (Λ:=ΛRSum32) (m':=M0) qNH Tryz.func131 rfl (fun z z1 z2=>qax (c:=Tryz.f131.body.getD .skip) qlr (qjO z z1 z2)) ?_
  exact (qpZ s).trans (by rw [h1,qny];rfl)
 ·cases h
def ΓK9:Orc:=qah 131 qlM ΓK8
theorem OkK9:ΓK9.Ok Tryz.prog:=qaa qNH qoO
def ΓK:Orc:=ΓK9
theorem OkK:ΓK.Ok Tryz.prog:=OkK9
end Go.Proofs.YtainfdcfkgemhaaGreat
namespace Go.Proofs.YtainfdcfkgemhaaGreat
open Go Go.Proofs Go.Sx
abbrev L (s:ByteArray):List UInt8:=s.data.toList
theorem qiW {a b:ByteArray}:L a=L b↔a=b:=by
 constructor
 ·intro h
  exact ByteArray.ext (Array.toList_inj.1 h)
 ·rintro rfl;rfl
theorem qgJ (s:ByteArray):(L s).length=s.size:=by simp [L]
theorem qtm (a b:ByteArray):L (a++b)=L a++L b:=by simp [L,ByteArray.data_append]
theorem qkK (s:ByteArray) (a b:Nat):L (s.extract a b)=((L s).drop a).take (b - a):=by
 simp [L,ByteArray.data_extract,List.extract_eq_take_drop]
theorem qnU (xs:List Int):L (strOfNums xs)=xs.map fun n=>UInt8.ofNat n.toNat:=rfl
theorem qHI (a b:ByteArray):(a==b)=true↔a=b:=by
 show ((a.data==b.data)=true)↔a=b
 rw [beq_iff_eq]
 exact ByteArray.ext_iff.symm
theorem qHJ (a b:ByteArray):(a==b)=(L a==L b):=by
 rw [Bool.eq_iff_iff,qHI]
 simp only [beq_iff_eq,qiW]
theorem qCy (a b:ByteArray):(a.toList==b.toList)=(L a==L b):=by rw [ByteArray.toList_eq,ByteArray.toList_eq]
theorem qkA (a b:ByteArray):(a.toList==b.toList)=(a==b):=by rw [qCy,qHJ]
theorem qbL (s:ByteArray) (k:Nat):qan s (k:Int)=(((L s)[k]?.map fun b=>(b.toNat:Int)).getD 0):=by
 cases h:(L s)[k]? with
 | some b =>
  have h':s.data[k]?=some b:=by simpa [L] using h
  rw [qdi h']
  rfl
 | none =>
  unfold qan
  rw [Int.toNat_natCast]
  have hk:s.size≤k:=by
   rw [← qgJ]
   simpa using h
  have:s[k]?=none:=by rw [getElem?_neg];omega
  rw [this]
  rfl
theorem qCg (s:ByteArray):s.extract 0 s.size=s:=by
 rw [← qiW,qkK,List.drop_zero,List.take_of_length_le (by rw [qgJ];omega)]
theorem qgH (a b c:ByteArray):(a++b)++c=a++(b++c):=by
 rw [← qiW]
 simp only [qtm,List.append_assoc]
theorem qDI (n:Nat):IntKind.u8.wrap (n:Int)=((n % 256:Nat):Int):=by
 rw [← qbr true];simp only [wr];omega
def qpw (x:Int):ByteArray:=strOfNums [IntKind.u8.wrap (x.fdiv (2 ^ min (Int.toNat 8) IntKind.u16.bits)),IntKind.u8.wrap x]
def qn0 (s:ByteArray):ByteArray:=qpw (R16 65535 s)
def qbW (k:Int) (p:ByteArray):ByteArray:=strOfNums [IntKind.u8.wrap k,IntKind.u8.wrap (p.size:Int)]++p
def mark:ByteArray:=⟨#[165,90]⟩
def prt (k:Int) (p:ByteArray):ByteArray:=(mark++qbW k p)++qn0 (qbW k p)
def qb9 (k:Int) (p:ByteArray):Bool:=decide (k≥0)&&(decide (k≤255)&&decide ((p.size:Int)≤64))
def printB (k:Int) (p:ByteArray):ByteArray:=bif qb9 k p then prt k p else ⟨#[]⟩
theorem qeB (x:Int):(qpw x).size=2:=by simp [qpw,strOfNums_size]
theorem qeZ (k:Int) (p:ByteArray):(qbW k p).size=p.size+2:=by
 unfold qbW
 rw [ByteArray.size_append,strOfNums_size]
 simp only [List.length_cons,List.length_nil]
 omega
theorem qvd (k:Int) (p:ByteArray):(prt k p).size=p.size+6:=by
 unfold prt qn0
 rw [ByteArray.size_append,ByteArray.size_append,qeZ,qeB]
 show 2+_+2=_
 omega
def qfr (s:ByteArray):Bool:=(decide ((s.size:Int)>0)&&qan s 0 != 165)||((decide ((s.size:Int)>1)&&qan s 1 != 90)||(decide ((s.size:Int)>3)&&decide (qan s 3>64)))
def qbz (s:ByteArray):Int:=6+qan s 3
def qcm (s:ByteArray):Bool:=decide ((s.size:Int)<4)||decide ((s.size:Int)<qbz s)
def kOf (s:ByteArray):Int:=qan s 2
def pOf (s:ByteArray):ByteArray:=s.extract 4 (qbz s - 2).toNat
def okB (s:ByteArray):Bool:=prt (kOf s) (pOf s)==s.extract 0 (qbz s).toNat
def rdE (s:ByteArray):Int:=bif qfr s then 3 else bif qcm s then 5 else bif okB s then 0 else 4
def rdK (s:ByteArray):Int:=bif rdE s==0 then kOf s else 0
def rdP (s:ByteArray):ByteArray:=bif rdE s==0 then pOf s else ⟨#[]⟩
def rdN (s:ByteArray):Int:=bif rdE s==0 then qbz s else 0
theorem qb6 (s:ByteArray) (k:Nat):0≤qan s (k:Int)∧qan s (k:Int)<256:=by
 rw [qbL]
 cases (L s)[k]? with
 | none=>simp
 | some b=>have:=qba b;simp;omega
theorem qcC (s:ByteArray):6≤qbz s∧qbz s<262:=by
 have:=qb6 s 3
 unfold qbz
 rw [show (3:Int)=((3:Nat):Int) from rfl]
 omega
theorem qej (s:ByteArray):(rdE s=3∧qfr s=true)∨(rdE s=5∧qfr s=false∧qcm s=true)∨(rdE s=0∧qfr s=false∧qcm s=false∧okB s=true)∨(rdE s=4∧qfr s=false∧qcm s=false∧okB s=false):=by
 unfold rdE
 cases qfr s<;>cases qcm s<;>cases okB s<;>simp
theorem qem {s:ByteArray} (h:qcm s=false):4≤s.size∧(qbz s).toNat≤s.size∧6≤(qbz s).toNat:=by
 unfold qcm at h
 simp only [Bool.or_eq_false_iff,decide_eq_false_iff_not] at h
 have:=qcC s
 omega
theorem qld {s:ByteArray} (h:rdE s=0):(rdN s).toNat≤s.size∧6≤(rdN s).toNat∧rdN s=((rdN s).toNat:Int)∧rdK s=kOf s∧rdP s=pOf s∧rdN s=qbz s∧(rdP s).size+6=(rdN s).toNat∧(rdP s).size≤64∧0≤rdK s∧rdK s≤255∧qfr s=false∧qcm s=false∧okB s=true:=by
 rcases qej s with ⟨h1,h2⟩|⟨h1,h2,h3⟩|⟨h1,h2,h3,h4⟩|⟨h1,h2,h3,h4⟩
 ·omega
 ·omega
 ·obtain ⟨g1,g2,g3⟩:=qem h3
  have e1:rdN s=qbz s:=by unfold rdN;rw [h];rfl
  have e2:rdK s=kOf s:=by unfold rdK;rw [h];rfl
  have e3:rdP s=pOf s:=by unfold rdP;rw [h];rfl
  have hl:=qcC s
  have hb:=h2
  unfold qfr at hb
  simp only [Bool.or_eq_false_iff,Bool.and_eq_false_iff,decide_eq_false_iff_not] at hb
  have h64:qan s 3≤64:=by omega
  have hp:(rdP s).size+6=(qbz s).toNat:=by
   rw [e3]
   unfold pOf
   rw [ByteArray.size_extract]
   omega
  have hk:=qb6 s 2
  refine ⟨by rw [e1];exact g2,by rw [e1];exact g3,by rw [e1];omega,e2,e3,e1,by rw [e1];exact hp,?_,?_,?_,h2,h3,h4⟩
  ·unfold qbz at hp
   omega
  ·rw [e2];exact hk.1
  ·rw [e2];unfold kOf;have:=hk.2;rw [show (2:Int)=((2:Nat):Int) from rfl];omega
 ·omega
theorem qvc {s:ByteArray} (h:rdE s=5):s.size<70:=by
 rcases qej s with ⟨h1,h2⟩|⟨h1,h2,h3⟩|⟨h1,h2,h3,h4⟩|⟨h1,h2,h3,h4⟩
 ·omega
 ·unfold qcm at h3
  unfold qfr at h2
  simp only [Bool.or_eq_true,decide_eq_true_eq,Bool.or_eq_false_iff,Bool.and_eq_false_iff,decide_eq_false_iff_not] at h2 h3
  unfold qbz at h3
  omega
 ·omega
 ·omega
theorem qFY:rdE ⟨#[]⟩=5:=by rfl
theorem qeP {s:ByteArray} (h:rdE s≠5):0<s.size:=by
 apply Classical.byContradiction
 intro hn
 have:s=⟨#[]⟩:=by
  rw [← qiW]
  have:(L s).length=0:=by rw [qgJ];omega
  exact List.eq_nil_of_length_eq_zero this
 rw [this] at h
 exact h qFY
end Go.Proofs.YtainfdcfkgemhaaGreat
namespace Go.Proofs.YtainfdcfkgemhaaGreat
open Go Go.Proofs Go.Sx
set_option linter.unusedVariables false
def U64 (x:Int):Value:=.int .u64 x
theorem qdV (c:Code) (z:Base):∀ b∈qak c,qas L0 Tryz.prog z b:=fun b _ st t h=>by cases h
def p8 (n:Nat) (b:UInt8):Nat:=n*256 % 18446744073709551616+b.toNat
theorem qKE (n:Nat) (b:UInt8) (_:n<18446744073709551616):p8 n b<18446744073709551616:=by
 have:=qba b
 unfold p8
 omega
def numN (s:ByteArray):Nat:=s.data.toList.foldl p8 0
theorem qpm (n:Nat):IntKind.u64.wrap (n:Int)=((n % 18446744073709551616:Nat):Int):=by
 rw [← qbr true];simp only [wr];omega
theorem qD5:(2:Nat) ^ 64=18446744073709551616:=by decide
theorem orB (w a b:Nat) (ha:a<2 ^ w) (hb:b<2 ^ w):(((BitVec.ofInt w (a:Int) ||| BitVec.ofInt w (b:Int)).toNat:Nat):Int)=((Nat.lor a b:Nat):Int):=by
 rw [BitVec.toNat_or,BitVec.ofInt_natCast,BitVec.ofInt_natCast,BitVec.toNat_ofNat,BitVec.toNat_ofNat,Nat.mod_eq_of_lt ha,Nat.mod_eq_of_lt hb]
 rfl
def a64 (s:ByteArray) (x i:Int):Int:=IntKind.u64.wrap (((BitVec.ofInt 64 (IntKind.u64.wrap (x*2 ^ min (Int.toNat 8) 64)) ||| BitVec.ofInt 64 (IntKind.u64.wrap (qan s i))).toNat:Nat):Int)
theorem qCJ {s:ByteArray} {n k:Nat} {b:UInt8} (hb:s.data[k]?=some b):a64 s n k=((p8 n b:Nat):Int):=by
 have h:=qba b
 unfold a64 p8
 have e:(n:Int)*2 ^ min (Int.toNat 8) 64=((n*256:Nat):Int):=by
  rw [show min (Int.toNat 8) 64=8 from rfl];omega
 rw [e,qpm (n*256),qdi hb,qpm b.toNat,Nat.mod_eq_of_lt (show b.toNat<18446744073709551616 by omega),orB 64 _ _ (by rw [qD5];exact Nat.mod_lt _ (by decide)) (by rw [qD5];omega)]
 have e2:Nat.lor (n*256 % 18446744073709551616) b.toNat=n*256 % 18446744073709551616+b.toNat:=by
  have e3:n*256 % 18446744073709551616=2 ^ 8*(n % 72057594037927936):=by
   rw [show (2:Nat) ^ 8=256 from rfl];omega
  rw [e3]
  exact (Nat.two_pow_add_eq_or_of_lt (show b.toNat<2 ^ 8 by rw [show (2:Nat) ^ 8=256 from rfl];exact h) _).symm
 rw [e2,qpm,Nat.mod_eq_of_lt (by omega)]
def be (k:Nat) (x:Int):ByteArray:=strOfNums ((List.range k).reverse.map fun i=>x / 256 ^ i % 256)
def qgi:List Bool:=qam 19 [0,3,6,7]
def qfV:List Bool:=qam 19 [3]
def qb3:Code:=qaH (Tryz.f163.body.getD .skip) 0
theorem qls:qak (Tryz.f163.body.getD .skip)=[qb3]:=by kernel_rfl
theorem qjI:qak qb3=[]:=by kernel_rfl
def qmz (e:Ex) (st:St):Option (Ex×St):=some (e,qav 0 0 qfV st)
def qmr (s:ByteArray) (x i:Int):St:=mk qgi [.v (S s),.v (U64 x),.v (I (s.size:Int)),.v (I i)] M0
theorem qn7 (s:ByteArray) (k:Nat) (x i:Int):qaj ΓK Tryz.prog L0 (qav 0 0 qgi) qb3 (k+1) (qmr s x i) qmz =
 bif decide (i<(s.size:Int)) then (bif decide (0≤i)&&decide (i<(s.size:Int)) then qaj ΓK Tryz.prog L0 (qav 0 0 qgi) qb3 k (qmr s (a64 s x i) (wI (i+1))) qmz else none)
 else some (.exit 0,mk qfV [.v (U64 x)] M0):=by kernel_rfl
def qmw (vals:List SV) (m:Mem):Option (Bool×Ex×St) :=
 match vals,m with
 | [.v (.string s),.v (.int .u64 x),.v (.int .i64 n),.v (.int .i64 i)],⟨[],[],[]⟩=>some (n==(s.size:Int)&&(i==0&&(x==0&&szS s)),.exit 0,mk qfV [.v (U64 ((numN s:Nat):Int))] M0)
 | _,_=>none
def ΛNumber:qao:=fun _ st=>qeb 0 0 qgi qmw st
theorem qjP (z:Base) (z1:z.L.length=0) (z2:z.U.length=0):qas ΛNumber Tryz.prog z qb3:=by
 refine qaF (Λ:=L0) (kx:=fun _=>qfV) OkK mixed z1 z2 (fun b hb=>by rw [qjI] at hb;cases hb) (G:=qmw) (fun _=>rfl) ?_
 intro vals m e st' h
 unfold qmw at h
 split at h
 ·rename_i s x n i
  obtain ⟨h1,rfl,rfl⟩:=qaf h
  simp only [Bool.and_eq_true,beq_iff_eq] at h1
  obtain ⟨rfl,rfl,rfl,h4⟩:=h1
  exact ⟨s.size+1,qqN s (Nat.le_of_ble_eq_true h4) (fun k x i=>qaj ΓK Tryz.prog L0 (qav 0 0 qgi) qb3 k (qmr s x i) qmz) (fun x=>some (.exit 0,mk qfV [.v (U64 x)] M0)) (fun _ _=>true) (a64 s) p8 18446744073709551616 qKE (fun n k b _ hb=>⟨rfl,qCJ hb⟩) (qn7 s) s.size 0 0 (by omega) (by omega)⟩
 ·cases h
theorem qp4 (s:ByteArray):runG ΓK ΛNumber Tryz.prog Tryz.f163 [.v (S s)] M0=bif (s.size:Int)==(s.size:Int)&&((0:Int)==0&&((0:Int)==0&&szS s)) then some (.v (U64 ((numN s:Nat):Int)),M0) else none:=by kernel_rfl
def qlV (vs:List Value):Option (Bool×Value) :=
 match vs with
 | [.string s]=>some (szS s,U64 ((numN s:Nat):Int))
 | _=>none
theorem qoS:CtV 163 qlV:=by
 intro vs r h
 unfold qlV at h
 split at h
 ·rename_i s
  obtain ⟨h1,rfl⟩:=qac h
  refine qaA (vs:=[S s]) (Λ:=ΛNumber) (m':=M0) OkK Tryz.func163 rfl (fun z z1 z2=>qax (c:=Tryz.f163.body.getD .skip) qls (qjP z z1 z2)) ?_
  exact (qp4 s).trans (by rw [h1,beq_self_eq_true];rfl)
 ·cases h
def ΓO1:Orc:=qah 163 qlV ΓK
theorem qJe:ΓO1.Ok Tryz.prog:=qaa OkK qoS
theorem qqp (x:Int):runG ΓO1 L0 Tryz.prog Tryz.f86 [.v (U64 x),.v (I 1)] M0=some (.v (S (strOfNums [IntKind.u8.wrap (x.fdiv (2 ^ min (Int.toNat 0) 64))])),M0):=by kernel_rfl
theorem qqo (x:Int):runG ΓO1 L0 Tryz.prog Tryz.f86 [.v (U64 x),.v (I 2)] M0=some (.v (S (strOfNums [IntKind.u8.wrap (x.fdiv (2 ^ min (Int.toNat 8) 64)),IntKind.u8.wrap (x.fdiv (2 ^ min (Int.toNat 0) 64))])),M0):=by kernel_rfl
theorem qqn (x:Int):runG ΓO1 L0 Tryz.prog Tryz.f86 [.v (U64 x),.v (I 4)] M0=some (.v (S (strOfNums [IntKind.u8.wrap (x.fdiv (2 ^ min (Int.toNat 24) 64)),IntKind.u8.wrap (x.fdiv (2 ^ min (Int.toNat 16) 64)),IntKind.u8.wrap (x.fdiv (2 ^ min (Int.toNat 8) 64)),IntKind.u8.wrap (x.fdiv (2 ^ min (Int.toNat 0) 64))])),M0):=by kernel_rfl
theorem qgC (x:Int) (j k:Nat) (h:(2:Int) ^ min (Int.toNat (8*k:Nat)) 64=256 ^ k) (hj:j=8*k):IntKind.u8.wrap (x.fdiv (2 ^ min (Int.toNat (j:Nat)) 64))=x / 256 ^ k % 256:=by
 subst hj
 rw [h,Int.fdiv_eq_ediv_of_nonneg _ (Int.le_of_lt (Int.pow_pos (by decide))),← qbr true]
 rfl
theorem be1 (x:Int):strOfNums [IntKind.u8.wrap (x.fdiv (2 ^ min (Int.toNat 0) 64))]=be 1 x:=by
 have e0:=qgC x 0 0 (by decide) rfl
 rw [show ((0:Nat):Int)=0 from rfl] at e0
 rw [e0];rfl
theorem be2 (x:Int):strOfNums [IntKind.u8.wrap (x.fdiv (2 ^ min (Int.toNat 8) 64)),IntKind.u8.wrap (x.fdiv (2 ^ min (Int.toNat 0) 64))]=be 2 x:=by
 have e0:=qgC x 0 0 (by decide) rfl
 have e1:=qgC x 8 1 (by decide) rfl
 rw [show ((0:Nat):Int)=0 from rfl] at e0
 rw [show ((8:Nat):Int)=8 from rfl] at e1
 rw [e0,e1];rfl
theorem be4 (x:Int):strOfNums [IntKind.u8.wrap (x.fdiv (2 ^ min (Int.toNat 24) 64)),IntKind.u8.wrap (x.fdiv (2 ^ min (Int.toNat 16) 64)),IntKind.u8.wrap (x.fdiv (2 ^ min (Int.toNat 8) 64)),IntKind.u8.wrap (x.fdiv (2 ^ min (Int.toNat 0) 64))]=be 4 x:=by
 have e0:=qgC x 0 0 (by decide) rfl
 have e1:=qgC x 8 1 (by decide) rfl
 have e2:=qgC x 16 2 (by decide) rfl
 have e3:=qgC x 24 3 (by decide) rfl
 rw [show ((0:Nat):Int)=0 from rfl] at e0
 rw [show ((8:Nat):Int)=8 from rfl] at e1
 rw [show ((16:Nat):Int)=16 from rfl] at e2
 rw [show ((24:Nat):Int)=24 from rfl] at e3
 rw [e0,e1,e2,e3];rfl
def qsC (vs:List Value):Option (Bool×Value) :=
 match vs with
 | [.int .u64 x,.int .i64 (.ofNat k)]=>some (Nat.beq k 1||(Nat.beq k 2||Nat.beq k 4),S (be k x))
 | _=>none
theorem qsB:CtV 86 qsC:=by
 intro vs r h
 unfold qsC at h
 split at h
 ·rename_i x k
  obtain ⟨h1,rfl⟩:=qac h
  have hk:k=1∨k=2∨k=4:=by
   simp only [Bool.or_eq_true] at h1
   rcases h1 with h1|h1|h1
   ·exact .inl (Nat.eq_of_beq_eq_true h1)
   ·exact .inr (.inl (Nat.eq_of_beq_eq_true h1))
   ·exact .inr (.inr (Nat.eq_of_beq_eq_true h1))
  rcases hk with rfl|rfl|rfl
  ·exact qaA (vs:=[U64 x,I 1]) (Λ:=L0) (m':=M0) qJe Tryz.func86 rfl (fun z _ _=>qdV _ z) ((qqp x).trans (by rw [be1]))
  ·exact qaA (vs:=[U64 x,I 2]) (Λ:=L0) (m':=M0) qJe Tryz.func86 rfl (fun z _ _=>qdV _ z) ((qqo x).trans (by rw [be2]))
  ·exact qaA (vs:=[U64 x,I 4]) (Λ:=L0) (m':=M0) qJe Tryz.func86 rfl (fun z _ _=>qdV _ z) ((qqn x).trans (by rw [be4]))
 ·cases h
def ΓO:Orc:=qah 86 qsC ΓO1
theorem OkO:ΓO.Ok Tryz.prog:=qaa qJe qsB
end Go.Proofs.YtainfdcfkgemhaaGreat
namespace Go.Proofs.YtainfdcfkgemhaaGreat
open Go Go.Proofs Go.Sx
theorem qvq (a b:List Int):strOfNums (a++b)=strOfNums a++strOfNums b:=by
 rw [← qiW,qtm,qnU,qnU,qnU,List.map_append]
theorem qiQ (k:Nat) (x:Int):(be k x).size=k:=by
 unfold be
 rw [strOfNums_size]
 simp
theorem qiP (x:Int):be 1 (IntKind.u64.wrap x)=be 1 x:=by
 have e:∀ j:Int,IntKind.u64.wrap j=j % 18446744073709551616:=fun j=>by rw [← qbr true];rfl
 show strOfNums [_]=strOfNums [_]
 rw [e]
 congr 2
 show x % 18446744073709551616 / 256 ^ 0 % 256=x / 256 ^ 0 % 256
 omega
theorem qxa (x:Int):be 2 (IntKind.u64.wrap x)=be 2 x:=by
 have e:∀ j:Int,IntKind.u64.wrap j=j % 18446744073709551616:=fun j=>by rw [← qbr true];rfl
 have h0:x % 18446744073709551616 / 256 ^ 0 % 256=x / 256 ^ 0 % 256:=by omega
 have h1:x % 18446744073709551616 / 256 ^ 1 % 256=x / 256 ^ 1 % 256:=by omega
 show strOfNums [_ / 256 ^ 1 % 256,_ / 256 ^ 0 % 256]=strOfNums [_ / 256 ^ 1 % 256,_ / 256 ^ 0 % 256]
 rw [e,h0,h1]
theorem qfO (x:Int):be 4 (IntKind.u64.wrap x)=be 4 x:=by
 have e:∀ j:Int,IntKind.u64.wrap j=j % 18446744073709551616:=fun j=>by rw [← qbr true];rfl
 have h0:x % 18446744073709551616 / 256 ^ 0 % 256=x / 256 ^ 0 % 256:=by omega
 have h1:x % 18446744073709551616 / 256 ^ 1 % 256=x / 256 ^ 1 % 256:=by omega
 have h2:x % 18446744073709551616 / 256 ^ 2 % 256=x / 256 ^ 2 % 256:=by omega
 have h3:x % 18446744073709551616 / 256 ^ 3 % 256=x / 256 ^ 3 % 256:=by omega
 show strOfNums [_ / 256 ^ 3 % 256,_ / 256 ^ 2 % 256,_ / 256 ^ 1 % 256,_ / 256 ^ 0 % 256]=strOfNums [_ / 256 ^ 3 % 256,_ / 256 ^ 2 % 256,_ / 256 ^ 1 % 256,_ / 256 ^ 0 % 256]
 rw [e,h0,h1,h2,h3]
theorem qCa {s:ByteArray} {i:Nat} (h:i+4≤s.size):∃ b0 b1 b2 b3:UInt8,L (s.extract i (i+4))=[b0,b1,b2,b3]∧qan s (i:Int)=(b0.toNat:Int)∧qan s ((i+1:Nat):Int)=(b1.toNat:Int)∧qan s ((i+2:Nat):Int)=(b2.toNat:Int)∧qan s ((i+3:Nat):Int)=(b3.toNat:Int):=by
 have hl:=qgJ s
 have hd:∃ b0 b1 b2 b3 r,(L s).drop i=b0::b1::b2::b3::r:=by
  have:4≤((L s).drop i).length:=by rw [List.length_drop];omega
  match hq:(L s).drop i,this with
  | b0::b1::b2::b3::r,_=>exact ⟨b0,b1,b2,b3,r,rfl⟩
 obtain ⟨b0,b1,b2,b3,r,hd⟩:=hd
 have g:∀ j,(L s)[i+j]?=((L s).drop i)[j]?:=fun j=>by rw [List.getElem?_drop]
 refine ⟨b0,b1,b2,b3,?_,?_,?_,?_,?_⟩
 ·rw [qkK,hd,show i+4 - i=4 by omega];rfl
 ·have:=g 0
  rw [hd] at this
  rw [qbL,show i=i+0 from rfl,this];rfl
 ·have:=g 1
  rw [hd] at this
  rw [qbL,this];rfl
 ·have:=g 2
  rw [hd] at this
  rw [qbL,this];rfl
 ·have:=g 3
  rw [hd] at this
  rw [qbL,this];rfl
theorem qqX {s:ByteArray} {b0 b1 b2 b3:UInt8} (h:L s=[b0,b1,b2,b3]):((numN s:Nat):Int)=(b0.toNat:Int)*16777216+(b1.toNat:Int)*65536+(b2.toNat:Int)*256+(b3.toNat:Int):=by
 have h0:=qba b0
 have h1:=qba b1
 have h2:=qba b2
 have h3:=qba b3
 unfold numN
 rw [show s.data.toList=[b0,b1,b2,b3] from h]
 simp only [List.foldl_cons,List.foldl_nil,p8]
 omega
end Go.Proofs.YtainfdcfkgemhaaGreat
namespace Go.Proofs.YtainfdcfkgemhaaGreat
open Go Go.Proofs Go.Sx
set_option linter.unusedVariables false
def Blk (d st m:Int) (a b:List Int):List Value:=.int .u32 d::.int .i32 st::.int .u32 0::.int .i64 m::(a.map (.int .u16)++b.map (.int .u32))
def qd5:List Int:=List.replicate 256 0
def qkZ:List Int:=(List.range 256).map fun i=>((N16 (i*256):Nat):Int)
def qkY:List Int:=(List.range 256).map fun i=>((N32 i:Nat):Int)
def qI3 (d st m:Int) (a b:List Int):Mem:=⟨[(Blk d st m a b).map .v],[true],[]⟩
theorem qDH:∀ f xs m r m',qI7 366 .i64 f xs m=some (true,r,m')→qaB Tryz.prog f xs m r m':=qCI Tryz.func366 (by kernel_rfl) (by kernel_rfl) (by kernel_rfl) (by kernel_rfl)
def Γf0:Orc:=qDu (qI7 366 .i64) ΓK
theorem Okf0:Γf0.Ok Tryz.prog:=qiU OkK qDH
def Γfi:Orc:=qDl Tryz.prog Γf0.call Γf0.rd Γf0.eqv (fun _=>false) 300 1
theorem Okfi:Γfi.Ok Tryz.prog:=qmb mixed names (ext:=Γf0.call) (rd:=Γf0.rd) (eqv:=Γf0.eqv) ⟨Okf0.call,Okf0.rd,Okf0.eqv⟩ 300 1
theorem qzv:runG Γfi (qbv Γfi Tryz.prog 300 1) Tryz.prog Tryz.f315 [.ptr 0 0] (qI3 0 1 0 qd5 qd5)=some (.v (.tuple #[]),qI3 0 1 1 qkZ qkY):=by kernel_rfl
theorem qHh:qaB Tryz.prog 315 [.ptr 0 0] (qI3 0 1 0 qd5 qd5) (.v (.tuple #[])) (qI3 0 1 1 qkZ qkY) :=
 qal Okfi Tryz.func315 rfl (fun z _ _ b _=>qaG Okfi mixed 300 1 b) qzv
end Go.Proofs.YtainfdcfkgemhaaGreat
namespace Go.Proofs.YtainfdcfkgemhaaGreat
open Go Go.Proofs Go.Sx Go.RowKit
set_option linter.unusedVariables false
structure One (b:Nat) (w w':World):Prop where
 os:w'.os=w.os
 tape:w'.tape=w.tape
 output:w'.output=w.output
 size:w.heap.size≤w'.heap.size
 block:∀ k,k≠b→k<w.heap.size→w'.heap[k]?=w.heap[k]?
 froz:∀ p,p.block<w.heap.size→w'.frozen? p=w.frozen? p
theorem One.trans {b:Nat} {w w1 w2:World} (h:One b w w1) (k:One b w1 w2):One b w w2 :=
 ⟨k.os.trans h.os,k.tape.trans h.tape,k.output.trans h.output,Nat.le_trans h.size k.size,fun j hj hl=>(k.block j hj (Nat.lt_of_lt_of_le hl h.size)).trans (h.block j hj hl),fun p hp=>(k.froz p (Nat.lt_of_lt_of_le hp h.size)).trans (h.froz p hp)⟩
theorem One.setCell (b n:Nat) (x:Value) (w:World):One b w (w.setCell ⟨b,n,none⟩ x) :=
 ⟨rfl,rfl,rfl,by simp,fun k hk _=>Below.heap_setCell _ _ _ _ hk,fun p _=>World.frozen?_setCell _ _ _ _⟩
theorem One.drew (b:Nat) (w:World):One b w w.drew:=⟨rfl,rfl,rfl,Nat.le_refl _,fun _ _ _=>rfl,fun _ _=>rfl⟩
def At (w:World) (b o:Nat) (cs:List Value):Prop:=∀ (j:Nat) x,cs[j]?=some x→w.cell? ⟨b,o+j,none⟩=some x∧w.frozen? ⟨b,o+j,none⟩=false
theorem At.set {w:World} {b o:Nat} {cs:List Value} (h:At w b o cs) {n:Nat} {x:Value} (hn:n<cs.length):At (w.setCell ⟨b,o+n,none⟩ x) b o (cs.set n x):=by
 intro j y hy
 rw [World.frozen?_setCell]
 rw [List.getElem?_set] at hy
 by_cases hj:n=j
 ·subst hj
  simp [hn] at hy
  subst hy
  have h1:=h n cs[n] (by simp [hn])
  exact ⟨World.cell?_setCell_same _ _ _ h1.1,h1.2⟩
 ·simp only [if_neg hj] at hy
  have h1:=h j y hy
  exact ⟨by rw [World.cell?_setCell_other _ _ _ _ (fun e=>by injection e with _ e;omega)];exact h1.1,h1.2⟩
theorem qsZ {f:FuncId} {cs cs':List Value} {r:Value} (h:qaB Tryz.prog f [.ptr 0 0] ⟨[cs.map .v],[true],[]⟩ (.v r) ⟨[cs'.map .v],[true],[]⟩) {w:World} {b o:Nat} (hb:b<w.heap.size) (ha:At w b o cs)
  (he:(callFunc f #[.pointer (some ⟨b,o,none⟩)]).run Tryz.prog w=.ok (.enter f #[.pointer (some ⟨b,o,none⟩)]) w) :
  Calls Tryz.prog f #[.pointer (some ⟨b,o,none⟩)] w fun e w'=>e=.returned r∧One b w w'∧At w' b o cs':=by
 let z:Base:=⟨w,[(b,o)],[],[],fun _=>False⟩
 let V:Vl:=⟨fun i=>if i=0 then some (b,o) else none,fun _=>none,fun _=>none⟩
 have vb:∀ l q,V.b l=some q→l=0∧q=(b,o):=by
  intro l q hq
  simp only [V] at hq
  split at hq
  ·rename_i h0
   exact ⟨h0,(Option.some.inj hq).symm⟩
  ·cases hq
 have hL:Lent z ⟨[cs.map .v],[true],[]⟩ V:=by
  refine { bl:=(rfl:(1:Nat)=1),b:=fun i=>?_,ul:=(rfl:(0:Nat)=0),u:=fun j u hu=>absurd hu (by simp [z]),rl:=fun g=>⟨fun hg=>absurd hg (by simp [z]),?_⟩ }
  ·cases i with
   | zero=>rfl
   | succ i=>simp [V,z]
  ·rintro ⟨j,rc,u,h1,_⟩
   exact absurd h1 (by simp [Sx.rowAt])
 have hM:qbZ z ⟨[cs.map .v],[true],[]⟩ V z.w:=by
  refine { len:=fun t x hx=>absurd hx (by simp [Tr.get]),tmps:=fun t x hx=>absurd hx (by simp [Tr.get]),defers:=rfl,lens:=rfl,mem:=?_,inj:=?_,own:=?_,lent:=?_,base0:=?_,dom:=?_,lentr:=fun j u hu=>absurd hu (by simp [z]),rows:=fun r rc hr=>absurd hr (by simp [Sx.rowAt]),rowsN:=fun r _=>rfl,apart:=fun r r' rc rc' u u' g h1=>absurd h1 (by simp [Sx.rowAt]),apartb:=fun r rc u g l b' o' h1=>absurd h1 (by simp [Sx.rowAt]),below:=⟨rfl,rfl,rfl,Nat.le_refl _,fun _ _=>rfl⟩,froz:=fun _ _=>rfl,lits:=qdg.none fun _=>rfl,sk:=fun _ h=>h.elim,qs:=fun g cs h=>absurd h (by simp [V]) }
  ·intro l b' o' hl cs1 hcs j x hx
   obtain ⟨rfl,hq⟩:=vb l _ hl
   injection hq with e1 e2
   subst e1 e2
   simp at hcs
   subst hcs
   rw [List.getElem?_map] at hx
   cases hv:cs[j]? with
   | none=>rw [hv] at hx;cases hx
   | some v =>
    rw [hv] at hx
    injection hx with hx
    subst hx
    obtain ⟨a1,a2⟩:=ha j v hv
    exact ⟨v,a1,rfl,a2⟩
  ·intro l l' b1 o1 b2 o2 h1 h2 hne
   exact absurd ((vb l _ h1).1.trans (vb l' _ h2).1.symm) hne
  ·intro l b' o' hl
   obtain ⟨rfl,hq⟩:=vb l _ hl
   injection hq with e1 e2
   subst e1 e2
   exact ⟨.inr (by simp [z]),hb⟩
  ·intro l q hq
   cases l with
   | zero=>exact hq
   | succ l=>simp [z] at hq
  ·intro l b' o' hl h0
   obtain ⟨rfl,_⟩:=vb l _ hl
   simp [z] at h0
  ·intro l hl
   obtain ⟨q,hq⟩:=Option.ne_none_iff_exists'.1 hl
   obtain ⟨rfl,_⟩:=vb l q hq
   rfl
 have hA:qaP (Den V) [.ptr 0 0] [.pointer (some ⟨b,o,none⟩)]:=⟨⟨b,o,rfl,rfl⟩,trivial⟩
 rcases h z V [.pointer (some ⟨b,o,none⟩)] hL hM hA with ⟨y,w',h1,_⟩|⟨_,h2⟩
 ·rw [show ([.pointer (some ⟨b,o,none⟩)]:List Value).toArray=#[.pointer (some ⟨b,o,none⟩)] from rfl,he] at h1
  cases h1
 ·refine h2.mono fun e w' ⟨y,he,V',hd,hm⟩=>?_
  have hd:y=r:=hd
  subst hd
  have hv0:=hm.lent 0 (b,o) rfl
  refine ⟨he,⟨hm.below.os,hm.below.tape,hm.below.output,hm.below.size,fun k hk hl=>hm.below.block k ⟨hl,fun o' ho=>?_,by simp [z]⟩,fun p hp=>hm.froz p hp⟩,fun j x hx=>?_⟩
  ·simp [z] at ho
   exact hk ho.1
  ·obtain ⟨y',c1,c2,c3⟩:=hm.mem 0 b o hv0 (cs'.map .v) rfl j (.v x) (by rw [List.getElem?_map,hx];rfl)
   have c2:y'=x:=c2
   subst c2
   exact ⟨c1,c3⟩
theorem qq2 {z:Base} {V:Vl} {cs:List SA} {cs':List Value} {b o:Nat} {w':World} (hl:Lent z ⟨[cs],[true],[]⟩ V) (hm:qbZ z ⟨[cs],[true],[]⟩ V z.w) (hb:V.b 0=some (b,o)) (hs:One b z.w w') (ha:At w' b o cs') :
  qbZ z ⟨[cs'.map .v],[true],[]⟩ V w':=by
 have hL0:z.L[0]?=some (b,o):=by rw [← hl.b];exact hb
 have vb:∀ l q,V.b l=some q→l=0∧q=(b,o):=by
  intro l q hq
  have h1:z.L[l]?=some q:=by rw [← hl.b];exact hq
  have h2:=(List.getElem?_eq_some_iff.1 h1).1
  have h3:z.L.length=1:=hl.bl
  have:l=0:=by omega
  subst this
  rw [hb] at hq
  injection hq with hq
  exact ⟨rfl,hq.symm⟩
 have hq0:∀ g,V.q g=none:=by
  intro g
  cases hq:V.q g with
  | none=>rfl
  | some cs1 =>
   have h1:=hm.qs g cs1 hq
   have h2:=hm.lits.lt hq
   rcases h1 with h1|h1
   ·exact absurd h2 (by have:z.w.heap.size≤g:=h1;omega)
   ·obtain ⟨j,rc,u,h3,_⟩:=(hl.rl g).1 h1
    exact absurd h3 (by simp [Sx.rowAt])
 refine { hm with lens:=rfl,mem:=?_,own:=?_,rows:=fun r rc hr=>absurd hr (by simp [Sx.rowAt]),dom:=?_,apart:=fun r r' rc rc' u u' g h1=>absurd h1 (by simp [Sx.rowAt]),apartb:=fun r rc u g l b' o' h1=>absurd h1 (by simp [Sx.rowAt]),below:=?_,froz:=?_,lits:=qdg.none hq0,rowsN:=fun r hr=>hm.rowsN r hr }
 ·intro l b' o' hl' cs1 hcs j x hx
  obtain ⟨rfl,hq⟩:=vb l _ hl'
  injection hq with e1 e2
  subst e1 e2
  simp at hcs
  subst hcs
  rw [List.getElem?_map] at hx
  cases hv:cs'[j]? with
  | none=>rw [hv] at hx;cases hx
  | some v =>
   rw [hv] at hx
   injection hx with hx
   subst hx
   obtain ⟨a1,a2⟩:=ha j v hv
   exact ⟨v,a1,rfl,a2⟩
 ·intro l b' o' hl'
  obtain ⟨h1,h2⟩:=hm.own l b' o' hl'
  exact ⟨h1,Nat.lt_of_lt_of_le h2 hs.size⟩
 ·intro l hl'
  obtain ⟨q,hq⟩:=Option.ne_none_iff_exists'.1 hl'
  obtain ⟨rfl,_⟩:=vb l q hq
  rfl
 ·refine ⟨hs.os,hs.tape,hs.output,hs.size,fun k hk=>hs.block k ?_ hk.1⟩
  rintro rfl
  exact hk.2.1 o (List.mem_of_getElem? hL0)
 ·intro p hp
  exact hs.froz p hp
end Go.Proofs.YtainfdcfkgemhaaGreat
namespace Go.Proofs.YtainfdcfkgemhaaGreat
open Go Go.Proofs Go.Sx
set_option linter.unusedVariables false
theorem disable (w:World):(callFunc 383 #[]).run Tryz.prog w=.ok (.value (.tuple #[])) w:=run_call_mark0 Tryz.func383 (by kernel_rfl) (by kernel_rfl) (by kernel_rfl) .disable (by kernel_rfl) w
theorem enable (w:World):(callFunc 385 #[]).run Tryz.prog w=.ok (.value (.tuple #[])) w:=run_call_mark0 Tryz.func385 (by kernel_rfl) (by kernel_rfl) (by kernel_rfl) .enable (by kernel_rfl) w
theorem acquire (a:Addr) (w:World):(callFunc 386 #[.pointer (some a)]).run Tryz.prog w=.ok (.value (.tuple #[])) w:=run_call_marked Tryz.func386 (by kernel_rfl) (by kernel_rfl) (by kernel_rfl) .acquire (by kernel_rfl) a w
theorem releaseMerge (a:Addr) (w:World):(callFunc 388 #[.pointer (some a)]).run Tryz.prog w=.ok (.value (.tuple #[])) w:=run_call_marked Tryz.func388 (by kernel_rfl) (by kernel_rfl) (by kernel_rfl) .releaseMerge (by kernel_rfl) a w
theorem qgN (a:Addr) (x:Value) (u:FrameMode) (w:World) (hc:w.cell? a=some x) (hz:w.frozen? a=false) :
  CallsD Tryz.prog 365 #[.pointer (some a),.bool true] u w fun e u' w'=>u'=u∧(e=.returned (.tuple #[])∧w'=w.drew.setCell a (.int .u32 1)):=by
 have hc':w.drew.cell? a=some x:=by go_simp
 have hz':w.drew.frozen? a=false:=by go_simp
 have hst:=run_call_store (P:=Tryz.prog) Tryz.func376 (by kernel_rfl) (by kernel_rfl) (by kernel_rfl) (by kernel_rfl) (k:=.u32) (y:=1) hc' hz'
 go_enter_d Tryz.func365,Tryz.ntmps365
 go_wp2
 go_region_calls
 all_goals (go_end0;exact ⟨rfl,rfl⟩)
theorem qfY (a:Addr) (u:FrameMode) (w:World) (hc:w.cell? a=some (.int .i32 1)) (hz:w.frozen? a=false) :
  CallsD Tryz.prog 364 #[.pointer (some a)] u w fun e u' w'=>u'=u∧(e=.returned (.tuple #[])∧w'=w.setCell a (.int .i32 0)):=by
 have hd:=disable
 have he:=enable
 have hr:=releaseMerge
 have hadd:=run_call_add (P:=Tryz.prog) Tryz.func389 (by kernel_rfl) (by kernel_rfl) (by kernel_rfl) .i32 (by kernel_rfl) (y:=-1) (s:=0) hc hz (by simp [go_sem];rfl)
 have hcv:=run_convert_to_unsafe (P:=Tryz.prog) (src:=456) (dst:=333) Tryz.underlying456 Tryz.underlying333 (by kernel_rfl) hc
 go_enter_d Tryz.func364,Tryz.ntmps364
 go_wp2
 go_end0
 go_wp2
 go_end0
 exact ⟨rfl,rfl⟩
theorem qrg (a:Addr) (w:World) (hc:w.cell? a=some (.int .i32 0)) (hz:w.frozen? a=false) :
  Calls Tryz.prog 363 #[.pointer (some a)] w fun e w'=>e=.returned (.tuple #[])∧w'=w.setCell a (.int .i32 1):=by
 have hd:=disable
 have he:=enable
 have ha:=acquire
 have hcas:=run_call_cas_hit (P:=Tryz.prog) Tryz.func384 (by kernel_rfl) (by kernel_rfl) (by kernel_rfl) .i32 (by kernel_rfl) (y:=1) hc hz
 have hc':(w.setCell a (.int .i32 1)).cell? a=some (.int .i32 1):=World.cell?_setCell_same w a _ hc
 have hcv:=run_convert_to_unsafe (P:=Tryz.prog) (src:=456) (dst:=333) Tryz.underlying456 Tryz.underlying333 (by kernel_rfl) hc'
 go_enter Tryz.func363,Tryz.ntmps363
 go_wp2
 first|go_end0|(simp only [Exit.inBlock,Exit.then];refine bodyPost_ret (results_none rfl _ _ _) rfl ?_)|refine bodyPost_ret (results_none rfl _ _ _) rfl ?_
 go_wp2
 go_end0
 exact ⟨rfl,rfl⟩
end Go.Proofs.YtainfdcfkgemhaaGreat
namespace Go.Proofs.YtainfdcfkgemhaaGreat
open Go Go.Proofs Go.Sx
set_option linter.unusedVariables false
theorem qo1 (w:World) (b o:Nat) (hb:b<w.heap.size) (h:At w b o (Blk 0 1 0 qd5 qd5)) :
  Calls Tryz.prog 315 #[.pointer (some ⟨b,o,none⟩)] w fun e w'=>e=.returned (.tuple #[])∧One b w w'∧At w' b o (Blk 0 1 1 qkZ qkY) :=
 qsZ qHh hb h (qaS Tryz.func315 (by kernel_rfl) (qcM names Tryz.func315 (by kernel_rfl)) w)
theorem qtZ (b o:Nat) (w:World) (hb:b<w.heap.size) (h:At w b o (Blk 0 0 0 qd5 qd5)) :
  Calls Tryz.prog 350 #[.pointer (some ⟨b,o,none⟩),.func (.func 315) #[.pointer (some ⟨b,o,none⟩)] #[]] w fun e w'=>e=.returned (.tuple #[]) ∧
   ∃ w2,One b w w2∧At w2 b o (Blk 0 1 1 qkZ qkY)∧w'=(w2.drew.setCell ⟨b,o,none⟩ (.int .u32 1)).setCell ⟨b,o+1,none⟩ (.int .i32 0):=by
 have h0:w.cell? ⟨b,o,none⟩=some (.int .u32 0):=(h 0 _ rfl).1
 have h1:w.cell? ⟨b,o+1,none⟩=some (.int .i32 0):=(h 1 _ rfl).1
 have f1:w.frozen? ⟨b,o+1,none⟩=false:=(h 1 _ rfl).2
 have hA:At (w.setCell ⟨b,o+1,none⟩ (.int .i32 1)) b o (Blk 0 1 0 qd5 qd5):=h.set (n:=1) (x:=.int .i32 1) (by simp [Blk])
 have hl:=run_call_load (P:=Tryz.prog) Tryz.func362 (by kernel_rfl) (by kernel_rfl) (by kernel_rfl) .u32 (by kernel_rfl) (w:=w.setCell ⟨b,o+1,none⟩ (.int .i32 1)) (a:=⟨b,o,none⟩) (x:=0) ((World.cell?_setCell_other _ ⟨b,o+1,none⟩ ⟨b,o,none⟩ _ (by simp)).trans h0)
 have hnot:∀ (x:Bool) (w:World),(Op.unary .not (.bool x)).run Tryz.prog w=.ok (.bool (!x)) w:=fun _ _=>rfl
 go_enter_defers Tryz.func350,Tryz.ntmps350
 go_wp2_with (first|(go_at_call 363;refine (qrg ⟨b,o+1,none⟩ _ (by go_simp) (by go_simp)).mono ?_;rintro e w' ⟨rfl,rfl⟩)|(go_at_call 349;go_in)|(go_at_call 315;refine (qo1 _ b o (by simpa using hb) hA).mono ?_;rintro e w2 ⟨rfl,hE,hE2⟩))
 have e0:=hE2 0 (.int .u32 0) rfl
 have e1:=hE2 1 (.int .i32 1) rfl
 refine leaves_cons (f:=365) (args:=#[.pointer (some ⟨b,o,none⟩),.bool true]) (by simp) (by simp [go_sem]) ?_
 refine (qgN ⟨b,o,none⟩ (.int .u32 0) .returning _ e0.1 e0.2).mono ?_
 rintro e u' w'' ⟨rfl,rfl,rfl⟩
 refine leaves_cons (f:=364) (args:=#[.pointer (some ⟨b,o+1,none⟩)]) (by simp [settle]) (by simp [go_sem]) ?_
 refine (qfY ⟨b,o+1,none⟩ _ _ ?_ ?_).mono ?_
 ·rw [World.cell?_setCell_other _ ⟨b,o,none⟩ ⟨b,o+1,none⟩ _ (by simp),World.cell?_drew]
  exact e1.1
 ·rw [World.frozen?_setCell]
  exact e1.2
 rintro e u' w'' ⟨rfl,rfl,rfl⟩
 simp [Leaves,settle,results,Tryz.results350]
 exact ⟨w2,(One.setCell b (o+1) (.int .i32 1) w).trans hE,hE2,rfl⟩
theorem qwX (b o:Nat) (w:World) (hb:b<w.heap.size) (h:At w b o (Blk 0 0 0 qd5 qd5)) :
  Calls Tryz.prog 314 #[.pointer (some ⟨b,o,none⟩),.func (.func 315) #[.pointer (some ⟨b,o,none⟩)] #[]] w fun e w'=>e=.returned (.tuple #[]) ∧
   ∃ w2,One b w w2∧At w2 b o (Blk 0 1 1 qkZ qkY)∧w'=(w2.drew.setCell ⟨b,o,none⟩ (.int .u32 1)).setCell ⟨b,o+1,none⟩ (.int .i32 0):=by
 have h0:w.cell? ⟨b,o,none⟩=some (.int .u32 0):=(h 0 _ rfl).1
 have hl:=run_call_load (P:=Tryz.prog) Tryz.func362 (by kernel_rfl) (by kernel_rfl) (by kernel_rfl) .u32 (by kernel_rfl) h0
 have hnot:∀ (x:Bool) (w:World),(Op.unary .not (.bool x)).run Tryz.prog w=.ok (.bool (!x)) w:=fun _ _=>rfl
 go_enter Tryz.func314,Tryz.ntmps314
 go_wp2_with (first|(go_at_call 350;refine (qtZ b o _ hb h).mono ?_;rintro e w' ⟨rfl,w2,hE,hE2,rfl⟩)|(go_at_call 349;go_in))
 go_end0
 exact ⟨rfl,w2,hE,hE2,rfl⟩
theorem qCn (a:Addr) (fv:Value) (w:World) (h0:w.cell? a=some (.int .u32 1)) :
  Calls Tryz.prog 314 #[.pointer (some a),fv] w fun e w'=>e=.returned (.tuple #[])∧w'=w:=by
 have hl:=run_call_load (P:=Tryz.prog) Tryz.func362 (by kernel_rfl) (by kernel_rfl) (by kernel_rfl) .u32 (by kernel_rfl) h0
 have hnot:∀ (x:Bool) (w:World),(Op.unary .not (.bool x)).run Tryz.prog w=.ok (.bool (!x)) w:=fun _ _=>rfl
 go_enter Tryz.func314,Tryz.ntmps314
 go_wp2
 go_end0
 exact ⟨rfl,rfl⟩
def qIF:List Value:=Blk 0 0 0 qd5 qd5
def qln:List Value:=Blk 1 0 1 qkZ qkY
theorem qsR {z:Base} {V:Vl} {vs:List Value} (hA:qaP (Den V) [.ptr 0 0,.clo 315 0 0] vs):∃ b o,V.b 0=some (b,o)∧vs=[.pointer (some ⟨b,o,none⟩),.func (.func 315) #[.pointer (some ⟨b,o,none⟩)] #[]]:=by
 match vs,hA with
 | [x,y],⟨⟨b,o,h1,h2⟩,⟨b',o',h3,h4⟩,_⟩ =>
  rw [h1] at h3
  injection h3 with h3
  injection h3 with e1 e2
  subst e1 e2
  refine ⟨b,o,h1,?_⟩
  rw [h2,h4]
  unfold qsV
  rw [if_pos (show (315:Nat)<qsY by decide)]
  rfl
theorem qCo:qaB Tryz.prog 314 [.ptr 0 0,.clo 315 0 0] ⟨[qIF.map .v],[true],[]⟩ (.v (.tuple #[])) ⟨[qln.map .v],[true],[]⟩:=by
 intro z V vs hl hm ha
 obtain ⟨b,o,hb,rfl⟩:=qsR (z:=z) ha
 have hat:At z.w b o qIF:=fun j x hx=>by
  obtain ⟨y,c1,c2,c3⟩:=hm.mem 0 b o hb (qIF.map .v) rfl j (.v x) (by rw [List.getElem?_map,hx];rfl)
  have c2:y=x:=c2
  subst c2
  exact ⟨c1,c3⟩
 refine .inr ⟨qaS Tryz.func314 (by kernel_rfl) (qcM names Tryz.func314 (by kernel_rfl)) z.w,?_⟩
 refine (qwX b o z.w (hm.own 0 b o hb).2 hat).mono ?_
 rintro e w' ⟨rfl,w2,hE,hE2,rfl⟩
 have k0:At w2.drew b o (Blk 0 1 1 qkZ qkY):=hE2
 have k1:=(k0.set (n:=0) (x:=.int .u32 1) (by simp [Blk])).set (n:=1) (x:=.int .i32 0) (by simp [Blk])
 exact ⟨_,rfl,V,rfl,qq2 (b:=b) (o:=o) (cs':=qln) hl hm hb (((hE.trans (One.drew b w2)).trans (One.setCell b o _ _)).trans (One.setCell b (o+1) _ _)) k1⟩
theorem qHq:qaB Tryz.prog 314 [.ptr 0 0,.clo 315 0 0] ⟨[qln.map .v],[true],[]⟩ (.v (.tuple #[])) ⟨[qln.map .v],[true],[]⟩:=by
 intro z V vs hl hm ha
 obtain ⟨b,o,hb,rfl⟩:=qsR (z:=z) ha
 obtain ⟨y,c1,c2,c3⟩:=hm.mem 0 b o hb (qln.map .v) rfl 0 (.v (.int .u32 1)) rfl
 have c2:y=.int .u32 1:=c2
 subst c2
 refine .inr ⟨qaS Tryz.func314 (by kernel_rfl) (qcM names Tryz.func314 (by kernel_rfl)) z.w,?_⟩
 refine (qCn ⟨b,o,none⟩ _ z.w c1).mono ?_
 rintro e w' ⟨rfl,rfl⟩
 exact ⟨_,rfl,V,rfl,hm⟩
def eqI (a:SA) (b:Value):Bool :=
 match a,b with
 | .v (.int k x),.int k' y=>decide (k=k')&&decide (x=y)
 | _,_=>false
def eqL:List SA→List Value→Bool
 | [],[]=>true
 | x::a,y::b=>eqI x y&&eqL a b
 | _,_=>false
theorem qHo {x:SA} {y:Value} (h:eqI x y=true):x=.v y:=by
 unfold eqI at h
 split at h
 ·simp only [Bool.and_eq_true,decide_eq_true_eq] at h
  rw [h.1,h.2]
 ·cases h
theorem eqL_eq:∀ {a:List SA} {b:List Value},eqL a b=true→a=b.map .v
 | [],[],_=>rfl
 | x::a,y::b,h=>by
  simp only [eqL,Bool.and_eq_true] at h
  rw [qHo h.1,eqL_eq h.2]
  rfl
 | [],_::_,h=>by cases h
 | _::_,[],h=>by cases h
def qHp (cs:List SA):Bool :=
 match cs with
 | .v (.int .u32 d)::_=>decide (d=1)
 | _=>false
def qGy (cs:List SA):Bool:=bif qHp cs then eqL cs qln else eqL cs qIF
def gDo (xs:List SV) (m:Mem):Option (Bool×SV×Mem) :=
 match xs,m with
 | [.ptr 0 0,.clo f 0 0],⟨[cs],[true],[]⟩=>match Nat.beq f 315 with
  | true=>some (qGy cs,.v (.tuple #[]),⟨[qln.map .v],[true],[]⟩)
  | false=>none
 | _,_=>none
theorem qG6:CtC 314 gDo:=by
 intro xs m r m' h
 unfold gDo at h
 split at h
 ·split at h
  ·rename_i f cs _ hf
   obtain rfl:=Nat.eq_of_beq_eq_true hf
   obtain ⟨h1,rfl,rfl⟩:=qaf h
   unfold qGy at h1
   cases hd:qHp cs
   ·rw [hd] at h1
    rw [eqL_eq h1]
    exact qCo
   ·rw [hd] at h1
    rw [eqL_eq h1]
    exact qHq
  ·cases h
 ·cases h
def ΓDo:Orc:=qau 314 gDo Γf0
theorem qNV:ΓDo.Ok Tryz.prog:=qad Okf0 qG6
end Go.Proofs.YtainfdcfkgemhaaGreat
