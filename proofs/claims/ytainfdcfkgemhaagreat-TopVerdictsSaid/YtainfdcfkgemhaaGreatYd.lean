/-
  What is known of this program: sums,bytes and numbers;tables that are made once.
-/
import Derived.Test.YtainfdcfkgemhaaGreatYc
import Derived.Laws.Strings
import Derived.Test.YtainfdcfkgemhaaGreatSx
import Derived.Tactics
import Derived.Tactics2
import Derived.Defers
import Derived.Laws.Pointers
import Derived.Laws.LoneSync
import Derived.RegionTactic
import Derived.RegionCalls
import Derived.ChangeAlike
set_option maxRecDepth 100000
noncomputable section
open Go.Proofs.Tryz
namespace Go.Proofs.YtainfdcfkgemhaaGreat
open Go Go.Proofs Go.Sx
def n16 (n:Nat):Nat:=bif Nat.ble 32768 n then Nat.xor (2*n % 65536) 4129 else 2*n % 65536
def n32 (n:Nat):Nat:=bif Nat.beq (n % 2) 1 then Nat.xor (n / 2) 3988292384 else n / 2
def it (f:Nat->Nat):Nat->Nat->Nat
 | 0,n=>n
 | k+1,n=>it f k (f n)
def N16 (n:Nat):Nat:=it n16 8 n
def N32 (n:Nat):Nat:=it n32 8 n
theorem gI {a b:Nat} (k:Nat) (ha:a<2 ^ k) (hb:b<2 ^ k):Nat.xor a b<2 ^ k:=Nat.xor_lt_two_pow ha hb
theorem CF (n:Nat):n16 n<65536:=by
 unfold n16
 cases Nat.ble 32768 n
 ·exact Nat.mod_lt _ (by decide)
 ·exact gI 16 (Nat.mod_lt _ (by decide)) (by decide)
theorem CE {n:Nat} (h:n<4294967296):n32 n<4294967296:=by
 unfold n32
 cases Nat.beq (n % 2) 1
 ·show n / 2<_;omega
 ·exact gI 32 (by have:(2:Nat) ^ 32=4294967296:=by decide
                  omega) (by decide)
theorem C5 {f:Nat->Nat} {m:Nat} (hf:∀ n,n<m->f n<m):∀ (k n:Nat),n<m->it f k n<m
 | 0,_,h=>h
 | k+1,n,h=>C5 hf k (f n) (hf n h)
theorem qkz {n:Nat} (h:n<65536):N16 n<65536:=C5 (fun n _=>CF n) 8 n h
theorem qky {n:Nat} (h:n<4294967296):N32 n<4294967296:=C5 (fun _=>CE) 8 n h
theorem rF (n:Nat):IntKind.u16.wrap (n:Int)=((n % 65536:Nat):Int):=by
 rw [<- cA true];simp only [wr];omega
theorem mK (n:Nat):IntKind.u32.wrap (n:Int)=((n % 4294967296:Nat):Int):=by
 rw [<- cA true];simp only [wr];omega
theorem oG (w a b:Nat) (ha:a<2 ^ w) (hb:b<2 ^ w):(((BitVec.ofInt w (a:Int) ^^^ BitVec.ofInt w (b:Int)).toNat:Nat):Int)=((Nat.xor a b:Nat):Int):=by
 rw [BitVec.toNat_xor,BitVec.ofInt_natCast,BitVec.ofInt_natCast,BitVec.toNat_ofNat,BitVec.toNat_ofNat,Nat.mod_eq_of_lt ha,Nat.mod_eq_of_lt hb]
 rfl
theorem adB (w a b:Nat) (ha:a<2 ^ w) (hb:b<2 ^ w):(((BitVec.ofInt w (a:Int) &&& BitVec.ofInt w (b:Int)).toNat:Nat):Int)=((Nat.land a b:Nat):Int):=by
 rw [BitVec.toNat_and,BitVec.ofInt_natCast,BitVec.ofInt_natCast,BitVec.toNat_ofNat,BitVec.toNat_ofNat,Nat.mod_eq_of_lt ha,Nat.mod_eq_of_lt hb]
 rfl
theorem yV {α:Type} (E:Nat->Int->Int->Option α) (F:Int->Option α) (c:Int->Bool) (A B:Int->Int) (f:Nat->Nat) (m:Nat) (hf:∀ n,n<m->f n<m) (hc:∀ n:Nat,n<m->(bif c (n:Int) then A (n:Int) else B (n:Int))=((f n:Nat):Int))
  (hE:∀ k x i,E (k+1) x i=bif decide (i<(8:Int)) then (bif c x then E k (A x) (wI (i+1)) else E k (B x) (wI (i+1))) else F x) :
  ∀ (j n:Nat),j<=8->n<m->E (j+1) (n:Int) ((8 - j:Nat):Int)=F ((it f j n:Nat):Int):=by
 intro j
 induction j with
 | zero =>
  intro n _ _
  rw [hE]
  rfl
 | succ j ih =>
  intro n hj hn
  rw [hE,show decide (((8 - (j+1):Nat):Int)<8)=true from decide_eq_true (by omega),aM (by omega),show ((8 - (j+1):Nat):Int)+1=((8 - j:Nat):Int) by omega]
  have hx:=hc n hn
  have h2:(bif c (n:Int) then E (j+1) (A n) ((8 - j:Nat):Int) else E (j+1) (B n) ((8 - j:Nat):Int))=E (j+1) (bif c (n:Int) then A (n:Int) else B (n:Int)) ((8 - j:Nat):Int):=by
   cases c (n:Int)<;>rfl
  rw [cond_true,h2,hx,ih (f n) (by omega) (hf n hn)]
  rfl
def qR (x:Int):Int:=IntKind.u16.wrap (((BitVec.ofInt 16 (IntKind.u16.wrap (x*2 ^ min (Int.toNat 1) 16)) ^^^ BitVec.ofInt 16 4129).toNat:Nat):Int)
def mv (x:Int):Int:=IntKind.u16.wrap (x*2 ^ min (Int.toNat 1) 16)
theorem K9 (n:Nat) (_:n<65536):(bif decide ((n:Int)>=32768) then qR n else mv n)=((n16 n:Nat):Int):=by
 have e:(n:Int)*2 ^ min (Int.toNat 1) 16=((2*n:Nat):Int):=by
  rw [show min (Int.toNat 1) 16=1 from rfl];omega
 unfold qR mv n16
 rw [e,rF (2*n),show (4129:Int)=((4129:Nat):Int) from rfl,oG 16 _ _ (Nat.mod_lt _ (by decide)) (by decide),rF]
 by_cases h:32768<=n
 ·rw [decide_eq_true (by omega),show Nat.ble 32768 n=true from by rw [Nat.ble_eq];exact h]
  simp only [cond_true]
  rw [Nat.mod_eq_of_lt (gI 16 (Nat.mod_lt _ (by decide)) (by decide))]
 ·rw [decide_eq_false (by omega),show Nat.ble 32768 n=false from by rw [<- Bool.not_eq_true,Nat.ble_eq];exact h]
  rfl
def zi (x:Int):Bool:=IntKind.u32.wrap (((BitVec.ofInt 32 x &&& BitVec.ofInt 32 1).toNat:Nat):Int)==1
def zP (x:Int):Int:=IntKind.u32.wrap (((BitVec.ofInt 32 (Int.fdiv x (2 ^ min (Int.toNat 1) 32)) ^^^ BitVec.ofInt 32 3988292384).toNat:Nat):Int)
def zC (x:Int):Int:=Int.fdiv x (2 ^ min (Int.toNat 1) 32)
theorem fX:(2:Nat) ^ 32=4294967296:=by decide
theorem Us (n:Nat) (h:n<4294967296):(bif zi n then zP n else zC n)=((n32 n:Nat):Int):=by
 have e:Int.fdiv (n:Int) (2 ^ min (Int.toNat 1) 32)=((n / 2:Nat):Int):=by
  rw [show min (Int.toNat 1) 32=1 from rfl,Int.fdiv_eq_ediv_of_nonneg _ (by decide)];omega
 unfold zi zP zC n32
 rw [e,show (3988292384:Int)=((3988292384:Nat):Int) from rfl,show (1:Int)=((1:Nat):Int) from rfl,adB 32 _ _ (by rw [fX];exact h) (by decide),oG 32 _ _ (by rw [fX];omega) (by decide),mK,mK]
 have e2:Nat.land n 1=n % 2:=Nat.and_one_is_mod n
 rw [e2]
 rcases Nat.mod_two_eq_zero_or_one n with h0|h0
 ·rw [h0];rfl
 ·rw [h0,Nat.mod_eq_of_lt (gI 32 (by rw [fX];omega) (by decide))];rfl
def yX (x:Int):Bool:=Int.tmod x 2==1
def yt (x:Int):Int:=IntKind.u32.wrap (((BitVec.ofInt 32 (IntKind.u32.wrap (Int.tdiv x 2)) ^^^ BitVec.ofInt 32 3988292384).toNat:Nat):Int)
def xI (x:Int):Int:=IntKind.u32.wrap (Int.tdiv x 2)
theorem Ur (n:Nat) (h:n<4294967296):(bif yX n then yt n else xI n)=((n32 n:Nat):Int):=by
 have e:Int.tdiv (n:Int) 2=((n / 2:Nat):Int):=by
  rw [Int.tdiv_eq_ediv_of_nonneg (by omega)];omega
 have e1:Int.tmod (n:Int) 2=((n % 2:Nat):Int):=by
  rw [Int.tmod_eq_emod_of_nonneg (by omega)];omega
 unfold yX yt xI n32
 rw [e,e1,mK (n / 2),Nat.mod_eq_of_lt (show n / 2<4294967296 by omega),show (3988292384:Int)=((3988292384:Nat):Int) from rfl,oG 32 _ _ (by rw [fX];omega) (by decide),mK]
 rcases Nat.mod_two_eq_zero_or_one n with h0|h0
 ·rw [h0];rfl
 ·rw [h0,Nat.mod_eq_of_lt (gI 32 (by rw [fX];omega) (by decide))];rfl
def p16 (x:Nat) (b:UInt8):Nat:=N16 (Nat.xor x (b.toNat*256))
def p32 (x:Nat) (b:UInt8):Nat:=N32 (Nat.xor x b.toNat)
theorem fc (b:UInt8):b.toNat<256:=b.toNat_lt
theorem MN {x:Nat} (b:UInt8) (h:x<65536):p16 x b<65536 :=
 qkz (gI 16 h (by have:=fc b;show _<65536;omega))
theorem Cs {x:Nat} (b:UInt8) (h:x<4294967296):p32 x b<4294967296 :=
 qky (gI 32 h (by have:=fc b;rw [fX];omega))
def k8 (x:Int) (s:ByteArray):Int:=((s.data.toList.foldl p16 x.toNat:Nat):Int)
def F32 (s:ByteArray):Nat:=s.data.toList.foldl p32 4294967295
theorem OI {α:Type} {f:Nat->α->Nat} {m:Nat} (hf:∀ n b,n<m->f n b<m):∀ (l:List α) (n:Nat),n<m->l.foldl f n<m
 | [],_,h=>h
 | b::l,n,h=>OI hf l _ (hf n b h)
theorem vl {s:ByteArray} {k:Nat} {b:UInt8} (h:s.data[k]?=some b):aw s (k:Int)=(b.toNat:Int):=by
 unfold aw
 have:s[(k:Int).toNat]?=some b:=by
  rw [Int.toNat_natCast]
  have hk:k<s.size:=by
   have:=(Array.getElem?_eq_some_iff.1 h).1
   exact this
  rw [getElem?_pos s k hk]
  have h2:=(Array.getElem?_eq_some_iff.1 h).2
  rw [<- h2]
  rfl
 rw [this]
theorem sG {α:Type} (s:ByteArray) (hs:s.size<=9223372036854775807) (E:Nat->Int->Int->Option α) (F:Int->Option α) (g:Int->Int->Bool) (A:Int->Int->Int) (f:Nat->UInt8->Nat) (m:Nat) (hf:∀ n b,n<m->f n b<m)
  (hg:∀ (n k:Nat) b,n<m->s.data[k]?=some b->g n k=true/\A n k=((f n b:Nat):Int))
  (hE:∀ k x i,E (k+1) x i=bif decide (i<(s.size:Int)) then (bif decide (0<=i)&&decide (i<(s.size:Int)) then (bif g x i then E k (A x i) (wI (i+1)) else none) else none) else F x) :
  ∀ (j k n:Nat),k+j=s.size->n<m->E (j+1) (n:Int) (k:Int)=F (((s.data.toList.drop k).foldl f n:Nat):Int):=by
 intro j
 induction j with
 | zero =>
  intro k n hk _
  rw [hE,show decide ((k:Int)<(s.size:Int))=false from decide_eq_false (by omega)]
  rw [List.drop_eq_nil_of_le (by simp;omega)]
  rfl
 | succ j ih =>
  intro k n hk hn
  have hlt:k<s.data.size:=by show k<s.size;omega
  obtain ⟨b,hb⟩:∃ b,s.data[k]?=some b:=⟨s.data[k],by simp⟩
  obtain ⟨h1,h2⟩:=hg n k b hn hb
  rw [hE,show decide ((k:Int)<(s.size:Int))=true from decide_eq_true (by omega),show decide ((0:Int)<=(k:Int))=true from decide_eq_true (by omega),aM (by omega),h1,h2]
  simp only [cond_true,Bool.and_self]
  rw [show (k:Int)+1=((k+1:Nat):Int) by omega,ih (k+1) _ (by omega) (hf n b hn)]
  have e2:s.data.toList.drop k=b::s.data.toList.drop (k+1):=by
   rw [List.drop_eq_getElem_cons (by simpa using hlt)]
   have:=(Array.getElem?_eq_some_iff.1 hb).2
   simp [this]
  rw [e2,List.foldl_cons]
def fZ (s:ByteArray) (x i:Int):Int:=IntKind.u16.wrap (((BitVec.ofInt 16 x ^^^ BitVec.ofInt 16 (IntKind.u16.wrap (IntKind.u16.wrap (aw s i)*2 ^ min (Int.toNat 8) 16))).toNat:Nat):Int)
def gR (s:ByteArray) (x i:Int):Int:=IntKind.u32.wrap (((BitVec.ofInt 32 x ^^^ BitVec.ofInt 32 (IntKind.u32.wrap (aw s i))).toNat:Nat):Int)
theorem qaF {s:ByteArray} {n k:Nat} {b:UInt8} (hn:n<65536) (hb:s.data[k]?=some b):fZ s n k=((Nat.xor n (b.toNat*256):Nat):Int):=by
 have h:=fc b
 unfold fZ
 rw [vl hb,rF b.toNat,Nat.mod_eq_of_lt (show b.toNat<65536 by omega)]
 have e:((b.toNat:Nat):Int)*2 ^ min (Int.toNat 8) 16=((b.toNat*256:Nat):Int):=by
  rw [show min (Int.toNat 8) 16=8 from rfl];omega
 rw [e,rF (b.toNat*256),Nat.mod_eq_of_lt (show b.toNat*256<65536 by omega),oG 16 _ _ hn (by show _<65536;omega),rF,Nat.mod_eq_of_lt (gI 16 hn (by show _<65536;omega))]
theorem qaE {s:ByteArray} {n k:Nat} {b:UInt8} (hn:n<4294967296) (hb:s.data[k]?=some b):gR s n k=((Nat.xor n b.toNat:Nat):Int):=by
 have h:=fc b
 unfold gR
 rw [vl hb,mK b.toNat,Nat.mod_eq_of_lt (show b.toNat<4294967296 by omega)]
 rw [oG 32 _ _ (by rw [fX];exact hn) (by rw [fX];omega),mK,Nat.mod_eq_of_lt (gI 32 (by rw [fX];exact hn) (by rw [fX];omega))]
def kC (m:Nat) (x:Int):Bool :=
 match x with
 | .ofNat n=>Nat.ble (n+1) m
 | .negSucc _=>false
theorem xA {m:Nat} {x:Int} (h:kC m x=true):∃ n:Nat,x=(n:Int)/\n<m:=by
 cases x with
 | ofNat n=>exact ⟨n,rfl,Nat.le_of_ble_eq_true h⟩
 | negSucc n=>cases h
theorem N2 {m n:Nat} (h:n<m):kC m (n:Int)=true:=Nat.ble_eq_true_of_le h
def dL (x:Int):Bool:=kC 65536 x
def eY (x:Int):Bool:=kC 4294967296 x
def iW (x:Int):Int:=((N16 x.toNat:Nat):Int)
def iV (x:Int):Int:=((N32 x.toNat:Nat):Int)
theorem xC {x:Int} (h:dL x=true):∃ n:Nat,x=(n:Int)/\n<65536:=xA h
theorem xB {x:Int} (h:eY x=true):∃ n:Nat,x=(n:Int)/\n<4294967296:=xA h
def zT (x:Int) (s:ByteArray):Int:=((s.data.toList.foldl p32 x.toNat:Nat):Int)
def ip (s:ByteArray):Int:=((Nat.xor (F32 s) 4294967295:Nat):Int)
def yG (s:ByteArray):Int:=IntKind.u32.wrap (((BitVec.ofInt 32 (zT 4294967295 s) ^^^ BitVec.ofInt 32 4294967295).toNat:Nat):Int)
theorem qkA (s:ByteArray):F32 s<4294967296:=OI (fun _ b=>Cs b) _ _ (by decide)
theorem OW (s:ByteArray):yG s=ip s:=by
 have h:=qkA s
 unfold yG ip
 have e:zT 4294967295 s=((F32 s:Nat):Int):=rfl
 rw [e,show (4294967295:Int)=((4294967295:Nat):Int) from rfl,oG 32 _ _ (by rw [fX];exact h) (by decide),mK,Nat.mod_eq_of_lt (gI 32 (by rw [fX];exact h) (by decide))]
def bL (s:ByteArray):Bool:=Nat.ble s.size 9223372036854775807
theorem Ob (s:ByteArray) (n k:Nat) (b:UInt8) (hn:n<65536) (hb:s.data[k]?=some b):dL (fZ s n k)=true/\iW (fZ s n k)=((p16 n b:Nat):Int):=by
 rw [qaF hn hb]
 exact ⟨N2 (gI 16 hn (by have:=fc b;show _<65536;omega)),rfl⟩
theorem Oa (s:ByteArray) (n k:Nat) (b:UInt8) (hn:n<4294967296) (hb:s.data[k]?=some b):eY (gR s n k)=true/\iV (gR s n k)=((p32 n b:Nat):Int):=by
 rw [qaE hn hb]
 exact ⟨N2 (gI 32 (by rw [fX];exact hn) (by have:=fc b;rw [fX];omega)),rfl⟩
def kB:List Bool:=aB 15 [0,4]
def rz:List Bool:=aB 15 [0]
def ol:Code:=bX (f348.body.getD .skip) 0
theorem qce:loopsOf (f348.body.getD .skip)=[ol]:=by kernel_rfl
theorem qcd:loopsOf ol=[]:=by kernel_rfl
def Au (e:Ex) (st:St):Option (Ex×St):=some (e,ab 0 0 rz st)
theorem UM (k:Nat) (x i:Int):ao ΓA13 prog L0 (ab 0 0 kB) ol (k+1) (mk kB [.v (bJ x),.v (I i)] M0) Au =
 bif decide (i<8) then (bif decide (x>=32768) then ao ΓA13 prog L0 (ab 0 0 kB) ol k (mk kB [.v (bJ (qR x)),.v (I (wI (i+1)))] M0) Au else ao ΓA13 prog L0 (ab 0 0 kB) ol k (mk kB [.v (bJ (mv x)),.v (I (wI (i+1)))] M0) Au)
 else some (.exit 0,mk rz [.v (bJ x)] M0):=by kernel_rfl
def J1 (vals:List SV) (m:Mem):Option (Bool×Ex×St) :=
 match vals,m with
 | [.v (.int .u16 x),.v (.int .i64 i)],⟨[],[],[]⟩=>some (i==0&&dL x,.exit 0,mk rz [.v (bJ (iW x))] M0)
 | _,_=>none
def ΛEight16:aV:=fun _ st=>cE 0 0 kB J1 st
theorem qcU (z:Base) (z1:z.L.length=0) (z2:z.U.length=0):aQ ΛEight16 prog z ol:=by
 refine di (Λ:=L0) (kx:=fun _=>rz) mC mixed z1 z2 (fun b hb=>by rw [qcd] at hb;cases hb) (G:=J1) (fun _=>rfl) ?_
 intro vals m e st' h
 unfold J1 at h
 split at h
 ·rename_i x i
  obtain ⟨h1,rfl,rfl⟩:=az h
  simp only [Bool.and_eq_true,beq_iff_eq] at h1
  obtain ⟨rfl,h1⟩:=h1
  obtain ⟨n,rfl,hn⟩:=xC h1
  exact ⟨9,yV (fun k x i=>ao ΓA13 prog L0 (ab 0 0 kB) ol k (mk kB [.v (bJ x),.v (I i)] M0) Au) (fun x=>some (.exit 0,mk rz [.v (bJ x)] M0)) (fun x=>decide (x>=32768)) qR mv n16 65536 (fun n _=>CF n) K9 UM 8 n (Nat.le_refl 8) hn⟩
 ·cases h
theorem Zj (x:Int):runG ΓA13 ΛEight16 prog f348 [.v (bJ x)] M0=bif (0:Int)==0&&dL x then some (.v (bJ (iW x)),M0) else none:=by kernel_rfl
def Gm (vs:List Value):Option (Bool×Value) :=
 match vs with
 | [.int .u16 x]=>some (dL x,bJ (iW x))
 | _=>none
theorem qgf:an 348 Gm:=by
 intro vs r h
 unfold Gm at h
 split at h
 ·rename_i x
  obtain ⟨h1,rfl⟩:=aa h
  refine am (vs:=[bJ x]) (Λ:=ΛEight16) (m':=M0) mC func348 rfl (fun z z1 z2=>bW (c:=f348.body.getD .skip) qce (qcU z z1 z2)) ?_
  exact (Zj x).trans (by rw [h1];rfl)
 ·cases h
def ΓK1:Orc:=ah 348 Gm ΓA13
theorem IX:ΓK1.Ok prog:=ac mC qgf
def kw:List Bool:=aB 16 [0,3]
def rn:List Bool:=aB 16 [0]
def og:Code:=bX (f265.body.getD .skip) 0
theorem qbJ:loopsOf (f265.body.getD .skip)=[og]:=by kernel_rfl
theorem qbI:loopsOf og=[]:=by kernel_rfl
def Aq (e:Ex) (st:St):Option (Ex×St):=some (e,ab 0 0 rn st)
theorem Ux (k:Nat) (x i:Int):ao ΓK1 prog L0 (ab 0 0 kw) og (k+1) (mk kw [.v (bJ x),.v (I i)] M0) Aq =
 bif decide (i<8) then (bif decide (x>=32768) then ao ΓK1 prog L0 (ab 0 0 kw) og k (mk kw [.v (bJ (qR x)),.v (I (wI (i+1)))] M0) Aq else ao ΓK1 prog L0 (ab 0 0 kw) og k (mk kw [.v (bJ (mv x)),.v (I (wI (i+1)))] M0) Aq)
 else some (.exit 0,mk rn [.v (bJ x)] M0):=by kernel_rfl
def JB (vals:List SV) (m:Mem):Option (Bool×Ex×St) :=
 match vals,m with
 | [.v (.int .u16 x),.v (.int .i64 i)],⟨[],[],[]⟩=>some (i==0&&dL x,.exit 0,mk rn [.v (bJ (iW x))] M0)
 | _,_=>none
def ΛStep16:aV:=fun _ st=>cE 0 0 kw JB st
theorem qcz (z:Base) (z1:z.L.length=0) (z2:z.U.length=0):aQ ΛStep16 prog z og:=by
 refine di (Λ:=L0) (kx:=fun _=>rn) IX mixed z1 z2 (fun b hb=>by rw [qbI] at hb;cases hb) (G:=JB) (fun _=>rfl) ?_
 intro vals m e st' h
 unfold JB at h
 split at h
 ·rename_i x i
  obtain ⟨h1,rfl,rfl⟩:=az h
  simp only [Bool.and_eq_true,beq_iff_eq] at h1
  obtain ⟨rfl,h1⟩:=h1
  obtain ⟨n,rfl,hn⟩:=xC h1
  exact ⟨9,yV (fun k x i=>ao ΓK1 prog L0 (ab 0 0 kw) og k (mk kw [.v (bJ x),.v (I i)] M0) Aq) (fun x=>some (.exit 0,mk rn [.v (bJ x)] M0)) (fun x=>decide (x>=32768)) qR mv n16 65536 (fun n _=>CF n) K9 Ux 8 n (Nat.le_refl 8) hn⟩
 ·cases h
theorem Wm (x:Int):runG ΓK1 ΛStep16 prog f265 [.v (bJ x)] M0=bif (0:Int)==0&&dL x then some (.v (bJ (iW x)),M0) else none:=by kernel_rfl
def D8 (vs:List Value):Option (Bool×Value) :=
 match vs with
 | [.int .u16 x]=>some (dL x,bJ (iW x))
 | _=>none
theorem qef:an 265 D8:=by
 intro vs r h
 unfold D8 at h
 split at h
 ·rename_i x
  obtain ⟨h1,rfl⟩:=aa h
  refine am (vs:=[bJ x]) (Λ:=ΛStep16) (m':=M0) IX func265 rfl (fun z z1 z2=>bW (c:=f265.body.getD .skip) qbJ (qcz z z1 z2)) ?_
  exact (Wm x).trans (by rw [h1];rfl)
 ·cases h
def ΓK2:Orc:=ah 265 D8 ΓK1
theorem IW:ΓK2.Ok prog:=ac IX qef
def s8:List Bool:=aB 21 [0,1,7,8]
def rx:List Bool:=aB 21 [0]
def qG:Code:=bX (f313.body.getD .skip) 0
theorem qb6:loopsOf (f313.body.getD .skip)=[qG]:=by kernel_rfl
theorem qb5:loopsOf qG=[]:=by kernel_rfl
def Ke (e:Ex) (st:St):Option (Ex×St):=some (e,ab 0 0 rx st)
def Jt (s:ByteArray) (x i:Int):St:=mk s8 [.v (bJ x),.v (S s),.v (I (s.size:Int)),.v (I i)] M0
theorem UG (s:ByteArray) (k:Nat) (x i:Int):ao ΓK2 prog L0 (ab 0 0 s8) qG (k+1) (Jt s x i) Ke =
 bif decide (i<(s.size:Int)) then (bif decide (0<=i)&&decide (i<(s.size:Int)) then (bif dL (fZ s x i) then ao ΓK2 prog L0 (ab 0 0 s8) qG k (Jt s (iW (fZ s x i)) (wI (i+1))) Ke else none) else none)
 else some (.exit 0,mk rx [.v (bJ x)] M0):=by kernel_rfl
def JU (vals:List SV) (m:Mem):Option (Bool×Ex×St) :=
 match vals,m with
 | [.v (.int .u16 x),.v (.string s),.v (.int .i64 n),.v (.int .i64 i)],⟨[],[],[]⟩=>some (n==(s.size:Int)&&(i==0&&(dL x&&bL s)),.exit 0,mk rx [.v (bJ (k8 x s))] M0)
 | _,_=>none
def ΛMore16:aV:=fun _ st=>cE 0 0 s8 JU st
theorem qcP (z:Base) (z1:z.L.length=0) (z2:z.U.length=0):aQ ΛMore16 prog z qG:=by
 refine di (Λ:=L0) (kx:=fun _=>rx) IW mixed z1 z2 (fun b hb=>by rw [qb5] at hb;cases hb) (G:=JU) (fun _=>rfl) ?_
 intro vals m e st' h
 unfold JU at h
 split at h
 ·rename_i x s n i
  obtain ⟨h1,rfl,rfl⟩:=az h
  simp only [Bool.and_eq_true,beq_iff_eq] at h1
  obtain ⟨rfl,rfl,h1,h4⟩:=h1
  obtain ⟨n,rfl,hn⟩:=xC h1
  exact ⟨s.size+1,sG s (Nat.le_of_ble_eq_true h4) (fun k x i=>ao ΓK2 prog L0 (ab 0 0 s8) qG k (Jt s x i) Ke) (fun x=>some (.exit 0,mk rx [.v (bJ x)] M0)) (fun x i=>dL (fZ s x i)) (fun x i=>iW (fZ s x i)) p16 65536 (fun n b=>MN b) (Ob s) (UG s) s.size 0 n (by omega) hn⟩
 ·cases h
theorem Ym (x:Int) (s:ByteArray):runG ΓK2 ΛMore16 prog f313 [.v (bJ x),.v (S s)] M0=bif (s.size:Int)==(s.size:Int)&&((0:Int)==0&&(dL x&&bL s)) then some (.v (bJ (k8 x s)),M0) else none:=by kernel_rfl
def FC (vs:List Value):Option (Bool×Value) :=
 match vs with
 | [.int .u16 x,.string s]=>some (dL x&&bL s,(bJ (k8 x s)))
 | _=>none
theorem qfw:an 313 FC:=by
 intro vs r h
 unfold FC at h
 split at h
 ·rename_i x s
  obtain ⟨h1,rfl⟩:=aa h
  refine am (vs:=[bJ x,S s]) (Λ:=ΛMore16) (m':=M0) IW func313 rfl (fun z z1 z2=>bW (c:=f313.body.getD .skip) qb6 (qcP z z1 z2)) ?_
  exact (Ym x s).trans (by rw [h1,beq_self_eq_true];rfl)
 ·cases h
def ΓK3:Orc:=ah 313 FC ΓK2
theorem IV:ΓK3.Ok prog:=ac IW qfw
def s5:List Bool:=aB 21 [0,1,5]
def rt:List Bool:=aB 21 [0]
def qE:Code:=bX (f201.body.getD .skip) 0
theorem qbY:loopsOf (f201.body.getD .skip)=[qE]:=by kernel_rfl
theorem qbX:loopsOf qE=[]:=by kernel_rfl
def Kc (e:Ex) (st:St):Option (Ex×St):=some (e,ab 0 0 rt st)
def Jq (s:ByteArray) (x i:Int):St:=mk s5 [.v (bJ x),.v (S s),.v (I i)] M0
theorem UC (s:ByteArray) (k:Nat) (x i:Int):ao ΓK3 prog L0 (ab 0 0 s5) qE (k+1) (Jq s x i) Kc =
 bif decide (i<(s.size:Int)) then (bif decide (0<=i)&&decide (i<(s.size:Int)) then (bif dL (fZ s x i) then ao ΓK3 prog L0 (ab 0 0 s5) qE k (Jq s (iW (fZ s x i)) (wI (i+1))) Kc else none) else none)
 else some (.exit 0,mk rt [.v (bJ x)] M0):=by kernel_rfl
def JQ (vals:List SV) (m:Mem):Option (Bool×Ex×St) :=
 match vals,m with
 | [.v (.int .u16 x),.v (.string s),.v (.int .i64 i)],⟨[],[],[]⟩=>some (i==0&&(dL x&&bL s),.exit 0,mk rt [.v (bJ (k8 x s))] M0)
 | _,_=>none
def ΛRMore16:aV:=fun _ st=>cE 0 0 s5 JQ st
theorem qcL (z:Base) (z1:z.L.length=0) (z2:z.U.length=0):aQ ΛRMore16 prog z qE:=by
 refine di (Λ:=L0) (kx:=fun _=>rt) IV mixed z1 z2 (fun b hb=>by rw [qbX] at hb;cases hb) (G:=JQ) (fun _=>rfl) ?_
 intro vals m e st' h
 unfold JQ at h
 split at h
 ·rename_i x s i
  obtain ⟨h1,rfl,rfl⟩:=az h
  simp only [Bool.and_eq_true,beq_iff_eq] at h1
  obtain ⟨rfl,h1,h4⟩:=h1
  obtain ⟨n,rfl,hn⟩:=xC h1
  exact ⟨s.size+1,sG s (Nat.le_of_ble_eq_true h4) (fun k x i=>ao ΓK3 prog L0 (ab 0 0 s5) qE k (Jq s x i) Kc) (fun x=>some (.exit 0,mk rt [.v (bJ x)] M0)) (fun x i=>dL (fZ s x i)) (fun x i=>iW (fZ s x i)) p16 65536 (fun n b=>MN b) (Ob s) (UC s) s.size 0 n (by omega) hn⟩
 ·cases h
theorem XA (x:Int) (s:ByteArray):runG ΓK3 ΛRMore16 prog f201 [.v (bJ x),.v (S s)] M0=bif (0:Int)==0&&(dL x&&bL s) then some (.v (bJ (k8 x s)),M0) else none:=by kernel_rfl
def E0 (vs:List Value):Option (Bool×Value) :=
 match vs with
 | [.int .u16 x,.string s]=>some (dL x&&bL s,(bJ (k8 x s)))
 | _=>none
theorem qe0:an 201 E0:=by
 intro vs r h
 unfold E0 at h
 split at h
 ·rename_i x s
  obtain ⟨h1,rfl⟩:=aa h
  refine am (vs:=[bJ x,S s]) (Λ:=ΛRMore16) (m':=M0) IV func201 rfl (fun z z1 z2=>bW (c:=f201.body.getD .skip) qbY (qcL z z1 z2)) ?_
  exact (XA x s).trans (by rw [h1];rfl)
 ·cases h
def ΓK4:Orc:=ah 201 E0 ΓK3
theorem Sa:ΓK4.Ok prog:=ac IV qe0
theorem Wi (s:ByteArray):runG ΓK4 L0 prog f256 [.v (S s)] M0=bif dL 65535&&bL s then some (.v (bJ (k8 65535 s)),M0) else none:=by kernel_rfl
def D4 (vs:List Value):Option (Bool×Value) :=
 match vs with
 | [.string s]=>some (bL s,bJ (k8 65535 s))
 | _=>none
theorem qed:an 256 D4:=by
 intro vs r h
 unfold D4 at h
 split at h
 ·rename_i s
  obtain ⟨h1,rfl⟩:=aa h
  refine am (vs:=[S s]) (Λ:=L0) (m':=M0) Sa func256 rfl (fun z _ _=>noLoops (by kernel_rfl) z) ?_
  exact (Wi s).trans (by rw [h1];rfl)
 ·cases h
def ΓK5:Orc:=ah 256 D4 ΓK4
theorem IU:ΓK5.Ok prog:=ac Sa qed
def kA:List Bool:=aB 16 [0,4]
def ry:List Bool:=aB 16 [0]
def oh:Code:=bX (f308.body.getD .skip) 0
theorem qcc:loopsOf (f308.body.getD .skip)=[oh]:=by kernel_rfl
theorem qcb:loopsOf oh=[]:=by kernel_rfl
def As (e:Ex) (st:St):Option (Ex×St):=some (e,ab 0 0 ry st)
theorem UL (k:Nat) (x i:Int):ao ΓK5 prog L0 (ab 0 0 kA) oh (k+1) (mk kA [.v (bV x),.v (I i)] M0) As =
 bif decide (i<8) then (bif zi x then ao ΓK5 prog L0 (ab 0 0 kA) oh k (mk kA [.v (bV (zP x)),.v (I (wI (i+1)))] M0) As else ao ΓK5 prog L0 (ab 0 0 kA) oh k (mk kA [.v (bV (zC x)),.v (I (wI (i+1)))] M0) As)
 else some (.exit 0,mk ry [.v (bV x)] M0):=by kernel_rfl
def J0 (vals:List SV) (m:Mem):Option (Bool×Ex×St) :=
 match vals,m with
 | [.v (.int .u32 x),.v (.int .i64 i)],⟨[],[],[]⟩=>some (i==0&&eY x,.exit 0,mk ry [.v (bV (iV x))] M0)
 | _,_=>none
def ΛEight32:aV:=fun _ st=>cE 0 0 kA J0 st
theorem qcT (z:Base) (z1:z.L.length=0) (z2:z.U.length=0):aQ ΛEight32 prog z oh:=by
 refine di (Λ:=L0) (kx:=fun _=>ry) IU mixed z1 z2 (fun b hb=>by rw [qcb] at hb;cases hb) (G:=J0) (fun _=>rfl) ?_
 intro vals m e st' h
 unfold J0 at h
 split at h
 ·rename_i x i
  obtain ⟨h1,rfl,rfl⟩:=az h
  simp only [Bool.and_eq_true,beq_iff_eq] at h1
  obtain ⟨rfl,h1⟩:=h1
  obtain ⟨n,rfl,hn⟩:=xB h1
  exact ⟨9,yV (fun k x i=>ao ΓK5 prog L0 (ab 0 0 kA) oh k (mk kA [.v (bV x),.v (I i)] M0) As) (fun x=>some (.exit 0,mk ry [.v (bV x)] M0)) (fun x=>zi x) zP zC n32 4294967296 (fun n=>CE) Us UL 8 n (Nat.le_refl 8) hn⟩
 ·cases h
theorem Zi (x:Int):runG ΓK5 ΛEight32 prog f308 [.v (bV x)] M0=bif (0:Int)==0&&eY x then some (.v (bV (iV x)),M0) else none:=by kernel_rfl
def Gl (vs:List Value):Option (Bool×Value) :=
 match vs with
 | [.int .u32 x]=>some (eY x,bV (iV x))
 | _=>none
theorem qge:an 308 Gl:=by
 intro vs r h
 unfold Gl at h
 split at h
 ·rename_i x
  obtain ⟨h1,rfl⟩:=aa h
  refine am (vs:=[bV x]) (Λ:=ΛEight32) (m':=M0) IU func308 rfl (fun z z1 z2=>bW (c:=f308.body.getD .skip) qcc (qcT z z1 z2)) ?_
  exact (Zi x).trans (by rw [h1];rfl)
 ·cases h
def ΓK6:Orc:=ah 308 Gl ΓK5
theorem IT:ΓK6.Ok prog:=ac IU qge
def kv:List Bool:=aB 17 [0,3]
def rm:List Bool:=aB 17 [0]
def oe:Code:=bX (f203.body.getD .skip) 0
theorem qbH:loopsOf (f203.body.getD .skip)=[oe]:=by kernel_rfl
theorem qbG:loopsOf oe=[]:=by kernel_rfl
def Ap (e:Ex) (st:St):Option (Ex×St):=some (e,ab 0 0 rm st)
theorem Uw (k:Nat) (x i:Int):ao ΓK6 prog L0 (ab 0 0 kv) oe (k+1) (mk kv [.v (bV x),.v (I i)] M0) Ap =
 bif decide (i<8) then (bif yX x then ao ΓK6 prog L0 (ab 0 0 kv) oe k (mk kv [.v (bV (yt x)),.v (I (wI (i+1)))] M0) Ap else ao ΓK6 prog L0 (ab 0 0 kv) oe k (mk kv [.v (bV (xI x)),.v (I (wI (i+1)))] M0) Ap)
 else some (.exit 0,mk rm [.v (bV x)] M0):=by kernel_rfl
def JA (vals:List SV) (m:Mem):Option (Bool×Ex×St) :=
 match vals,m with
 | [.v (.int .u32 x),.v (.int .i64 i)],⟨[],[],[]⟩=>some (i==0&&eY x,.exit 0,mk rm [.v (bV (iV x))] M0)
 | _,_=>none
def ΛStep32:aV:=fun _ st=>cE 0 0 kv JA st
theorem qcy (z:Base) (z1:z.L.length=0) (z2:z.U.length=0):aQ ΛStep32 prog z oe:=by
 refine di (Λ:=L0) (kx:=fun _=>rm) IT mixed z1 z2 (fun b hb=>by rw [qbG] at hb;cases hb) (G:=JA) (fun _=>rfl) ?_
 intro vals m e st' h
 unfold JA at h
 split at h
 ·rename_i x i
  obtain ⟨h1,rfl,rfl⟩:=az h
  simp only [Bool.and_eq_true,beq_iff_eq] at h1
  obtain ⟨rfl,h1⟩:=h1
  obtain ⟨n,rfl,hn⟩:=xB h1
  exact ⟨9,yV (fun k x i=>ao ΓK6 prog L0 (ab 0 0 kv) oe k (mk kv [.v (bV x),.v (I i)] M0) Ap) (fun x=>some (.exit 0,mk rm [.v (bV x)] M0)) (fun x=>yX x) yt xI n32 4294967296 (fun n=>CE) Ur Uw 8 n (Nat.le_refl 8) hn⟩
 ·cases h
theorem Wl (x:Int):runG ΓK6 ΛStep32 prog f203 [.v (bV x)] M0=bif (0:Int)==0&&eY x then some (.v (bV (iV x)),M0) else none:=by kernel_rfl
def D7 (vs:List Value):Option (Bool×Value) :=
 match vs with
 | [.int .u32 x]=>some (eY x,bV (iV x))
 | _=>none
theorem qee:an 203 D7:=by
 intro vs r h
 unfold D7 at h
 split at h
 ·rename_i x
  obtain ⟨h1,rfl⟩:=aa h
  refine am (vs:=[bV x]) (Λ:=ΛStep32) (m':=M0) IT func203 rfl (fun z z1 z2=>bW (c:=f203.body.getD .skip) qbH (qcy z z1 z2)) ?_
  exact (Wl x).trans (by rw [h1];rfl)
 ·cases h
def ΓK7:Orc:=ah 203 D7 ΓK6
theorem IS:ΓK7.Ok prog:=ac IT qee
def sY:List Bool:=aB 20 [0,3,6,7]
def ri:List Bool:=aB 20 [3]
def qC:Code:=bX (f247.body.getD .skip) 0
theorem qbF:loopsOf (f247.body.getD .skip)=[qC]:=by kernel_rfl
theorem qbE:loopsOf qC=[]:=by kernel_rfl
def J6 (e:Ex) (st:St):Option (Ex×St):=some (e,ab 0 0 ri st)
def Jo (s:ByteArray) (x i:Int):St:=mk sY [.v (S s),.v (bV x),.v (I (s.size:Int)),.v (I i)] M0
theorem Uv (s:ByteArray) (k:Nat) (x i:Int):ao ΓK7 prog L0 (ab 0 0 sY) qC (k+1) (Jo s x i) J6 =
 bif decide (i<(s.size:Int)) then (bif decide (0<=i)&&decide (i<(s.size:Int)) then (bif eY (gR s x i) then ao ΓK7 prog L0 (ab 0 0 sY) qC k (Jo s (iV (gR s x i)) (wI (i+1))) J6 else none) else none)
 else some (.exit 0,mk ri [.v (bV x)] M0):=by kernel_rfl
def Jz (vals:List SV) (m:Mem):Option (Bool×Ex×St) :=
 match vals,m with
 | [.v (.string s),.v (.int .u32 x),.v (.int .i64 n),.v (.int .i64 i)],⟨[],[],[]⟩=>some (n==(s.size:Int)&&(i==0&&(eY x&&bL s)),.exit 0,mk ri [.v (bV (zT x s))] M0)
 | _,_=>none
def ΛSum32:aV:=fun _ st=>cE 0 0 sY Jz st
theorem qcx (z:Base) (z1:z.L.length=0) (z2:z.U.length=0):aQ ΛSum32 prog z qC:=by
 refine di (Λ:=L0) (kx:=fun _=>ri) IS mixed z1 z2 (fun b hb=>by rw [qbE] at hb;cases hb) (G:=Jz) (fun _=>rfl) ?_
 intro vals m e st' h
 unfold Jz at h
 split at h
 ·rename_i s x n i
  obtain ⟨h1,rfl,rfl⟩:=az h
  simp only [Bool.and_eq_true,beq_iff_eq] at h1
  obtain ⟨rfl,rfl,h1,h4⟩:=h1
  obtain ⟨n,rfl,hn⟩:=xB h1
  exact ⟨s.size+1,sG s (Nat.le_of_ble_eq_true h4) (fun k x i=>ao ΓK7 prog L0 (ab 0 0 sY) qC k (Jo s x i) J6) (fun x=>some (.exit 0,mk ri [.v (bV x)] M0)) (fun x i=>eY (gR s x i)) (fun x i=>iV (gR s x i)) p32 4294967296 (fun n b=>Cs b) (Oa s) (Uv s) s.size 0 n (by omega) hn⟩
 ·cases h
theorem Wh (s:ByteArray):runG ΓK7 ΛSum32 prog f247 [.v (S s)] M0=bif (s.size:Int)==(s.size:Int)&&((0:Int)==0&&(eY 4294967295&&bL s)) then some (.v (bV (yG s)),M0) else none:=by kernel_rfl
def D3 (vs:List Value):Option (Bool×Value) :=
 match vs with
 | [.string s]=>some (bL s,(bV (ip s)))
 | _=>none
theorem qec:an 247 D3:=by
 intro vs r h
 unfold D3 at h
 split at h
 ·rename_i s
  obtain ⟨h1,rfl⟩:=aa h
  refine am (vs:=[S s]) (Λ:=ΛSum32) (m':=M0) IS func247 rfl (fun z z1 z2=>bW (c:=f247.body.getD .skip) qbF (qcx z z1 z2)) ?_
  exact (Wh s).trans (by rw [h1,beq_self_eq_true,OW];rfl)
 ·cases h
def ΓK8:Orc:=ah 247 D3 ΓK7
theorem IR:ΓK8.Ok prog:=ac IS qec
def sZ:List Bool:=aB 20 [0,3,4]
def ro:List Bool:=aB 20 [3]
def qD:Code:=bX (f131.body.getD .skip) 0
theorem qbW:loopsOf (f131.body.getD .skip)=[qD]:=by kernel_rfl
theorem qbV:loopsOf qD=[]:=by kernel_rfl
def Kb (e:Ex) (st:St):Option (Ex×St):=some (e,ab 0 0 ro st)
def Jp (s:ByteArray) (x i:Int):St:=mk sZ [.v (S s),.v (bV x),.v (I i)] M0
theorem UB (s:ByteArray) (k:Nat) (x i:Int):ao ΓK8 prog L0 (ab 0 0 sZ) qD (k+1) (Jp s x i) Kb =
 bif decide (i<(s.size:Int)) then (bif decide (0<=i)&&decide (i<(s.size:Int)) then (bif eY (gR s x i) then ao ΓK8 prog L0 (ab 0 0 sZ) qD k (Jp s (iV (gR s x i)) (wI (i+1))) Kb else none) else none)
 else some (.exit 0,mk ro [.v (bV x)] M0):=by kernel_rfl
def JP (vals:List SV) (m:Mem):Option (Bool×Ex×St) :=
 match vals,m with
 | [.v (.string s),.v (.int .u32 x),.v (.int .i64 i)],⟨[],[],[]⟩=>some (i==0&&(eY x&&bL s),.exit 0,mk ro [.v (bV (zT x s))] M0)
 | _,_=>none
def ΛRSum32:aV:=fun _ st=>cE 0 0 sZ JP st
theorem qcK (z:Base) (z1:z.L.length=0) (z2:z.U.length=0):aQ ΛRSum32 prog z qD:=by
 refine di (Λ:=L0) (kx:=fun _=>ro) IR mixed z1 z2 (fun b hb=>by rw [qbV] at hb;cases hb) (G:=JP) (fun _=>rfl) ?_
 intro vals m e st' h
 unfold JP at h
 split at h
 ·rename_i s x i
  obtain ⟨h1,rfl,rfl⟩:=az h
  simp only [Bool.and_eq_true,beq_iff_eq] at h1
  obtain ⟨rfl,h1,h4⟩:=h1
  obtain ⟨n,rfl,hn⟩:=xB h1
  exact ⟨s.size+1,sG s (Nat.le_of_ble_eq_true h4) (fun k x i=>ao ΓK8 prog L0 (ab 0 0 sZ) qD k (Jp s x i) Kb) (fun x=>some (.exit 0,mk ro [.v (bV x)] M0)) (fun x i=>eY (gR s x i)) (fun x i=>iV (gR s x i)) p32 4294967296 (fun n b=>Cs b) (Oa s) (UB s) s.size 0 n (by omega) hn⟩
 ·cases h
theorem Xp (s:ByteArray):runG ΓK8 ΛRSum32 prog f131 [.v (S s)] M0=bif (0:Int)==0&&(eY 4294967295&&bL s) then some (.v (bV (yG s)),M0) else none:=by kernel_rfl
def ES (vs:List Value):Option (Bool×Value) :=
 match vs with
 | [.string s]=>some (bL s,(bV (ip s)))
 | _=>none
theorem qeS:an 131 ES:=by
 intro vs r h
 unfold ES at h
 split at h
 ·rename_i s
  obtain ⟨h1,rfl⟩:=aa h
  refine am (vs:=[S s]) (Λ:=ΛRSum32) (m':=M0) IR func131 rfl (fun z z1 z2=>bW (c:=f131.body.getD .skip) qbW (qcK z z1 z2)) ?_
  exact (Xp s).trans (by rw [h1,OW];rfl)
 ·cases h
def ΓK9:Orc:=ah 131 ES ΓK8
theorem qkd:ΓK9.Ok prog:=ac IR qeS
def ΓK:Orc:=ΓK9
theorem Aa:ΓK.Ok prog:=qkd
end Go.Proofs.YtainfdcfkgemhaaGreat
namespace Go.Proofs.YtainfdcfkgemhaaGreat
open Go Go.Proofs Go.Sx
abbrev L (s:ByteArray):List UInt8:=s.data.toList
theorem mD {a b:ByteArray}:L a=L b↔a=b:=by
 constructor
 ·intro h
  exact ByteArray.ext (Array.toList_inj.1 h)
 ·rintro rfl;rfl
theorem k9 (s:ByteArray):(L s).length=s.size:=by simp [L]
theorem uz (a b:ByteArray):L (a++b)=L a++L b:=by simp [L,ByteArray.data_append]
theorem mE (s:ByteArray) (a b:Nat):L (s.extract a b)=((L s).drop a).take (b - a):=by
 simp [L,ByteArray.data_extract,List.extract_eq_take_drop]
theorem Ag (xs:List Int):L (strOfNums xs)=xs.map fun n=>UInt8.ofNat n.toNat:=rfl
theorem Qc (a b:ByteArray):(a==b)=true↔a=b:=by
 show ((a.data==b.data)=true)↔a=b
 rw [beq_iff_eq]
 exact ByteArray.ext_iff.symm
theorem Qd (a b:ByteArray):(a==b)=(L a==L b):=by
 rw [Bool.eq_iff_iff,Qc]
 simp only [beq_iff_eq,mD]
theorem HR (a b:ByteArray):(a.toList==b.toList)=(L a==L b):=by rw [ByteArray.toList_eq,ByteArray.toList_eq]
theorem zt (a b:ByteArray):(a.toList==b.toList)=(a==b):=by rw [HR,Qd]
theorem gL (s:ByteArray) (k:Nat):aw s (k:Int)=(((L s)[k]?.map fun b=>(b.toNat:Int)).getD 0):=by
 cases h:(L s)[k]? with
 | some b =>
  have h':s.data[k]?=some b:=by simpa [L] using h
  rw [vl h']
  rfl
 | none =>
  unfold aw
  rw [Int.toNat_natCast]
  have hk:s.size<=k:=by
   rw [<- k9]
   simpa using h
  have:s[k]?=none:=by rw [getElem?_neg];omega
  rw [this]
  rfl
theorem qhm (s:ByteArray):s.extract 0 s.size=s:=by
 rw [<- mD,mE,List.drop_zero,List.take_of_length_le (by rw [k9];omega)]
theorem HZ (a b c:ByteArray):(a++b)++c=a++(b++c):=by
 rw [<- mD]
 simp only [uz,List.append_assoc]
theorem Ko (n:Nat):IntKind.u8.wrap (n:Int)=((n % 256:Nat):Int):=by
 rw [<- cA true];simp only [wr];omega
def sc (x:Int):ByteArray:=strOfNums [IntKind.u8.wrap (x.fdiv (2 ^ min (Int.toNat 8) IntKind.u16.bits)),IntKind.u8.wrap x]
def gK (s:ByteArray):ByteArray:=sc (k8 65535 s)
def dd (k:Int) (p:ByteArray):ByteArray:=strOfNums [IntKind.u8.wrap k,IntKind.u8.wrap (p.size:Int)]++p
def mark:ByteArray:=⟨#[165,90]⟩
def wy (k:Int) (p:ByteArray):ByteArray:=(mark++dd k p)++gK (dd k p)
def ir (k:Int) (p:ByteArray):Bool:=decide (k>=0)&&(decide (k<=255)&&decide ((p.size:Int)<=64))
def printB (k:Int) (p:ByteArray):ByteArray:=bif ir k p then wy k p else ⟨#[]⟩
theorem KJ (x:Int):(sc x).size=2:=by simp [sc,strOfNums_size]
theorem P1 (k:Int) (p:ByteArray):(dd k p).size=p.size+2:=by
 unfold dd
 rw [ByteArray.size_append,strOfNums_size]
 simp only [List.length_cons,List.length_nil]
 omega
def ff (s:ByteArray):Bool:=(decide ((s.size:Int)>0)&&aw s 0 != 165)||((decide ((s.size:Int)>1)&&aw s 1 != 90)||(decide ((s.size:Int)>3)&&decide (aw s 3>64)))
def bA (s:ByteArray):Int:=6+aw s 3
def gO (s:ByteArray):Bool:=decide ((s.size:Int)<4)||decide ((s.size:Int)<bA s)
def gv (s:ByteArray):Int:=aw s 2
def gS (s:ByteArray):ByteArray:=s.extract 4 (bA s - 2).toNat
def okB (s:ByteArray):Bool:=wy (gv s) (gS s)==s.extract 0 (bA s).toNat
def bE (s:ByteArray):Int:=bif ff s then 3 else bif gO s then 5 else bif okB s then 0 else 4
def kf (s:ByteArray):Int:=bif bE s==0 then gv s else 0
def jk (s:ByteArray):ByteArray:=bif bE s==0 then gS s else ⟨#[]⟩
def cF (s:ByteArray):Int:=bif bE s==0 then bA s else 0
theorem vo (s:ByteArray) (k:Nat):0<=aw s (k:Int)/\aw s (k:Int)<256:=by
 rw [gL]
 cases (L s)[k]? with
 | none=>simp
 | some b=>have:=fc b;simp;omega
theorem xi (s:ByteArray):6<=bA s/\bA s<262:=by
 have:=vo s 3
 unfold bA
 rw [show (3:Int)=((3:Nat):Int) from rfl]
 omega
theorem Cg (s:ByteArray):(bE s=3/\ff s=true)\/(bE s=5/\ff s=false/\gO s=true)\/(bE s=0/\ff s=false/\gO s=false/\okB s=true)\/(bE s=4/\ff s=false/\gO s=false/\okB s=false):=by
 unfold bE
 cases ff s<;>cases gO s<;>cases okB s<;>simp
theorem CC {s:ByteArray} (h:gO s=false):4<=s.size/\(bA s).toNat<=s.size/\6<=(bA s).toNat:=by
 unfold gO at h
 simp only [Bool.or_eq_false_iff,decide_eq_false_iff_not] at h
 have:=xi s
 omega
theorem pm {s:ByteArray} (h:bE s=0):(cF s).toNat<=s.size/\6<=(cF s).toNat/\cF s=((cF s).toNat:Int)/\kf s=gv s/\jk s=gS s/\cF s=bA s/\(jk s).size+6=(cF s).toNat/\(jk s).size<=64/\0<=kf s/\kf s<=255/\ff s=false/\gO s=false/\okB s=true:=by
 rcases Cg s with ⟨h1,h2⟩|⟨h1,h2,h3⟩|⟨h1,h2,h3,h4⟩|⟨h1,h2,h3,h4⟩
 ·omega
 ·omega
 ·obtain ⟨g1,g2,g3⟩:=CC h3
  have e1:cF s=bA s:=by unfold cF;rw [h];rfl
  have e2:kf s=gv s:=by unfold kf;rw [h];rfl
  have e3:jk s=gS s:=by unfold jk;rw [h];rfl
  have hl:=xi s
  have hb:=h2
  unfold ff at hb
  simp only [Bool.or_eq_false_iff,Bool.and_eq_false_iff,decide_eq_false_iff_not] at hb
  have h64:aw s 3<=64:=by omega
  have hp:(jk s).size+6=(bA s).toNat:=by
   rw [e3]
   unfold gS
   rw [ByteArray.size_extract]
   omega
  have hk:=vo s 2
  refine ⟨by rw [e1];exact g2,by rw [e1];exact g3,by rw [e1];omega,e2,e3,e1,by rw [e1];exact hp,?_,?_,?_,h2,h3,h4⟩
  ·unfold bA at hp
   omega
  ·rw [e2];exact hk.1
  ·rw [e2];unfold gv;have:=hk.2;rw [show (2:Int)=((2:Nat):Int) from rfl];omega
 ·omega
theorem qaz {s:ByteArray} (h:bE s=5):s.size<70:=by
 rcases Cg s with ⟨h1,h2⟩|⟨h1,h2,h3⟩|⟨h1,h2,h3,h4⟩|⟨h1,h2,h3,h4⟩
 ·omega
 ·unfold gO at h3
  unfold ff at h2
  simp only [Bool.or_eq_true,decide_eq_true_eq,Bool.or_eq_false_iff,Bool.and_eq_false_iff,decide_eq_false_iff_not] at h2 h3
  unfold bA at h3
  omega
 ·omega
 ·omega
theorem qaA:bE ⟨#[]⟩=5:=by rfl
theorem sC {s:ByteArray} (h:bE s≠5):0<s.size:=by
 apply Classical.byContradiction
 intro hn
 have:s=⟨#[]⟩:=by
  rw [<- mD]
  have:(L s).length=0:=by rw [k9];omega
  exact List.eq_nil_of_length_eq_zero this
 rw [this] at h
 exact h qaA
end Go.Proofs.YtainfdcfkgemhaaGreat
namespace Go.Proofs.YtainfdcfkgemhaaGreat
open Go Go.Proofs Go.Sx
set_option linter.unusedVariables false
def gl (x:Int):Value:=.int .u64 x
theorem cq (c:Code) (z:Base):∀ b∈loopsOf c,aQ L0 prog z b:=fun b _ st t h=>by cases h
def p8 (n:Nat) (b:UInt8):Nat:=n*256 % 18446744073709551616+b.toNat
theorem qaV (n:Nat) (b:UInt8) (_:n<18446744073709551616):p8 n b<18446744073709551616:=by
 have:=fc b
 unfold p8
 omega
def numN (s:ByteArray):Nat:=s.data.toList.foldl p8 0
theorem AN (n:Nat):IntKind.u64.wrap (n:Int)=((n % 18446744073709551616:Nat):Int):=by
 rw [<- cA true];simp only [wr];omega
theorem KI:(2:Nat) ^ 64=18446744073709551616:=by decide
theorem orB (w a b:Nat) (ha:a<2 ^ w) (hb:b<2 ^ w):(((BitVec.ofInt w (a:Int) ||| BitVec.ofInt w (b:Int)).toNat:Nat):Int)=((Nat.lor a b:Nat):Int):=by
 rw [BitVec.toNat_or,BitVec.ofInt_natCast,BitVec.ofInt_natCast,BitVec.toNat_ofNat,BitVec.toNat_ofNat,Nat.mod_eq_of_lt ha,Nat.mod_eq_of_lt hb]
 rfl
def zN (s:ByteArray) (x i:Int):Int:=IntKind.u64.wrap (((BitVec.ofInt 64 (IntKind.u64.wrap (x*2 ^ min (Int.toNat 8) 64)) ||| BitVec.ofInt 64 (IntKind.u64.wrap (aw s i))).toNat:Nat):Int)
theorem qiJ {s:ByteArray} {n k:Nat} {b:UInt8} (hb:s.data[k]?=some b):zN s n k=((p8 n b:Nat):Int):=by
 have h:=fc b
 unfold zN p8
 have e:(n:Int)*2 ^ min (Int.toNat 8) 64=((n*256:Nat):Int):=by
  rw [show min (Int.toNat 8) 64=8 from rfl];omega
 rw [e,AN (n*256),vl hb,AN b.toNat,Nat.mod_eq_of_lt (show b.toNat<18446744073709551616 by omega),orB 64 _ _ (by rw [KI];exact Nat.mod_lt _ (by decide)) (by rw [KI];omega)]
 have e2:Nat.lor (n*256 % 18446744073709551616) b.toNat=n*256 % 18446744073709551616+b.toNat:=by
  have e3:n*256 % 18446744073709551616=2 ^ 8*(n % 72057594037927936):=by
   rw [show (2:Nat) ^ 8=256 from rfl];omega
  rw [e3]
  exact (Nat.two_pow_add_eq_or_of_lt (show b.toNat<2 ^ 8 by rw [show (2:Nat) ^ 8=256 from rfl];exact h) _).symm
 rw [e2,AN,Nat.mod_eq_of_lt (by omega)]
def be (k:Nat) (x:Int):ByteArray:=strOfNums ((List.range k).reverse.map fun i=>x / 256 ^ i % 256)
def s7:List Bool:=aB 19 [0,3,6,7]
def rv:List Bool:=aB 19 [3]
def qF:Code:=bX (f163.body.getD .skip) 0
theorem qb2:loopsOf (f163.body.getD .skip)=[qF]:=by kernel_rfl
theorem qb1:loopsOf qF=[]:=by kernel_rfl
def Kd (e:Ex) (st:St):Option (Ex×St):=some (e,ab 0 0 rv st)
def Js (s:ByteArray) (x i:Int):St:=mk s7 [.v (S s),.v (gl x),.v (I (s.size:Int)),.v (I i)] M0
theorem UE (s:ByteArray) (k:Nat) (x i:Int):ao ΓK prog L0 (ab 0 0 s7) qF (k+1) (Js s x i) Kd =
 bif decide (i<(s.size:Int)) then (bif decide (0<=i)&&decide (i<(s.size:Int)) then ao ΓK prog L0 (ab 0 0 s7) qF k (Js s (zN s x i) (wI (i+1))) Kd else none)
 else some (.exit 0,mk rv [.v (gl x)] M0):=by kernel_rfl
def JS (vals:List SV) (m:Mem):Option (Bool×Ex×St) :=
 match vals,m with
 | [.v (.string s),.v (.int .u64 x),.v (.int .i64 n),.v (.int .i64 i)],⟨[],[],[]⟩=>some (n==(s.size:Int)&&(i==0&&(x==0&&bL s)),.exit 0,mk rv [.v (gl ((numN s:Nat):Int))] M0)
 | _,_=>none
def ΛNumber:aV:=fun _ st=>cE 0 0 s7 JS st
theorem qcN (z:Base) (z1:z.L.length=0) (z2:z.U.length=0):aQ ΛNumber prog z qF:=by
 refine di (Λ:=L0) (kx:=fun _=>rv) Aa mixed z1 z2 (fun b hb=>by rw [qb1] at hb;cases hb) (G:=JS) (fun _=>rfl) ?_
 intro vals m e st' h
 unfold JS at h
 split at h
 ·rename_i s x n i
  obtain ⟨h1,rfl,rfl⟩:=az h
  simp only [Bool.and_eq_true,beq_iff_eq] at h1
  obtain ⟨rfl,rfl,rfl,h4⟩:=h1
  exact ⟨s.size+1,sG s (Nat.le_of_ble_eq_true h4) (fun k x i=>ao ΓK prog L0 (ab 0 0 s7) qF k (Js s x i) Kd) (fun x=>some (.exit 0,mk rv [.v (gl x)] M0)) (fun _ _=>true) (zN s) p8 18446744073709551616 qaV (fun n k b _ hb=>⟨rfl,qiJ hb⟩) (UE s) s.size 0 0 (by omega) (by omega)⟩
 ·cases h
theorem X7 (s:ByteArray):runG ΓK ΛNumber prog f163 [.v (S s)] M0=bif (s.size:Int)==(s.size:Int)&&((0:Int)==0&&((0:Int)==0&&bL s)) then some (.v (gl ((numN s:Nat):Int)),M0) else none:=by kernel_rfl
def Fk (vs:List Value):Option (Bool×Value) :=
 match vs with
 | [.string s]=>some (bL s,gl ((numN s:Nat):Int))
 | _=>none
theorem qfj:an 163 Fk:=by
 intro vs r h
 unfold Fk at h
 split at h
 ·rename_i s
  obtain ⟨h1,rfl⟩:=aa h
  refine am (vs:=[S s]) (Λ:=ΛNumber) (m':=M0) Aa func163 rfl (fun z z1 z2=>bW (c:=f163.body.getD .skip) qb2 (qcN z z1 z2)) ?_
  exact (X7 s).trans (by rw [h1,beq_self_eq_true];rfl)
 ·cases h
def ΓO1:Orc:=ah 163 Fk ΓK
theorem OkO1:ΓO1.Ok prog:=ac Aa qfj
theorem ZO (x:Int):runG ΓO1 L0 prog f86 [.v (gl x),.v (I 1)] M0=some (.v (S (strOfNums [IntKind.u8.wrap (x.fdiv (2 ^ min (Int.toNat 0) 64))])),M0):=by kernel_rfl
theorem ZN (x:Int):runG ΓO1 L0 prog f86 [.v (gl x),.v (I 2)] M0=some (.v (S (strOfNums [IntKind.u8.wrap (x.fdiv (2 ^ min (Int.toNat 8) 64)),IntKind.u8.wrap (x.fdiv (2 ^ min (Int.toNat 0) 64))])),M0):=by kernel_rfl
theorem ZM (x:Int):runG ΓO1 L0 prog f86 [.v (gl x),.v (I 4)] M0=some (.v (S (strOfNums [IntKind.u8.wrap (x.fdiv (2 ^ min (Int.toNat 24) 64)),IntKind.u8.wrap (x.fdiv (2 ^ min (Int.toNat 16) 64)),IntKind.u8.wrap (x.fdiv (2 ^ min (Int.toNat 8) 64)),IntKind.u8.wrap (x.fdiv (2 ^ min (Int.toNat 0) 64))])),M0):=by kernel_rfl
theorem oc (x:Int) (j k:Nat) (h:(2:Int) ^ min (Int.toNat (8*k:Nat)) 64=256 ^ k) (hj:j=8*k):IntKind.u8.wrap (x.fdiv (2 ^ min (Int.toNat (j:Nat)) 64))=x / 256 ^ k % 256:=by
 subst hj
 rw [h,Int.fdiv_eq_ediv_of_nonneg _ (Int.le_of_lt (Int.pow_pos (by decide))),<- cA true]
 rfl
theorem be1 (x:Int):strOfNums [IntKind.u8.wrap (x.fdiv (2 ^ min (Int.toNat 0) 64))]=be 1 x:=by
 have e0:=oc x 0 0 (by decide) rfl
 rw [show ((0:Nat):Int)=0 from rfl] at e0
 rw [e0];rfl
theorem be2 (x:Int):strOfNums [IntKind.u8.wrap (x.fdiv (2 ^ min (Int.toNat 8) 64)),IntKind.u8.wrap (x.fdiv (2 ^ min (Int.toNat 0) 64))]=be 2 x:=by
 have e0:=oc x 0 0 (by decide) rfl
 have e1:=oc x 8 1 (by decide) rfl
 rw [show ((0:Nat):Int)=0 from rfl] at e0
 rw [show ((8:Nat):Int)=8 from rfl] at e1
 rw [e0,e1];rfl
theorem be4 (x:Int):strOfNums [IntKind.u8.wrap (x.fdiv (2 ^ min (Int.toNat 24) 64)),IntKind.u8.wrap (x.fdiv (2 ^ min (Int.toNat 16) 64)),IntKind.u8.wrap (x.fdiv (2 ^ min (Int.toNat 8) 64)),IntKind.u8.wrap (x.fdiv (2 ^ min (Int.toNat 0) 64))]=be 4 x:=by
 have e0:=oc x 0 0 (by decide) rfl
 have e1:=oc x 8 1 (by decide) rfl
 have e2:=oc x 16 2 (by decide) rfl
 have e3:=oc x 24 3 (by decide) rfl
 rw [show ((0:Nat):Int)=0 from rfl] at e0
 rw [show ((8:Nat):Int)=8 from rfl] at e1
 rw [show ((16:Nat):Int)=16 from rfl] at e2
 rw [show ((24:Nat):Int)=24 from rfl] at e3
 rw [e0,e1,e2,e3];rfl
def GN (vs:List Value):Option (Bool×Value) :=
 match vs with
 | [.int .u64 x,.int .i64 (.ofNat k)]=>some (Nat.beq k 1||(Nat.beq k 2||Nat.beq k 4),S (be k x))
 | _=>none
theorem qgE:an 86 GN:=by
 intro vs r h
 unfold GN at h
 split at h
 ·rename_i x k
  obtain ⟨h1,rfl⟩:=aa h
  have hk:k=1\/k=2\/k=4:=by
   simp only [Bool.or_eq_true] at h1
   rcases h1 with h1|h1|h1
   ·exact .inl (Nat.eq_of_beq_eq_true h1)
   ·exact .inr (.inl (Nat.eq_of_beq_eq_true h1))
   ·exact .inr (.inr (Nat.eq_of_beq_eq_true h1))
  rcases hk with rfl|rfl|rfl
  ·exact am (vs:=[gl x,I 1]) (Λ:=L0) (m':=M0) OkO1 func86 rfl (fun z _ _=>cq _ z) ((ZO x).trans (by rw [be1]))
  ·exact am (vs:=[gl x,I 2]) (Λ:=L0) (m':=M0) OkO1 func86 rfl (fun z _ _=>cq _ z) ((ZN x).trans (by rw [be2]))
  ·exact am (vs:=[gl x,I 4]) (Λ:=L0) (m':=M0) OkO1 func86 rfl (fun z _ _=>cq _ z) ((ZM x).trans (by rw [be4]))
 ·cases h
def ΓO:Orc:=ah 86 GN ΓO1
theorem bR:ΓO.Ok prog:=ac OkO1 qgE
end Go.Proofs.YtainfdcfkgemhaaGreat
namespace Go.Proofs.YtainfdcfkgemhaaGreat
open Go Go.Proofs Go.Sx
theorem qbe (a b:List Int):strOfNums (a++b)=strOfNums a++strOfNums b:=by
 rw [<- mD,uz,Ag,Ag,Ag,List.map_append]
theorem zv (k:Nat) (x:Int):(be k x).size=k:=by
 unfold be
 rw [strOfNums_size]
 simp
theorem HT (x:Int):be 1 (IntKind.u64.wrap x)=be 1 x:=by
 have e:∀ j:Int,IntKind.u64.wrap j=j % 18446744073709551616:=fun j=>by rw [<- cA true];rfl
 show strOfNums [_]=strOfNums [_]
 rw [e]
 congr 2
 show x % 18446744073709551616 / 256 ^ 0 % 256=x / 256 ^ 0 % 256
 omega
theorem qij (x:Int):be 2 (IntKind.u64.wrap x)=be 2 x:=by
 have e:∀ j:Int,IntKind.u64.wrap j=j % 18446744073709551616:=fun j=>by rw [<- cA true];rfl
 have h0:x % 18446744073709551616 / 256 ^ 0 % 256=x / 256 ^ 0 % 256:=by omega
 have h1:x % 18446744073709551616 / 256 ^ 1 % 256=x / 256 ^ 1 % 256:=by omega
 show strOfNums [_ / 256 ^ 1 % 256,_ / 256 ^ 0 % 256]=strOfNums [_ / 256 ^ 1 % 256,_ / 256 ^ 0 % 256]
 rw [e,h0,h1]
theorem zu (x:Int):be 4 (IntKind.u64.wrap x)=be 4 x:=by
 have e:∀ j:Int,IntKind.u64.wrap j=j % 18446744073709551616:=fun j=>by rw [<- cA true];rfl
 have h0:x % 18446744073709551616 / 256 ^ 0 % 256=x / 256 ^ 0 % 256:=by omega
 have h1:x % 18446744073709551616 / 256 ^ 1 % 256=x / 256 ^ 1 % 256:=by omega
 have h2:x % 18446744073709551616 / 256 ^ 2 % 256=x / 256 ^ 2 % 256:=by omega
 have h3:x % 18446744073709551616 / 256 ^ 3 % 256=x / 256 ^ 3 % 256:=by omega
 show strOfNums [_ / 256 ^ 3 % 256,_ / 256 ^ 2 % 256,_ / 256 ^ 1 % 256,_ / 256 ^ 0 % 256]=strOfNums [_ / 256 ^ 3 % 256,_ / 256 ^ 2 % 256,_ / 256 ^ 1 % 256,_ / 256 ^ 0 % 256]
 rw [e,h0,h1,h2,h3]
theorem qg2 {s:ByteArray} {i:Nat} (h:i+4<=s.size):∃ b0 b1 b2 b3:UInt8,L (s.extract i (i+4))=[b0,b1,b2,b3]/\aw s (i:Int)=(b0.toNat:Int)/\aw s ((i+1:Nat):Int)=(b1.toNat:Int)/\aw s ((i+2:Nat):Int)=(b2.toNat:Int)/\aw s ((i+3:Nat):Int)=(b3.toNat:Int):=by
 have hl:=k9 s
 have hd:∃ b0 b1 b2 b3 r,(L s).drop i=b0::b1::b2::b3::r:=by
  have:4<=((L s).drop i).length:=by rw [List.length_drop];omega
  match hq:(L s).drop i,this with
  | b0::b1::b2::b3::r,_=>exact ⟨b0,b1,b2,b3,r,rfl⟩
 obtain ⟨b0,b1,b2,b3,r,hd⟩:=hd
 have g:∀ j,(L s)[i+j]?=((L s).drop i)[j]?:=fun j=>by rw [List.getElem?_drop]
 refine ⟨b0,b1,b2,b3,?_,?_,?_,?_,?_⟩
 ·rw [mE,hd,show i+4 - i=4 by omega];rfl
 ·have:=g 0
  rw [hd] at this
  rw [gL,show i=i+0 from rfl,this];rfl
 ·have:=g 1
  rw [hd] at this
  rw [gL,this];rfl
 ·have:=g 2
  rw [hd] at this
  rw [gL,this];rfl
 ·have:=g 3
  rw [hd] at this
  rw [gL,this];rfl
theorem qbf {s:ByteArray} {b0 b1 b2 b3:UInt8} (h:L s=[b0,b1,b2,b3]):((numN s:Nat):Int)=(b0.toNat:Int)*16777216+(b1.toNat:Int)*65536+(b2.toNat:Int)*256+(b3.toNat:Int):=by
 have h0:=fc b0
 have h1:=fc b1
 have h2:=fc b2
 have h3:=fc b3
 unfold numN
 rw [show s.data.toList=[b0,b1,b2,b3] from h]
 simp only [List.foldl_cons,List.foldl_nil,p8]
 omega
end Go.Proofs.YtainfdcfkgemhaaGreat
namespace Go.Proofs.YtainfdcfkgemhaaGreat
open Go Go.Proofs Go.Sx
set_option linter.unusedVariables false
def gn (d st m:Int) (a b:List Int):List Value:=.int .u32 d::.int .i32 st::.int .u32 0::.int .i64 m::(a.map (.int .u16)++b.map (.int .u32))
def fO:List Int:=List.replicate 256 0
def mX:List Int:=(List.range 256).map fun i=>((N16 (i*256):Nat):Int)
def mV:List Int:=(List.range 256).map fun i=>((N32 i:Nat):Int)
def zo (d st m:Int) (a b:List Int):Mem:=⟨[(gn d st m a b).map .v],[true],[]⟩
theorem Tg:∀ f xs m r m',zJ 366 .i64 f xs m=some (true,r,m')->bq prog f xs m r m':=qiG func366 (by kernel_rfl) (by kernel_rfl) (by kernel_rfl) (by kernel_rfl)
def Γf0:Orc:=qQ (zJ 366 .i64) ΓK
theorem Okf0:Γf0.Ok prog:=zK Aa Tg
def Γfi:Orc:=nT prog Γf0.call Γf0.rd Γf0.eqv (fun _=>false) 300 1
theorem Q7:Γfi.Ok prog:=yM mixed names (ext:=Γf0.call) (rd:=Γf0.rd) (eqv:=Γf0.eqv) ⟨Okf0.call,Okf0.rd,Okf0.eqv⟩ 300 1
theorem YX:runG Γfi (et Γfi prog 300 1) prog f315 [.ptr 0 0] (zo 0 1 0 fO fO)=some (.v (.tuple #[]),zo 0 1 1 mX mV):=by kernel_rfl
theorem qhc:bq prog 315 [.ptr 0 0] (zo 0 1 0 fO fO) (.v (.tuple #[])) (zo 0 1 1 mX mV) :=
 aj Q7 func315 rfl (fun z _ _ b _=>gb Q7 mixed 300 1 b) YX
end Go.Proofs.YtainfdcfkgemhaaGreat
namespace Go.Proofs.YtainfdcfkgemhaaGreat
open Go Go.Proofs Go.Sx Go.RowKit
set_option linter.unusedVariables false
structure One (b:Nat) (w w':World):Prop where
 os:w'.os=w.os
 tape:w'.tape=w.tape
 output:w'.output=w.output
 size:w.heap.size<=w'.heap.size
 block:∀ k,k≠b->k<w.heap.size->w'.heap[k]?=w.heap[k]?
 froz:∀ p,p.block<w.heap.size->w'.frozen? p=w.frozen? p
theorem One.trans {b:Nat} {w w1 w2:World} (h:One b w w1) (k:One b w1 w2):One b w w2 :=
 ⟨k.os.trans h.os,k.tape.trans h.tape,k.output.trans h.output,Nat.le_trans h.size k.size,fun j hj hl=>(k.block j hj (Nat.lt_of_lt_of_le hl h.size)).trans (h.block j hj hl),fun p hp=>(k.froz p (Nat.lt_of_lt_of_le hp h.size)).trans (h.froz p hp)⟩
theorem One.setCell (b n:Nat) (x:Value) (w:World):One b w (w.setCell ⟨b,n,none⟩ x) :=
 ⟨rfl,rfl,rfl,by simp,fun k hk _=>Below.heap_setCell _ _ _ _ hk,fun p _=>World.frozen?_setCell _ _ _ _⟩
theorem One.drew (b:Nat) (w:World):One b w w.drew:=⟨rfl,rfl,rfl,Nat.le_refl _,fun _ _ _=>rfl,fun _ _=>rfl⟩
def At (w:World) (b o:Nat) (cs:List Value):Prop:=∀ (j:Nat) x,cs[j]?=some x->w.cell? ⟨b,o+j,none⟩=some x/\w.frozen? ⟨b,o+j,none⟩=false
theorem At.set {w:World} {b o:Nat} {cs:List Value} (h:At w b o cs) {n:Nat} {x:Value} (hn:n<cs.length):At (w.setCell ⟨b,o+n,none⟩ x) b o (cs.set n x):=by
 intro j y hy
 rw [World.frozen?_setCell]
 rw [List.getElem?_set] at hy
 by_cases hj:n=j
 ·subst hj
  simp [hn] at hy
  subst hy
  have h1:=h n cs[n] (by simp [hn])
  exact ⟨World.cell?_setCell_same _ _ _ h1.1,h1.2⟩
 ·simp only [if_neg hj] at hy
  have h1:=h j y hy
  exact ⟨by rw [World.cell?_setCell_other _ _ _ _ (fun e=>by injection e with _ e;omega)];exact h1.1,h1.2⟩
theorem qhV {f:FuncId} {cs cs':List Value} {r:Value} (h:bq prog f [.ptr 0 0] ⟨[cs.map .v],[true],[]⟩ (.v r) ⟨[cs'.map .v],[true],[]⟩) {w:World} {b o:Nat} (hb:b<w.heap.size) (ha:At w b o cs)
  (he:(callFunc f #[.pointer (some ⟨b,o,none⟩)]).run prog w=.ok (.enter f #[.pointer (some ⟨b,o,none⟩)]) w) :
  Calls prog f #[.pointer (some ⟨b,o,none⟩)] w fun e w'=>e=.returned r/\One b w w'/\At w' b o cs':=by
 let z:Base:=⟨w,[(b,o)],[],[],fun _=>False⟩
 let V:Vl:=⟨fun i=>if i=0 then some (b,o) else none,fun _=>none,fun _=>none⟩
 have vb:∀ l q,V.b l=some q->l=0/\q=(b,o):=by
  intro l q hq
  simp only [V] at hq
  split at hq
  ·rename_i h0
   exact ⟨h0,(Option.some.inj hq).symm⟩
  ·cases hq
 have hL:Lent z ⟨[cs.map .v],[true],[]⟩ V:=by
  refine { bl:=(rfl:(1:Nat)=1),b:=fun i=>?_,ul:=(rfl:(0:Nat)=0),u:=fun j u hu=>absurd hu (by simp [z]),rl:=fun g=>⟨fun hg=>absurd hg (by simp [z]),?_⟩ }
  ·cases i with
   | zero=>rfl
   | succ i=>simp [V,z]
  ·rintro ⟨j,rc,u,h1,_⟩
   exact absurd h1 (by simp [Sx.rowAt])
 have hM:de z ⟨[cs.map .v],[true],[]⟩ V z.w:=by
  refine { len:=fun t x hx=>absurd hx (by simp [Tr.get]),tmps:=fun t x hx=>absurd hx (by simp [Tr.get]),defers:=rfl,lens:=rfl,mem:=?_,inj:=?_,own:=?_,lent:=?_,base0:=?_,dom:=?_,lentr:=fun j u hu=>absurd hu (by simp [z]),rows:=fun r rc hr=>absurd hr (by simp [Sx.rowAt]),rowsN:=fun r _=>rfl,apart:=fun r r' rc rc' u u' g h1=>absurd h1 (by simp [Sx.rowAt]),apartb:=fun r rc u g l b' o' h1=>absurd h1 (by simp [Sx.rowAt]),below:=⟨rfl,rfl,rfl,Nat.le_refl _,fun _ _=>rfl⟩,froz:=fun _ _=>rfl,lits:=iX.none fun _=>rfl,sk:=fun _ h=>h.elim,qs:=fun g cs h=>absurd h (by simp [V]) }
  ·intro l b' o' hl cs1 hcs j x hx
   obtain ⟨rfl,hq⟩:=vb l _ hl
   injection hq with e1 e2
   subst e1 e2
   simp at hcs
   subst hcs
   rw [List.getElem?_map] at hx
   cases hv:cs[j]? with
   | none=>rw [hv] at hx;cases hx
   | some v =>
    rw [hv] at hx
    injection hx with hx
    subst hx
    obtain ⟨a1,a2⟩:=ha j v hv
    exact ⟨v,a1,rfl,a2⟩
  ·intro l l' b1 o1 b2 o2 h1 h2 hne
   exact absurd ((vb l _ h1).1.trans (vb l' _ h2).1.symm) hne
  ·intro l b' o' hl
   obtain ⟨rfl,hq⟩:=vb l _ hl
   injection hq with e1 e2
   subst e1 e2
   exact ⟨.inr (by simp [z]),hb⟩
  ·intro l q hq
   cases l with
   | zero=>exact hq
   | succ l=>simp [z] at hq
  ·intro l b' o' hl h0
   obtain ⟨rfl,_⟩:=vb l _ hl
   simp [z] at h0
  ·intro l hl
   obtain ⟨q,hq⟩:=Option.ne_none_iff_exists'.1 hl
   obtain ⟨rfl,_⟩:=vb l q hq
   rfl
 have hA:aG (aH V) [.ptr 0 0] [.pointer (some ⟨b,o,none⟩)]:=⟨⟨b,o,rfl,rfl⟩,trivial⟩
 rcases h z V [.pointer (some ⟨b,o,none⟩)] hL hM hA with ⟨y,w',h1,_⟩|⟨_,h2⟩
 ·rw [show ([.pointer (some ⟨b,o,none⟩)]:List Value).toArray=#[.pointer (some ⟨b,o,none⟩)] from rfl,he] at h1
  cases h1
 ·refine h2.mono fun e w' ⟨y,he,V',hd,hm⟩=>?_
  have hd:y=r:=hd
  subst hd
  have hv0:=hm.lent 0 (b,o) rfl
  refine ⟨he,⟨hm.below.os,hm.below.tape,hm.below.output,hm.below.size,fun k hk hl=>hm.below.block k ⟨hl,fun o' ho=>?_,by simp [z]⟩,fun p hp=>hm.froz p hp⟩,fun j x hx=>?_⟩
  ·simp [z] at ho
   exact hk ho.1
  ·obtain ⟨y',c1,c2,c3⟩:=hm.mem 0 b o hv0 (cs'.map .v) rfl j (.v x) (by rw [List.getElem?_map,hx];rfl)
   have c2:y'=x:=c2
   subst c2
   exact ⟨c1,c3⟩
theorem qbw {z:Base} {V:Vl} {cs:List SA} {cs':List Value} {b o:Nat} {w':World} (hl:Lent z ⟨[cs],[true],[]⟩ V) (hm:de z ⟨[cs],[true],[]⟩ V z.w) (hb:V.b 0=some (b,o)) (hs:One b z.w w') (ha:At w' b o cs') :
  de z ⟨[cs'.map .v],[true],[]⟩ V w':=by
 have hL0:z.L[0]?=some (b,o):=by rw [<- hl.b];exact hb
 have vb:∀ l q,V.b l=some q->l=0/\q=(b,o):=by
  intro l q hq
  have h1:z.L[l]?=some q:=by rw [<- hl.b];exact hq
  have h2:=(List.getElem?_eq_some_iff.1 h1).1
  have h3:z.L.length=1:=hl.bl
  have:l=0:=by omega
  subst this
  rw [hb] at hq
  injection hq with hq
  exact ⟨rfl,hq.symm⟩
 have hq0:∀ g,V.q g=none:=by
  intro g
  cases hq:V.q g with
  | none=>rfl
  | some cs1 =>
   have h1:=hm.qs g cs1 hq
   have h2:=hm.lits.lt hq
   rcases h1 with h1|h1
   ·exact absurd h2 (by have:z.w.heap.size<=g:=h1;omega)
   ·obtain ⟨j,rc,u,h3,_⟩:=(hl.rl g).1 h1
    exact absurd h3 (by simp [Sx.rowAt])
 refine { hm with lens:=rfl,mem:=?_,own:=?_,rows:=fun r rc hr=>absurd hr (by simp [Sx.rowAt]),dom:=?_,apart:=fun r r' rc rc' u u' g h1=>absurd h1 (by simp [Sx.rowAt]),apartb:=fun r rc u g l b' o' h1=>absurd h1 (by simp [Sx.rowAt]),below:=?_,froz:=?_,lits:=iX.none hq0,rowsN:=fun r hr=>hm.rowsN r hr }
 ·intro l b' o' hl' cs1 hcs j x hx
  obtain ⟨rfl,hq⟩:=vb l _ hl'
  injection hq with e1 e2
  subst e1 e2
  simp at hcs
  subst hcs
  rw [List.getElem?_map] at hx
  cases hv:cs'[j]? with
  | none=>rw [hv] at hx;cases hx
  | some v =>
   rw [hv] at hx
   injection hx with hx
   subst hx
   obtain ⟨a1,a2⟩:=ha j v hv
   exact ⟨v,a1,rfl,a2⟩
 ·intro l b' o' hl'
  obtain ⟨h1,h2⟩:=hm.own l b' o' hl'
  exact ⟨h1,Nat.lt_of_lt_of_le h2 hs.size⟩
 ·intro l hl'
  obtain ⟨q,hq⟩:=Option.ne_none_iff_exists'.1 hl'
  obtain ⟨rfl,_⟩:=vb l q hq
  rfl
 ·refine ⟨hs.os,hs.tape,hs.output,hs.size,fun k hk=>hs.block k ?_ hk.1⟩
  rintro rfl
  exact hk.2.1 o (List.mem_of_getElem? hL0)
 ·intro p hp
  exact hs.froz p hp
end Go.Proofs.YtainfdcfkgemhaaGreat
namespace Go.Proofs.YtainfdcfkgemhaaGreat
open Go Go.Proofs Go.Sx
set_option linter.unusedVariables false
theorem disable (w:World):(callFunc 383 #[]).run prog w=.ok (.value (.tuple #[])) w:=run_call_mark0 func383 (by kernel_rfl) (by kernel_rfl) (by kernel_rfl) .disable (by kernel_rfl) w
theorem enable (w:World):(callFunc 385 #[]).run prog w=.ok (.value (.tuple #[])) w:=run_call_mark0 func385 (by kernel_rfl) (by kernel_rfl) (by kernel_rfl) .enable (by kernel_rfl) w
theorem acquire (a:Addr) (w:World):(callFunc 386 #[.pointer (some a)]).run prog w=.ok (.value (.tuple #[])) w:=run_call_marked func386 (by kernel_rfl) (by kernel_rfl) (by kernel_rfl) .acquire (by kernel_rfl) a w
theorem releaseMerge (a:Addr) (w:World):(callFunc 388 #[.pointer (some a)]).run prog w=.ok (.value (.tuple #[])) w:=run_call_marked func388 (by kernel_rfl) (by kernel_rfl) (by kernel_rfl) .releaseMerge (by kernel_rfl) a w
theorem Up (a:Addr) (x:Value) (u:FrameMode) (w:World) (hc:w.cell? a=some x) (hz:w.frozen? a=false) :
  CallsD prog 365 #[.pointer (some a),.bool true] u w fun e u' w'=>u'=u/\(e=.returned (.tuple #[])/\w'=w.drew.setCell a (.int .u32 1)):=by
 have hc':w.drew.cell? a=some x:=by go_simp
 have hz':w.drew.frozen? a=false:=by go_simp
 have hst:=run_call_store (P:=prog) func376 (by kernel_rfl) (by kernel_rfl) (by kernel_rfl) (by kernel_rfl) (k:=.u32) (y:=1) hc' hz'
 go_enter_d func365,Tryz.ntmps365
 go_wp2
 go_region_calls
 all_goals (go_end0;exact ⟨rfl,rfl⟩)
theorem Ty (a:Addr) (u:FrameMode) (w:World) (hc:w.cell? a=some (.int .i32 1)) (hz:w.frozen? a=false) :
  CallsD prog 364 #[.pointer (some a)] u w fun e u' w'=>u'=u/\(e=.returned (.tuple #[])/\w'=w.setCell a (.int .i32 0)):=by
 have hd:=disable
 have he:=enable
 have hr:=releaseMerge
 have hadd:=run_call_add (P:=prog) func389 (by kernel_rfl) (by kernel_rfl) (by kernel_rfl) .i32 (by kernel_rfl) (y:=-1) (s:=0) hc hz (by simp [go_sem];rfl)
 have hcv:=run_convert_to_unsafe (P:=prog) (src:=456) (dst:=333) Tryz.underlying456 Tryz.underlying333 (by kernel_rfl) hc
 go_enter_d func364,Tryz.ntmps364
 go_wp2
 go_end0
 go_wp2
 go_end0
 exact ⟨rfl,rfl⟩
theorem qc3 (a:Addr) (w:World) (hc:w.cell? a=some (.int .i32 0)) (hz:w.frozen? a=false) :
  Calls prog 363 #[.pointer (some a)] w fun e w'=>e=.returned (.tuple #[])/\w'=w.setCell a (.int .i32 1):=by
 have hd:=disable
 have he:=enable
 have ha:=acquire
 have hcas:=run_call_cas_hit (P:=prog) func384 (by kernel_rfl) (by kernel_rfl) (by kernel_rfl) .i32 (by kernel_rfl) (y:=1) hc hz
 have hc':(w.setCell a (.int .i32 1)).cell? a=some (.int .i32 1):=World.cell?_setCell_same w a _ hc
 have hcv:=run_convert_to_unsafe (P:=prog) (src:=456) (dst:=333) Tryz.underlying456 Tryz.underlying333 (by kernel_rfl) hc'
 go_enter func363,Tryz.ntmps363
 go_wp2
 first|go_end0|(simp only [Exit.inBlock,Exit.then];refine bodyPost_ret (results_none rfl _ _ _) rfl ?_)|refine bodyPost_ret (results_none rfl _ _ _) rfl ?_
 go_wp2
 go_end0
 exact ⟨rfl,rfl⟩
end Go.Proofs.YtainfdcfkgemhaaGreat
namespace Go.Proofs.YtainfdcfkgemhaaGreat
open Go Go.Proofs Go.Sx
set_option linter.unusedVariables false
theorem qhb (w:World) (b o:Nat) (hb:b<w.heap.size) (h:At w b o (gn 0 1 0 fO fO)) :
  Calls prog 315 #[.pointer (some ⟨b,o,none⟩)] w fun e w'=>e=.returned (.tuple #[])/\One b w w'/\At w' b o (gn 0 1 1 mX mV) :=
 qhV qhc hb h (n9 func315 (by kernel_rfl) (nm names func315 (by kernel_rfl)) w)
theorem UY (b o:Nat) (w:World) (hb:b<w.heap.size) (h:At w b o (gn 0 0 0 fO fO)) :
  Calls prog 350 #[.pointer (some ⟨b,o,none⟩),.func (.func 315) #[.pointer (some ⟨b,o,none⟩)] #[]] w fun e w'=>e=.returned (.tuple #[]) /\
   ∃ w2,One b w w2/\At w2 b o (gn 0 1 1 mX mV)/\w'=(w2.drew.setCell ⟨b,o,none⟩ (.int .u32 1)).setCell ⟨b,o+1,none⟩ (.int .i32 0):=by
 have h0:w.cell? ⟨b,o,none⟩=some (.int .u32 0):=(h 0 _ rfl).1
 have h1:w.cell? ⟨b,o+1,none⟩=some (.int .i32 0):=(h 1 _ rfl).1
 have f1:w.frozen? ⟨b,o+1,none⟩=false:=(h 1 _ rfl).2
 have hA:At (w.setCell ⟨b,o+1,none⟩ (.int .i32 1)) b o (gn 0 1 0 fO fO):=h.set (n:=1) (x:=.int .i32 1) (by simp [gn])
 have hl:=run_call_load (P:=prog) func362 (by kernel_rfl) (by kernel_rfl) (by kernel_rfl) .u32 (by kernel_rfl) (w:=w.setCell ⟨b,o+1,none⟩ (.int .i32 1)) (a:=⟨b,o,none⟩) (x:=0) ((World.cell?_setCell_other _ ⟨b,o+1,none⟩ ⟨b,o,none⟩ _ (by simp)).trans h0)
 have hnot:∀ (x:Bool) (w:World),(Op.unary .not (.bool x)).run prog w=.ok (.bool (!x)) w:=fun _ _=>rfl
 go_enter_defers func350,Tryz.ntmps350
 go_wp2_with (first|(go_at_call 363;refine (qc3 ⟨b,o+1,none⟩ _ (by go_simp) (by go_simp)).mono ?_;rintro e w' ⟨rfl,rfl⟩)|(go_at_call 349;go_in)|(go_at_call 315;refine (qhb _ b o (by simpa using hb) hA).mono ?_;rintro e w2 ⟨rfl,hE,hE2⟩))
 have e0:=hE2 0 (.int .u32 0) rfl
 have e1:=hE2 1 (.int .i32 1) rfl
 refine leaves_cons (f:=365) (args:=#[.pointer (some ⟨b,o,none⟩),.bool true]) (by simp) (by simp [go_sem]) ?_
 refine (Up ⟨b,o,none⟩ (.int .u32 0) .returning _ e0.1 e0.2).mono ?_
 rintro e u' w'' ⟨rfl,rfl,rfl⟩
 refine leaves_cons (f:=364) (args:=#[.pointer (some ⟨b,o+1,none⟩)]) (by simp [settle]) (by simp [go_sem]) ?_
 refine (Ty ⟨b,o+1,none⟩ _ _ ?_ ?_).mono ?_
 ·rw [World.cell?_setCell_other _ ⟨b,o,none⟩ ⟨b,o+1,none⟩ _ (by simp),World.cell?_drew]
  exact e1.1
 ·rw [World.frozen?_setCell]
  exact e1.2
 rintro e u' w'' ⟨rfl,rfl,rfl⟩
 simp [Leaves,settle,results,Tryz.results350]
 exact ⟨w2,(One.setCell b (o+1) (.int .i32 1) w).trans hE,hE2,rfl⟩
theorem qhw (b o:Nat) (w:World) (hb:b<w.heap.size) (h:At w b o (gn 0 0 0 fO fO)) :
  Calls prog 314 #[.pointer (some ⟨b,o,none⟩),.func (.func 315) #[.pointer (some ⟨b,o,none⟩)] #[]] w fun e w'=>e=.returned (.tuple #[]) /\
   ∃ w2,One b w w2/\At w2 b o (gn 0 1 1 mX mV)/\w'=(w2.drew.setCell ⟨b,o,none⟩ (.int .u32 1)).setCell ⟨b,o+1,none⟩ (.int .i32 0):=by
 have h0:w.cell? ⟨b,o,none⟩=some (.int .u32 0):=(h 0 _ rfl).1
 have hl:=run_call_load (P:=prog) func362 (by kernel_rfl) (by kernel_rfl) (by kernel_rfl) .u32 (by kernel_rfl) h0
 have hnot:∀ (x:Bool) (w:World),(Op.unary .not (.bool x)).run prog w=.ok (.bool (!x)) w:=fun _ _=>rfl
 go_enter func314,Tryz.ntmps314
 go_wp2_with (first|(go_at_call 350;refine (UY b o _ hb h).mono ?_;rintro e w' ⟨rfl,w2,hE,hE2,rfl⟩)|(go_at_call 349;go_in))
 go_end0
 exact ⟨rfl,w2,hE,hE2,rfl⟩
theorem qhx (a:Addr) (fv:Value) (w:World) (h0:w.cell? a=some (.int .u32 1)) :
  Calls prog 314 #[.pointer (some a),fv] w fun e w'=>e=.returned (.tuple #[])/\w'=w:=by
 have hl:=run_call_load (P:=prog) func362 (by kernel_rfl) (by kernel_rfl) (by kernel_rfl) .u32 (by kernel_rfl) h0
 have hnot:∀ (x:Bool) (w:World),(Op.unary .not (.bool x)).run prog w=.ok (.bool (!x)) w:=fun _ _=>rfl
 go_enter func314,Tryz.ntmps314
 go_wp2
 go_end0
 exact ⟨rfl,rfl⟩
def newB:List Value:=gn 0 0 0 fO fO
def ns:List Value:=gn 1 0 1 mX mV
theorem Pg {z:Base} {V:Vl} {vs:List Value} (hA:aG (aH V) [.ptr 0 0,.clo 315 0 0] vs):∃ b o,V.b 0=some (b,o)/\vs=[.pointer (some ⟨b,o,none⟩),.func (.func 315) #[.pointer (some ⟨b,o,none⟩)] #[]]:=by
 match vs,hA with
 | [x,y],⟨⟨b,o,h1,h2⟩,⟨b',o',h3,h4⟩,_⟩ =>
  rw [h1] at h3
  injection h3 with h3
  injection h3 with e1 e2
  subst e1 e2
  refine ⟨b,o,h1,?_⟩
  rw [h2,h4]
  unfold iQ
  rw [if_pos (show (315:Nat)<iR by decide)]
  rfl
theorem qhy:bq prog 314 [.ptr 0 0,.clo 315 0 0] ⟨[newB.map .v],[true],[]⟩ (.v (.tuple #[])) ⟨[ns.map .v],[true],[]⟩:=by
 intro z V vs hl hm ha
 obtain ⟨b,o,hb,rfl⟩:=Pg (z:=z) ha
 have hat:At z.w b o newB:=fun j x hx=>by
  obtain ⟨y,c1,c2,c3⟩:=hm.mem 0 b o hb (newB.map .v) rfl j (.v x) (by rw [List.getElem?_map,hx];rfl)
  have c2:y=x:=c2
  subst c2
  exact ⟨c1,c3⟩
 refine .inr ⟨n9 func314 (by kernel_rfl) (nm names func314 (by kernel_rfl)) z.w,?_⟩
 refine (qhw b o z.w (hm.own 0 b o hb).2 hat).mono ?_
 rintro e w' ⟨rfl,w2,hE,hE2,rfl⟩
 have k0:At w2.drew b o (gn 0 1 1 mX mV):=hE2
 have k1:=(k0.set (n:=0) (x:=.int .u32 1) (by simp [gn])).set (n:=1) (x:=.int .i32 0) (by simp [gn])
 exact ⟨_,rfl,V,rfl,qbw (b:=b) (o:=o) (cs':=ns) hl hm hb (((hE.trans (One.drew b w2)).trans (One.setCell b o _ _)).trans (One.setCell b (o+1) _ _)) k1⟩
theorem qhz:bq prog 314 [.ptr 0 0,.clo 315 0 0] ⟨[ns.map .v],[true],[]⟩ (.v (.tuple #[])) ⟨[ns.map .v],[true],[]⟩:=by
 intro z V vs hl hm ha
 obtain ⟨b,o,hb,rfl⟩:=Pg (z:=z) ha
 obtain ⟨y,c1,c2,c3⟩:=hm.mem 0 b o hb (ns.map .v) rfl 0 (.v (.int .u32 1)) rfl
 have c2:y=.int .u32 1:=c2
 subst c2
 refine .inr ⟨n9 func314 (by kernel_rfl) (nm names func314 (by kernel_rfl)) z.w,?_⟩
 refine (qhx ⟨b,o,none⟩ _ z.w c1).mono ?_
 rintro e w' ⟨rfl,rfl⟩
 exact ⟨_,rfl,V,rfl,hm⟩
def Hq (a:SA) (b:Value):Bool :=
 match a,b with
 | .v (.int k x),.int k' y=>decide (k=k')&&decide (x=y)
 | _,_=>false
def eqL:List SA->List Value->Bool
 | [],[]=>true
 | x::a,y::b=>Hq x y&&eqL a b
 | _,_=>false
theorem qht {x:SA} {y:Value} (h:Hq x y=true):x=.v y:=by
 unfold Hq at h
 split at h
 ·simp only [Bool.and_eq_true,decide_eq_true_eq] at h
  rw [h.1,h.2]
 ·cases h
theorem eqL_eq:∀ {a:List SA} {b:List Value},eqL a b=true->a=b.map .v
 | [],[],_=>rfl
 | x::a,y::b,h=>by
  simp only [eqL,Bool.and_eq_true] at h
  rw [qht h.1,eqL_eq h.2]
  rfl
 | [],_::_,h=>by cases h
 | _::_,[],h=>by cases h
def Pf (cs:List SA):Bool :=
 match cs with
 | .v (.int .u32 d)::_=>decide (d=1)
 | _=>false
def NW (cs:List SA):Bool:=bif Pf cs then eqL cs ns else eqL cs newB
def Gq (xs:List SV) (m:Mem):Option (Bool×SV×Mem) :=
 match xs,m with
 | [.ptr 0 0,.clo f 0 0],⟨[cs],[true],[]⟩=>match Nat.beq f 315 with
  | true=>some (NW cs,.v (.tuple #[]),⟨[ns.map .v],[true],[]⟩)
  | false=>none
 | _,_=>none
theorem qgi:aT 314 Gq:=by
 intro xs m r m' h
 unfold Gq at h
 split at h
 ·split at h
  ·rename_i f cs _ hf
   obtain rfl:=Nat.eq_of_beq_eq_true hf
   obtain ⟨h1,rfl,rfl⟩:=az h
   unfold NW at h1
   cases hd:Pf cs
   ·rw [hd] at h1
    rw [eqL_eq h1]
    exact qhy
   ·rw [hd] at h1
    rw [eqL_eq h1]
    exact qhz
  ·cases h
 ·cases h
def ΓDo:Orc:=aE 314 Gq Γf0
theorem I4:ΓDo.Ok prog:=aA Okf0 qgi
end Go.Proofs.YtainfdcfkgemhaaGreat
