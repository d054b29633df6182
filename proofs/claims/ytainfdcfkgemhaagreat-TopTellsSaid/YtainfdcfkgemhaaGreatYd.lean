/-
  What is known of this program: sums,bytes and numbers;tables that are made once.
-/
import Derived.Test.YtainfdcfkgemhaaGreatYc
import Derived.Laws.Strings
import Derived.Test.YtainfdcfkgemhaaGreatSx
import Derived.Tactics
import Derived.Tactics2
import Derived.Defers
import Derived.Laws.Pointers
import Derived.Laws.LoneSync
import Derived.RegionTactic
import Derived.RegionCalls
import Derived.ChangeAlike
set_option maxRecDepth 100000
noncomputable section
open Go.Proofs.Tryz
namespace Go.Proofs.YtainfdcfkgemhaaGreat
open Go Go.Proofs Go.Sx
def n16 (n:Nat):Nat:=bif Nat.ble 32768 n then Nat.xor (2*n % 65536) 4129 else 2*n % 65536
def n32 (n:Nat):Nat:=bif Nat.beq (n % 2) 1 then Nat.xor (n / 2) 3988292384 else n / 2
def it (f:Nat->Nat):Nat->Nat->Nat
 | 0,n=>n
 | k+1,n=>it f k (f n)
def N16 (n:Nat):Nat:=it n16 8 n
def N32 (n:Nat):Nat:=it n32 8 n
theorem hH {a b:Nat} (k:Nat) (ha:a<2 ^ k) (hb:b<2 ^ k):Nat.xor a b<2 ^ k:=Nat.xor_lt_two_pow ha hb
theorem Ct (n:Nat):n16 n<65536:=by
 unfold n16
 cases Nat.ble 32768 n
 ·exact Nat.mod_lt _ (by decide)
 ·exact hH 16 (Nat.mod_lt _ (by decide)) (by decide)
theorem Cs {n:Nat} (h:n<4294967296):n32 n<4294967296:=by
 unfold n32
 cases Nat.beq (n % 2) 1
 ·show n / 2<_;omega
 ·exact hH 32 (by have:(2:Nat) ^ 32=4294967296:=by decide
                  omega) (by decide)
theorem CV {f:Nat->Nat} {m:Nat} (hf:∀ n,n<m->f n<m):∀ (k n:Nat),n<m->it f k n<m
 | 0,_,h=>h
 | k+1,n,h=>CV hf k (f n) (hf n h)
theorem qj8 {n:Nat} (h:n<65536):N16 n<65536:=CV (fun n _=>Ct n) 8 n h
theorem qj7 {n:Nat} (h:n<4294967296):N32 n<4294967296:=CV (fun _=>Cs) 8 n h
theorem rm (n:Nat):IntKind.u16.wrap (n:Int)=((n % 65536:Nat):Int):=by
 rw [<- cE true];simp only [wr];omega
theorem mY (n:Nat):IntKind.u32.wrap (n:Int)=((n % 4294967296:Nat):Int):=by
 rw [<- cE true];simp only [wr];omega
theorem oK (w a b:Nat) (ha:a<2 ^ w) (hb:b<2 ^ w):(((BitVec.ofInt w (a:Int) ^^^ BitVec.ofInt w (b:Int)).toNat:Nat):Int)=((Nat.xor a b:Nat):Int):=by
 rw [BitVec.toNat_xor,BitVec.ofInt_natCast,BitVec.ofInt_natCast,BitVec.toNat_ofNat,BitVec.toNat_ofNat,Nat.mod_eq_of_lt ha,Nat.mod_eq_of_lt hb]
 rfl
theorem qhW (w a b:Nat) (ha:a<2 ^ w) (hb:b<2 ^ w):(((BitVec.ofInt w (a:Int) &&& BitVec.ofInt w (b:Int)).toNat:Nat):Int)=((Nat.land a b:Nat):Int):=by
 rw [BitVec.toNat_and,BitVec.ofInt_natCast,BitVec.ofInt_natCast,BitVec.toNat_ofNat,BitVec.toNat_ofNat,Nat.mod_eq_of_lt ha,Nat.mod_eq_of_lt hb]
 rfl
theorem za {α:Type} (E:Nat->Int->Int->Option α) (F:Int->Option α) (c:Int->Bool) (A B:Int->Int) (f:Nat->Nat) (m:Nat) (hf:∀ n,n<m->f n<m) (hc:∀ n:Nat,n<m->(bif c (n:Int) then A (n:Int) else B (n:Int))=((f n:Nat):Int))
  (hE:∀ k x i,E (k+1) x i=bif decide (i<(8:Int)) then (bif c x then E k (A x) (wI (i+1)) else E k (B x) (wI (i+1))) else F x) :
  ∀ (j n:Nat),j<=8->n<m->E (j+1) (n:Int) ((8 - j:Nat):Int)=F ((it f j n:Nat):Int):=by
 intro j
 induction j with
 | zero =>
  intro n _ _
  rw [hE]
  rfl
 | succ j ih =>
  intro n hj hn
  rw [hE,show decide (((8 - (j+1):Nat):Int)<8)=true from decide_eq_true (by omega),aC (by omega),show ((8 - (j+1):Nat):Int)+1=((8 - j:Nat):Int) by omega]
  have hx:=hc n hn
  have h2:(bif c (n:Int) then E (j+1) (A n) ((8 - j:Nat):Int) else E (j+1) (B n) ((8 - j:Nat):Int))=E (j+1) (bif c (n:Int) then A (n:Int) else B (n:Int)) ((8 - j:Nat):Int):=by
   cases c (n:Int)<;>rfl
  rw [cond_true,h2,hx,ih (f n) (by omega) (hf n hn)]
  rfl
def qL (x:Int):Int:=IntKind.u16.wrap (((BitVec.ofInt 16 (IntKind.u16.wrap (x*2 ^ min (Int.toNat 1) 16)) ^^^ BitVec.ofInt 16 4129).toNat:Nat):Int)
def mG (x:Int):Int:=IntKind.u16.wrap (x*2 ^ min (Int.toNat 1) 16)
theorem KS (n:Nat) (_:n<65536):(bif decide ((n:Int)>=32768) then qL n else mG n)=((n16 n:Nat):Int):=by
 have e:(n:Int)*2 ^ min (Int.toNat 1) 16=((2*n:Nat):Int):=by
  rw [show min (Int.toNat 1) 16=1 from rfl];omega
 unfold qL mG n16
 rw [e,rm (2*n),show (4129:Int)=((4129:Nat):Int) from rfl,oK 16 _ _ (Nat.mod_lt _ (by decide)) (by decide),rm]
 by_cases h:32768<=n
 ·rw [decide_eq_true (by omega),show Nat.ble 32768 n=true from by rw [Nat.ble_eq];exact h]
  simp only [cond_true]
  rw [Nat.mod_eq_of_lt (hH 16 (Nat.mod_lt _ (by decide)) (by decide))]
 ·rw [decide_eq_false (by omega),show Nat.ble 32768 n=false from by rw [<- Bool.not_eq_true,Nat.ble_eq];exact h]
  rfl
def zn (x:Int):Bool:=IntKind.u32.wrap (((BitVec.ofInt 32 x &&& BitVec.ofInt 32 1).toNat:Nat):Int)==1
def zK (x:Int):Int:=IntKind.u32.wrap (((BitVec.ofInt 32 (Int.fdiv x (2 ^ min (Int.toNat 1) 32)) ^^^ BitVec.ofInt 32 3988292384).toNat:Nat):Int)
def zB (x:Int):Int:=Int.fdiv x (2 ^ min (Int.toNat 1) 32)
theorem gf:(2:Nat) ^ 32=4294967296:=by decide
theorem TY (n:Nat) (h:n<4294967296):(bif zn n then zK n else zB n)=((n32 n:Nat):Int):=by
 have e:Int.fdiv (n:Int) (2 ^ min (Int.toNat 1) 32)=((n / 2:Nat):Int):=by
  rw [show min (Int.toNat 1) 32=1 from rfl,Int.fdiv_eq_ediv_of_nonneg _ (by decide)];omega
 unfold zn zK zB n32
 rw [e,show (3988292384:Int)=((3988292384:Nat):Int) from rfl,show (1:Int)=((1:Nat):Int) from rfl,qhW 32 _ _ (by rw [gf];exact h) (by decide),oK 32 _ _ (by rw [gf];omega) (by decide),mY,mY]
 have e2:Nat.land n 1=n % 2:=Nat.and_one_is_mod n
 rw [e2]
 rcases Nat.mod_two_eq_zero_or_one n with h0|h0
 ·rw [h0];rfl
 ·rw [h0,Nat.mod_eq_of_lt (hH 32 (by rw [gf];omega) (by decide))];rfl
def zc (x:Int):Bool:=Int.tmod x 2==1
def yA (x:Int):Int:=IntKind.u32.wrap (((BitVec.ofInt 32 (IntKind.u32.wrap (Int.tdiv x 2)) ^^^ BitVec.ofInt 32 3988292384).toNat:Nat):Int)
def xK (x:Int):Int:=IntKind.u32.wrap (Int.tdiv x 2)
theorem TX (n:Nat) (h:n<4294967296):(bif zc n then yA n else xK n)=((n32 n:Nat):Int):=by
 have e:Int.tdiv (n:Int) 2=((n / 2:Nat):Int):=by
  rw [Int.tdiv_eq_ediv_of_nonneg (by omega)];omega
 have e1:Int.tmod (n:Int) 2=((n % 2:Nat):Int):=by
  rw [Int.tmod_eq_emod_of_nonneg (by omega)];omega
 unfold zc yA xK n32
 rw [e,e1,mY (n / 2),Nat.mod_eq_of_lt (show n / 2<4294967296 by omega),show (3988292384:Int)=((3988292384:Nat):Int) from rfl,oK 32 _ _ (by rw [gf];omega) (by decide),mY]
 rcases Nat.mod_two_eq_zero_or_one n with h0|h0
 ·rw [h0];rfl
 ·rw [h0,Nat.mod_eq_of_lt (hH 32 (by rw [gf];omega) (by decide))];rfl
def p16 (x:Nat) (b:UInt8):Nat:=N16 (Nat.xor x (b.toNat*256))
def p32 (x:Nat) (b:UInt8):Nat:=N32 (Nat.xor x b.toNat)
theorem dM (b:UInt8):b.toNat<256:=b.toNat_lt
theorem Me {x:Nat} (b:UInt8) (h:x<65536):p16 x b<65536 :=
 qj8 (hH 16 h (by have:=dM b;show _<65536;omega))
theorem Cg {x:Nat} (b:UInt8) (h:x<4294967296):p32 x b<4294967296 :=
 qj7 (hH 32 h (by have:=dM b;rw [gf];omega))
def lp (x:Int) (s:ByteArray):Int:=((s.data.toList.foldl p16 x.toNat:Nat):Int)
def F32 (s:ByteArray):Nat:=s.data.toList.foldl p32 4294967295
theorem Oo {α:Type} {f:Nat->α->Nat} {m:Nat} (hf:∀ n b,n<m->f n b<m):∀ (l:List α) (n:Nat),n<m->l.foldl f n<m
 | [],_,h=>h
 | b::l,n,h=>Oo hf l _ (hf n b h)
theorem vF {s:ByteArray} {k:Nat} {b:UInt8} (h:s.data[k]?=some b):aa s (k:Int)=(b.toNat:Int):=by
 unfold aa
 have:s[(k:Int).toNat]?=some b:=by
  rw [Int.toNat_natCast]
  have hk:k<s.size:=by
   have:=(Array.getElem?_eq_some_iff.1 h).1
   exact this
  rw [getElem?_pos s k hk]
  have h2:=(Array.getElem?_eq_some_iff.1 h).2
  rw [<- h2]
  rfl
 rw [this]
theorem rU {α:Type} (s:ByteArray) (hs:s.size<=9223372036854775807) (E:Nat->Int->Int->Option α) (F:Int->Option α) (g:Int->Int->Bool) (A:Int->Int->Int) (f:Nat->UInt8->Nat) (m:Nat) (hf:∀ n b,n<m->f n b<m)
  (hg:∀ (n k:Nat) b,n<m->s.data[k]?=some b->g n k=true/\A n k=((f n b:Nat):Int))
  (hE:∀ k x i,E (k+1) x i=bif decide (i<(s.size:Int)) then (bif decide (0<=i)&&decide (i<(s.size:Int)) then (bif g x i then E k (A x i) (wI (i+1)) else none) else none) else F x) :
  ∀ (j k n:Nat),k+j=s.size->n<m->E (j+1) (n:Int) (k:Int)=F (((s.data.toList.drop k).foldl f n:Nat):Int):=by
 intro j
 induction j with
 | zero =>
  intro k n hk _
  rw [hE,show decide ((k:Int)<(s.size:Int))=false from decide_eq_false (by omega)]
  rw [List.drop_eq_nil_of_le (by simp;omega)]
  rfl
 | succ j ih =>
  intro k n hk hn
  have hlt:k<s.data.size:=by show k<s.size;omega
  obtain ⟨b,hb⟩:∃ b,s.data[k]?=some b:=⟨s.data[k],by simp⟩
  obtain ⟨h1,h2⟩:=hg n k b hn hb
  rw [hE,show decide ((k:Int)<(s.size:Int))=true from decide_eq_true (by omega),show decide ((0:Int)<=(k:Int))=true from decide_eq_true (by omega),aC (by omega),h1,h2]
  simp only [cond_true,Bool.and_self]
  rw [show (k:Int)+1=((k+1:Nat):Int) by omega,ih (k+1) _ (by omega) (hf n b hn)]
  have e2:s.data.toList.drop k=b::s.data.toList.drop (k+1):=by
   rw [List.drop_eq_getElem_cons (by simpa using hlt)]
   have:=(Array.getElem?_eq_some_iff.1 hb).2
   simp [this]
  rw [e2,List.foldl_cons]
def er (s:ByteArray) (x i:Int):Int:=IntKind.u16.wrap (((BitVec.ofInt 16 x ^^^ BitVec.ofInt 16 (IntKind.u16.wrap (IntKind.u16.wrap (aa s i)*2 ^ min (Int.toNat 8) 16))).toNat:Nat):Int)
def ij (s:ByteArray) (x i:Int):Int:=IntKind.u32.wrap (((BitVec.ofInt 32 x ^^^ BitVec.ofInt 32 (IntKind.u32.wrap (aa s i))).toNat:Nat):Int)
theorem qan {s:ByteArray} {n k:Nat} {b:UInt8} (hn:n<65536) (hb:s.data[k]?=some b):er s n k=((Nat.xor n (b.toNat*256):Nat):Int):=by
 have h:=dM b
 unfold er
 rw [vF hb,rm b.toNat,Nat.mod_eq_of_lt (show b.toNat<65536 by omega)]
 have e:((b.toNat:Nat):Int)*2 ^ min (Int.toNat 8) 16=((b.toNat*256:Nat):Int):=by
  rw [show min (Int.toNat 8) 16=8 from rfl];omega
 rw [e,rm (b.toNat*256),Nat.mod_eq_of_lt (show b.toNat*256<65536 by omega),oK 16 _ _ hn (by show _<65536;omega),rm,Nat.mod_eq_of_lt (hH 16 hn (by show _<65536;omega))]
theorem qam {s:ByteArray} {n k:Nat} {b:UInt8} (hn:n<4294967296) (hb:s.data[k]?=some b):ij s n k=((Nat.xor n b.toNat:Nat):Int):=by
 have h:=dM b
 unfold ij
 rw [vF hb,mY b.toNat,Nat.mod_eq_of_lt (show b.toNat<4294967296 by omega)]
 rw [oK 32 _ _ (by rw [gf];exact hn) (by rw [gf];omega),mY,Nat.mod_eq_of_lt (hH 32 (by rw [gf];exact hn) (by rw [gf];omega))]
def iT (m:Nat) (x:Int):Bool :=
 match x with
 | .ofNat n=>Nat.ble (n+1) m
 | .negSucc _=>false
theorem sM {m:Nat} {x:Int} (h:iT m x=true):∃ n:Nat,x=(n:Int)/\n<m:=by
 cases x with
 | ofNat n=>exact ⟨n,rfl,Nat.le_of_ble_eq_true h⟩
 | negSucc n=>cases h
theorem C0 {m n:Nat} (h:n<m):iT m (n:Int)=true:=Nat.ble_eq_true_of_le h
def dY (x:Int):Bool:=iT 65536 x
def fj (x:Int):Bool:=iT 4294967296 x
def jq (x:Int):Int:=((N16 x.toNat:Nat):Int)
def jp (x:Int):Int:=((N32 x.toNat:Nat):Int)
theorem xC {x:Int} (h:dY x=true):∃ n:Nat,x=(n:Int)/\n<65536:=sM h
theorem xB {x:Int} (h:fj x=true):∃ n:Nat,x=(n:Int)/\n<4294967296:=sM h
def zN (x:Int) (s:ByteArray):Int:=((s.data.toList.foldl p32 x.toNat:Nat):Int)
def hZ (s:ByteArray):Int:=((Nat.xor (F32 s) 4294967295:Nat):Int)
def yO (s:ByteArray):Int:=IntKind.u32.wrap (((BitVec.ofInt 32 (zN 4294967295 s) ^^^ BitVec.ofInt 32 4294967295).toNat:Nat):Int)
theorem qka (s:ByteArray):F32 s<4294967296:=Oo (fun _ b=>Cg b) _ _ (by decide)
theorem OE (s:ByteArray):yO s=hZ s:=by
 have h:=qka s
 unfold yO hZ
 have e:zN 4294967295 s=((F32 s:Nat):Int):=rfl
 rw [e,show (4294967295:Int)=((4294967295:Nat):Int) from rfl,oK 32 _ _ (by rw [gf];exact h) (by decide),mY,Nat.mod_eq_of_lt (hH 32 (by rw [gf];exact h) (by decide))]
def bm (s:ByteArray):Bool:=Nat.ble s.size 9223372036854775807
theorem NP (s:ByteArray) (n k:Nat) (b:UInt8) (hn:n<65536) (hb:s.data[k]?=some b):dY (er s n k)=true/\jq (er s n k)=((p16 n b:Nat):Int):=by
 rw [qan hn hb]
 exact ⟨C0 (hH 16 hn (by have:=dM b;show _<65536;omega)),rfl⟩
theorem NO (s:ByteArray) (n k:Nat) (b:UInt8) (hn:n<4294967296) (hb:s.data[k]?=some b):fj (ij s n k)=true/\jp (ij s n k)=((p32 n b:Nat):Int):=by
 rw [qam hn hb]
 exact ⟨C0 (hH 32 (by rw [gf];exact hn) (by have:=dM b;rw [gf];omega)),rfl⟩
def kI:List Bool:=aE 15 [0,4]
def rh:List Bool:=aE 15 [0]
def om:Code:=cH (f348.body.getD .skip) 0
theorem qbQ:aL (f348.body.getD .skip)=[om]:=by kernel_rfl
theorem qbP:aL om=[]:=by kernel_rfl
def Ao (e:Ex) (st:St):Option (Ex×St):=some (e,aj 0 0 rh st)
theorem Ul (k:Nat) (x i:Int):au ΓA13 prog L0 (aj 0 0 kI) om (k+1) (mk kI [.v (bO x),.v (I i)] M0) Ao =
 bif decide (i<8) then (bif decide (x>=32768) then au ΓA13 prog L0 (aj 0 0 kI) om k (mk kI [.v (bO (qL x)),.v (I (wI (i+1)))] M0) Ao else au ΓA13 prog L0 (aj 0 0 kI) om k (mk kI [.v (bO (mG x)),.v (I (wI (i+1)))] M0) Ao)
 else some (.exit 0,mk rh [.v (bO x)] M0):=by kernel_rfl
def JO (vals:List SV) (m:Mem):Option (Bool×Ex×St) :=
 match vals,m with
 | [.v (.int .u16 x),.v (.int .i64 i)],⟨[],[],[]⟩=>some (i==0&&dY x,.exit 0,mk rh [.v (bO (jq x))] M0)
 | _,_=>none
def ΛEight16:bg:=fun _ st=>dg 0 0 kI JO st
theorem qcp (z:Base) (z1:z.L.length=0) (z2:z.U.length=0):a9 ΛEight16 prog z om:=by
 refine d9 (Λ:=L0) (kx:=fun _=>rh) uy mixed z1 z2 (fun b hb=>by rw [qbP] at hb;cases hb) (G:=JO) (fun _=>rfl) ?_
 intro vals m e st' h
 unfold JO at h
 split at h
 ·rename_i x i
  obtain ⟨h1,rfl,rfl⟩:=an h
  simp only [Bool.and_eq_true,beq_iff_eq] at h1
  obtain ⟨rfl,h1⟩:=h1
  obtain ⟨n,rfl,hn⟩:=xC h1
  exact ⟨9,za (fun k x i=>au ΓA13 prog L0 (aj 0 0 kI) om k (mk kI [.v (bO x),.v (I i)] M0) Ao) (fun x=>some (.exit 0,mk rh [.v (bO x)] M0)) (fun x=>decide (x>=32768)) qL mG n16 65536 (fun n _=>Ct n) KS Ul 8 n (Nat.le_refl 8) hn⟩
 ·cases h
theorem YX (x:Int):runG ΓA13 ΛEight16 prog f348 [.v (bO x)] M0=bif (0:Int)==0&&dY x then some (.v (bO (jq x)),M0) else none:=by kernel_rfl
def Ga (vs:List Value):Option (Bool×Value) :=
 match vs with
 | [.int .u16 x]=>some (dY x,bO (jq x))
 | _=>none
theorem qfz:am 348 Ga:=by
 intro vs r h
 unfold Ga at h
 split at h
 ·rename_i x
  obtain ⟨h1,rfl⟩:=ab h
  refine ak (vs:=[bO x]) (Λ:=ΛEight16) (m':=M0) uy func348 rfl (fun z z1 z2=>bX (c:=f348.body.getD .skip) qbQ (qcp z z1 z2)) ?_
  exact (YX x).trans (by rw [h1];rfl)
 ·cases h
def ΓK1:Orc:=ah 348 Ga ΓA13
theorem IU:ΓK1.Ok prog:=ac uy qfz
def kF:List Bool:=aE 16 [0,3]
def qW:List Bool:=aE 16 [0]
def og:Code:=cH (f265.body.getD .skip) 0
theorem qbo:aL (f265.body.getD .skip)=[og]:=by kernel_rfl
theorem qbn:aL og=[]:=by kernel_rfl
def Ai (e:Ex) (st:St):Option (Ex×St):=some (e,aj 0 0 qW st)
theorem T5 (k:Nat) (x i:Int):au ΓK1 prog L0 (aj 0 0 kF) og (k+1) (mk kF [.v (bO x),.v (I i)] M0) Ai =
 bif decide (i<8) then (bif decide (x>=32768) then au ΓK1 prog L0 (aj 0 0 kF) og k (mk kF [.v (bO (qL x)),.v (I (wI (i+1)))] M0) Ai else au ΓK1 prog L0 (aj 0 0 kF) og k (mk kF [.v (bO (mG x)),.v (I (wI (i+1)))] M0) Ai)
 else some (.exit 0,mk qW [.v (bO x)] M0):=by kernel_rfl
def Jr (vals:List SV) (m:Mem):Option (Bool×Ex×St) :=
 match vals,m with
 | [.v (.int .u16 x),.v (.int .i64 i)],⟨[],[],[]⟩=>some (i==0&&dY x,.exit 0,mk qW [.v (bO (jq x))] M0)
 | _,_=>none
def ΛStep16:bg:=fun _ st=>dg 0 0 kF Jr st
theorem qb7 (z:Base) (z1:z.L.length=0) (z2:z.U.length=0):a9 ΛStep16 prog z og:=by
 refine d9 (Λ:=L0) (kx:=fun _=>qW) IU mixed z1 z2 (fun b hb=>by rw [qbn] at hb;cases hb) (G:=Jr) (fun _=>rfl) ?_
 intro vals m e st' h
 unfold Jr at h
 split at h
 ·rename_i x i
  obtain ⟨h1,rfl,rfl⟩:=an h
  simp only [Bool.and_eq_true,beq_iff_eq] at h1
  obtain ⟨rfl,h1⟩:=h1
  obtain ⟨n,rfl,hn⟩:=xC h1
  exact ⟨9,za (fun k x i=>au ΓK1 prog L0 (aj 0 0 kF) og k (mk kF [.v (bO x),.v (I i)] M0) Ai) (fun x=>some (.exit 0,mk qW [.v (bO x)] M0)) (fun x=>decide (x>=32768)) qL mG n16 65536 (fun n _=>Ct n) KS T5 8 n (Nat.le_refl 8) hn⟩
 ·cases h
theorem VY (x:Int):runG ΓK1 ΛStep16 prog f265 [.v (bO x)] M0=bif (0:Int)==0&&dY x then some (.v (bO (jq x)),M0) else none:=by kernel_rfl
def DY (vs:List Value):Option (Bool×Value) :=
 match vs with
 | [.int .u16 x]=>some (dY x,bO (jq x))
 | _=>none
theorem qdG:am 265 DY:=by
 intro vs r h
 unfold DY at h
 split at h
 ·rename_i x
  obtain ⟨h1,rfl⟩:=ab h
  refine ak (vs:=[bO x]) (Λ:=ΛStep16) (m':=M0) IU func265 rfl (fun z z1 z2=>bX (c:=f265.body.getD .skip) qbo (qb7 z z1 z2)) ?_
  exact (VY x).trans (by rw [h1];rfl)
 ·cases h
def ΓK2:Orc:=ah 265 DY ΓK1
theorem IT:ΓK2.Ok prog:=ac IU qdG
def sE:List Bool:=aE 21 [0,1,7,8]
def rb:List Bool:=aE 21 [0]
def qB:Code:=cH (f313.body.getD .skip) 0
theorem qbG:aL (f313.body.getD .skip)=[qB]:=by kernel_rfl
theorem qbF:aL qB=[]:=by kernel_rfl
def JZ (e:Ex) (st:St):Option (Ex×St):=some (e,aj 0 0 rb st)
def Jl (s:ByteArray) (x i:Int):St:=mk sE [.v (bO x),.v (S s),.v (I (s.size:Int)),.v (I i)] M0
theorem Ud (s:ByteArray) (k:Nat) (x i:Int):au ΓK2 prog L0 (aj 0 0 sE) qB (k+1) (Jl s x i) JZ =
 bif decide (i<(s.size:Int)) then (bif decide (0<=i)&&decide (i<(s.size:Int)) then (bif dY (er s x i) then au ΓK2 prog L0 (aj 0 0 sE) qB k (Jl s (jq (er s x i)) (wI (i+1))) JZ else none) else none)
 else some (.exit 0,mk rb [.v (bO x)] M0):=by kernel_rfl
def JF (vals:List SV) (m:Mem):Option (Bool×Ex×St) :=
 match vals,m with
 | [.v (.int .u16 x),.v (.string s),.v (.int .i64 n),.v (.int .i64 i)],⟨[],[],[]⟩=>some (n==(s.size:Int)&&(i==0&&(dY x&&bm s)),.exit 0,mk rb [.v (bO (lp x s))] M0)
 | _,_=>none
def ΛMore16:bg:=fun _ st=>dg 0 0 sE JF st
theorem qci (z:Base) (z1:z.L.length=0) (z2:z.U.length=0):a9 ΛMore16 prog z qB:=by
 refine d9 (Λ:=L0) (kx:=fun _=>rb) IT mixed z1 z2 (fun b hb=>by rw [qbF] at hb;cases hb) (G:=JF) (fun _=>rfl) ?_
 intro vals m e st' h
 unfold JF at h
 split at h
 ·rename_i x s n i
  obtain ⟨h1,rfl,rfl⟩:=an h
  simp only [Bool.and_eq_true,beq_iff_eq] at h1
  obtain ⟨rfl,rfl,h1,h4⟩:=h1
  obtain ⟨n,rfl,hn⟩:=xC h1
  exact ⟨s.size+1,rU s (Nat.le_of_ble_eq_true h4) (fun k x i=>au ΓK2 prog L0 (aj 0 0 sE) qB k (Jl s x i) JZ) (fun x=>some (.exit 0,mk rb [.v (bO x)] M0)) (fun x i=>dY (er s x i)) (fun x i=>jq (er s x i)) p16 65536 (fun n b=>Me b) (NP s) (Ud s) s.size 0 n (by omega) hn⟩
 ·cases h
theorem XV (x:Int) (s:ByteArray):runG ΓK2 ΛMore16 prog f313 [.v (bO x),.v (S s)] M0=bif (s.size:Int)==(s.size:Int)&&((0:Int)==0&&(dY x&&bm s)) then some (.v (bO (lp x s)),M0) else none:=by kernel_rfl
def Fk (vs:List Value):Option (Bool×Value) :=
 match vs with
 | [.int .u16 x,.string s]=>some (dY x&&bm s,(bO (lp x s)))
 | _=>none
theorem qeP:am 313 Fk:=by
 intro vs r h
 unfold Fk at h
 split at h
 ·rename_i x s
  obtain ⟨h1,rfl⟩:=ab h
  refine ak (vs:=[bO x,S s]) (Λ:=ΛMore16) (m':=M0) IT func313 rfl (fun z z1 z2=>bX (c:=f313.body.getD .skip) qbG (qci z z1 z2)) ?_
  exact (XV x s).trans (by rw [h1,beq_self_eq_true];rfl)
 ·cases h
def ΓK3:Orc:=ah 313 Fk ΓK2
theorem IS:ΓK3.Ok prog:=ac IT qeP
def sB:List Bool:=aE 21 [0,1,5]
def qY:List Bool:=aE 21 [0]
def qz:Code:=cH (f201.body.getD .skip) 0
theorem qbC:aL (f201.body.getD .skip)=[qz]:=by kernel_rfl
theorem qbB:aL qz=[]:=by kernel_rfl
def JX (e:Ex) (st:St):Option (Ex×St):=some (e,aj 0 0 qY st)
def Jj (s:ByteArray) (x i:Int):St:=mk sB [.v (bO x),.v (S s),.v (I i)] M0
theorem Ub (s:ByteArray) (k:Nat) (x i:Int):au ΓK3 prog L0 (aj 0 0 sB) qz (k+1) (Jj s x i) JX =
 bif decide (i<(s.size:Int)) then (bif decide (0<=i)&&decide (i<(s.size:Int)) then (bif dY (er s x i) then au ΓK3 prog L0 (aj 0 0 sB) qz k (Jj s (jq (er s x i)) (wI (i+1))) JX else none) else none)
 else some (.exit 0,mk qY [.v (bO x)] M0):=by kernel_rfl
def JD (vals:List SV) (m:Mem):Option (Bool×Ex×St) :=
 match vals,m with
 | [.v (.int .u16 x),.v (.string s),.v (.int .i64 i)],⟨[],[],[]⟩=>some (i==0&&(dY x&&bm s),.exit 0,mk qY [.v (bO (lp x s))] M0)
 | _,_=>none
def ΛRMore16:bg:=fun _ st=>dg 0 0 sB JD st
theorem qcg (z:Base) (z1:z.L.length=0) (z2:z.U.length=0):a9 ΛRMore16 prog z qz:=by
 refine d9 (Λ:=L0) (kx:=fun _=>qY) IS mixed z1 z2 (fun b hb=>by rw [qbB] at hb;cases hb) (G:=JD) (fun _=>rfl) ?_
 intro vals m e st' h
 unfold JD at h
 split at h
 ·rename_i x s i
  obtain ⟨h1,rfl,rfl⟩:=an h
  simp only [Bool.and_eq_true,beq_iff_eq] at h1
  obtain ⟨rfl,h1,h4⟩:=h1
  obtain ⟨n,rfl,hn⟩:=xC h1
  exact ⟨s.size+1,rU s (Nat.le_of_ble_eq_true h4) (fun k x i=>au ΓK3 prog L0 (aj 0 0 sB) qz k (Jj s x i) JX) (fun x=>some (.exit 0,mk qY [.v (bO x)] M0)) (fun x i=>dY (er s x i)) (fun x i=>jq (er s x i)) p16 65536 (fun n b=>Me b) (NP s) (Ub s) s.size 0 n (by omega) hn⟩
 ·cases h
theorem Xf (x:Int) (s:ByteArray):runG ΓK3 ΛRMore16 prog f201 [.v (bO x),.v (S s)] M0=bif (0:Int)==0&&(dY x&&bm s) then some (.v (bO (lp x s)),M0) else none:=by kernel_rfl
def EP (vs:List Value):Option (Bool×Value) :=
 match vs with
 | [.int .u16 x,.string s]=>some (dY x&&bm s,(bO (lp x s)))
 | _=>none
theorem qeo:am 201 EP:=by
 intro vs r h
 unfold EP at h
 split at h
 ·rename_i x s
  obtain ⟨h1,rfl⟩:=ab h
  refine ak (vs:=[bO x,S s]) (Λ:=ΛRMore16) (m':=M0) IS func201 rfl (fun z z1 z2=>bX (c:=f201.body.getD .skip) qbC (qcg z z1 z2)) ?_
  exact (Xf x s).trans (by rw [h1];rfl)
 ·cases h
def ΓK4:Orc:=ah 201 EP ΓK3
theorem RP:ΓK4.Ok prog:=ac IS qeo
theorem VU (s:ByteArray):runG ΓK4 L0 prog f256 [.v (S s)] M0=bif dY 65535&&bm s then some (.v (bO (lp 65535 s)),M0) else none:=by kernel_rfl
def DU (vs:List Value):Option (Bool×Value) :=
 match vs with
 | [.string s]=>some (bm s,bO (lp 65535 s))
 | _=>none
theorem qdE:am 256 DU:=by
 intro vs r h
 unfold DU at h
 split at h
 ·rename_i s
  obtain ⟨h1,rfl⟩:=ab h
  refine ak (vs:=[S s]) (Λ:=L0) (m':=M0) RP func256 rfl (fun z _ _=>aV (by kernel_rfl) z) ?_
  exact (VU s).trans (by rw [h1];rfl)
 ·cases h
def ΓK5:Orc:=ah 256 DU ΓK4
theorem IR:ΓK5.Ok prog:=ac RP qdE
def kH:List Bool:=aE 16 [0,4]
def rg:List Bool:=aE 16 [0]
def ol:Code:=cH (f308.body.getD .skip) 0
theorem qbO:aL (f308.body.getD .skip)=[ol]:=by kernel_rfl
theorem qbN:aL ol=[]:=by kernel_rfl
def Am (e:Ex) (st:St):Option (Ex×St):=some (e,aj 0 0 rg st)
theorem Uk (k:Nat) (x i:Int):au ΓK5 prog L0 (aj 0 0 kH) ol (k+1) (mk kH [.v (ci x),.v (I i)] M0) Am =
 bif decide (i<8) then (bif zn x then au ΓK5 prog L0 (aj 0 0 kH) ol k (mk kH [.v (ci (zK x)),.v (I (wI (i+1)))] M0) Am else au ΓK5 prog L0 (aj 0 0 kH) ol k (mk kH [.v (ci (zB x)),.v (I (wI (i+1)))] M0) Am)
 else some (.exit 0,mk rg [.v (ci x)] M0):=by kernel_rfl
def JN (vals:List SV) (m:Mem):Option (Bool×Ex×St) :=
 match vals,m with
 | [.v (.int .u32 x),.v (.int .i64 i)],⟨[],[],[]⟩=>some (i==0&&fj x,.exit 0,mk rg [.v (ci (jp x))] M0)
 | _,_=>none
def ΛEight32:bg:=fun _ st=>dg 0 0 kH JN st
theorem qco (z:Base) (z1:z.L.length=0) (z2:z.U.length=0):a9 ΛEight32 prog z ol:=by
 refine d9 (Λ:=L0) (kx:=fun _=>rg) IR mixed z1 z2 (fun b hb=>by rw [qbN] at hb;cases hb) (G:=JN) (fun _=>rfl) ?_
 intro vals m e st' h
 unfold JN at h
 split at h
 ·rename_i x i
  obtain ⟨h1,rfl,rfl⟩:=an h
  simp only [Bool.and_eq_true,beq_iff_eq] at h1
  obtain ⟨rfl,h1⟩:=h1
  obtain ⟨n,rfl,hn⟩:=xB h1
  exact ⟨9,za (fun k x i=>au ΓK5 prog L0 (aj 0 0 kH) ol k (mk kH [.v (ci x),.v (I i)] M0) Am) (fun x=>some (.exit 0,mk rg [.v (ci x)] M0)) (fun x=>zn x) zK zB n32 4294967296 (fun n=>Cs) TY Uk 8 n (Nat.le_refl 8) hn⟩
 ·cases h
theorem YW (x:Int):runG ΓK5 ΛEight32 prog f308 [.v (ci x)] M0=bif (0:Int)==0&&fj x then some (.v (ci (jp x)),M0) else none:=by kernel_rfl
def F9 (vs:List Value):Option (Bool×Value) :=
 match vs with
 | [.int .u32 x]=>some (fj x,ci (jp x))
 | _=>none
theorem qfy:am 308 F9:=by
 intro vs r h
 unfold F9 at h
 split at h
 ·rename_i x
  obtain ⟨h1,rfl⟩:=ab h
  refine ak (vs:=[ci x]) (Λ:=ΛEight32) (m':=M0) IR func308 rfl (fun z z1 z2=>bX (c:=f308.body.getD .skip) qbO (qco z z1 z2)) ?_
  exact (YW x).trans (by rw [h1];rfl)
 ·cases h
def ΓK6:Orc:=ah 308 F9 ΓK5
theorem IQ:ΓK6.Ok prog:=ac IR qfy
def kE:List Bool:=aE 17 [0,3]
def qV:List Bool:=aE 17 [0]
def oe:Code:=cH (f203.body.getD .skip) 0
theorem qbm:aL (f203.body.getD .skip)=[oe]:=by kernel_rfl
theorem qbl:aL oe=[]:=by kernel_rfl
def Ah (e:Ex) (st:St):Option (Ex×St):=some (e,aj 0 0 qV st)
theorem T4 (k:Nat) (x i:Int):au ΓK6 prog L0 (aj 0 0 kE) oe (k+1) (mk kE [.v (ci x),.v (I i)] M0) Ah =
 bif decide (i<8) then (bif zc x then au ΓK6 prog L0 (aj 0 0 kE) oe k (mk kE [.v (ci (yA x)),.v (I (wI (i+1)))] M0) Ah else au ΓK6 prog L0 (aj 0 0 kE) oe k (mk kE [.v (ci (xK x)),.v (I (wI (i+1)))] M0) Ah)
 else some (.exit 0,mk qV [.v (ci x)] M0):=by kernel_rfl
def Jq (vals:List SV) (m:Mem):Option (Bool×Ex×St) :=
 match vals,m with
 | [.v (.int .u32 x),.v (.int .i64 i)],⟨[],[],[]⟩=>some (i==0&&fj x,.exit 0,mk qV [.v (ci (jp x))] M0)
 | _,_=>none
def ΛStep32:bg:=fun _ st=>dg 0 0 kE Jq st
theorem qb6 (z:Base) (z1:z.L.length=0) (z2:z.U.length=0):a9 ΛStep32 prog z oe:=by
 refine d9 (Λ:=L0) (kx:=fun _=>qV) IQ mixed z1 z2 (fun b hb=>by rw [qbl] at hb;cases hb) (G:=Jq) (fun _=>rfl) ?_
 intro vals m e st' h
 unfold Jq at h
 split at h
 ·rename_i x i
  obtain ⟨h1,rfl,rfl⟩:=an h
  simp only [Bool.and_eq_true,beq_iff_eq] at h1
  obtain ⟨rfl,h1⟩:=h1
  obtain ⟨n,rfl,hn⟩:=xB h1
  exact ⟨9,za (fun k x i=>au ΓK6 prog L0 (aj 0 0 kE) oe k (mk kE [.v (ci x),.v (I i)] M0) Ah) (fun x=>some (.exit 0,mk qV [.v (ci x)] M0)) (fun x=>zc x) yA xK n32 4294967296 (fun n=>Cs) TX T4 8 n (Nat.le_refl 8) hn⟩
 ·cases h
theorem VX (x:Int):runG ΓK6 ΛStep32 prog f203 [.v (ci x)] M0=bif (0:Int)==0&&fj x then some (.v (ci (jp x)),M0) else none:=by kernel_rfl
def DX (vs:List Value):Option (Bool×Value) :=
 match vs with
 | [.int .u32 x]=>some (fj x,ci (jp x))
 | _=>none
theorem qdF:am 203 DX:=by
 intro vs r h
 unfold DX at h
 split at h
 ·rename_i x
  obtain ⟨h1,rfl⟩:=ab h
  refine ak (vs:=[ci x]) (Λ:=ΛStep32) (m':=M0) IQ func203 rfl (fun z z1 z2=>bX (c:=f203.body.getD .skip) qbm (qb6 z z1 z2)) ?_
  exact (VX x).trans (by rw [h1];rfl)
 ·cases h
def ΓK7:Orc:=ah 203 DX ΓK6
theorem IP:ΓK7.Ok prog:=ac IQ qdF
def sx:List Bool:=aE 20 [0,3,6,7]
def qU:List Bool:=aE 20 [3]
def qx:Code:=cH (f247.body.getD .skip) 0
theorem qbk:aL (f247.body.getD .skip)=[qx]:=by kernel_rfl
theorem qbj:aL qx=[]:=by kernel_rfl
def JR (e:Ex) (st:St):Option (Ex×St):=some (e,aj 0 0 qU st)
def Jh (s:ByteArray) (x i:Int):St:=mk sx [.v (S s),.v (ci x),.v (I (s.size:Int)),.v (I i)] M0
theorem T3 (s:ByteArray) (k:Nat) (x i:Int):au ΓK7 prog L0 (aj 0 0 sx) qx (k+1) (Jh s x i) JR =
 bif decide (i<(s.size:Int)) then (bif decide (0<=i)&&decide (i<(s.size:Int)) then (bif fj (ij s x i) then au ΓK7 prog L0 (aj 0 0 sx) qx k (Jh s (jp (ij s x i)) (wI (i+1))) JR else none) else none)
 else some (.exit 0,mk qU [.v (ci x)] M0):=by kernel_rfl
def Jp (vals:List SV) (m:Mem):Option (Bool×Ex×St) :=
 match vals,m with
 | [.v (.string s),.v (.int .u32 x),.v (.int .i64 n),.v (.int .i64 i)],⟨[],[],[]⟩=>some (n==(s.size:Int)&&(i==0&&(fj x&&bm s)),.exit 0,mk qU [.v (ci (zN x s))] M0)
 | _,_=>none
def ΛSum32:bg:=fun _ st=>dg 0 0 sx Jp st
theorem qb5 (z:Base) (z1:z.L.length=0) (z2:z.U.length=0):a9 ΛSum32 prog z qx:=by
 refine d9 (Λ:=L0) (kx:=fun _=>qU) IP mixed z1 z2 (fun b hb=>by rw [qbj] at hb;cases hb) (G:=Jp) (fun _=>rfl) ?_
 intro vals m e st' h
 unfold Jp at h
 split at h
 ·rename_i s x n i
  obtain ⟨h1,rfl,rfl⟩:=an h
  simp only [Bool.and_eq_true,beq_iff_eq] at h1
  obtain ⟨rfl,rfl,h1,h4⟩:=h1
  obtain ⟨n,rfl,hn⟩:=xB h1
  exact ⟨s.size+1,rU s (Nat.le_of_ble_eq_true h4) (fun k x i=>au ΓK7 prog L0 (aj 0 0 sx) qx k (Jh s x i) JR) (fun x=>some (.exit 0,mk qU [.v (ci x)] M0)) (fun x i=>fj (ij s x i)) (fun x i=>jp (ij s x i)) p32 4294967296 (fun n b=>Cg b) (NO s) (T3 s) s.size 0 n (by omega) hn⟩
 ·cases h
theorem VT (s:ByteArray):runG ΓK7 ΛSum32 prog f247 [.v (S s)] M0=bif (s.size:Int)==(s.size:Int)&&((0:Int)==0&&(fj 4294967295&&bm s)) then some (.v (ci (yO s)),M0) else none:=by kernel_rfl
def DT (vs:List Value):Option (Bool×Value) :=
 match vs with
 | [.string s]=>some (bm s,(ci (hZ s)))
 | _=>none
theorem qdD:am 247 DT:=by
 intro vs r h
 unfold DT at h
 split at h
 ·rename_i s
  obtain ⟨h1,rfl⟩:=ab h
  refine ak (vs:=[S s]) (Λ:=ΛSum32) (m':=M0) IP func247 rfl (fun z z1 z2=>bX (c:=f247.body.getD .skip) qbk (qb5 z z1 z2)) ?_
  exact (VT s).trans (by rw [h1,beq_self_eq_true,OE];rfl)
 ·cases h
def ΓK8:Orc:=ah 247 DT ΓK7
theorem IO:ΓK8.Ok prog:=ac IP qdD
def sA:List Bool:=aE 20 [0,3,4]
def qX:List Bool:=aE 20 [3]
def qy:Code:=cH (f131.body.getD .skip) 0
theorem qbA:aL (f131.body.getD .skip)=[qy]:=by kernel_rfl
theorem qbz:aL qy=[]:=by kernel_rfl
def JW (e:Ex) (st:St):Option (Ex×St):=some (e,aj 0 0 qX st)
def Ji (s:ByteArray) (x i:Int):St:=mk sA [.v (S s),.v (ci x),.v (I i)] M0
theorem Ua (s:ByteArray) (k:Nat) (x i:Int):au ΓK8 prog L0 (aj 0 0 sA) qy (k+1) (Ji s x i) JW =
 bif decide (i<(s.size:Int)) then (bif decide (0<=i)&&decide (i<(s.size:Int)) then (bif fj (ij s x i) then au ΓK8 prog L0 (aj 0 0 sA) qy k (Ji s (jp (ij s x i)) (wI (i+1))) JW else none) else none)
 else some (.exit 0,mk qX [.v (ci x)] M0):=by kernel_rfl
def JC (vals:List SV) (m:Mem):Option (Bool×Ex×St) :=
 match vals,m with
 | [.v (.string s),.v (.int .u32 x),.v (.int .i64 i)],⟨[],[],[]⟩=>some (i==0&&(fj x&&bm s),.exit 0,mk qX [.v (ci (zN x s))] M0)
 | _,_=>none
def ΛRSum32:bg:=fun _ st=>dg 0 0 sA JC st
theorem qcf (z:Base) (z1:z.L.length=0) (z2:z.U.length=0):a9 ΛRSum32 prog z qy:=by
 refine d9 (Λ:=L0) (kx:=fun _=>qX) IO mixed z1 z2 (fun b hb=>by rw [qbz] at hb;cases hb) (G:=JC) (fun _=>rfl) ?_
 intro vals m e st' h
 unfold JC at h
 split at h
 ·rename_i s x i
  obtain ⟨h1,rfl,rfl⟩:=an h
  simp only [Bool.and_eq_true,beq_iff_eq] at h1
  obtain ⟨rfl,h1,h4⟩:=h1
  obtain ⟨n,rfl,hn⟩:=xB h1
  exact ⟨s.size+1,rU s (Nat.le_of_ble_eq_true h4) (fun k x i=>au ΓK8 prog L0 (aj 0 0 sA) qy k (Ji s x i) JW) (fun x=>some (.exit 0,mk qX [.v (ci x)] M0)) (fun x i=>fj (ij s x i)) (fun x i=>jp (ij s x i)) p32 4294967296 (fun n b=>Cg b) (NO s) (Ua s) s.size 0 n (by omega) hn⟩
 ·cases h
theorem W2 (s:ByteArray):runG ΓK8 ΛRSum32 prog f131 [.v (S s)] M0=bif (0:Int)==0&&(fj 4294967295&&bm s) then some (.v (ci (yO s)),M0) else none:=by kernel_rfl
def EI (vs:List Value):Option (Bool×Value) :=
 match vs with
 | [.string s]=>some (bm s,(ci (hZ s)))
 | _=>none
theorem qeh:am 131 EI:=by
 intro vs r h
 unfold EI at h
 split at h
 ·rename_i s
  obtain ⟨h1,rfl⟩:=ab h
  refine ak (vs:=[S s]) (Λ:=ΛRSum32) (m':=M0) IO func131 rfl (fun z z1 z2=>bX (c:=f131.body.getD .skip) qbA (qcf z z1 z2)) ?_
  exact (W2 s).trans (by rw [h1,OE];rfl)
 ·cases h
def ΓK9:Orc:=ah 131 EI ΓK8
theorem qjP:ΓK9.Ok prog:=ac IO qeh
def ΓK:Orc:=ΓK9
theorem z7:ΓK.Ok prog:=qjP
end Go.Proofs.YtainfdcfkgemhaaGreat
namespace Go.Proofs.YtainfdcfkgemhaaGreat
open Go Go.Proofs Go.Sx
abbrev L (s:ByteArray):List UInt8:=s.data.toList
theorem f9 {a b:ByteArray}:L a=L b↔a=b:=by
 constructor
 ·intro h
  exact ByteArray.ext (Array.toList_inj.1 h)
 ·rintro rfl;rfl
theorem fw (s:ByteArray):(L s).length=s.size:=by simp [L]
theorem dC (a b:ByteArray):L (a++b)=L a++L b:=by simp [L,ByteArray.data_append]
theorem ga (s:ByteArray) (a b:Nat):L (s.extract a b)=((L s).drop a).take (b - a):=by
 simp [L,ByteArray.data_extract,List.extract_eq_take_drop]
theorem uz (xs:List Int):L (strOfNums xs)=xs.map fun n=>UInt8.ofNat n.toNat:=rfl
theorem ji (a b:ByteArray):(a==b)=true↔a=b:=by
 show ((a.data==b.data)=true)↔a=b
 rw [beq_iff_eq]
 exact ByteArray.ext_iff.symm
theorem PU (a b:ByteArray):(a==b)=(L a==L b):=by
 rw [Bool.eq_iff_iff,ji]
 simp only [beq_iff_eq,f9]
theorem HK (a b:ByteArray):(a.toList==b.toList)=(L a==L b):=by rw [ByteArray.toList_eq,ByteArray.toList_eq]
theorem oq (a b:ByteArray):(a.toList==b.toList)=(a==b):=by rw [HK,PU]
theorem ek (s:ByteArray) (k:Nat):aa s (k:Int)=(((L s)[k]?.map fun b=>(b.toNat:Int)).getD 0):=by
 cases h:(L s)[k]? with
 | some b =>
  have h':s.data[k]?=some b:=by simpa [L] using h
  rw [vF h']
  rfl
 | none =>
  unfold aa
  rw [Int.toNat_natCast]
  have hk:s.size<=k:=by
   rw [<- fw]
   simpa using h
  have:s[k]?=none:=by rw [getElem?_neg];omega
  rw [this]
  rfl
theorem yT (s:ByteArray):s.extract 0 s.size=s:=by
 rw [<- f9,ga,List.drop_zero,List.take_of_length_le (by rw [fw];omega)]
theorem OO {s t:ByteArray} {a b:Nat} (h:b<=s.size):(s++t).extract a b=s.extract a b:=by
 rw [<- f9,ga,ga,dC]
 rcases Nat.lt_or_ge a b with h1|h1
 ·rw [List.drop_append_of_le_length (by rw [fw];omega),List.take_append_of_le_length (by simp only [List.length_drop,fw];omega)]
 ·rw [show b - a=0 by omega]
  simp
theorem HU (a b c:ByteArray):(a++b)++c=a++(b++c):=by
 rw [<- f9]
 simp only [dC,List.append_assoc]
theorem AF (n:Nat):IntKind.u8.wrap (n:Int)=((n % 256:Nat):Int):=by
 rw [<- cE true];simp only [wr];omega
def rz (x:Int):ByteArray:=strOfNums [IntKind.u8.wrap (x.fdiv (2 ^ min (Int.toNat 8) IntKind.u16.bits)),IntKind.u8.wrap x]
def fG (s:ByteArray):ByteArray:=rz (lp 65535 s)
def cR (k:Int) (p:ByteArray):ByteArray:=strOfNums [IntKind.u8.wrap k,IntKind.u8.wrap (p.size:Int)]++p
def mark:ByteArray:=⟨#[165,90]⟩
def cj (k:Int) (p:ByteArray):ByteArray:=(mark++cR k p)++fG (cR k p)
def d6 (k:Int) (p:ByteArray):Bool:=decide (k>=0)&&(decide (k<=255)&&decide ((p.size:Int)<=64))
def printB (k:Int) (p:ByteArray):ByteArray:=bif d6 k p then cj k p else ⟨#[]⟩
theorem Bg (x:Int):(rz x).size=2:=by simp [rz,strOfNums_size]
theorem HI (k:Int) (p:ByteArray):(cR k p).size=p.size+2:=by
 unfold cR
 rw [ByteArray.size_append,strOfNums_size]
 simp only [List.length_cons,List.length_nil]
 omega
theorem L5 (k:Int) (p:ByteArray):(cj k p).size=p.size+6:=by
 unfold cj fG
 rw [ByteArray.size_append,ByteArray.size_append,HI,Bg]
 show 2+_+2=_
 omega
def cX (s:ByteArray):Bool:=(decide ((s.size:Int)>0)&&aa s 0 != 165)||((decide ((s.size:Int)>1)&&aa s 1 != 90)||(decide ((s.size:Int)>3)&&decide (aa s 3>64)))
def aY (s:ByteArray):Int:=6+aa s 3
def fa (s:ByteArray):Bool:=decide ((s.size:Int)<4)||decide ((s.size:Int)<aY s)
def eL (s:ByteArray):Int:=aa s 2
def eJ (s:ByteArray):ByteArray:=s.extract 4 (aY s - 2).toNat
def okB (s:ByteArray):Bool:=cj (eL s) (eJ s)==s.extract 0 (aY s).toNat
def aU (s:ByteArray):Int:=bif cX s then 3 else bif fa s then 5 else bif okB s then 0 else 4
def eG (s:ByteArray):Int:=bif aU s==0 then eL s else 0
def aG (s:ByteArray):ByteArray:=bif aU s==0 then eJ s else ⟨#[]⟩
def bJ (s:ByteArray):Int:=bif aU s==0 then aY s else 0
theorem dV (s:ByteArray) (k:Nat):0<=aa s (k:Int)/\aa s (k:Int)<256:=by
 rw [ek]
 cases (L s)[k]? with
 | none=>simp
 | some b=>have:=dM b;simp;omega
theorem sn (s:ByteArray):6<=aY s/\aY s<262:=by
 have:=dV s 3
 unfold aY
 rw [show (3:Int)=((3:Nat):Int) from rfl]
 omega
theorem ww (s:ByteArray):(aU s=3/\cX s=true)\/(aU s=5/\cX s=false/\fa s=true)\/(aU s=0/\cX s=false/\fa s=false/\okB s=true)\/(aU s=4/\cX s=false/\fa s=false/\okB s=false):=by
 unfold aU
 cases cX s<;>cases fa s<;>cases okB s<;>simp
theorem wW {s:ByteArray} (h:fa s=false):4<=s.size/\(aY s).toNat<=s.size/\6<=(aY s).toNat:=by
 unfold fa at h
 simp only [Bool.or_eq_false_iff,decide_eq_false_iff_not] at h
 have:=sn s
 omega
theorem lT {s:ByteArray} (h:aU s=0):(bJ s).toNat<=s.size/\6<=(bJ s).toNat/\bJ s=((bJ s).toNat:Int)/\eG s=eL s/\aG s=eJ s/\bJ s=aY s/\(aG s).size+6=(bJ s).toNat/\(aG s).size<=64/\0<=eG s/\eG s<=255/\cX s=false/\fa s=false/\okB s=true:=by
 rcases ww s with ⟨h1,h2⟩|⟨h1,h2,h3⟩|⟨h1,h2,h3,h4⟩|⟨h1,h2,h3,h4⟩
 ·omega
 ·omega
 ·obtain ⟨g1,g2,g3⟩:=wW h3
  have e1:bJ s=aY s:=by unfold bJ;rw [h];rfl
  have e2:eG s=eL s:=by unfold eG;rw [h];rfl
  have e3:aG s=eJ s:=by unfold aG;rw [h];rfl
  have hl:=sn s
  have hb:=h2
  unfold cX at hb
  simp only [Bool.or_eq_false_iff,Bool.and_eq_false_iff,decide_eq_false_iff_not] at hb
  have h64:aa s 3<=64:=by omega
  have hp:(aG s).size+6=(aY s).toNat:=by
   rw [e3]
   unfold eJ
   rw [ByteArray.size_extract]
   omega
  have hk:=dV s 2
  refine ⟨by rw [e1];exact g2,by rw [e1];exact g3,by rw [e1];omega,e2,e3,e1,by rw [e1];exact hp,?_,?_,?_,h2,h3,h4⟩
  ·unfold aY at hp
   omega
  ·rw [e2];exact hk.1
  ·rw [e2];unfold eL;have:=hk.2;rw [show (2:Int)=((2:Nat):Int) from rfl];omega
 ·omega
theorem qag {s:ByteArray} (h:aU s=5):s.size<70:=by
 rcases ww s with ⟨h1,h2⟩|⟨h1,h2,h3⟩|⟨h1,h2,h3,h4⟩|⟨h1,h2,h3,h4⟩
 ·omega
 ·unfold fa at h3
  unfold cX at h2
  simp only [Bool.or_eq_true,decide_eq_true_eq,Bool.or_eq_false_iff,Bool.and_eq_false_iff,decide_eq_false_iff_not] at h2 h3
  unfold aY at h3
  omega
 ·omega
 ·omega
theorem qai:aU ⟨#[]⟩=5:=by rfl
theorem pz {s:ByteArray} (h:aU s≠5):0<s.size:=by
 apply Classical.byContradiction
 intro hn
 have:s=⟨#[]⟩:=by
  rw [<- f9]
  have:(L s).length=0:=by rw [fw];omega
  exact List.eq_nil_of_length_eq_zero this
 rw [this] at h
 exact h qai
end Go.Proofs.YtainfdcfkgemhaaGreat
namespace Go.Proofs.YtainfdcfkgemhaaGreat
open Go Go.Proofs Go.Sx
set_option linter.unusedVariables false
def f8 (x:Int):Value:=.int .u64 x
theorem bV (c:Code) (z:Base):∀ b∈aL c,a9 L0 prog z b:=fun b _ st t h=>by cases h
def p8 (n:Nat) (b:UInt8):Nat:=n*256 % 18446744073709551616+b.toNat
theorem qaF (n:Nat) (b:UInt8) (_:n<18446744073709551616):p8 n b<18446744073709551616:=by
 have:=dM b
 unfold p8
 omega
def numN (s:ByteArray):Nat:=s.data.toList.foldl p8 0
theorem AG (n:Nat):IntKind.u64.wrap (n:Int)=((n % 18446744073709551616:Nat):Int):=by
 rw [<- cE true];simp only [wr];omega
theorem Ku:(2:Nat) ^ 64=18446744073709551616:=by decide
theorem orB (w a b:Nat) (ha:a<2 ^ w) (hb:b<2 ^ w):(((BitVec.ofInt w (a:Int) ||| BitVec.ofInt w (b:Int)).toNat:Nat):Int)=((Nat.lor a b:Nat):Int):=by
 rw [BitVec.toNat_or,BitVec.ofInt_natCast,BitVec.ofInt_natCast,BitVec.toNat_ofNat,BitVec.toNat_ofNat,Nat.mod_eq_of_lt ha,Nat.mod_eq_of_lt hb]
 rfl
def zJ (s:ByteArray) (x i:Int):Int:=IntKind.u64.wrap (((BitVec.ofInt 64 (IntKind.u64.wrap (x*2 ^ min (Int.toNat 8) 64)) ||| BitVec.ofInt 64 (IntKind.u64.wrap (aa s i))).toNat:Nat):Int)
theorem qid {s:ByteArray} {n k:Nat} {b:UInt8} (hb:s.data[k]?=some b):zJ s n k=((p8 n b:Nat):Int):=by
 have h:=dM b
 unfold zJ p8
 have e:(n:Int)*2 ^ min (Int.toNat 8) 64=((n*256:Nat):Int):=by
  rw [show min (Int.toNat 8) 64=8 from rfl];omega
 rw [e,AG (n*256),vF hb,AG b.toNat,Nat.mod_eq_of_lt (show b.toNat<18446744073709551616 by omega),orB 64 _ _ (by rw [Ku];exact Nat.mod_lt _ (by decide)) (by rw [Ku];omega)]
 have e2:Nat.lor (n*256 % 18446744073709551616) b.toNat=n*256 % 18446744073709551616+b.toNat:=by
  have e3:n*256 % 18446744073709551616=2 ^ 8*(n % 72057594037927936):=by
   rw [show (2:Nat) ^ 8=256 from rfl];omega
  rw [e3]
  exact (Nat.two_pow_add_eq_or_of_lt (show b.toNat<2 ^ 8 by rw [show (2:Nat) ^ 8=256 from rfl];exact h) _).symm
 rw [e2,AG,Nat.mod_eq_of_lt (by omega)]
def be (k:Nat) (x:Int):ByteArray:=strOfNums ((List.range k).reverse.map fun i=>x / 256 ^ i % 256)
def sC:List Bool:=aE 19 [0,3,6,7]
def qZ:List Bool:=aE 19 [3]
def qA:Code:=cH (f163.body.getD .skip) 0
theorem qbE:aL (f163.body.getD .skip)=[qA]:=by kernel_rfl
theorem qbD:aL qA=[]:=by kernel_rfl
def JY (e:Ex) (st:St):Option (Ex×St):=some (e,aj 0 0 qZ st)
def Jk (s:ByteArray) (x i:Int):St:=mk sC [.v (S s),.v (f8 x),.v (I (s.size:Int)),.v (I i)] M0
theorem Uc (s:ByteArray) (k:Nat) (x i:Int):au ΓK prog L0 (aj 0 0 sC) qA (k+1) (Jk s x i) JY =
 bif decide (i<(s.size:Int)) then (bif decide (0<=i)&&decide (i<(s.size:Int)) then au ΓK prog L0 (aj 0 0 sC) qA k (Jk s (zJ s x i) (wI (i+1))) JY else none)
 else some (.exit 0,mk qZ [.v (f8 x)] M0):=by kernel_rfl
def JE (vals:List SV) (m:Mem):Option (Bool×Ex×St) :=
 match vals,m with
 | [.v (.string s),.v (.int .u64 x),.v (.int .i64 n),.v (.int .i64 i)],⟨[],[],[]⟩=>some (n==(s.size:Int)&&(i==0&&(x==0&&bm s)),.exit 0,mk qZ [.v (f8 ((numN s:Nat):Int))] M0)
 | _,_=>none
def ΛNumber:bg:=fun _ st=>dg 0 0 sC JE st
theorem qch (z:Base) (z1:z.L.length=0) (z2:z.U.length=0):a9 ΛNumber prog z qA:=by
 refine d9 (Λ:=L0) (kx:=fun _=>qZ) z7 mixed z1 z2 (fun b hb=>by rw [qbD] at hb;cases hb) (G:=JE) (fun _=>rfl) ?_
 intro vals m e st' h
 unfold JE at h
 split at h
 ·rename_i s x n i
  obtain ⟨h1,rfl,rfl⟩:=an h
  simp only [Bool.and_eq_true,beq_iff_eq] at h1
  obtain ⟨rfl,rfl,rfl,h4⟩:=h1
  exact ⟨s.size+1,rU s (Nat.le_of_ble_eq_true h4) (fun k x i=>au ΓK prog L0 (aj 0 0 sC) qA k (Jk s x i) JY) (fun x=>some (.exit 0,mk qZ [.v (f8 x)] M0)) (fun _ _=>true) (zJ s) p8 18446744073709551616 qaF (fun n k b _ hb=>⟨rfl,qid hb⟩) (Uc s) s.size 0 0 (by omega) (by omega)⟩
 ·cases h
theorem XG (s:ByteArray):runG ΓK ΛNumber prog f163 [.v (S s)] M0=bif (s.size:Int)==(s.size:Int)&&((0:Int)==0&&((0:Int)==0&&bm s)) then some (.v (f8 ((numN s:Nat):Int)),M0) else none:=by kernel_rfl
def E5 (vs:List Value):Option (Bool×Value) :=
 match vs with
 | [.string s]=>some (bm s,f8 ((numN s:Nat):Int))
 | _=>none
theorem qeC:am 163 E5:=by
 intro vs r h
 unfold E5 at h
 split at h
 ·rename_i s
  obtain ⟨h1,rfl⟩:=ab h
  refine ak (vs:=[S s]) (Λ:=ΛNumber) (m':=M0) z7 func163 rfl (fun z z1 z2=>bX (c:=f163.body.getD .skip) qbE (qch z z1 z2)) ?_
  exact (XG s).trans (by rw [h1,beq_self_eq_true];rfl)
 ·cases h
def ΓO1:Orc:=ah 163 E5 ΓK
theorem zW:ΓO1.Ok prog:=ac z7 qeC
theorem Zs (x:Int):runG ΓO1 L0 prog f86 [.v (f8 x),.v (I 1)] M0=some (.v (S (strOfNums [IntKind.u8.wrap (x.fdiv (2 ^ min (Int.toNat 0) 64))])),M0):=by kernel_rfl
theorem Zr (x:Int):runG ΓO1 L0 prog f86 [.v (f8 x),.v (I 2)] M0=some (.v (S (strOfNums [IntKind.u8.wrap (x.fdiv (2 ^ min (Int.toNat 8) 64)),IntKind.u8.wrap (x.fdiv (2 ^ min (Int.toNat 0) 64))])),M0):=by kernel_rfl
theorem Zq (x:Int):runG ΓO1 L0 prog f86 [.v (f8 x),.v (I 4)] M0=some (.v (S (strOfNums [IntKind.u8.wrap (x.fdiv (2 ^ min (Int.toNat 24) 64)),IntKind.u8.wrap (x.fdiv (2 ^ min (Int.toNat 16) 64)),IntKind.u8.wrap (x.fdiv (2 ^ min (Int.toNat 8) 64)),IntKind.u8.wrap (x.fdiv (2 ^ min (Int.toNat 0) 64))])),M0):=by kernel_rfl
theorem oa (x:Int) (j k:Nat) (h:(2:Int) ^ min (Int.toNat (8*k:Nat)) 64=256 ^ k) (hj:j=8*k):IntKind.u8.wrap (x.fdiv (2 ^ min (Int.toNat (j:Nat)) 64))=x / 256 ^ k % 256:=by
 subst hj
 rw [h,Int.fdiv_eq_ediv_of_nonneg _ (Int.le_of_lt (Int.pow_pos (by decide))),<- cE true]
 rfl
theorem be1 (x:Int):strOfNums [IntKind.u8.wrap (x.fdiv (2 ^ min (Int.toNat 0) 64))]=be 1 x:=by
 have e0:=oa x 0 0 (by decide) rfl
 rw [show ((0:Nat):Int)=0 from rfl] at e0
 rw [e0];rfl
theorem be2 (x:Int):strOfNums [IntKind.u8.wrap (x.fdiv (2 ^ min (Int.toNat 8) 64)),IntKind.u8.wrap (x.fdiv (2 ^ min (Int.toNat 0) 64))]=be 2 x:=by
 have e0:=oa x 0 0 (by decide) rfl
 have e1:=oa x 8 1 (by decide) rfl
 rw [show ((0:Nat):Int)=0 from rfl] at e0
 rw [show ((8:Nat):Int)=8 from rfl] at e1
 rw [e0,e1];rfl
theorem be4 (x:Int):strOfNums [IntKind.u8.wrap (x.fdiv (2 ^ min (Int.toNat 24) 64)),IntKind.u8.wrap (x.fdiv (2 ^ min (Int.toNat 16) 64)),IntKind.u8.wrap (x.fdiv (2 ^ min (Int.toNat 8) 64)),IntKind.u8.wrap (x.fdiv (2 ^ min (Int.toNat 0) 64))]=be 4 x:=by
 have e0:=oa x 0 0 (by decide) rfl
 have e1:=oa x 8 1 (by decide) rfl
 have e2:=oa x 16 2 (by decide) rfl
 have e3:=oa x 24 3 (by decide) rfl
 rw [show ((0:Nat):Int)=0 from rfl] at e0
 rw [show ((8:Nat):Int)=8 from rfl] at e1
 rw [show ((16:Nat):Int)=16 from rfl] at e2
 rw [show ((24:Nat):Int)=24 from rfl] at e3
 rw [e0,e1,e2,e3];rfl
def GB (vs:List Value):Option (Bool×Value) :=
 match vs with
 | [.int .u64 x,.int .i64 (.ofNat k)]=>some (Nat.beq k 1||(Nat.beq k 2||Nat.beq k 4),S (be k x))
 | _=>none
theorem qfY:am 86 GB:=by
 intro vs r h
 unfold GB at h
 split at h
 ·rename_i x k
  obtain ⟨h1,rfl⟩:=ab h
  have hk:k=1\/k=2\/k=4:=by
   simp only [Bool.or_eq_true] at h1
   rcases h1 with h1|h1|h1
   ·exact .inl (Nat.eq_of_beq_eq_true h1)
   ·exact .inr (.inl (Nat.eq_of_beq_eq_true h1))
   ·exact .inr (.inr (Nat.eq_of_beq_eq_true h1))
  rcases hk with rfl|rfl|rfl
  ·exact ak (vs:=[f8 x,I 1]) (Λ:=L0) (m':=M0) zW func86 rfl (fun z _ _=>bV _ z) ((Zs x).trans (by rw [be1]))
  ·exact ak (vs:=[f8 x,I 2]) (Λ:=L0) (m':=M0) zW func86 rfl (fun z _ _=>bV _ z) ((Zr x).trans (by rw [be2]))
  ·exact ak (vs:=[f8 x,I 4]) (Λ:=L0) (m':=M0) zW func86 rfl (fun z _ _=>bV _ z) ((Zq x).trans (by rw [be4]))
 ·cases h
def ΓO:Orc:=ah 86 GB ΓO1
theorem bM:ΓO.Ok prog:=ac zW qfY
end Go.Proofs.YtainfdcfkgemhaaGreat
namespace Go.Proofs.YtainfdcfkgemhaaGreat
open Go Go.Proofs Go.Sx
theorem qaY (a b:List Int):strOfNums (a++b)=strOfNums a++strOfNums b:=by
 rw [<- f9,dC,uz,uz,uz,List.map_append]
theorem ot (k:Nat) (x:Int):(be k x).size=k:=by
 unfold be
 rw [strOfNums_size]
 simp
theorem HM (x:Int):be 1 (IntKind.u64.wrap x)=be 1 x:=by
 have e:∀ j:Int,IntKind.u64.wrap j=j % 18446744073709551616:=fun j=>by rw [<- cE true];rfl
 show strOfNums [_]=strOfNums [_]
 rw [e]
 congr 2
 show x % 18446744073709551616 / 256 ^ 0 % 256=x / 256 ^ 0 % 256
 omega
theorem qhJ (x:Int):be 2 (IntKind.u64.wrap x)=be 2 x:=by
 have e:∀ j:Int,IntKind.u64.wrap j=j % 18446744073709551616:=fun j=>by rw [<- cE true];rfl
 have h0:x % 18446744073709551616 / 256 ^ 0 % 256=x / 256 ^ 0 % 256:=by omega
 have h1:x % 18446744073709551616 / 256 ^ 1 % 256=x / 256 ^ 1 % 256:=by omega
 show strOfNums [_ / 256 ^ 1 % 256,_ / 256 ^ 0 % 256]=strOfNums [_ / 256 ^ 1 % 256,_ / 256 ^ 0 % 256]
 rw [e,h0,h1]
theorem zx (x:Int):be 4 (IntKind.u64.wrap x)=be 4 x:=by
 have e:∀ j:Int,IntKind.u64.wrap j=j % 18446744073709551616:=fun j=>by rw [<- cE true];rfl
 have h0:x % 18446744073709551616 / 256 ^ 0 % 256=x / 256 ^ 0 % 256:=by omega
 have h1:x % 18446744073709551616 / 256 ^ 1 % 256=x / 256 ^ 1 % 256:=by omega
 have h2:x % 18446744073709551616 / 256 ^ 2 % 256=x / 256 ^ 2 % 256:=by omega
 have h3:x % 18446744073709551616 / 256 ^ 3 % 256=x / 256 ^ 3 % 256:=by omega
 show strOfNums [_ / 256 ^ 3 % 256,_ / 256 ^ 2 % 256,_ / 256 ^ 1 % 256,_ / 256 ^ 0 % 256]=strOfNums [_ / 256 ^ 3 % 256,_ / 256 ^ 2 % 256,_ / 256 ^ 1 % 256,_ / 256 ^ 0 % 256]
 rw [e,h0,h1,h2,h3]
theorem GX {s:ByteArray} {i:Nat} (h:i+4<=s.size):∃ b0 b1 b2 b3:UInt8,L (s.extract i (i+4))=[b0,b1,b2,b3]/\aa s (i:Int)=(b0.toNat:Int)/\aa s ((i+1:Nat):Int)=(b1.toNat:Int)/\aa s ((i+2:Nat):Int)=(b2.toNat:Int)/\aa s ((i+3:Nat):Int)=(b3.toNat:Int):=by
 have hl:=fw s
 have hd:∃ b0 b1 b2 b3 r,(L s).drop i=b0::b1::b2::b3::r:=by
  have:4<=((L s).drop i).length:=by rw [List.length_drop];omega
  match hq:(L s).drop i,this with
  | b0::b1::b2::b3::r,_=>exact ⟨b0,b1,b2,b3,r,rfl⟩
 obtain ⟨b0,b1,b2,b3,r,hd⟩:=hd
 have g:∀ j,(L s)[i+j]?=((L s).drop i)[j]?:=fun j=>by rw [List.getElem?_drop]
 refine ⟨b0,b1,b2,b3,?_,?_,?_,?_,?_⟩
 ·rw [ga,hd,show i+4 - i=4 by omega];rfl
 ·have:=g 0
  rw [hd] at this
  rw [ek,show i=i+0 from rfl,this];rfl
 ·have:=g 1
  rw [hd] at this
  rw [ek,this];rfl
 ·have:=g 2
  rw [hd] at this
  rw [ek,this];rfl
 ·have:=g 3
  rw [hd] at this
  rw [ek,this];rfl
theorem wU {s:ByteArray} {b0 b1 b2 b3:UInt8} (h:L s=[b0,b1,b2,b3]):((numN s:Nat):Int)=(b0.toNat:Int)*16777216+(b1.toNat:Int)*65536+(b2.toNat:Int)*256+(b3.toNat:Int):=by
 have h0:=dM b0
 have h1:=dM b1
 have h2:=dM b2
 have h3:=dM b3
 unfold numN
 rw [show s.data.toList=[b0,b1,b2,b3] from h]
 simp only [List.foldl_cons,List.foldl_nil,p8]
 omega
theorem Mx {s:ByteArray} {i:Nat} (h:i+4<=s.size):((numN (s.extract i (i+4)):Nat):Int)=aa s (i:Int)*16777216+aa s ((i+1:Nat):Int)*65536+aa s ((i+2:Nat):Int)*256+aa s ((i+3:Nat):Int):=by
 obtain ⟨b0,b1,b2,b3,hb,e0,e1,e2,e3⟩:=GX h
 rw [wU hb,e0,e1,e2,e3]
theorem tM (b:UInt8) (x:Int) (h:x=(b.toNat:Int)):UInt8.ofNat x.toNat=b:=by
 subst h
 rw [Int.toNat_natCast]
 exact UInt8.ofNat_toNat
theorem Sq (x:Int):L (be 4 x)=[UInt8.ofNat (x / 256 ^ 3 % 256).toNat,UInt8.ofNat (x / 256 ^ 2 % 256).toNat,UInt8.ofNat (x / 256 ^ 1 % 256).toNat,UInt8.ofNat (x / 256 ^ 0 % 256).toNat]:=rfl
theorem qj9 (x:Int):L (be 1 x)=[UInt8.ofNat (x / 256 ^ 0 % 256).toNat]:=rfl
theorem rA {x:Int} (h0:0<=x) (h:x<256):(((UInt8.ofNat x.toNat).toNat:Nat):Int)=x:=by
 rw [UInt8.toNat_ofNat',Nat.mod_eq_of_lt (by omega)]
 omega
theorem qaZ (x:Int):((numN (be 4 x):Nat):Int)=x % 4294967296:=by
 rw [wU (Sq x),rA (by omega) (by omega),rA (by omega) (by omega),rA (by omega) (by omega),rA (by omega) (by omega)]
 omega
theorem qhK {s:ByteArray} (h:s.size=4) (x:Int) (hx:x % 4294967296=((numN s:Nat):Int)):be 4 x=s:=by
 have he:=GX (s:=s) (i:=0) (by omega)
 obtain ⟨b0,b1,b2,b3,hb,_⟩:=he
 rw [show (0+4:Nat)=s.size by omega,yT] at hb
 have hn:=wU hb
 have h0:=dM b0
 have h1:=dM b1
 have h2:=dM b2
 have h3:=dM b3
 rw [<- f9,hb,Sq,tM b0 _ (by omega),tM b1 _ (by omega),tM b2 _ (by omega),tM b3 _ (by omega)]
end Go.Proofs.YtainfdcfkgemhaaGreat
namespace Go.Proofs.YtainfdcfkgemhaaGreat
open Go Go.Proofs Go.Sx
set_option linter.unusedVariables false
def gD (d st m:Int) (a b:List Int):List Value:=.int .u32 d::.int .i32 st::.int .u32 0::.int .i64 m::(a.map (.int .u16)++b.map (.int .u32))
def gb:List Int:=List.replicate 256 0
def nb:List Int:=(List.range 256).map fun i=>((N16 (i*256):Nat):Int)
def na:List Int:=(List.range 256).map fun i=>((N32 i:Nat):Int)
def zu (d st m:Int) (a b:List Int):Mem:=⟨[(gD d st m a b).map .v],[true],[]⟩
theorem SR:∀ f xs m r m',zG 366 .i64 f xs m=some (true,r,m')->bB prog f xs m r m':=qia func366 (by kernel_rfl) (by kernel_rfl) (by kernel_rfl) (by kernel_rfl)
def Γf0:Orc:=qK (zG 366 .i64) ΓK
theorem Okf0:Γf0.Ok prog:=zH z7 SR
def Γfi:Orc:=qf prog Γf0.call Γf0.rd Γf0.eqv (fun _=>false) 300 1
theorem Okfi:Γfi.Ok prog:=G6 mixed names (ext:=Γf0.call) (rd:=Γf0.rd) (eqv:=Γf0.eqv) ⟨Okf0.call,Okf0.rd,Okf0.eqv⟩ 300 1
theorem YA:runG Γfi (cM Γfi prog 300 1) prog f315 [.ptr 0 0] (zu 0 1 0 gb gb)=some (.v (.tuple #[]),zu 0 1 1 nb na):=by kernel_rfl
theorem qgr:bB prog 315 [.ptr 0 0] (zu 0 1 0 gb gb) (.v (.tuple #[])) (zu 0 1 1 nb na) :=
 af Okfi func315 rfl (fun z _ _ b _=>du Okfi mixed 300 1 b) YA
end Go.Proofs.YtainfdcfkgemhaaGreat
namespace Go.Proofs.YtainfdcfkgemhaaGreat
open Go Go.Proofs Go.Sx Go.RowKit
set_option linter.unusedVariables false
structure One (b:Nat) (w w':World):Prop where
 os:w'.os=w.os
 tape:w'.tape=w.tape
 output:w'.output=w.output
 size:w.heap.size<=w'.heap.size
 block:∀ k,k≠b->k<w.heap.size->w'.heap[k]?=w.heap[k]?
 froz:∀ p,p.block<w.heap.size->w'.frozen? p=w.frozen? p
theorem One.trans {b:Nat} {w w1 w2:World} (h:One b w w1) (k:One b w1 w2):One b w w2 :=
 ⟨k.os.trans h.os,k.tape.trans h.tape,k.output.trans h.output,Nat.le_trans h.size k.size,fun j hj hl=>(k.block j hj (Nat.lt_of_lt_of_le hl h.size)).trans (h.block j hj hl),fun p hp=>(k.froz p (Nat.lt_of_lt_of_le hp h.size)).trans (h.froz p hp)⟩
theorem One.setCell (b n:Nat) (x:Value) (w:World):One b w (w.setCell ⟨b,n,none⟩ x) :=
 ⟨rfl,rfl,rfl,by simp,fun k hk _=>Below.heap_setCell _ _ _ _ hk,fun p _=>World.frozen?_setCell _ _ _ _⟩
theorem One.drew (b:Nat) (w:World):One b w w.drew:=⟨rfl,rfl,rfl,Nat.le_refl _,fun _ _ _=>rfl,fun _ _=>rfl⟩
def At (w:World) (b o:Nat) (cs:List Value):Prop:=∀ (j:Nat) x,cs[j]?=some x->w.cell? ⟨b,o+j,none⟩=some x/\w.frozen? ⟨b,o+j,none⟩=false
theorem At.set {w:World} {b o:Nat} {cs:List Value} (h:At w b o cs) {n:Nat} {x:Value} (hn:n<cs.length):At (w.setCell ⟨b,o+n,none⟩ x) b o (cs.set n x):=by
 intro j y hy
 rw [World.frozen?_setCell]
 rw [List.getElem?_set] at hy
 by_cases hj:n=j
 ·subst hj
  simp [hn] at hy
  subst hy
  have h1:=h n cs[n] (by simp [hn])
  exact ⟨World.cell?_setCell_same _ _ _ h1.1,h1.2⟩
 ·simp only [if_neg hj] at hy
  have h1:=h j y hy
  exact ⟨by rw [World.cell?_setCell_other _ _ _ _ (fun e=>by injection e with _ e;omega)];exact h1.1,h1.2⟩
theorem qhi {f:FuncId} {cs cs':List Value} {r:Value} (h:bB prog f [.ptr 0 0] ⟨[cs.map .v],[true],[]⟩ (.v r) ⟨[cs'.map .v],[true],[]⟩) {w:World} {b o:Nat} (hb:b<w.heap.size) (ha:At w b o cs)
  (he:(callFunc f #[.pointer (some ⟨b,o,none⟩)]).run prog w=.ok (.enter f #[.pointer (some ⟨b,o,none⟩)]) w) :
  Calls prog f #[.pointer (some ⟨b,o,none⟩)] w fun e w'=>e=.returned r/\One b w w'/\At w' b o cs':=by
 let z:Base:=⟨w,[(b,o)],[],[],fun _=>False⟩
 let V:Vl:=⟨fun i=>if i=0 then some (b,o) else none,fun _=>none,fun _=>none⟩
 have vb:∀ l q,V.b l=some q->l=0/\q=(b,o):=by
  intro l q hq
  simp only [V] at hq
  split at hq
  ·rename_i h0
   exact ⟨h0,(Option.some.inj hq).symm⟩
  ·cases hq
 have hL:Lent z ⟨[cs.map .v],[true],[]⟩ V:=by
  refine { bl:=(rfl:(1:Nat)=1),b:=fun i=>?_,ul:=(rfl:(0:Nat)=0),u:=fun j u hu=>absurd hu (by simp [z]),rl:=fun g=>⟨fun hg=>absurd hg (by simp [z]),?_⟩ }
  ·cases i with
   | zero=>rfl
   | succ i=>simp [V,z]
  ·rintro ⟨j,rc,u,h1,_⟩
   exact absurd h1 (by simp [Sx.rowAt])
 have hM:dB z ⟨[cs.map .v],[true],[]⟩ V z.w:=by
  refine { len:=fun t x hx=>absurd hx (by simp [Tr.get]),tmps:=fun t x hx=>absurd hx (by simp [Tr.get]),defers:=rfl,lens:=rfl,mem:=?_,inj:=?_,own:=?_,lent:=?_,base0:=?_,dom:=?_,lentr:=fun j u hu=>absurd hu (by simp [z]),rows:=fun r rc hr=>absurd hr (by simp [Sx.rowAt]),rowsN:=fun r _=>rfl,apart:=fun r r' rc rc' u u' g h1=>absurd h1 (by simp [Sx.rowAt]),apartb:=fun r rc u g l b' o' h1=>absurd h1 (by simp [Sx.rowAt]),below:=⟨rfl,rfl,rfl,Nat.le_refl _,fun _ _=>rfl⟩,froz:=fun _ _=>rfl,lits:=jr.none fun _=>rfl,sk:=fun _ h=>h.elim,qs:=fun g cs h=>absurd h (by simp [V]) }
  ·intro l b' o' hl cs1 hcs j x hx
   obtain ⟨rfl,hq⟩:=vb l _ hl
   injection hq with e1 e2
   subst e1 e2
   simp at hcs
   subst hcs
   rw [List.getElem?_map] at hx
   cases hv:cs[j]? with
   | none=>rw [hv] at hx;cases hx
   | some v =>
    rw [hv] at hx
    injection hx with hx
    subst hx
    obtain ⟨a1,a2⟩:=ha j v hv
    exact ⟨v,a1,rfl,a2⟩
  ·intro l l' b1 o1 b2 o2 h1 h2 hne
   exact absurd ((vb l _ h1).1.trans (vb l' _ h2).1.symm) hne
  ·intro l b' o' hl
   obtain ⟨rfl,hq⟩:=vb l _ hl
   injection hq with e1 e2
   subst e1 e2
   exact ⟨.inr (by simp [z]),hb⟩
  ·intro l q hq
   cases l with
   | zero=>exact hq
   | succ l=>simp [z] at hq
  ·intro l b' o' hl h0
   obtain ⟨rfl,_⟩:=vb l _ hl
   simp [z] at h0
  ·intro l hl
   obtain ⟨q,hq⟩:=Option.ne_none_iff_exists'.1 hl
   obtain ⟨rfl,_⟩:=vb l q hq
   rfl
 have hA:aF (aH V) [.ptr 0 0] [.pointer (some ⟨b,o,none⟩)]:=⟨⟨b,o,rfl,rfl⟩,trivial⟩
 rcases h z V [.pointer (some ⟨b,o,none⟩)] hL hM hA with ⟨y,w',h1,_⟩|⟨_,h2⟩
 ·rw [show ([.pointer (some ⟨b,o,none⟩)]:List Value).toArray=#[.pointer (some ⟨b,o,none⟩)] from rfl,he] at h1
  cases h1
 ·refine h2.mono fun e w' ⟨y,he,V',hd,hm⟩=>?_
  have hd:y=r:=hd
  subst hd
  have hv0:=hm.lent 0 (b,o) rfl
  refine ⟨he,⟨hm.below.os,hm.below.tape,hm.below.output,hm.below.size,fun k hk hl=>hm.below.block k ⟨hl,fun o' ho=>?_,by simp [z]⟩,fun p hp=>hm.froz p hp⟩,fun j x hx=>?_⟩
  ·simp [z] at ho
   exact hk ho.1
  ·obtain ⟨y',c1,c2,c3⟩:=hm.mem 0 b o hv0 (cs'.map .v) rfl j (.v x) (by rw [List.getElem?_map,hx];rfl)
   have c2:y'=x:=c2
   subst c2
   exact ⟨c1,c3⟩
theorem qba {z:Base} {V:Vl} {cs:List SA} {cs':List Value} {b o:Nat} {w':World} (hl:Lent z ⟨[cs],[true],[]⟩ V) (hm:dB z ⟨[cs],[true],[]⟩ V z.w) (hb:V.b 0=some (b,o)) (hs:One b z.w w') (ha:At w' b o cs') :
  dB z ⟨[cs'.map .v],[true],[]⟩ V w':=by
 have hL0:z.L[0]?=some (b,o):=by rw [<- hl.b];exact hb
 have vb:∀ l q,V.b l=some q->l=0/\q=(b,o):=by
  intro l q hq
  have h1:z.L[l]?=some q:=by rw [<- hl.b];exact hq
  have h2:=(List.getElem?_eq_some_iff.1 h1).1
  have h3:z.L.length=1:=hl.bl
  have:l=0:=by omega
  subst this
  rw [hb] at hq
  injection hq with hq
  exact ⟨rfl,hq.symm⟩
 have hq0:∀ g,V.q g=none:=by
  intro g
  cases hq:V.q g with
  | none=>rfl
  | some cs1 =>
   have h1:=hm.qs g cs1 hq
   have h2:=hm.lits.lt hq
   rcases h1 with h1|h1
   ·exact absurd h2 (by have:z.w.heap.size<=g:=h1;omega)
   ·obtain ⟨j,rc,u,h3,_⟩:=(hl.rl g).1 h1
    exact absurd h3 (by simp [Sx.rowAt])
 refine { hm with lens:=rfl,mem:=?_,own:=?_,rows:=fun r rc hr=>absurd hr (by simp [Sx.rowAt]),dom:=?_,apart:=fun r r' rc rc' u u' g h1=>absurd h1 (by simp [Sx.rowAt]),apartb:=fun r rc u g l b' o' h1=>absurd h1 (by simp [Sx.rowAt]),below:=?_,froz:=?_,lits:=jr.none hq0,rowsN:=fun r hr=>hm.rowsN r hr }
 ·intro l b' o' hl' cs1 hcs j x hx
  obtain ⟨rfl,hq⟩:=vb l _ hl'
  injection hq with e1 e2
  subst e1 e2
  simp at hcs
  subst hcs
  rw [List.getElem?_map] at hx
  cases hv:cs'[j]? with
  | none=>rw [hv] at hx;cases hx
  | some v =>
   rw [hv] at hx
   injection hx with hx
   subst hx
   obtain ⟨a1,a2⟩:=ha j v hv
   exact ⟨v,a1,rfl,a2⟩
 ·intro l b' o' hl'
  obtain ⟨h1,h2⟩:=hm.own l b' o' hl'
  exact ⟨h1,Nat.lt_of_lt_of_le h2 hs.size⟩
 ·intro l hl'
  obtain ⟨q,hq⟩:=Option.ne_none_iff_exists'.1 hl'
  obtain ⟨rfl,_⟩:=vb l q hq
  rfl
 ·refine ⟨hs.os,hs.tape,hs.output,hs.size,fun k hk=>hs.block k ?_ hk.1⟩
  rintro rfl
  exact hk.2.1 o (List.mem_of_getElem? hL0)
 ·intro p hp
  exact hs.froz p hp
end Go.Proofs.YtainfdcfkgemhaaGreat
namespace Go.Proofs.YtainfdcfkgemhaaGreat
open Go Go.Proofs Go.Sx
set_option linter.unusedVariables false
theorem disable (w:World):(callFunc 383 #[]).run prog w=.ok (.value (.tuple #[])) w:=run_call_mark0 func383 (by kernel_rfl) (by kernel_rfl) (by kernel_rfl) .disable (by kernel_rfl) w
theorem enable (w:World):(callFunc 385 #[]).run prog w=.ok (.value (.tuple #[])) w:=run_call_mark0 func385 (by kernel_rfl) (by kernel_rfl) (by kernel_rfl) .enable (by kernel_rfl) w
theorem acquire (a:Addr) (w:World):(callFunc 386 #[.pointer (some a)]).run prog w=.ok (.value (.tuple #[])) w:=run_call_marked func386 (by kernel_rfl) (by kernel_rfl) (by kernel_rfl) .acquire (by kernel_rfl) a w
theorem releaseMerge (a:Addr) (w:World):(callFunc 388 #[.pointer (some a)]).run prog w=.ok (.value (.tuple #[])) w:=run_call_marked func388 (by kernel_rfl) (by kernel_rfl) (by kernel_rfl) .releaseMerge (by kernel_rfl) a w
theorem TV (a:Addr) (x:Value) (u:FrameMode) (w:World) (hc:w.cell? a=some x) (hz:w.frozen? a=false) :
  CallsD prog 365 #[.pointer (some a),.bool true] u w fun e u' w'=>u'=u/\(e=.returned (.tuple #[])/\w'=w.drew.setCell a (.int .u32 1)):=by
 have hc':w.drew.cell? a=some x:=by go_simp
 have hz':w.drew.frozen? a=false:=by go_simp
 have hst:=run_call_store (P:=prog) func376 (by kernel_rfl) (by kernel_rfl) (by kernel_rfl) (by kernel_rfl) (k:=.u32) (y:=1) hc' hz'
 go_enter_d func365,Tryz.ntmps365
 go_wp2
 go_region_calls
 all_goals (go_end0;exact ⟨rfl,rfl⟩)
theorem S8 (a:Addr) (u:FrameMode) (w:World) (hc:w.cell? a=some (.int .i32 1)) (hz:w.frozen? a=false) :
  CallsD prog 364 #[.pointer (some a)] u w fun e u' w'=>u'=u/\(e=.returned (.tuple #[])/\w'=w.setCell a (.int .i32 0)):=by
 have hd:=disable
 have he:=enable
 have hr:=releaseMerge
 have hadd:=run_call_add (P:=prog) func389 (by kernel_rfl) (by kernel_rfl) (by kernel_rfl) .i32 (by kernel_rfl) (y:=-1) (s:=0) hc hz (by simp [go_sem];rfl)
 have hcv:=run_convert_to_unsafe (P:=prog) (src:=456) (dst:=333) Tryz.underlying456 Tryz.underlying333 (by kernel_rfl) hc
 go_enter_d func364,Tryz.ntmps364
 go_wp2
 go_end0
 go_wp2
 go_end0
 exact ⟨rfl,rfl⟩
theorem qcx (a:Addr) (w:World) (hc:w.cell? a=some (.int .i32 0)) (hz:w.frozen? a=false) :
  Calls prog 363 #[.pointer (some a)] w fun e w'=>e=.returned (.tuple #[])/\w'=w.setCell a (.int .i32 1):=by
 have hd:=disable
 have he:=enable
 have ha:=acquire
 have hcas:=run_call_cas_hit (P:=prog) func384 (by kernel_rfl) (by kernel_rfl) (by kernel_rfl) .i32 (by kernel_rfl) (y:=1) hc hz
 have hc':(w.setCell a (.int .i32 1)).cell? a=some (.int .i32 1):=World.cell?_setCell_same w a _ hc
 have hcv:=run_convert_to_unsafe (P:=prog) (src:=456) (dst:=333) Tryz.underlying456 Tryz.underlying333 (by kernel_rfl) hc'
 go_enter func363,Tryz.ntmps363
 go_wp2
 first|go_end0|(simp only [Exit.inBlock,Exit.then];refine bodyPost_ret (results_none rfl _ _ _) rfl ?_)|refine bodyPost_ret (results_none rfl _ _ _) rfl ?_
 go_wp2
 go_end0
 exact ⟨rfl,rfl⟩
end Go.Proofs.YtainfdcfkgemhaaGreat
namespace Go.Proofs.YtainfdcfkgemhaaGreat
open Go Go.Proofs Go.Sx
set_option linter.unusedVariables false
theorem qgq (w:World) (b o:Nat) (hb:b<w.heap.size) (h:At w b o (gD 0 1 0 gb gb)) :
  Calls prog 315 #[.pointer (some ⟨b,o,none⟩)] w fun e w'=>e=.returned (.tuple #[])/\One b w w'/\At w' b o (gD 0 1 1 nb na) :=
 qhi qgr hb h (n8 func315 (by kernel_rfl) (nz names func315 (by kernel_rfl)) w)
theorem Uq (b o:Nat) (w:World) (hb:b<w.heap.size) (h:At w b o (gD 0 0 0 gb gb)) :
  Calls prog 350 #[.pointer (some ⟨b,o,none⟩),.func (.func 315) #[.pointer (some ⟨b,o,none⟩)] #[]] w fun e w'=>e=.returned (.tuple #[]) /\
   ∃ w2,One b w w2/\At w2 b o (gD 0 1 1 nb na)/\w'=(w2.drew.setCell ⟨b,o,none⟩ (.int .u32 1)).setCell ⟨b,o+1,none⟩ (.int .i32 0):=by
 have h0:w.cell? ⟨b,o,none⟩=some (.int .u32 0):=(h 0 _ rfl).1
 have h1:w.cell? ⟨b,o+1,none⟩=some (.int .i32 0):=(h 1 _ rfl).1
 have f1:w.frozen? ⟨b,o+1,none⟩=false:=(h 1 _ rfl).2
 have hA:At (w.setCell ⟨b,o+1,none⟩ (.int .i32 1)) b o (gD 0 1 0 gb gb):=h.set (n:=1) (x:=.int .i32 1) (by simp [gD])
 have hl:=run_call_load (P:=prog) func362 (by kernel_rfl) (by kernel_rfl) (by kernel_rfl) .u32 (by kernel_rfl) (w:=w.setCell ⟨b,o+1,none⟩ (.int .i32 1)) (a:=⟨b,o,none⟩) (x:=0) ((World.cell?_setCell_other _ ⟨b,o+1,none⟩ ⟨b,o,none⟩ _ (by simp)).trans h0)
 have hnot:∀ (x:Bool) (w:World),(Op.unary .not (.bool x)).run prog w=.ok (.bool (!x)) w:=fun _ _=>rfl
 go_enter_defers func350,Tryz.ntmps350
 go_wp2_with (first|(go_at_call 363;refine (qcx ⟨b,o+1,none⟩ _ (by go_simp) (by go_simp)).mono ?_;rintro e w' ⟨rfl,rfl⟩)|(go_at_call 349;go_in)|(go_at_call 315;refine (qgq _ b o (by simpa using hb) hA).mono ?_;rintro e w2 ⟨rfl,hE,hE2⟩))
 have e0:=hE2 0 (.int .u32 0) rfl
 have e1:=hE2 1 (.int .i32 1) rfl
 refine leaves_cons (f:=365) (args:=#[.pointer (some ⟨b,o,none⟩),.bool true]) (by simp) (by simp [go_sem]) ?_
 refine (TV ⟨b,o,none⟩ (.int .u32 0) .returning _ e0.1 e0.2).mono ?_
 rintro e u' w'' ⟨rfl,rfl,rfl⟩
 refine leaves_cons (f:=364) (args:=#[.pointer (some ⟨b,o+1,none⟩)]) (by simp [settle]) (by simp [go_sem]) ?_
 refine (S8 ⟨b,o+1,none⟩ _ _ ?_ ?_).mono ?_
 ·rw [World.cell?_setCell_other _ ⟨b,o,none⟩ ⟨b,o+1,none⟩ _ (by simp),World.cell?_drew]
  exact e1.1
 ·rw [World.frozen?_setCell]
  exact e1.2
 rintro e u' w'' ⟨rfl,rfl,rfl⟩
 simp [Leaves,settle,results,Tryz.results350]
 exact ⟨w2,(One.setCell b (o+1) (.int .i32 1) w).trans hE,hE2,rfl⟩
theorem qgM (b o:Nat) (w:World) (hb:b<w.heap.size) (h:At w b o (gD 0 0 0 gb gb)) :
  Calls prog 314 #[.pointer (some ⟨b,o,none⟩),.func (.func 315) #[.pointer (some ⟨b,o,none⟩)] #[]] w fun e w'=>e=.returned (.tuple #[]) /\
   ∃ w2,One b w w2/\At w2 b o (gD 0 1 1 nb na)/\w'=(w2.drew.setCell ⟨b,o,none⟩ (.int .u32 1)).setCell ⟨b,o+1,none⟩ (.int .i32 0):=by
 have h0:w.cell? ⟨b,o,none⟩=some (.int .u32 0):=(h 0 _ rfl).1
 have hl:=run_call_load (P:=prog) func362 (by kernel_rfl) (by kernel_rfl) (by kernel_rfl) .u32 (by kernel_rfl) h0
 have hnot:∀ (x:Bool) (w:World),(Op.unary .not (.bool x)).run prog w=.ok (.bool (!x)) w:=fun _ _=>rfl
 go_enter func314,Tryz.ntmps314
 go_wp2_with (first|(go_at_call 350;refine (Uq b o _ hb h).mono ?_;rintro e w' ⟨rfl,w2,hE,hE2,rfl⟩)|(go_at_call 349;go_in))
 go_end0
 exact ⟨rfl,w2,hE,hE2,rfl⟩
theorem qgN (a:Addr) (fv:Value) (w:World) (h0:w.cell? a=some (.int .u32 1)) :
  Calls prog 314 #[.pointer (some a),fv] w fun e w'=>e=.returned (.tuple #[])/\w'=w:=by
 have hl:=run_call_load (P:=prog) func362 (by kernel_rfl) (by kernel_rfl) (by kernel_rfl) .u32 (by kernel_rfl) h0
 have hnot:∀ (x:Bool) (w:World),(Op.unary .not (.bool x)).run prog w=.ok (.bool (!x)) w:=fun _ _=>rfl
 go_enter func314,Tryz.ntmps314
 go_wp2
 go_end0
 exact ⟨rfl,rfl⟩
def wX:List Value:=gD 0 0 0 gb gb
def nA:List Value:=gD 1 0 1 nb na
theorem O2 {z:Base} {V:Vl} {vs:List Value} (hA:aF (aH V) [.ptr 0 0,.clo 315 0 0] vs):∃ b o,V.b 0=some (b,o)/\vs=[.pointer (some ⟨b,o,none⟩),.func (.func 315) #[.pointer (some ⟨b,o,none⟩)] #[]]:=by
 match vs,hA with
 | [x,y],⟨⟨b,o,h1,h2⟩,⟨b',o',h3,h4⟩,_⟩ =>
  rw [h1] at h3
  injection h3 with h3
  injection h3 with e1 e2
  subst e1 e2
  refine ⟨b,o,h1,?_⟩
  rw [h2,h4]
  unfold jg
  rw [if_pos (show (315:Nat)<jh by decide)]
  rfl
theorem qgO:bB prog 314 [.ptr 0 0,.clo 315 0 0] ⟨[wX.map .v],[true],[]⟩ (.v (.tuple #[])) ⟨[nA.map .v],[true],[]⟩:=by
 intro z V vs hl hm ha
 obtain ⟨b,o,hb,rfl⟩:=O2 (z:=z) ha
 have hat:At z.w b o wX:=fun j x hx=>by
  obtain ⟨y,c1,c2,c3⟩:=hm.mem 0 b o hb (wX.map .v) rfl j (.v x) (by rw [List.getElem?_map,hx];rfl)
  have c2:y=x:=c2
  subst c2
  exact ⟨c1,c3⟩
 refine .inr ⟨n8 func314 (by kernel_rfl) (nz names func314 (by kernel_rfl)) z.w,?_⟩
 refine (qgM b o z.w (hm.own 0 b o hb).2 hat).mono ?_
 rintro e w' ⟨rfl,w2,hE,hE2,rfl⟩
 have k0:At w2.drew b o (gD 0 1 1 nb na):=hE2
 have k1:=(k0.set (n:=0) (x:=.int .u32 1) (by simp [gD])).set (n:=1) (x:=.int .i32 0) (by simp [gD])
 exact ⟨_,rfl,V,rfl,qba (b:=b) (o:=o) (cs':=nA) hl hm hb (((hE.trans (One.drew b w2)).trans (One.setCell b o _ _)).trans (One.setCell b (o+1) _ _)) k1⟩
theorem qgP:bB prog 314 [.ptr 0 0,.clo 315 0 0] ⟨[nA.map .v],[true],[]⟩ (.v (.tuple #[])) ⟨[nA.map .v],[true],[]⟩:=by
 intro z V vs hl hm ha
 obtain ⟨b,o,hb,rfl⟩:=O2 (z:=z) ha
 obtain ⟨y,c1,c2,c3⟩:=hm.mem 0 b o hb (nA.map .v) rfl 0 (.v (.int .u32 1)) rfl
 have c2:y=.int .u32 1:=c2
 subst c2
 refine .inr ⟨n8 func314 (by kernel_rfl) (nz names func314 (by kernel_rfl)) z.w,?_⟩
 refine (qgN ⟨b,o,none⟩ _ z.w c1).mono ?_
 rintro e w' ⟨rfl,rfl⟩
 exact ⟨_,rfl,V,rfl,hm⟩
def Hc (a:SA) (b:Value):Bool :=
 match a,b with
 | .v (.int k x),.int k' y=>decide (k=k')&&decide (x=y)
 | _,_=>false
def eqL:List SA->List Value->Bool
 | [],[]=>true
 | x::a,y::b=>Hc x y&&eqL a b
 | _,_=>false
theorem qgJ {x:SA} {y:Value} (h:Hc x y=true):x=.v y:=by
 unfold Hc at h
 split at h
 ·simp only [Bool.and_eq_true,decide_eq_true_eq] at h
  rw [h.1,h.2]
 ·cases h
theorem eqL_eq:∀ {a:List SA} {b:List Value},eqL a b=true->a=b.map .v
 | [],[],_=>rfl
 | x::a,y::b,h=>by
  simp only [eqL,Bool.and_eq_true] at h
  rw [qgJ h.1,eqL_eq h.2]
  rfl
 | [],_::_,h=>by cases h
 | _::_,[],h=>by cases h
def O1 (cs:List SA):Bool :=
 match cs with
 | .v (.int .u32 d)::_=>decide (d=1)
 | _=>false
def Ny (cs:List SA):Bool:=bif O1 cs then eqL cs nA else eqL cs wX
def Gd (xs:List SV) (m:Mem):Option (Bool×SV×Mem) :=
 match xs,m with
 | [.ptr 0 0,.clo f 0 0],⟨[cs],[true],[]⟩=>match Nat.beq f 315 with
  | true=>some (Ny cs,.v (.tuple #[]),⟨[nA.map .v],[true],[]⟩)
  | false=>none
 | _,_=>none
theorem qfC:aM 314 Gd:=by
 intro xs m r m' h
 unfold Gd at h
 split at h
 ·split at h
  ·rename_i f cs _ hf
   obtain rfl:=Nat.eq_of_beq_eq_true hf
   obtain ⟨h1,rfl,rfl⟩:=an h
   unfold Ny at h1
   cases hd:O1 cs
   ·rw [hd] at h1
    rw [eqL_eq h1]
    exact qgO
   ·rw [hd] at h1
    rw [eqL_eq h1]
    exact qgP
  ·cases h
 ·cases h
def ΓDo:Orc:=aw 314 Gd Γf0
theorem I1:ΓDo.Ok prog:=aq Okf0 qfC
end Go.Proofs.YtainfdcfkgemhaaGreat
