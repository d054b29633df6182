/-
  What is known of this program: sums,bytes and numbers;tables that are made once.
-/
import Derived.Test.YtainfdcfkgemhaaGreatYc
import Derived.Laws.Strings
import Derived.Test.YtainfdcfkgemhaaGreatSx
import Derived.Tactics
import Derived.Tactics2
import Derived.Defers
import Derived.Laws.Pointers
import Derived.Laws.LoneSync
import Derived.RegionTactic
import Derived.RegionCalls
import Derived.ChangeAlike
set_option maxRecDepth 100000
noncomputable section
open Go.Proofs.Tryz
namespace Go.Proofs.YtainfdcfkgemhaaGreat
open Go Go.Proofs Go.Sx
def n16 (n:Nat):Nat:=bif Nat.ble 32768 n then Nat.xor (2*n % 65536) 4129 else 2*n % 65536
def n32 (n:Nat):Nat:=bif Nat.beq (n % 2) 1 then Nat.xor (n / 2) 3988292384 else n / 2
def it (f:Nat->Nat):Nat->Nat->Nat
 | 0,n=>n
 | k+1,n=>it f k (f n)
def N16 (n:Nat):Nat:=it n16 8 n
def N32 (n:Nat):Nat:=it n32 8 n
theorem im {a b:Nat} (k:Nat) (ha:a<2 ^ k) (hb:b<2 ^ k):Nat.xor a b<2 ^ k:=Nat.xor_lt_two_pow ha hb
theorem Cl (n:Nat):n16 n<65536:=by
 unfold n16
 cases Nat.ble 32768 n
 ·exact Nat.mod_lt _ (by decide)
 ·exact im 16 (Nat.mod_lt _ (by decide)) (by decide)
theorem Ck {n:Nat} (h:n<4294967296):n32 n<4294967296:=by
 unfold n32
 cases Nat.beq (n % 2) 1
 ·show n / 2<_;omega
 ·exact im 32 (by have:(2:Nat) ^ 32=4294967296:=by decide
                  omega) (by decide)
theorem CL {f:Nat->Nat} {m:Nat} (hf:∀ n,n<m->f n<m):∀ (k n:Nat),n<m->it f k n<m
 | 0,_,h=>h
 | k+1,n,h=>CL hf k (f n) (hf n h)
theorem qlo {n:Nat} (h:n<65536):N16 n<65536:=CL (fun n _=>Cl n) 8 n h
theorem qln {n:Nat} (h:n<4294967296):N32 n<4294967296:=CL (fun _=>Ck) 8 n h
theorem rJ (n:Nat):IntKind.u16.wrap (n:Int)=((n % 65536:Nat):Int):=by
 rw [<- cF true];simp only [wr];omega
theorem m9 (n:Nat):IntKind.u32.wrap (n:Int)=((n % 4294967296:Nat):Int):=by
 rw [<- cF true];simp only [wr];omega
theorem oW (w a b:Nat) (ha:a<2 ^ w) (hb:b<2 ^ w):(((BitVec.ofInt w (a:Int) ^^^ BitVec.ofInt w (b:Int)).toNat:Nat):Int)=((Nat.xor a b:Nat):Int):=by
 rw [BitVec.toNat_xor,BitVec.ofInt_natCast,BitVec.ofInt_natCast,BitVec.toNat_ofNat,BitVec.toNat_ofNat,Nat.mod_eq_of_lt ha,Nat.mod_eq_of_lt hb]
 rfl
theorem qjm (w a b:Nat) (ha:a<2 ^ w) (hb:b<2 ^ w):(((BitVec.ofInt w (a:Int) &&& BitVec.ofInt w (b:Int)).toNat:Nat):Int)=((Nat.land a b:Nat):Int):=by
 rw [BitVec.toNat_and,BitVec.ofInt_natCast,BitVec.ofInt_natCast,BitVec.toNat_ofNat,BitVec.toNat_ofNat,Nat.mod_eq_of_lt ha,Nat.mod_eq_of_lt hb]
 rfl
theorem yT {α:Type} (E:Nat->Int->Int->Option α) (F:Int->Option α) (c:Int->Bool) (A B:Int->Int) (f:Nat->Nat) (m:Nat) (hf:∀ n,n<m->f n<m) (hc:∀ n:Nat,n<m->(bif c (n:Int) then A (n:Int) else B (n:Int))=((f n:Nat):Int))
  (hE:∀ k x i,E (k+1) x i=bif decide (i<(8:Int)) then (bif c x then E k (A x) (wI (i+1)) else E k (B x) (wI (i+1))) else F x) :
  ∀ (j n:Nat),j<=8->n<m->E (j+1) (n:Int) ((8 - j:Nat):Int)=F ((it f j n:Nat):Int):=by
 intro j
 induction j with
 | zero =>
  intro n _ _
  rw [hE]
  rfl
 | succ j ih =>
  intro n hj hn
  rw [hE,show decide (((8 - (j+1):Nat):Int)<8)=true from decide_eq_true (by omega),az (by omega),show ((8 - (j+1):Nat):Int)+1=((8 - j:Nat):Int) by omega]
  have hx:=hc n hn
  have h2:(bif c (n:Int) then E (j+1) (A n) ((8 - j:Nat):Int) else E (j+1) (B n) ((8 - j:Nat):Int))=E (j+1) (bif c (n:Int) then A (n:Int) else B (n:Int)) ((8 - j:Nat):Int):=by
   cases c (n:Int)<;>rfl
  rw [cond_true,h2,hx,ih (f n) (by omega) (hf n hn)]
  rfl
def qX (x:Int):Int:=IntKind.u16.wrap (((BitVec.ofInt 16 (IntKind.u16.wrap (x*2 ^ min (Int.toNat 1) 16)) ^^^ BitVec.ofInt 16 4129).toNat:Nat):Int)
def mS (x:Int):Int:=IntKind.u16.wrap (x*2 ^ min (Int.toNat 1) 16)
theorem KV (n:Nat) (_:n<65536):(bif decide ((n:Int)>=32768) then qX n else mS n)=((n16 n:Nat):Int):=by
 have e:(n:Int)*2 ^ min (Int.toNat 1) 16=((2*n:Nat):Int):=by
  rw [show min (Int.toNat 1) 16=1 from rfl];omega
 unfold qX mS n16
 rw [e,rJ (2*n),show (4129:Int)=((4129:Nat):Int) from rfl,oW 16 _ _ (Nat.mod_lt _ (by decide)) (by decide),rJ]
 by_cases h:32768<=n
 ·rw [decide_eq_true (by omega),show Nat.ble 32768 n=true from by rw [Nat.ble_eq];exact h]
  simp only [cond_true]
  rw [Nat.mod_eq_of_lt (im 16 (Nat.mod_lt _ (by decide)) (by decide))]
 ·rw [decide_eq_false (by omega),show Nat.ble 32768 n=false from by rw [<- Bool.not_eq_true,Nat.ble_eq];exact h]
  rfl
def za (x:Int):Bool:=IntKind.u32.wrap (((BitVec.ofInt 32 x &&& BitVec.ofInt 32 1).toNat:Nat):Int)==1
def zy (x:Int):Int:=IntKind.u32.wrap (((BitVec.ofInt 32 (Int.fdiv x (2 ^ min (Int.toNat 1) 32)) ^^^ BitVec.ofInt 32 3988292384).toNat:Nat):Int)
def zn (x:Int):Int:=Int.fdiv x (2 ^ min (Int.toNat 1) 32)
theorem gr:(2:Nat) ^ 32=4294967296:=by decide
theorem Uu (n:Nat) (h:n<4294967296):(bif za n then zy n else zn n)=((n32 n:Nat):Int):=by
 have e:Int.fdiv (n:Int) (2 ^ min (Int.toNat 1) 32)=((n / 2:Nat):Int):=by
  rw [show min (Int.toNat 1) 32=1 from rfl,Int.fdiv_eq_ediv_of_nonneg _ (by decide)];omega
 unfold za zy zn n32
 rw [e,show (3988292384:Int)=((3988292384:Nat):Int) from rfl,show (1:Int)=((1:Nat):Int) from rfl,qjm 32 _ _ (by rw [gr];exact h) (by decide),oW 32 _ _ (by rw [gr];omega) (by decide),m9,m9]
 have e2:Nat.land n 1=n % 2:=Nat.and_one_is_mod n
 rw [e2]
 rcases Nat.mod_two_eq_zero_or_one n with h0|h0
 ·rw [h0];rfl
 ·rw [h0,Nat.mod_eq_of_lt (im 32 (by rw [gr];omega) (by decide))];rfl
def yV (x:Int):Bool:=Int.tmod x 2==1
def yl (x:Int):Int:=IntKind.u32.wrap (((BitVec.ofInt 32 (IntKind.u32.wrap (Int.tdiv x 2)) ^^^ BitVec.ofInt 32 3988292384).toNat:Nat):Int)
def xB (x:Int):Int:=IntKind.u32.wrap (Int.tdiv x 2)
theorem Ut (n:Nat) (h:n<4294967296):(bif yV n then yl n else xB n)=((n32 n:Nat):Int):=by
 have e:Int.tdiv (n:Int) 2=((n / 2:Nat):Int):=by
  rw [Int.tdiv_eq_ediv_of_nonneg (by omega)];omega
 have e1:Int.tmod (n:Int) 2=((n % 2:Nat):Int):=by
  rw [Int.tmod_eq_emod_of_nonneg (by omega)];omega
 unfold yV yl xB n32
 rw [e,e1,m9 (n / 2),Nat.mod_eq_of_lt (show n / 2<4294967296 by omega),show (3988292384:Int)=((3988292384:Nat):Int) from rfl,oW 32 _ _ (by rw [gr];omega) (by decide),m9]
 rcases Nat.mod_two_eq_zero_or_one n with h0|h0
 ·rw [h0];rfl
 ·rw [h0,Nat.mod_eq_of_lt (im 32 (by rw [gr];omega) (by decide))];rfl
def p16 (x:Nat) (b:UInt8):Nat:=N16 (Nat.xor x (b.toNat*256))
def p32 (x:Nat) (b:UInt8):Nat:=N32 (Nat.xor x b.toNat)
theorem dO (b:UInt8):b.toNat<256:=b.toNat_lt
theorem Mu {x:Nat} (b:UInt8) (h:x<65536):p16 x b<65536 :=
 qlo (im 16 h (by have:=dO b;show _<65536;omega))
theorem B7 {x:Nat} (b:UInt8) (h:x<4294967296):p32 x b<4294967296 :=
 qln (im 32 h (by have:=dO b;rw [gr];omega))
def lC (x:Int) (s:ByteArray):Int:=((s.data.toList.foldl p16 x.toNat:Nat):Int)
def F32 (s:ByteArray):Nat:=s.data.toList.foldl p32 4294967295
theorem OD {α:Type} {f:Nat->α->Nat} {m:Nat} (hf:∀ n b,n<m->f n b<m):∀ (l:List α) (n:Nat),n<m->l.foldl f n<m
 | [],_,h=>h
 | b::l,n,h=>OD hf l _ (hf n b h)
theorem vo {s:ByteArray} {k:Nat} {b:UInt8} (h:s.data[k]?=some b):aa s (k:Int)=(b.toNat:Int):=by
 unfold aa
 have:s[(k:Int).toNat]?=some b:=by
  rw [Int.toNat_natCast]
  have hk:k<s.size:=by
   have:=(Array.getElem?_eq_some_iff.1 h).1
   exact this
  rw [getElem?_pos s k hk]
  have h2:=(Array.getElem?_eq_some_iff.1 h).2
  rw [<- h2]
  rfl
 rw [this]
theorem su {α:Type} (s:ByteArray) (hs:s.size<=9223372036854775807) (E:Nat->Int->Int->Option α) (F:Int->Option α) (g:Int->Int->Bool) (A:Int->Int->Int) (f:Nat->UInt8->Nat) (m:Nat) (hf:∀ n b,n<m->f n b<m)
  (hg:∀ (n k:Nat) b,n<m->s.data[k]?=some b->g n k=true/\A n k=((f n b:Nat):Int))
  (hE:∀ k x i,E (k+1) x i=bif decide (i<(s.size:Int)) then (bif decide (0<=i)&&decide (i<(s.size:Int)) then (bif g x i then E k (A x i) (wI (i+1)) else none) else none) else F x) :
  ∀ (j k n:Nat),k+j=s.size->n<m->E (j+1) (n:Int) (k:Int)=F (((s.data.toList.drop k).foldl f n:Nat):Int):=by
 intro j
 induction j with
 | zero =>
  intro k n hk _
  rw [hE,show decide ((k:Int)<(s.size:Int))=false from decide_eq_false (by omega)]
  rw [List.drop_eq_nil_of_le (by simp;omega)]
  rfl
 | succ j ih =>
  intro k n hk hn
  have hlt:k<s.data.size:=by show k<s.size;omega
  obtain ⟨b,hb⟩:∃ b,s.data[k]?=some b:=⟨s.data[k],by simp⟩
  obtain ⟨h1,h2⟩:=hg n k b hn hb
  rw [hE,show decide ((k:Int)<(s.size:Int))=true from decide_eq_true (by omega),show decide ((0:Int)<=(k:Int))=true from decide_eq_true (by omega),az (by omega),h1,h2]
  simp only [cond_true,Bool.and_self]
  rw [show (k:Int)+1=((k+1:Nat):Int) by omega,ih (k+1) _ (by omega) (hf n b hn)]
  have e2:s.data.toList.drop k=b::s.data.toList.drop (k+1):=by
   rw [List.drop_eq_getElem_cons (by simpa using hlt)]
   have:=(Array.getElem?_eq_some_iff.1 hb).2
   simp [this]
  rw [e2,List.foldl_cons]
def iw (s:ByteArray) (x i:Int):Int:=IntKind.u16.wrap (((BitVec.ofInt 16 x ^^^ BitVec.ofInt 16 (IntKind.u16.wrap (IntKind.u16.wrap (aa s i)*2 ^ min (Int.toNat 8) 16))).toNat:Nat):Int)
def iv (s:ByteArray) (x i:Int):Int:=IntKind.u32.wrap (((BitVec.ofInt 32 x ^^^ BitVec.ofInt 32 (IntKind.u32.wrap (aa s i))).toNat:Nat):Int)
theorem qaS {s:ByteArray} {n k:Nat} {b:UInt8} (hn:n<65536) (hb:s.data[k]?=some b):iw s n k=((Nat.xor n (b.toNat*256):Nat):Int):=by
 have h:=dO b
 unfold iw
 rw [vo hb,rJ b.toNat,Nat.mod_eq_of_lt (show b.toNat<65536 by omega)]
 have e:((b.toNat:Nat):Int)*2 ^ min (Int.toNat 8) 16=((b.toNat*256:Nat):Int):=by
  rw [show min (Int.toNat 8) 16=8 from rfl];omega
 rw [e,rJ (b.toNat*256),Nat.mod_eq_of_lt (show b.toNat*256<65536 by omega),oW 16 _ _ hn (by show _<65536;omega),rJ,Nat.mod_eq_of_lt (im 16 hn (by show _<65536;omega))]
theorem qaR {s:ByteArray} {n k:Nat} {b:UInt8} (hn:n<4294967296) (hb:s.data[k]?=some b):iv s n k=((Nat.xor n b.toNat:Nat):Int):=by
 have h:=dO b
 unfold iv
 rw [vo hb,m9 b.toNat,Nat.mod_eq_of_lt (show b.toNat<4294967296 by omega)]
 rw [oW 32 _ _ (by rw [gr];exact hn) (by rw [gr];omega),m9,Nat.mod_eq_of_lt (im 32 (by rw [gr];exact hn) (by rw [gr];omega))]
def jl (m:Nat) (x:Int):Bool :=
 match x with
 | .ofNat n=>Nat.ble (n+1) m
 | .negSucc _=>false
theorem tj {m:Nat} {x:Int} (h:jl m x=true):∃ n:Nat,x=(n:Int)/\n<m:=by
 cases x with
 | ofNat n=>exact ⟨n,rfl,Nat.le_of_ble_eq_true h⟩
 | negSucc n=>cases h
theorem CR {m n:Nat} (h:n<m):jl m (n:Int)=true:=Nat.ble_eq_true_of_le h
def d8 (x:Int):Bool:=jl 65536 x
def fG (x:Int):Bool:=jl 4294967296 x
def jG (x:Int):Int:=((N16 x.toNat:Nat):Int)
def jF (x:Int):Int:=((N32 x.toNat:Nat):Int)
theorem xt {x:Int} (h:d8 x=true):∃ n:Nat,x=(n:Int)/\n<65536:=tj h
theorem xr {x:Int} (h:fG x=true):∃ n:Nat,x=(n:Int)/\n<4294967296:=tj h
def zC (x:Int) (s:ByteArray):Int:=((s.data.toList.foldl p32 x.toNat:Nat):Int)
def f7 (s:ByteArray):Int:=((Nat.xor (F32 s) 4294967295:Nat):Int)
def yB (s:ByteArray):Int:=IntKind.u32.wrap (((BitVec.ofInt 32 (zC 4294967295 s) ^^^ BitVec.ofInt 32 4294967295).toNat:Nat):Int)
theorem qlp (s:ByteArray):F32 s<4294967296:=OD (fun _ b=>B7 b) _ _ (by decide)
theorem ON (s:ByteArray):yB s=f7 s:=by
 have h:=qlp s
 unfold yB f7
 have e:zC 4294967295 s=((F32 s:Nat):Int):=rfl
 rw [e,show (4294967295:Int)=((4294967295:Nat):Int) from rfl,oW 32 _ _ (by rw [gr];exact h) (by decide),m9,Nat.mod_eq_of_lt (im 32 (by rw [gr];exact h) (by decide))]
def bv (s:ByteArray):Bool:=Nat.ble s.size 9223372036854775807
theorem NX (s:ByteArray) (n k:Nat) (b:UInt8) (hn:n<65536) (hb:s.data[k]?=some b):d8 (iw s n k)=true/\jG (iw s n k)=((p16 n b:Nat):Int):=by
 rw [qaS hn hb]
 exact ⟨CR (im 16 hn (by have:=dO b;show _<65536;omega)),rfl⟩
theorem NW (s:ByteArray) (n k:Nat) (b:UInt8) (hn:n<4294967296) (hb:s.data[k]?=some b):fG (iv s n k)=true/\jF (iv s n k)=((p32 n b:Nat):Int):=by
 rw [qaR hn hb]
 exact ⟨CR (im 32 (by rw [gr];exact hn) (by have:=dO b;rw [gr];omega)),rfl⟩
def kT:List Bool:=aB 15 [0,4]
def rF:List Bool:=aB 15 [0]
def oD:Code:=ch (f348.body.getD .skip) 0
theorem qcC:aF (f348.body.getD .skip)=[oD]:=by kernel_rfl
theorem qcB:aF oD=[]:=by kernel_rfl
def Ae (e:Ex) (st:St):Option (Ex×St):=some (e,ac 0 0 rF st)
theorem UP (k:Nat) (x i:Int):an ΓA13 prog L0 (ac 0 0 kT) oD (k+1) (mk kT [.v (bN x),.v (I i)] M0) Ae =
 bif decide (i<8) then (bif decide (x>=32768) then an ΓA13 prog L0 (ac 0 0 kT) oD k (mk kT [.v (bN (qX x)),.v (I (wI (i+1)))] M0) Ae else an ΓA13 prog L0 (ac 0 0 kT) oD k (mk kT [.v (bN (mS x)),.v (I (wI (i+1)))] M0) Ae)
 else some (.exit 0,mk rF [.v (bN x)] M0):=by kernel_rfl
def JV (vals:List SV) (m:Mem):Option (Bool×Ex×St) :=
 match vals,m with
 | [.v (.int .u16 x),.v (.int .i64 i)],⟨[],[],[]⟩=>some (i==0&&d8 x,.exit 0,mk rF [.v (bN (jG x))] M0)
 | _,_=>none
def ΛEight16:aV:=fun _ st=>cJ 0 0 kT JV st
theorem qdl (z:Base) (z1:z.L.length=0) (z2:z.U.length=0):aS ΛEight16 prog z oD:=by
 refine du (Λ:=L0) (kx:=fun _=>rF) uF mixed z1 z2 (fun b hb=>by rw [qcB] at hb;cases hb) (G:=JV) (fun _=>rfl) ?_
 intro vals m e st' h
 unfold JV at h
 split at h
 ·rename_i x i
  obtain ⟨h1,rfl,rfl⟩:=aw h
  simp only [Bool.and_eq_true,beq_iff_eq] at h1
  obtain ⟨rfl,h1⟩:=h1
  obtain ⟨n,rfl,hn⟩:=xt h1
  exact ⟨9,yT (fun k x i=>an ΓA13 prog L0 (ac 0 0 kT) oD k (mk kT [.v (bN x),.v (I i)] M0) Ae) (fun x=>some (.exit 0,mk rF [.v (bN x)] M0)) (fun x=>decide (x>=32768)) qX mS n16 65536 (fun n _=>Cl n) KV UP 8 n (Nat.le_refl 8) hn⟩
 ·cases h
theorem Zw (x:Int):runG ΓA13 ΛEight16 prog f348 [.v (bN x)] M0=bif (0:Int)==0&&d8 x then some (.v (bN (jG x)),M0) else none:=by kernel_rfl
def F7 (vs:List Value):Option (Bool×Value) :=
 match vs with
 | [.int .u16 x]=>some (d8 x,bN (jG x))
 | _=>none
theorem qgP:am 348 F7:=by
 intro vs r h
 unfold F7 at h
 split at h
 ·rename_i x
  obtain ⟨h1,rfl⟩:=ab h
  refine ak (vs:=[bN x]) (Λ:=ΛEight16) (m':=M0) uF func348 rfl (fun z z1 z2=>bR (c:=f348.body.getD .skip) qcC (qdl z z1 z2)) ?_
  exact (Zw x).trans (by rw [h1];rfl)
 ·cases h
def ΓK1:Orc:=ah 348 F7 ΓA13
theorem IO:ΓK1.Ok prog:=af uF qgP
def kQ:List Bool:=aB 16 [0,3]
def ry:List Bool:=aB 16 [0]
def oz:Code:=ch (f265.body.getD .skip) 0
theorem qb3:aF (f265.body.getD .skip)=[oz]:=by kernel_rfl
theorem qb2:aF oz=[]:=by kernel_rfl
def z9 (e:Ex) (st:St):Option (Ex×St):=some (e,ac 0 0 ry st)
theorem Uz (k:Nat) (x i:Int):an ΓK1 prog L0 (ac 0 0 kQ) oz (k+1) (mk kQ [.v (bN x),.v (I i)] M0) z9 =
 bif decide (i<8) then (bif decide (x>=32768) then an ΓK1 prog L0 (ac 0 0 kQ) oz k (mk kQ [.v (bN (qX x)),.v (I (wI (i+1)))] M0) z9 else an ΓK1 prog L0 (ac 0 0 kQ) oz k (mk kQ [.v (bN (mS x)),.v (I (wI (i+1)))] M0) z9)
 else some (.exit 0,mk ry [.v (bN x)] M0):=by kernel_rfl
def Js (vals:List SV) (m:Mem):Option (Bool×Ex×St) :=
 match vals,m with
 | [.v (.int .u16 x),.v (.int .i64 i)],⟨[],[],[]⟩=>some (i==0&&d8 x,.exit 0,mk ry [.v (bN (jG x))] M0)
 | _,_=>none
def ΛStep16:aV:=fun _ st=>cJ 0 0 kQ Js st
theorem qcX (z:Base) (z1:z.L.length=0) (z2:z.U.length=0):aS ΛStep16 prog z oz:=by
 refine du (Λ:=L0) (kx:=fun _=>ry) IO mixed z1 z2 (fun b hb=>by rw [qb2] at hb;cases hb) (G:=Js) (fun _=>rfl) ?_
 intro vals m e st' h
 unfold Js at h
 split at h
 ·rename_i x i
  obtain ⟨h1,rfl,rfl⟩:=aw h
  simp only [Bool.and_eq_true,beq_iff_eq] at h1
  obtain ⟨rfl,h1⟩:=h1
  obtain ⟨n,rfl,hn⟩:=xt h1
  exact ⟨9,yT (fun k x i=>an ΓK1 prog L0 (ac 0 0 kQ) oz k (mk kQ [.v (bN x),.v (I i)] M0) z9) (fun x=>some (.exit 0,mk ry [.v (bN x)] M0)) (fun x=>decide (x>=32768)) qX mS n16 65536 (fun n _=>Cl n) KV Uz 8 n (Nat.le_refl 8) hn⟩
 ·cases h
theorem Wq (x:Int):runG ΓK1 ΛStep16 prog f265 [.v (bN x)] M0=bif (0:Int)==0&&d8 x then some (.v (bN (jG x)),M0) else none:=by kernel_rfl
def DM (vs:List Value):Option (Bool×Value) :=
 match vs with
 | [.int .u16 x]=>some (d8 x,bN (jG x))
 | _=>none
theorem qeF:am 265 DM:=by
 intro vs r h
 unfold DM at h
 split at h
 ·rename_i x
  obtain ⟨h1,rfl⟩:=ab h
  refine ak (vs:=[bN x]) (Λ:=ΛStep16) (m':=M0) IO func265 rfl (fun z z1 z2=>bR (c:=f265.body.getD .skip) qb3 (qcX z z1 z2)) ?_
  exact (Wq x).trans (by rw [h1];rfl)
 ·cases h
def ΓK2:Orc:=ah 265 DM ΓK1
theorem IN:ΓK2.Ok prog:=af IO qeF
def sX:List Bool:=aB 21 [0,1,7,8]
def rC:List Bool:=aB 21 [0]
def qL:Code:=ch (f313.body.getD .skip) 0
theorem qcs:aF (f313.body.getD .skip)=[qL]:=by kernel_rfl
theorem qcr:aF qL=[]:=by kernel_rfl
def J8 (e:Ex) (st:St):Option (Ex×St):=some (e,ac 0 0 rC st)
def Jl (s:ByteArray) (x i:Int):St:=mk sX [.v (bN x),.v (S s),.v (I (s.size:Int)),.v (I i)] M0
theorem UJ (s:ByteArray) (k:Nat) (x i:Int):an ΓK2 prog L0 (ac 0 0 sX) qL (k+1) (Jl s x i) J8 =
 bif decide (i<(s.size:Int)) then (bif decide (0<=i)&&decide (i<(s.size:Int)) then (bif d8 (iw s x i) then an ΓK2 prog L0 (ac 0 0 sX) qL k (Jl s (jG (iw s x i)) (wI (i+1))) J8 else none) else none)
 else some (.exit 0,mk rC [.v (bN x)] M0):=by kernel_rfl
def JM (vals:List SV) (m:Mem):Option (Bool×Ex×St) :=
 match vals,m with
 | [.v (.int .u16 x),.v (.string s),.v (.int .i64 n),.v (.int .i64 i)],⟨[],[],[]⟩=>some (n==(s.size:Int)&&(i==0&&(d8 x&&bv s)),.exit 0,mk rC [.v (bN (lC x s))] M0)
 | _,_=>none
def ΛMore16:aV:=fun _ st=>cJ 0 0 sX JM st
theorem qde (z:Base) (z1:z.L.length=0) (z2:z.U.length=0):aS ΛMore16 prog z qL:=by
 refine du (Λ:=L0) (kx:=fun _=>rC) IN mixed z1 z2 (fun b hb=>by rw [qcr] at hb;cases hb) (G:=JM) (fun _=>rfl) ?_
 intro vals m e st' h
 unfold JM at h
 split at h
 ·rename_i x s n i
  obtain ⟨h1,rfl,rfl⟩:=aw h
  simp only [Bool.and_eq_true,beq_iff_eq] at h1
  obtain ⟨rfl,rfl,h1,h4⟩:=h1
  obtain ⟨n,rfl,hn⟩:=xt h1
  exact ⟨s.size+1,su s (Nat.le_of_ble_eq_true h4) (fun k x i=>an ΓK2 prog L0 (ac 0 0 sX) qL k (Jl s x i) J8) (fun x=>some (.exit 0,mk rC [.v (bN x)] M0)) (fun x i=>d8 (iw s x i)) (fun x i=>jG (iw s x i)) p16 65536 (fun n b=>Mu b) (NX s) (UJ s) s.size 0 n (by omega) hn⟩
 ·cases h
theorem Yv (x:Int) (s:ByteArray):runG ΓK2 ΛMore16 prog f313 [.v (bN x),.v (S s)] M0=bif (s.size:Int)==(s.size:Int)&&((0:Int)==0&&(d8 x&&bv s)) then some (.v (bN (lC x s)),M0) else none:=by kernel_rfl
def Fk (vs:List Value):Option (Bool×Value) :=
 match vs with
 | [.int .u16 x,.string s]=>some (d8 x&&bv s,(bN (lC x s)))
 | _=>none
theorem qf5:am 313 Fk:=by
 intro vs r h
 unfold Fk at h
 split at h
 ·rename_i x s
  obtain ⟨h1,rfl⟩:=ab h
  refine ak (vs:=[bN x,S s]) (Λ:=ΛMore16) (m':=M0) IN func313 rfl (fun z z1 z2=>bR (c:=f313.body.getD .skip) qcs (qde z z1 z2)) ?_
  exact (Yv x s).trans (by rw [h1,beq_self_eq_true];rfl)
 ·cases h
def ΓK3:Orc:=ah 313 Fk ΓK2
theorem IM:ΓK3.Ok prog:=af IN qf5
def sU:List Bool:=aB 21 [0,1,5]
def rA:List Bool:=aB 21 [0]
def qJ:Code:=ch (f201.body.getD .skip) 0
theorem qck:aF (f201.body.getD .skip)=[qJ]:=by kernel_rfl
theorem qcj:aF qJ=[]:=by kernel_rfl
def J6 (e:Ex) (st:St):Option (Ex×St):=some (e,ac 0 0 rA st)
def Ji (s:ByteArray) (x i:Int):St:=mk sU [.v (bN x),.v (S s),.v (I i)] M0
theorem UF (s:ByteArray) (k:Nat) (x i:Int):an ΓK3 prog L0 (ac 0 0 sU) qJ (k+1) (Ji s x i) J6 =
 bif decide (i<(s.size:Int)) then (bif decide (0<=i)&&decide (i<(s.size:Int)) then (bif d8 (iw s x i) then an ΓK3 prog L0 (ac 0 0 sU) qJ k (Ji s (jG (iw s x i)) (wI (i+1))) J6 else none) else none)
 else some (.exit 0,mk rA [.v (bN x)] M0):=by kernel_rfl
def JI (vals:List SV) (m:Mem):Option (Bool×Ex×St) :=
 match vals,m with
 | [.v (.int .u16 x),.v (.string s),.v (.int .i64 i)],⟨[],[],[]⟩=>some (i==0&&(d8 x&&bv s),.exit 0,mk rA [.v (bN (lC x s))] M0)
 | _,_=>none
def ΛRMore16:aV:=fun _ st=>cJ 0 0 sU JI st
theorem qda (z:Base) (z1:z.L.length=0) (z2:z.U.length=0):aS ΛRMore16 prog z qJ:=by
 refine du (Λ:=L0) (kx:=fun _=>rA) IM mixed z1 z2 (fun b hb=>by rw [qcj] at hb;cases hb) (G:=JI) (fun _=>rfl) ?_
 intro vals m e st' h
 unfold JI at h
 split at h
 ·rename_i x s i
  obtain ⟨h1,rfl,rfl⟩:=aw h
  simp only [Bool.and_eq_true,beq_iff_eq] at h1
  obtain ⟨rfl,h1,h4⟩:=h1
  obtain ⟨n,rfl,hn⟩:=xt h1
  exact ⟨s.size+1,su s (Nat.le_of_ble_eq_true h4) (fun k x i=>an ΓK3 prog L0 (ac 0 0 sU) qJ k (Ji s x i) J6) (fun x=>some (.exit 0,mk rA [.v (bN x)] M0)) (fun x i=>d8 (iw s x i)) (fun x i=>jG (iw s x i)) p16 65536 (fun n b=>Mu b) (NX s) (UF s) s.size 0 n (by omega) hn⟩
 ·cases h
theorem XK (x:Int) (s:ByteArray):runG ΓK3 ΛRMore16 prog f201 [.v (bN x),.v (S s)] M0=bif (0:Int)==0&&(d8 x&&bv s) then some (.v (bN (lC x s)),M0) else none:=by kernel_rfl
def EN (vs:List Value):Option (Bool×Value) :=
 match vs with
 | [.int .u16 x,.string s]=>some (d8 x&&bv s,(bN (lC x s)))
 | _=>none
theorem qfx:am 201 EN:=by
 intro vs r h
 unfold EN at h
 split at h
 ·rename_i x s
  obtain ⟨h1,rfl⟩:=ab h
  refine ak (vs:=[bN x,S s]) (Λ:=ΛRMore16) (m':=M0) IM func201 rfl (fun z z1 z2=>bR (c:=f201.body.getD .skip) qck (qda z z1 z2)) ?_
  exact (XK x s).trans (by rw [h1];rfl)
 ·cases h
def ΓK4:Orc:=ah 201 EN ΓK3
theorem R7:ΓK4.Ok prog:=af IM qfx
theorem Wl (s:ByteArray):runG ΓK4 L0 prog f256 [.v (S s)] M0=bif d8 65535&&bv s then some (.v (bN (lC 65535 s)),M0) else none:=by kernel_rfl
def DI (vs:List Value):Option (Bool×Value) :=
 match vs with
 | [.string s]=>some (bv s,bN (lC 65535 s))
 | _=>none
theorem qeD:am 256 DI:=by
 intro vs r h
 unfold DI at h
 split at h
 ·rename_i s
  obtain ⟨h1,rfl⟩:=ab h
  refine ak (vs:=[S s]) (Λ:=L0) (m':=M0) R7 func256 rfl (fun z _ _=>bg (by kernel_rfl) z) ?_
  exact (Wl s).trans (by rw [h1];rfl)
 ·cases h
def ΓK5:Orc:=ah 256 DI ΓK4
theorem IL:ΓK5.Ok prog:=af R7 qeD
def kS:List Bool:=aB 16 [0,4]
def rE:List Bool:=aB 16 [0]
def oC:Code:=ch (f308.body.getD .skip) 0
theorem qcA:aF (f308.body.getD .skip)=[oC]:=by kernel_rfl
theorem qcz:aF oC=[]:=by kernel_rfl
def Ad (e:Ex) (st:St):Option (Ex×St):=some (e,ac 0 0 rE st)
theorem UO (k:Nat) (x i:Int):an ΓK5 prog L0 (ac 0 0 kS) oC (k+1) (mk kS [.v (cl x),.v (I i)] M0) Ad =
 bif decide (i<8) then (bif za x then an ΓK5 prog L0 (ac 0 0 kS) oC k (mk kS [.v (cl (zy x)),.v (I (wI (i+1)))] M0) Ad else an ΓK5 prog L0 (ac 0 0 kS) oC k (mk kS [.v (cl (zn x)),.v (I (wI (i+1)))] M0) Ad)
 else some (.exit 0,mk rE [.v (cl x)] M0):=by kernel_rfl
def JU (vals:List SV) (m:Mem):Option (Bool×Ex×St) :=
 match vals,m with
 | [.v (.int .u32 x),.v (.int .i64 i)],⟨[],[],[]⟩=>some (i==0&&fG x,.exit 0,mk rE [.v (cl (jF x))] M0)
 | _,_=>none
def ΛEight32:aV:=fun _ st=>cJ 0 0 kS JU st
theorem qdk (z:Base) (z1:z.L.length=0) (z2:z.U.length=0):aS ΛEight32 prog z oC:=by
 refine du (Λ:=L0) (kx:=fun _=>rE) IL mixed z1 z2 (fun b hb=>by rw [qcz] at hb;cases hb) (G:=JU) (fun _=>rfl) ?_
 intro vals m e st' h
 unfold JU at h
 split at h
 ·rename_i x i
  obtain ⟨h1,rfl,rfl⟩:=aw h
  simp only [Bool.and_eq_true,beq_iff_eq] at h1
  obtain ⟨rfl,h1⟩:=h1
  obtain ⟨n,rfl,hn⟩:=xr h1
  exact ⟨9,yT (fun k x i=>an ΓK5 prog L0 (ac 0 0 kS) oC k (mk kS [.v (cl x),.v (I i)] M0) Ad) (fun x=>some (.exit 0,mk rE [.v (cl x)] M0)) (fun x=>za x) zy zn n32 4294967296 (fun n=>Ck) Uu UO 8 n (Nat.le_refl 8) hn⟩
 ·cases h
theorem Zv (x:Int):runG ΓK5 ΛEight32 prog f308 [.v (cl x)] M0=bif (0:Int)==0&&fG x then some (.v (cl (jF x)),M0) else none:=by kernel_rfl
def F6 (vs:List Value):Option (Bool×Value) :=
 match vs with
 | [.int .u32 x]=>some (fG x,cl (jF x))
 | _=>none
theorem qgO:am 308 F6:=by
 intro vs r h
 unfold F6 at h
 split at h
 ·rename_i x
  obtain ⟨h1,rfl⟩:=ab h
  refine ak (vs:=[cl x]) (Λ:=ΛEight32) (m':=M0) IL func308 rfl (fun z z1 z2=>bR (c:=f308.body.getD .skip) qcA (qdk z z1 z2)) ?_
  exact (Zv x).trans (by rw [h1];rfl)
 ·cases h
def ΓK6:Orc:=ah 308 F6 ΓK5
theorem IK:ΓK6.Ok prog:=af IL qgO
def kP:List Bool:=aB 17 [0,3]
def rx:List Bool:=aB 17 [0]
def oy:Code:=ch (f203.body.getD .skip) 0
theorem qb1:aF (f203.body.getD .skip)=[oy]:=by kernel_rfl
theorem qb0:aF oy=[]:=by kernel_rfl
def z7 (e:Ex) (st:St):Option (Ex×St):=some (e,ac 0 0 rx st)
theorem Uy (k:Nat) (x i:Int):an ΓK6 prog L0 (ac 0 0 kP) oy (k+1) (mk kP [.v (cl x),.v (I i)] M0) z7 =
 bif decide (i<8) then (bif yV x then an ΓK6 prog L0 (ac 0 0 kP) oy k (mk kP [.v (cl (yl x)),.v (I (wI (i+1)))] M0) z7 else an ΓK6 prog L0 (ac 0 0 kP) oy k (mk kP [.v (cl (xB x)),.v (I (wI (i+1)))] M0) z7)
 else some (.exit 0,mk rx [.v (cl x)] M0):=by kernel_rfl
def Jr (vals:List SV) (m:Mem):Option (Bool×Ex×St) :=
 match vals,m with
 | [.v (.int .u32 x),.v (.int .i64 i)],⟨[],[],[]⟩=>some (i==0&&fG x,.exit 0,mk rx [.v (cl (jF x))] M0)
 | _,_=>none
def ΛStep32:aV:=fun _ st=>cJ 0 0 kP Jr st
theorem qcW (z:Base) (z1:z.L.length=0) (z2:z.U.length=0):aS ΛStep32 prog z oy:=by
 refine du (Λ:=L0) (kx:=fun _=>rx) IK mixed z1 z2 (fun b hb=>by rw [qb0] at hb;cases hb) (G:=Jr) (fun _=>rfl) ?_
 intro vals m e st' h
 unfold Jr at h
 split at h
 ·rename_i x i
  obtain ⟨h1,rfl,rfl⟩:=aw h
  simp only [Bool.and_eq_true,beq_iff_eq] at h1
  obtain ⟨rfl,h1⟩:=h1
  obtain ⟨n,rfl,hn⟩:=xr h1
  exact ⟨9,yT (fun k x i=>an ΓK6 prog L0 (ac 0 0 kP) oy k (mk kP [.v (cl x),.v (I i)] M0) z7) (fun x=>some (.exit 0,mk rx [.v (cl x)] M0)) (fun x=>yV x) yl xB n32 4294967296 (fun n=>Ck) Ut Uy 8 n (Nat.le_refl 8) hn⟩
 ·cases h
theorem Wp (x:Int):runG ΓK6 ΛStep32 prog f203 [.v (cl x)] M0=bif (0:Int)==0&&fG x then some (.v (cl (jF x)),M0) else none:=by kernel_rfl
def DL (vs:List Value):Option (Bool×Value) :=
 match vs with
 | [.int .u32 x]=>some (fG x,cl (jF x))
 | _=>none
theorem qeE:am 203 DL:=by
 intro vs r h
 unfold DL at h
 split at h
 ·rename_i x
  obtain ⟨h1,rfl⟩:=ab h
  refine ak (vs:=[cl x]) (Λ:=ΛStep32) (m':=M0) IK func203 rfl (fun z z1 z2=>bR (c:=f203.body.getD .skip) qb1 (qcW z z1 z2)) ?_
  exact (Wp x).trans (by rw [h1];rfl)
 ·cases h
def ΓK7:Orc:=ah 203 DL ΓK6
theorem IJ:ΓK7.Ok prog:=af IK qeE
def sQ:List Bool:=aB 20 [0,3,6,7]
def ro:List Bool:=aB 20 [3]
def qH:Code:=ch (f247.body.getD .skip) 0
theorem qbZ:aF (f247.body.getD .skip)=[qH]:=by kernel_rfl
theorem qbY:aF qH=[]:=by kernel_rfl
def J0 (e:Ex) (st:St):Option (Ex×St):=some (e,ac 0 0 ro st)
def Jg (s:ByteArray) (x i:Int):St:=mk sQ [.v (S s),.v (cl x),.v (I (s.size:Int)),.v (I i)] M0
theorem Ux (s:ByteArray) (k:Nat) (x i:Int):an ΓK7 prog L0 (ac 0 0 sQ) qH (k+1) (Jg s x i) J0 =
 bif decide (i<(s.size:Int)) then (bif decide (0<=i)&&decide (i<(s.size:Int)) then (bif fG (iv s x i) then an ΓK7 prog L0 (ac 0 0 sQ) qH k (Jg s (jF (iv s x i)) (wI (i+1))) J0 else none) else none)
 else some (.exit 0,mk ro [.v (cl x)] M0):=by kernel_rfl
def Jq (vals:List SV) (m:Mem):Option (Bool×Ex×St) :=
 match vals,m with
 | [.v (.string s),.v (.int .u32 x),.v (.int .i64 n),.v (.int .i64 i)],⟨[],[],[]⟩=>some (n==(s.size:Int)&&(i==0&&(fG x&&bv s)),.exit 0,mk ro [.v (cl (zC x s))] M0)
 | _,_=>none
def ΛSum32:aV:=fun _ st=>cJ 0 0 sQ Jq st
theorem qcV (z:Base) (z1:z.L.length=0) (z2:z.U.length=0):aS ΛSum32 prog z qH:=by
 refine du (Λ:=L0) (kx:=fun _=>ro) IJ mixed z1 z2 (fun b hb=>by rw [qbY] at hb;cases hb) (G:=Jq) (fun _=>rfl) ?_
 intro vals m e st' h
 unfold Jq at h
 split at h
 ·rename_i s x n i
  obtain ⟨h1,rfl,rfl⟩:=aw h
  simp only [Bool.and_eq_true,beq_iff_eq] at h1
  obtain ⟨rfl,rfl,h1,h4⟩:=h1
  obtain ⟨n,rfl,hn⟩:=xr h1
  exact ⟨s.size+1,su s (Nat.le_of_ble_eq_true h4) (fun k x i=>an ΓK7 prog L0 (ac 0 0 sQ) qH k (Jg s x i) J0) (fun x=>some (.exit 0,mk ro [.v (cl x)] M0)) (fun x i=>fG (iv s x i)) (fun x i=>jF (iv s x i)) p32 4294967296 (fun n b=>B7 b) (NW s) (Ux s) s.size 0 n (by omega) hn⟩
 ·cases h
theorem Wk (s:ByteArray):runG ΓK7 ΛSum32 prog f247 [.v (S s)] M0=bif (s.size:Int)==(s.size:Int)&&((0:Int)==0&&(fG 4294967295&&bv s)) then some (.v (cl (yB s)),M0) else none:=by kernel_rfl
def DH (vs:List Value):Option (Bool×Value) :=
 match vs with
 | [.string s]=>some (bv s,(cl (f7 s)))
 | _=>none
theorem qeC:am 247 DH:=by
 intro vs r h
 unfold DH at h
 split at h
 ·rename_i s
  obtain ⟨h1,rfl⟩:=ab h
  refine ak (vs:=[S s]) (Λ:=ΛSum32) (m':=M0) IJ func247 rfl (fun z z1 z2=>bR (c:=f247.body.getD .skip) qbZ (qcV z z1 z2)) ?_
  exact (Wk s).trans (by rw [h1,beq_self_eq_true,ON];rfl)
 ·cases h
def ΓK8:Orc:=ah 247 DH ΓK7
theorem II:ΓK8.Ok prog:=af IJ qeC
def sS:List Bool:=aB 20 [0,3,4]
def rz:List Bool:=aB 20 [3]
def qI:Code:=ch (f131.body.getD .skip) 0
theorem qci:aF (f131.body.getD .skip)=[qI]:=by kernel_rfl
theorem qch:aF qI=[]:=by kernel_rfl
def J5 (e:Ex) (st:St):Option (Ex×St):=some (e,ac 0 0 rz st)
def Jh (s:ByteArray) (x i:Int):St:=mk sS [.v (S s),.v (cl x),.v (I i)] M0
theorem UE (s:ByteArray) (k:Nat) (x i:Int):an ΓK8 prog L0 (ac 0 0 sS) qI (k+1) (Jh s x i) J5 =
 bif decide (i<(s.size:Int)) then (bif decide (0<=i)&&decide (i<(s.size:Int)) then (bif fG (iv s x i) then an ΓK8 prog L0 (ac 0 0 sS) qI k (Jh s (jF (iv s x i)) (wI (i+1))) J5 else none) else none)
 else some (.exit 0,mk rz [.v (cl x)] M0):=by kernel_rfl
def JH (vals:List SV) (m:Mem):Option (Bool×Ex×St) :=
 match vals,m with
 | [.v (.string s),.v (.int .u32 x),.v (.int .i64 i)],⟨[],[],[]⟩=>some (i==0&&(fG x&&bv s),.exit 0,mk rz [.v (cl (zC x s))] M0)
 | _,_=>none
def ΛRSum32:aV:=fun _ st=>cJ 0 0 sS JH st
theorem qc9 (z:Base) (z1:z.L.length=0) (z2:z.U.length=0):aS ΛRSum32 prog z qI:=by
 refine du (Λ:=L0) (kx:=fun _=>rz) II mixed z1 z2 (fun b hb=>by rw [qch] at hb;cases hb) (G:=JH) (fun _=>rfl) ?_
 intro vals m e st' h
 unfold JH at h
 split at h
 ·rename_i s x i
  obtain ⟨h1,rfl,rfl⟩:=aw h
  simp only [Bool.and_eq_true,beq_iff_eq] at h1
  obtain ⟨rfl,h1,h4⟩:=h1
  obtain ⟨n,rfl,hn⟩:=xr h1
  exact ⟨s.size+1,su s (Nat.le_of_ble_eq_true h4) (fun k x i=>an ΓK8 prog L0 (ac 0 0 sS) qI k (Jh s x i) J5) (fun x=>some (.exit 0,mk rz [.v (cl x)] M0)) (fun x i=>fG (iv s x i)) (fun x i=>jF (iv s x i)) p32 4294967296 (fun n b=>B7 b) (NW s) (UE s) s.size 0 n (by omega) hn⟩
 ·cases h
theorem Xu (s:ByteArray):runG ΓK8 ΛRSum32 prog f131 [.v (S s)] M0=bif (0:Int)==0&&(fG 4294967295&&bv s) then some (.v (cl (yB s)),M0) else none:=by kernel_rfl
def EA (vs:List Value):Option (Bool×Value) :=
 match vs with
 | [.string s]=>some (bv s,(cl (f7 s)))
 | _=>none
theorem qfk:am 131 EA:=by
 intro vs r h
 unfold EA at h
 split at h
 ·rename_i s
  obtain ⟨h1,rfl⟩:=ab h
  refine ak (vs:=[S s]) (Λ:=ΛRSum32) (m':=M0) II func131 rfl (fun z z1 z2=>bR (c:=f131.body.getD .skip) qci (qc9 z z1 z2)) ?_
  exact (Xu s).trans (by rw [h1,ON];rfl)
 ·cases h
def ΓK9:Orc:=ah 131 EA ΓK8
theorem qk5:ΓK9.Ok prog:=af II qfk
def ΓK:Orc:=ΓK9
theorem zQ:ΓK.Ok prog:=qk5
end Go.Proofs.YtainfdcfkgemhaaGreat
namespace Go.Proofs.YtainfdcfkgemhaaGreat
open Go Go.Proofs Go.Sx
abbrev L (s:ByteArray):List UInt8:=s.data.toList
theorem gM {a b:ByteArray}:L a=L b↔a=b:=by
 constructor
 ·intro h
  exact ByteArray.ext (Array.toList_inj.1 h)
 ·rintro rfl;rfl
theorem eG (s:ByteArray):(L s).length=s.size:=by simp [L]
theorem de (a b:ByteArray):L (a++b)=L a++L b:=by simp [L,ByteArray.data_append]
theorem fO (s:ByteArray) (a b:Nat):L (s.extract a b)=((L s).drop a).take (b - a):=by
 simp [L,ByteArray.data_extract,List.extract_eq_take_drop]
theorem uH (xs:List Int):L (strOfNums xs)=xs.map fun n=>UInt8.ofNat n.toNat:=rfl
theorem ic (a b:ByteArray):(a==b)=true↔a=b:=by
 show ((a.data==b.data)=true)↔a=b
 rw [beq_iff_eq]
 exact ByteArray.ext_iff.symm
theorem P7 (a b:ByteArray):(a==b)=(L a==L b):=by
 rw [Bool.eq_iff_iff,ic]
 simp only [beq_iff_eq,gM]
theorem HD (a b:ByteArray):(a.toList==b.toList)=(L a==L b):=by rw [ByteArray.toList_eq,ByteArray.toList_eq]
theorem mN (a b:ByteArray):(a.toList==b.toList)=(a==b):=by rw [HD,P7]
theorem dR (s:ByteArray) (k:Nat):aa s (k:Int)=(((L s)[k]?.map fun b=>(b.toNat:Int)).getD 0):=by
 cases h:(L s)[k]? with
 | some b =>
  have h':s.data[k]?=some b:=by simpa [L] using h
  rw [vo h']
  rfl
 | none =>
  unfold aa
  rw [Int.toNat_natCast]
  have hk:s.size<=k:=by
   rw [<- eG]
   simpa using h
  have:s[k]?=none:=by rw [getElem?_neg];omega
  rw [this]
  rfl
theorem yG (s:ByteArray):s.extract 0 s.size=s:=by
 rw [<- gM,fO,List.drop_zero,List.take_of_length_le (by rw [eG];omega)]
theorem OX {s t:ByteArray} {a b:Nat} (h:b<=s.size):(s++t).extract a b=s.extract a b:=by
 rw [<- gM,fO,fO,de]
 rcases Nat.lt_or_ge a b with h1|h1
 ·rw [List.drop_append_of_le_length (by rw [eG];omega),List.take_append_of_le_length (by simp only [List.length_drop,eG];omega)]
 ·rw [show b - a=0 by omega]
  simp
theorem HO (a b c:ByteArray):(a++b)++c=a++(b++c):=by
 rw [<- gM]
 simp only [de,List.append_assoc]
theorem Az (n:Nat):IntKind.u8.wrap (n:Int)=((n % 256:Nat):Int):=by
 rw [<- cF true];simp only [wr];omega
def rQ (x:Int):ByteArray:=strOfNums [IntKind.u8.wrap (x.fdiv (2 ^ min (Int.toNat 8) IntKind.u16.bits)),IntKind.u8.wrap x]
def fZ (s:ByteArray):ByteArray:=rQ (lC 65535 s)
def cQ (k:Int) (p:ByteArray):ByteArray:=strOfNums [IntKind.u8.wrap k,IntKind.u8.wrap (p.size:Int)]++p
def mark:ByteArray:=⟨#[165,90]⟩
def cn (k:Int) (p:ByteArray):ByteArray:=(mark++cQ k p)++fZ (cQ k p)
def eh (k:Int) (p:ByteArray):Bool:=decide (k>=0)&&(decide (k<=255)&&decide ((p.size:Int)<=64))
def printB (k:Int) (p:ByteArray):ByteArray:=bif eh k p then cn k p else ⟨#[]⟩
theorem A8 (x:Int):(rQ x).size=2:=by simp [rQ,strOfNums_size]
theorem HA (k:Int) (p:ByteArray):(cQ k p).size=p.size+2:=by
 unfold cQ
 rw [ByteArray.size_append,strOfNums_size]
 simp only [List.length_cons,List.length_nil]
 omega
theorem Md (k:Int) (p:ByteArray):(cn k p).size=p.size+6:=by
 unfold cn fZ
 rw [ByteArray.size_append,ByteArray.size_append,HA,A8]
 show 2+_+2=_
 omega
def cW (s:ByteArray):Bool:=(decide ((s.size:Int)>0)&&aa s 0 != 165)||((decide ((s.size:Int)>1)&&aa s 1 != 90)||(decide ((s.size:Int)>3)&&decide (aa s 3>64)))
def bd (s:ByteArray):Int:=6+aa s 3
def fm (s:ByteArray):Bool:=decide ((s.size:Int)<4)||decide ((s.size:Int)<bd s)
def eZ (s:ByteArray):Int:=aa s 2
def eX (s:ByteArray):ByteArray:=s.extract 4 (bd s - 2).toNat
def okB (s:ByteArray):Bool:=cn (eZ s) (eX s)==s.extract 0 (bd s).toNat
def aX (s:ByteArray):Int:=bif cW s then 3 else bif fm s then 5 else bif okB s then 0 else 4
def eV (s:ByteArray):Int:=bif aX s==0 then eZ s else 0
def aN (s:ByteArray):ByteArray:=bif aX s==0 then eX s else ⟨#[]⟩
def bI (s:ByteArray):Int:=bif aX s==0 then bd s else 0
theorem d5 (s:ByteArray) (k:Nat):0<=aa s (k:Int)/\aa s (k:Int)<256:=by
 rw [dR]
 cases (L s)[k]? with
 | none=>simp
 | some b=>have:=dO b;simp;omega
theorem sL (s:ByteArray):6<=bd s/\bd s<262:=by
 have:=d5 s 3
 unfold bd
 rw [show (3:Int)=((3:Nat):Int) from rfl]
 omega
theorem wh (s:ByteArray):(aX s=3/\cW s=true)\/(aX s=5/\cW s=false/\fm s=true)\/(aX s=0/\cW s=false/\fm s=false/\okB s=true)\/(aX s=4/\cW s=false/\fm s=false/\okB s=false):=by
 unfold aX
 cases cW s<;>cases fm s<;>cases okB s<;>simp
theorem wO {s:ByteArray} (h:fm s=false):4<=s.size/\(bd s).toNat<=s.size/\6<=(bd s).toNat:=by
 unfold fm at h
 simp only [Bool.or_eq_false_iff,decide_eq_false_iff_not] at h
 have:=sL s
 omega
theorem lY {s:ByteArray} (h:aX s=0):(bI s).toNat<=s.size/\6<=(bI s).toNat/\bI s=((bI s).toNat:Int)/\eV s=eZ s/\aN s=eX s/\bI s=bd s/\(aN s).size+6=(bI s).toNat/\(aN s).size<=64/\0<=eV s/\eV s<=255/\cW s=false/\fm s=false/\okB s=true:=by
 rcases wh s with ⟨h1,h2⟩|⟨h1,h2,h3⟩|⟨h1,h2,h3,h4⟩|⟨h1,h2,h3,h4⟩
 ·omega
 ·omega
 ·obtain ⟨g1,g2,g3⟩:=wO h3
  have e1:bI s=bd s:=by unfold bI;rw [h];rfl
  have e2:eV s=eZ s:=by unfold eV;rw [h];rfl
  have e3:aN s=eX s:=by unfold aN;rw [h];rfl
  have hl:=sL s
  have hb:=h2
  unfold cW at hb
  simp only [Bool.or_eq_false_iff,Bool.and_eq_false_iff,decide_eq_false_iff_not] at hb
  have h64:aa s 3<=64:=by omega
  have hp:(aN s).size+6=(bd s).toNat:=by
   rw [e3]
   unfold eX
   rw [ByteArray.size_extract]
   omega
  have hk:=d5 s 2
  refine ⟨by rw [e1];exact g2,by rw [e1];exact g3,by rw [e1];omega,e2,e3,e1,by rw [e1];exact hp,?_,?_,?_,h2,h3,h4⟩
  ·unfold bd at hp
   omega
  ·rw [e2];exact hk.1
  ·rw [e2];unfold eZ;have:=hk.2;rw [show (2:Int)=((2:Nat):Int) from rfl];omega
 ·omega
theorem qaL {s:ByteArray} (h:aX s=5):s.size<70:=by
 rcases wh s with ⟨h1,h2⟩|⟨h1,h2,h3⟩|⟨h1,h2,h3,h4⟩|⟨h1,h2,h3,h4⟩
 ·omega
 ·unfold fm at h3
  unfold cW at h2
  simp only [Bool.or_eq_true,decide_eq_true_eq,Bool.or_eq_false_iff,Bool.and_eq_false_iff,decide_eq_false_iff_not] at h2 h3
  unfold bd at h3
  omega
 ·omega
 ·omega
theorem qaN:aX ⟨#[]⟩=5:=by rfl
theorem pF {s:ByteArray} (h:aX s≠5):0<s.size:=by
 apply Classical.byContradiction
 intro hn
 have:s=⟨#[]⟩:=by
  rw [<- gM]
  have:(L s).length=0:=by rw [eG];omega
  exact List.eq_nil_of_length_eq_zero this
 rw [this] at h
 exact h qaN
end Go.Proofs.YtainfdcfkgemhaaGreat
namespace Go.Proofs.YtainfdcfkgemhaaGreat
open Go Go.Proofs Go.Sx
set_option linter.unusedVariables false
def gj (x:Int):Value:=.int .u64 x
theorem bX (c:Code) (z:Base):∀ b∈aF c,aS L0 prog z b:=fun b _ st t h=>by cases h
def p8 (n:Nat) (b:UInt8):Nat:=n*256 % 18446744073709551616+b.toNat
theorem qbd (n:Nat) (b:UInt8) (_:n<18446744073709551616):p8 n b<18446744073709551616:=by
 have:=dO b
 unfold p8
 omega
def numN (s:ByteArray):Nat:=s.data.toList.foldl p8 0
theorem AA (n:Nat):IntKind.u64.wrap (n:Int)=((n % 18446744073709551616:Nat):Int):=by
 rw [<- cF true];simp only [wr];omega
theorem Kt:(2:Nat) ^ 64=18446744073709551616:=by decide
theorem orB (w a b:Nat) (ha:a<2 ^ w) (hb:b<2 ^ w):(((BitVec.ofInt w (a:Int) ||| BitVec.ofInt w (b:Int)).toNat:Nat):Int)=((Nat.lor a b:Nat):Int):=by
 rw [BitVec.toNat_or,BitVec.ofInt_natCast,BitVec.ofInt_natCast,BitVec.toNat_ofNat,BitVec.toNat_ofNat,Nat.mod_eq_of_lt ha,Nat.mod_eq_of_lt hb]
 rfl
def zx (s:ByteArray) (x i:Int):Int:=IntKind.u64.wrap (((BitVec.ofInt 64 (IntKind.u64.wrap (x*2 ^ min (Int.toNat 8) 64)) ||| BitVec.ofInt 64 (IntKind.u64.wrap (aa s i))).toNat:Nat):Int)
theorem qjE {s:ByteArray} {n k:Nat} {b:UInt8} (hb:s.data[k]?=some b):zx s n k=((p8 n b:Nat):Int):=by
 have h:=dO b
 unfold zx p8
 have e:(n:Int)*2 ^ min (Int.toNat 8) 64=((n*256:Nat):Int):=by
  rw [show min (Int.toNat 8) 64=8 from rfl];omega
 rw [e,AA (n*256),vo hb,AA b.toNat,Nat.mod_eq_of_lt (show b.toNat<18446744073709551616 by omega),orB 64 _ _ (by rw [Kt];exact Nat.mod_lt _ (by decide)) (by rw [Kt];omega)]
 have e2:Nat.lor (n*256 % 18446744073709551616) b.toNat=n*256 % 18446744073709551616+b.toNat:=by
  have e3:n*256 % 18446744073709551616=2 ^ 8*(n % 72057594037927936):=by
   rw [show (2:Nat) ^ 8=256 from rfl];omega
  rw [e3]
  exact (Nat.two_pow_add_eq_or_of_lt (show b.toNat<2 ^ 8 by rw [show (2:Nat) ^ 8=256 from rfl];exact h) _).symm
 rw [e2,AA,Nat.mod_eq_of_lt (by omega)]
def be (k:Nat) (x:Int):ByteArray:=strOfNums ((List.range k).reverse.map fun i=>x / 256 ^ i % 256)
def sW:List Bool:=aB 19 [0,3,6,7]
def rB:List Bool:=aB 19 [3]
def qK:Code:=ch (f163.body.getD .skip) 0
theorem qco:aF (f163.body.getD .skip)=[qK]:=by kernel_rfl
theorem qcn:aF qK=[]:=by kernel_rfl
def J7 (e:Ex) (st:St):Option (Ex×St):=some (e,ac 0 0 rB st)
def Jk (s:ByteArray) (x i:Int):St:=mk sW [.v (S s),.v (gj x),.v (I (s.size:Int)),.v (I i)] M0
theorem UH (s:ByteArray) (k:Nat) (x i:Int):an ΓK prog L0 (ac 0 0 sW) qK (k+1) (Jk s x i) J7 =
 bif decide (i<(s.size:Int)) then (bif decide (0<=i)&&decide (i<(s.size:Int)) then an ΓK prog L0 (ac 0 0 sW) qK k (Jk s (zx s x i) (wI (i+1))) J7 else none)
 else some (.exit 0,mk rB [.v (gj x)] M0):=by kernel_rfl
def JK (vals:List SV) (m:Mem):Option (Bool×Ex×St) :=
 match vals,m with
 | [.v (.string s),.v (.int .u64 x),.v (.int .i64 n),.v (.int .i64 i)],⟨[],[],[]⟩=>some (n==(s.size:Int)&&(i==0&&(x==0&&bv s)),.exit 0,mk rB [.v (gj ((numN s:Nat):Int))] M0)
 | _,_=>none
def ΛNumber:aV:=fun _ st=>cJ 0 0 sW JK st
theorem qdc (z:Base) (z1:z.L.length=0) (z2:z.U.length=0):aS ΛNumber prog z qK:=by
 refine du (Λ:=L0) (kx:=fun _=>rB) zQ mixed z1 z2 (fun b hb=>by rw [qcn] at hb;cases hb) (G:=JK) (fun _=>rfl) ?_
 intro vals m e st' h
 unfold JK at h
 split at h
 ·rename_i s x n i
  obtain ⟨h1,rfl,rfl⟩:=aw h
  simp only [Bool.and_eq_true,beq_iff_eq] at h1
  obtain ⟨rfl,rfl,rfl,h4⟩:=h1
  exact ⟨s.size+1,su s (Nat.le_of_ble_eq_true h4) (fun k x i=>an ΓK prog L0 (ac 0 0 sW) qK k (Jk s x i) J7) (fun x=>some (.exit 0,mk rB [.v (gj x)] M0)) (fun _ _=>true) (zx s) p8 18446744073709551616 qbd (fun n k b _ hb=>⟨rfl,qjE hb⟩) (UH s) s.size 0 0 (by omega) (by omega)⟩
 ·cases h
theorem Yg (s:ByteArray):runG ΓK ΛNumber prog f163 [.v (S s)] M0=bif (s.size:Int)==(s.size:Int)&&((0:Int)==0&&((0:Int)==0&&bv s)) then some (.v (gj ((numN s:Nat):Int)),M0) else none:=by kernel_rfl
def E6 (vs:List Value):Option (Bool×Value) :=
 match vs with
 | [.string s]=>some (bv s,gj ((numN s:Nat):Int))
 | _=>none
theorem qfR:am 163 E6:=by
 intro vs r h
 unfold E6 at h
 split at h
 ·rename_i s
  obtain ⟨h1,rfl⟩:=ab h
  refine ak (vs:=[S s]) (Λ:=ΛNumber) (m':=M0) zQ func163 rfl (fun z z1 z2=>bR (c:=f163.body.getD .skip) qco (qdc z z1 z2)) ?_
  exact (Yg s).trans (by rw [h1,beq_self_eq_true];rfl)
 ·cases h
def ΓO1:Orc:=ah 163 E6 ΓK
theorem zL:ΓO1.Ok prog:=af zQ qfR
theorem ZZ (x:Int):runG ΓO1 L0 prog f86 [.v (gj x),.v (I 1)] M0=some (.v (S (strOfNums [IntKind.u8.wrap (x.fdiv (2 ^ min (Int.toNat 0) 64))])),M0):=by kernel_rfl
theorem ZY (x:Int):runG ΓO1 L0 prog f86 [.v (gj x),.v (I 2)] M0=some (.v (S (strOfNums [IntKind.u8.wrap (x.fdiv (2 ^ min (Int.toNat 8) 64)),IntKind.u8.wrap (x.fdiv (2 ^ min (Int.toNat 0) 64))])),M0):=by kernel_rfl
theorem ZX (x:Int):runG ΓO1 L0 prog f86 [.v (gj x),.v (I 4)] M0=some (.v (S (strOfNums [IntKind.u8.wrap (x.fdiv (2 ^ min (Int.toNat 24) 64)),IntKind.u8.wrap (x.fdiv (2 ^ min (Int.toNat 16) 64)),IntKind.u8.wrap (x.fdiv (2 ^ min (Int.toNat 8) 64)),IntKind.u8.wrap (x.fdiv (2 ^ min (Int.toNat 0) 64))])),M0):=by kernel_rfl
theorem ov (x:Int) (j k:Nat) (h:(2:Int) ^ min (Int.toNat (8*k:Nat)) 64=256 ^ k) (hj:j=8*k):IntKind.u8.wrap (x.fdiv (2 ^ min (Int.toNat (j:Nat)) 64))=x / 256 ^ k % 256:=by
 subst hj
 rw [h,Int.fdiv_eq_ediv_of_nonneg _ (Int.le_of_lt (Int.pow_pos (by decide))),<- cF true]
 rfl
theorem be1 (x:Int):strOfNums [IntKind.u8.wrap (x.fdiv (2 ^ min (Int.toNat 0) 64))]=be 1 x:=by
 have e0:=ov x 0 0 (by decide) rfl
 rw [show ((0:Nat):Int)=0 from rfl] at e0
 rw [e0];rfl
theorem be2 (x:Int):strOfNums [IntKind.u8.wrap (x.fdiv (2 ^ min (Int.toNat 8) 64)),IntKind.u8.wrap (x.fdiv (2 ^ min (Int.toNat 0) 64))]=be 2 x:=by
 have e0:=ov x 0 0 (by decide) rfl
 have e1:=ov x 8 1 (by decide) rfl
 rw [show ((0:Nat):Int)=0 from rfl] at e0
 rw [show ((8:Nat):Int)=8 from rfl] at e1
 rw [e0,e1];rfl
theorem be4 (x:Int):strOfNums [IntKind.u8.wrap (x.fdiv (2 ^ min (Int.toNat 24) 64)),IntKind.u8.wrap (x.fdiv (2 ^ min (Int.toNat 16) 64)),IntKind.u8.wrap (x.fdiv (2 ^ min (Int.toNat 8) 64)),IntKind.u8.wrap (x.fdiv (2 ^ min (Int.toNat 0) 64))]=be 4 x:=by
 have e0:=ov x 0 0 (by decide) rfl
 have e1:=ov x 8 1 (by decide) rfl
 have e2:=ov x 16 2 (by decide) rfl
 have e3:=ov x 24 3 (by decide) rfl
 rw [show ((0:Nat):Int)=0 from rfl] at e0
 rw [show ((8:Nat):Int)=8 from rfl] at e1
 rw [show ((16:Nat):Int)=16 from rfl] at e2
 rw [show ((24:Nat):Int)=24 from rfl] at e3
 rw [e0,e1,e2,e3];rfl
def Gx (vs:List Value):Option (Bool×Value) :=
 match vs with
 | [.int .u64 x,.int .i64 (.ofNat k)]=>some (Nat.beq k 1||(Nat.beq k 2||Nat.beq k 4),S (be k x))
 | _=>none
theorem qhc:am 86 Gx:=by
 intro vs r h
 unfold Gx at h
 split at h
 ·rename_i x k
  obtain ⟨h1,rfl⟩:=ab h
  have hk:k=1\/k=2\/k=4:=by
   simp only [Bool.or_eq_true] at h1
   rcases h1 with h1|h1|h1
   ·exact .inl (Nat.eq_of_beq_eq_true h1)
   ·exact .inr (.inl (Nat.eq_of_beq_eq_true h1))
   ·exact .inr (.inr (Nat.eq_of_beq_eq_true h1))
  rcases hk with rfl|rfl|rfl
  ·exact ak (vs:=[gj x,I 1]) (Λ:=L0) (m':=M0) zL func86 rfl (fun z _ _=>bX _ z) ((ZZ x).trans (by rw [be1]))
  ·exact ak (vs:=[gj x,I 2]) (Λ:=L0) (m':=M0) zL func86 rfl (fun z _ _=>bX _ z) ((ZY x).trans (by rw [be2]))
  ·exact ak (vs:=[gj x,I 4]) (Λ:=L0) (m':=M0) zL func86 rfl (fun z _ _=>bX _ z) ((ZX x).trans (by rw [be4]))
 ·cases h
def ΓO:Orc:=ah 86 Gx ΓO1
theorem cw:ΓO.Ok prog:=af zL qhc
end Go.Proofs.YtainfdcfkgemhaaGreat
namespace Go.Proofs.YtainfdcfkgemhaaGreat
open Go Go.Proofs Go.Sx
theorem qbA (a b:List Int):strOfNums (a++b)=strOfNums a++strOfNums b:=by
 rw [<- gM,de,uH,uH,uH,List.map_append]
theorem gh (k:Nat) (x:Int):(be k x).size=k:=by
 unfold be
 rw [strOfNums_size]
 simp
theorem HF (x:Int):be 1 (IntKind.u64.wrap x)=be 1 x:=by
 have e:∀ j:Int,IntKind.u64.wrap j=j % 18446744073709551616:=fun j=>by rw [<- cF true];rfl
 show strOfNums [_]=strOfNums [_]
 rw [e]
 congr 2
 show x % 18446744073709551616 / 256 ^ 0 % 256=x / 256 ^ 0 % 256
 omega
theorem qi8 (x:Int):be 2 (IntKind.u64.wrap x)=be 2 x:=by
 have e:∀ j:Int,IntKind.u64.wrap j=j % 18446744073709551616:=fun j=>by rw [<- cF true];rfl
 have h0:x % 18446744073709551616 / 256 ^ 0 % 256=x / 256 ^ 0 % 256:=by omega
 have h1:x % 18446744073709551616 / 256 ^ 1 % 256=x / 256 ^ 1 % 256:=by omega
 show strOfNums [_ / 256 ^ 1 % 256,_ / 256 ^ 0 % 256]=strOfNums [_ / 256 ^ 1 % 256,_ / 256 ^ 0 % 256]
 rw [e,h0,h1]
theorem zk (x:Int):be 4 (IntKind.u64.wrap x)=be 4 x:=by
 have e:∀ j:Int,IntKind.u64.wrap j=j % 18446744073709551616:=fun j=>by rw [<- cF true];rfl
 have h0:x % 18446744073709551616 / 256 ^ 0 % 256=x / 256 ^ 0 % 256:=by omega
 have h1:x % 18446744073709551616 / 256 ^ 1 % 256=x / 256 ^ 1 % 256:=by omega
 have h2:x % 18446744073709551616 / 256 ^ 2 % 256=x / 256 ^ 2 % 256:=by omega
 have h3:x % 18446744073709551616 / 256 ^ 3 % 256=x / 256 ^ 3 % 256:=by omega
 show strOfNums [_ / 256 ^ 3 % 256,_ / 256 ^ 2 % 256,_ / 256 ^ 1 % 256,_ / 256 ^ 0 % 256]=strOfNums [_ / 256 ^ 3 % 256,_ / 256 ^ 2 % 256,_ / 256 ^ 1 % 256,_ / 256 ^ 0 % 256]
 rw [e,h0,h1,h2,h3]
theorem GQ {s:ByteArray} {i:Nat} (h:i+4<=s.size):∃ b0 b1 b2 b3:UInt8,L (s.extract i (i+4))=[b0,b1,b2,b3]/\aa s (i:Int)=(b0.toNat:Int)/\aa s ((i+1:Nat):Int)=(b1.toNat:Int)/\aa s ((i+2:Nat):Int)=(b2.toNat:Int)/\aa s ((i+3:Nat):Int)=(b3.toNat:Int):=by
 have hl:=eG s
 have hd:∃ b0 b1 b2 b3 r,(L s).drop i=b0::b1::b2::b3::r:=by
  have:4<=((L s).drop i).length:=by rw [List.length_drop];omega
  match hq:(L s).drop i,this with
  | b0::b1::b2::b3::r,_=>exact ⟨b0,b1,b2,b3,r,rfl⟩
 obtain ⟨b0,b1,b2,b3,r,hd⟩:=hd
 have g:∀ j,(L s)[i+j]?=((L s).drop i)[j]?:=fun j=>by rw [List.getElem?_drop]
 refine ⟨b0,b1,b2,b3,?_,?_,?_,?_,?_⟩
 ·rw [fO,hd,show i+4 - i=4 by omega];rfl
 ·have:=g 0
  rw [hd] at this
  rw [dR,show i=i+0 from rfl,this];rfl
 ·have:=g 1
  rw [hd] at this
  rw [dR,this];rfl
 ·have:=g 2
  rw [hd] at this
  rw [dR,this];rfl
 ·have:=g 3
  rw [hd] at this
  rw [dR,this];rfl
theorem wM {s:ByteArray} {b0 b1 b2 b3:UInt8} (h:L s=[b0,b1,b2,b3]):((numN s:Nat):Int)=(b0.toNat:Int)*16777216+(b1.toNat:Int)*65536+(b2.toNat:Int)*256+(b3.toNat:Int):=by
 have h0:=dO b0
 have h1:=dO b1
 have h2:=dO b2
 have h3:=dO b3
 unfold numN
 rw [show s.data.toList=[b0,b1,b2,b3] from h]
 simp only [List.foldl_cons,List.foldl_nil,p8]
 omega
theorem MP {s:ByteArray} {i:Nat} (h:i+4<=s.size):((numN (s.extract i (i+4)):Nat):Int)=aa s (i:Int)*16777216+aa s ((i+1:Nat):Int)*65536+aa s ((i+2:Nat):Int)*256+aa s ((i+3:Nat):Int):=by
 obtain ⟨b0,b1,b2,b3,hb,e0,e1,e2,e3⟩:=GQ h
 rw [wM hb,e0,e1,e2,e3]
theorem tW (b:UInt8) (x:Int) (h:x=(b.toNat:Int)):UInt8.ofNat x.toNat=b:=by
 subst h
 rw [Int.toNat_natCast]
 exact UInt8.ofNat_toNat
theorem SN (x:Int):L (be 4 x)=[UInt8.ofNat (x / 256 ^ 3 % 256).toNat,UInt8.ofNat (x / 256 ^ 2 % 256).toNat,UInt8.ofNat (x / 256 ^ 1 % 256).toNat,UInt8.ofNat (x / 256 ^ 0 % 256).toNat]:=rfl
theorem SO (x:Int):L (be 1 x)=[UInt8.ofNat (x / 256 ^ 0 % 256).toNat]:=rfl
theorem pd {x:Int} (h0:0<=x) (h:x<256):(((UInt8.ofNat x.toNat).toNat:Nat):Int)=x:=by
 rw [UInt8.toNat_ofNat',Nat.mod_eq_of_lt (by omega)]
 omega
theorem wL (x:Int):((numN (be 4 x):Nat):Int)=x % 4294967296:=by
 rw [wM (SN x),pd (by omega) (by omega),pd (by omega) (by omega),pd (by omega) (by omega),pd (by omega) (by omega)]
 omega
theorem qi9 {s:ByteArray} (h:s.size=4) (x:Int) (hx:x % 4294967296=((numN s:Nat):Int)):be 4 x=s:=by
 have he:=GQ (s:=s) (i:=0) (by omega)
 obtain ⟨b0,b1,b2,b3,hb,_⟩:=he
 rw [show (0+4:Nat)=s.size by omega,yG] at hb
 have hn:=wM hb
 have h0:=dO b0
 have h1:=dO b1
 have h2:=dO b2
 have h3:=dO b3
 rw [<- gM,hb,SN,tW b0 _ (by omega),tW b1 _ (by omega),tW b2 _ (by omega),tW b3 _ (by omega)]
end Go.Proofs.YtainfdcfkgemhaaGreat
namespace Go.Proofs.YtainfdcfkgemhaaGreat
open Go Go.Proofs Go.Sx
set_option linter.unusedVariables false
def gO (d st m:Int) (a b:List Int):List Value:=.int .u32 d::.int .i32 st::.int .u32 0::.int .i64 m::(a.map (.int .u16)++b.map (.int .u32))
def gk:List Int:=List.replicate 256 0
def nk:List Int:=(List.range 256).map fun i=>((N16 (i*256):Nat):Int)
def nj:List Int:=(List.range 256).map fun i=>((N32 i:Nat):Int)
def zg (d st m:Int) (a b:List Int):Mem:=⟨[(gO d st m a b).map .v],[true],[]⟩
theorem Tf:∀ f xs m r m',zu 366 .i64 f xs m=some (true,r,m')->bB prog f xs m r m':=qjB func366 (by kernel_rfl) (by kernel_rfl) (by kernel_rfl) (by kernel_rfl)
def Γf0:Orc:=qW (zu 366 .i64) ΓK
theorem Okf0:Γf0.Ok prog:=zv zQ Tf
def Γfi:Orc:=qt prog Γf0.call Γf0.rd Γf0.eqv (fun _=>false) 300 1
theorem QX:Γfi.Ok prog:=G1 mixed names (ext:=Γf0.call) (rd:=Γf0.rd) (eqv:=Γf0.eqv) ⟨Okf0.call,Okf0.rd,Okf0.eqv⟩ 300 1
theorem Y6:runG Γfi (dV Γfi prog 300 1) prog f315 [.ptr 0 0] (zg 0 1 0 gk gk)=some (.v (.tuple #[]),zg 0 1 1 nk nj):=by kernel_rfl
theorem qhE:bB prog 315 [.ptr 0 0] (zg 0 1 0 gk gk) (.v (.tuple #[])) (zg 0 1 1 nk nj) :=
 aj QX func315 rfl (fun z _ _ b _=>eY QX mixed 300 1 b) Y6
end Go.Proofs.YtainfdcfkgemhaaGreat
namespace Go.Proofs.YtainfdcfkgemhaaGreat
open Go Go.Proofs Go.Sx Go.RowKit
set_option linter.unusedVariables false
structure One (b:Nat) (w w':World):Prop where
 os:w'.os=w.os
 tape:w'.tape=w.tape
 output:w'.output=w.output
 size:w.heap.size<=w'.heap.size
 block:∀ k,k≠b->k<w.heap.size->w'.heap[k]?=w.heap[k]?
 froz:∀ p,p.block<w.heap.size->w'.frozen? p=w.frozen? p
theorem One.trans {b:Nat} {w w1 w2:World} (h:One b w w1) (k:One b w1 w2):One b w w2 :=
 ⟨k.os.trans h.os,k.tape.trans h.tape,k.output.trans h.output,Nat.le_trans h.size k.size,fun j hj hl=>(k.block j hj (Nat.lt_of_lt_of_le hl h.size)).trans (h.block j hj hl),fun p hp=>(k.froz p (Nat.lt_of_lt_of_le hp h.size)).trans (h.froz p hp)⟩
theorem One.setCell (b n:Nat) (x:Value) (w:World):One b w (w.setCell ⟨b,n,none⟩ x) :=
 ⟨rfl,rfl,rfl,by simp,fun k hk _=>Below.heap_setCell _ _ _ _ hk,fun p _=>World.frozen?_setCell _ _ _ _⟩
theorem One.drew (b:Nat) (w:World):One b w w.drew:=⟨rfl,rfl,rfl,Nat.le_refl _,fun _ _ _=>rfl,fun _ _=>rfl⟩
def At (w:World) (b o:Nat) (cs:List Value):Prop:=∀ (j:Nat) x,cs[j]?=some x->w.cell? ⟨b,o+j,none⟩=some x/\w.frozen? ⟨b,o+j,none⟩=false
theorem At.set {w:World} {b o:Nat} {cs:List Value} (h:At w b o cs) {n:Nat} {x:Value} (hn:n<cs.length):At (w.setCell ⟨b,o+n,none⟩ x) b o (cs.set n x):=by
 intro j y hy
 rw [World.frozen?_setCell]
 rw [List.getElem?_set] at hy
 by_cases hj:n=j
 ·subst hj
  simp [hn] at hy
  subst hy
  have h1:=h n cs[n] (by simp [hn])
  exact ⟨World.cell?_setCell_same _ _ _ h1.1,h1.2⟩
 ·simp only [if_neg hj] at hy
  have h1:=h j y hy
  exact ⟨by rw [World.cell?_setCell_other _ _ _ _ (fun e=>by injection e with _ e;omega)];exact h1.1,h1.2⟩
theorem qiD {f:FuncId} {cs cs':List Value} {r:Value} (h:bB prog f [.ptr 0 0] ⟨[cs.map .v],[true],[]⟩ (.v r) ⟨[cs'.map .v],[true],[]⟩) {w:World} {b o:Nat} (hb:b<w.heap.size) (ha:At w b o cs)
  (he:(callFunc f #[.pointer (some ⟨b,o,none⟩)]).run prog w=.ok (.enter f #[.pointer (some ⟨b,o,none⟩)]) w) :
  Calls prog f #[.pointer (some ⟨b,o,none⟩)] w fun e w'=>e=.returned r/\One b w w'/\At w' b o cs':=by
 let z:Base:=⟨w,[(b,o)],[],[],fun _=>False⟩
 let V:Vl:=⟨fun i=>if i=0 then some (b,o) else none,fun _=>none,fun _=>none⟩
 have vb:∀ l q,V.b l=some q->l=0/\q=(b,o):=by
  intro l q hq
  simp only [V] at hq
  split at hq
  ·rename_i h0
   exact ⟨h0,(Option.some.inj hq).symm⟩
  ·cases hq
 have hL:Lent z ⟨[cs.map .v],[true],[]⟩ V:=by
  refine { bl:=(rfl:(1:Nat)=1),b:=fun i=>?_,ul:=(rfl:(0:Nat)=0),u:=fun j u hu=>absurd hu (by simp [z]),rl:=fun g=>⟨fun hg=>absurd hg (by simp [z]),?_⟩ }
  ·cases i with
   | zero=>rfl
   | succ i=>simp [V,z]
  ·rintro ⟨j,rc,u,h1,_⟩
   exact absurd h1 (by simp [Sx.rowAt])
 have hM:dz z ⟨[cs.map .v],[true],[]⟩ V z.w:=by
  refine { len:=fun t x hx=>absurd hx (by simp [Tr.get]),tmps:=fun t x hx=>absurd hx (by simp [Tr.get]),defers:=rfl,lens:=rfl,mem:=?_,inj:=?_,own:=?_,lent:=?_,base0:=?_,dom:=?_,lentr:=fun j u hu=>absurd hu (by simp [z]),rows:=fun r rc hr=>absurd hr (by simp [Sx.rowAt]),rowsN:=fun r _=>rfl,apart:=fun r r' rc rc' u u' g h1=>absurd h1 (by simp [Sx.rowAt]),apartb:=fun r rc u g l b' o' h1=>absurd h1 (by simp [Sx.rowAt]),below:=⟨rfl,rfl,rfl,Nat.le_refl _,fun _ _=>rfl⟩,froz:=fun _ _=>rfl,lits:=jI.none fun _=>rfl,sk:=fun _ h=>h.elim,qs:=fun g cs h=>absurd h (by simp [V]) }
  ·intro l b' o' hl cs1 hcs j x hx
   obtain ⟨rfl,hq⟩:=vb l _ hl
   injection hq with e1 e2
   subst e1 e2
   simp at hcs
   subst hcs
   rw [List.getElem?_map] at hx
   cases hv:cs[j]? with
   | none=>rw [hv] at hx;cases hx
   | some v =>
    rw [hv] at hx
    injection hx with hx
    subst hx
    obtain ⟨a1,a2⟩:=ha j v hv
    exact ⟨v,a1,rfl,a2⟩
  ·intro l l' b1 o1 b2 o2 h1 h2 hne
   exact absurd ((vb l _ h1).1.trans (vb l' _ h2).1.symm) hne
  ·intro l b' o' hl
   obtain ⟨rfl,hq⟩:=vb l _ hl
   injection hq with e1 e2
   subst e1 e2
   exact ⟨.inr (by simp [z]),hb⟩
  ·intro l q hq
   cases l with
   | zero=>exact hq
   | succ l=>simp [z] at hq
  ·intro l b' o' hl h0
   obtain ⟨rfl,_⟩:=vb l _ hl
   simp [z] at h0
  ·intro l hl
   obtain ⟨q,hq⟩:=Option.ne_none_iff_exists'.1 hl
   obtain ⟨rfl,_⟩:=vb l q hq
   rfl
 have hA:aG (aI V) [.ptr 0 0] [.pointer (some ⟨b,o,none⟩)]:=⟨⟨b,o,rfl,rfl⟩,trivial⟩
 rcases h z V [.pointer (some ⟨b,o,none⟩)] hL hM hA with ⟨y,w',h1,_⟩|⟨_,h2⟩
 ·rw [show ([.pointer (some ⟨b,o,none⟩)]:List Value).toArray=#[.pointer (some ⟨b,o,none⟩)] from rfl,he] at h1
  cases h1
 ·refine h2.mono fun e w' ⟨y,he,V',hd,hm⟩=>?_
  have hd:y=r:=hd
  subst hd
  have hv0:=hm.lent 0 (b,o) rfl
  refine ⟨he,⟨hm.below.os,hm.below.tape,hm.below.output,hm.below.size,fun k hk hl=>hm.below.block k ⟨hl,fun o' ho=>?_,by simp [z]⟩,fun p hp=>hm.froz p hp⟩,fun j x hx=>?_⟩
  ·simp [z] at ho
   exact hk ho.1
  ·obtain ⟨y',c1,c2,c3⟩:=hm.mem 0 b o hv0 (cs'.map .v) rfl j (.v x) (by rw [List.getElem?_map,hx];rfl)
   have c2:y'=x:=c2
   subst c2
   exact ⟨c1,c3⟩
theorem qbQ {z:Base} {V:Vl} {cs:List SA} {cs':List Value} {b o:Nat} {w':World} (hl:Lent z ⟨[cs],[true],[]⟩ V) (hm:dz z ⟨[cs],[true],[]⟩ V z.w) (hb:V.b 0=some (b,o)) (hs:One b z.w w') (ha:At w' b o cs') :
  dz z ⟨[cs'.map .v],[true],[]⟩ V w':=by
 have hL0:z.L[0]?=some (b,o):=by rw [<- hl.b];exact hb
 have vb:∀ l q,V.b l=some q->l=0/\q=(b,o):=by
  intro l q hq
  have h1:z.L[l]?=some q:=by rw [<- hl.b];exact hq
  have h2:=(List.getElem?_eq_some_iff.1 h1).1
  have h3:z.L.length=1:=hl.bl
  have:l=0:=by omega
  subst this
  rw [hb] at hq
  injection hq with hq
  exact ⟨rfl,hq.symm⟩
 have hq0:∀ g,V.q g=none:=by
  intro g
  cases hq:V.q g with
  | none=>rfl
  | some cs1 =>
   have h1:=hm.qs g cs1 hq
   have h2:=hm.lits.lt hq
   rcases h1 with h1|h1
   ·exact absurd h2 (by have:z.w.heap.size<=g:=h1;omega)
   ·obtain ⟨j,rc,u,h3,_⟩:=(hl.rl g).1 h1
    exact absurd h3 (by simp [Sx.rowAt])
 refine { hm with lens:=rfl,mem:=?_,own:=?_,rows:=fun r rc hr=>absurd hr (by simp [Sx.rowAt]),dom:=?_,apart:=fun r r' rc rc' u u' g h1=>absurd h1 (by simp [Sx.rowAt]),apartb:=fun r rc u g l b' o' h1=>absurd h1 (by simp [Sx.rowAt]),below:=?_,froz:=?_,lits:=jI.none hq0,rowsN:=fun r hr=>hm.rowsN r hr }
 ·intro l b' o' hl' cs1 hcs j x hx
  obtain ⟨rfl,hq⟩:=vb l _ hl'
  injection hq with e1 e2
  subst e1 e2
  simp at hcs
  subst hcs
  rw [List.getElem?_map] at hx
  cases hv:cs'[j]? with
  | none=>rw [hv] at hx;cases hx
  | some v =>
   rw [hv] at hx
   injection hx with hx
   subst hx
   obtain ⟨a1,a2⟩:=ha j v hv
   exact ⟨v,a1,rfl,a2⟩
 ·intro l b' o' hl'
  obtain ⟨h1,h2⟩:=hm.own l b' o' hl'
  exact ⟨h1,Nat.lt_of_lt_of_le h2 hs.size⟩
 ·intro l hl'
  obtain ⟨q,hq⟩:=Option.ne_none_iff_exists'.1 hl'
  obtain ⟨rfl,_⟩:=vb l q hq
  rfl
 ·refine ⟨hs.os,hs.tape,hs.output,hs.size,fun k hk=>hs.block k ?_ hk.1⟩
  rintro rfl
  exact hk.2.1 o (List.mem_of_getElem? hL0)
 ·intro p hp
  exact hs.froz p hp
end Go.Proofs.YtainfdcfkgemhaaGreat
namespace Go.Proofs.YtainfdcfkgemhaaGreat
open Go Go.Proofs Go.Sx
set_option linter.unusedVariables false
theorem disable (w:World):(callFunc 383 #[]).run prog w=.ok (.value (.tuple #[])) w:=run_call_mark0 func383 (by kernel_rfl) (by kernel_rfl) (by kernel_rfl) .disable (by kernel_rfl) w
theorem enable (w:World):(callFunc 385 #[]).run prog w=.ok (.value (.tuple #[])) w:=run_call_mark0 func385 (by kernel_rfl) (by kernel_rfl) (by kernel_rfl) .enable (by kernel_rfl) w
theorem acquire (a:Addr) (w:World):(callFunc 386 #[.pointer (some a)]).run prog w=.ok (.value (.tuple #[])) w:=run_call_marked func386 (by kernel_rfl) (by kernel_rfl) (by kernel_rfl) .acquire (by kernel_rfl) a w
theorem releaseMerge (a:Addr) (w:World):(callFunc 388 #[.pointer (some a)]).run prog w=.ok (.value (.tuple #[])) w:=run_call_marked func388 (by kernel_rfl) (by kernel_rfl) (by kernel_rfl) .releaseMerge (by kernel_rfl) a w
theorem Ur (a:Addr) (x:Value) (u:FrameMode) (w:World) (hc:w.cell? a=some x) (hz:w.frozen? a=false) :
  CallsD prog 365 #[.pointer (some a),.bool true] u w fun e u' w'=>u'=u/\(e=.returned (.tuple #[])/\w'=w.drew.setCell a (.int .u32 1)):=by
 have hc':w.drew.cell? a=some x:=by go_simp
 have hz':w.drew.frozen? a=false:=by go_simp
 have hst:=run_call_store (P:=prog) func376 (by kernel_rfl) (by kernel_rfl) (by kernel_rfl) (by kernel_rfl) (k:=.u32) (y:=1) hc' hz'
 go_enter_d func365,Tryz.ntmps365
 go_wp2
 go_region_calls
 all_goals (go_end0;exact ⟨rfl,rfl⟩)
theorem Tz (a:Addr) (u:FrameMode) (w:World) (hc:w.cell? a=some (.int .i32 1)) (hz:w.frozen? a=false) :
  CallsD prog 364 #[.pointer (some a)] u w fun e u' w'=>u'=u/\(e=.returned (.tuple #[])/\w'=w.setCell a (.int .i32 0)):=by
 have hd:=disable
 have he:=enable
 have hr:=releaseMerge
 have hadd:=run_call_add (P:=prog) func389 (by kernel_rfl) (by kernel_rfl) (by kernel_rfl) .i32 (by kernel_rfl) (y:=-1) (s:=0) hc hz (by simp [go_sem];rfl)
 have hcv:=run_convert_to_unsafe (P:=prog) (src:=456) (dst:=333) Tryz.underlying456 Tryz.underlying333 (by kernel_rfl) hc
 go_enter_d func364,Tryz.ntmps364
 go_wp2
 go_end0
 go_wp2
 go_end0
 exact ⟨rfl,rfl⟩
theorem qdw (a:Addr) (w:World) (hc:w.cell? a=some (.int .i32 0)) (hz:w.frozen? a=false) :
  Calls prog 363 #[.pointer (some a)] w fun e w'=>e=.returned (.tuple #[])/\w'=w.setCell a (.int .i32 1):=by
 have hd:=disable
 have he:=enable
 have ha:=acquire
 have hcas:=run_call_cas_hit (P:=prog) func384 (by kernel_rfl) (by kernel_rfl) (by kernel_rfl) .i32 (by kernel_rfl) (y:=1) hc hz
 have hc':(w.setCell a (.int .i32 1)).cell? a=some (.int .i32 1):=World.cell?_setCell_same w a _ hc
 have hcv:=run_convert_to_unsafe (P:=prog) (src:=456) (dst:=333) Tryz.underlying456 Tryz.underlying333 (by kernel_rfl) hc'
 go_enter func363,Tryz.ntmps363
 go_wp2
 first|go_end0|(simp only [Exit.inBlock,Exit.then];refine bodyPost_ret (results_none rfl _ _ _) rfl ?_)|refine bodyPost_ret (results_none rfl _ _ _) rfl ?_
 go_wp2
 go_end0
 exact ⟨rfl,rfl⟩
end Go.Proofs.YtainfdcfkgemhaaGreat
namespace Go.Proofs.YtainfdcfkgemhaaGreat
open Go Go.Proofs Go.Sx
set_option linter.unusedVariables false
theorem qhD (w:World) (b o:Nat) (hb:b<w.heap.size) (h:At w b o (gO 0 1 0 gk gk)) :
  Calls prog 315 #[.pointer (some ⟨b,o,none⟩)] w fun e w'=>e=.returned (.tuple #[])/\One b w w'/\At w' b o (gO 0 1 1 nk nj) :=
 qiD qhE hb h (ot func315 (by kernel_rfl) (nF names func315 (by kernel_rfl)) w)
theorem U0 (b o:Nat) (w:World) (hb:b<w.heap.size) (h:At w b o (gO 0 0 0 gk gk)) :
  Calls prog 350 #[.pointer (some ⟨b,o,none⟩),.func (.func 315) #[.pointer (some ⟨b,o,none⟩)] #[]] w fun e w'=>e=.returned (.tuple #[]) /\
   ∃ w2,One b w w2/\At w2 b o (gO 0 1 1 nk nj)/\w'=(w2.drew.setCell ⟨b,o,none⟩ (.int .u32 1)).setCell ⟨b,o+1,none⟩ (.int .i32 0):=by
 have h0:w.cell? ⟨b,o,none⟩=some (.int .u32 0):=(h 0 _ rfl).1
 have h1:w.cell? ⟨b,o+1,none⟩=some (.int .i32 0):=(h 1 _ rfl).1
 have f1:w.frozen? ⟨b,o+1,none⟩=false:=(h 1 _ rfl).2
 have hA:At (w.setCell ⟨b,o+1,none⟩ (.int .i32 1)) b o (gO 0 1 0 gk gk):=h.set (n:=1) (x:=.int .i32 1) (by simp [gO])
 have hl:=run_call_load (P:=prog) func362 (by kernel_rfl) (by kernel_rfl) (by kernel_rfl) .u32 (by kernel_rfl) (w:=w.setCell ⟨b,o+1,none⟩ (.int .i32 1)) (a:=⟨b,o,none⟩) (x:=0) ((World.cell?_setCell_other _ ⟨b,o+1,none⟩ ⟨b,o,none⟩ _ (by simp)).trans h0)
 have hnot:∀ (x:Bool) (w:World),(Op.unary .not (.bool x)).run prog w=.ok (.bool (!x)) w:=fun _ _=>rfl
 go_enter_defers func350,Tryz.ntmps350
 go_wp2_with (first|(go_at_call 363;refine (qdw ⟨b,o+1,none⟩ _ (by go_simp) (by go_simp)).mono ?_;rintro e w' ⟨rfl,rfl⟩)|(go_at_call 349;go_in)|(go_at_call 315;refine (qhD _ b o (by simpa using hb) hA).mono ?_;rintro e w2 ⟨rfl,hE,hE2⟩))
 have e0:=hE2 0 (.int .u32 0) rfl
 have e1:=hE2 1 (.int .i32 1) rfl
 refine leaves_cons (f:=365) (args:=#[.pointer (some ⟨b,o,none⟩),.bool true]) (by simp) (by simp [go_sem]) ?_
 refine (Ur ⟨b,o,none⟩ (.int .u32 0) .returning _ e0.1 e0.2).mono ?_
 rintro e u' w'' ⟨rfl,rfl,rfl⟩
 refine leaves_cons (f:=364) (args:=#[.pointer (some ⟨b,o+1,none⟩)]) (by simp [settle]) (by simp [go_sem]) ?_
 refine (Tz ⟨b,o+1,none⟩ _ _ ?_ ?_).mono ?_
 ·rw [World.cell?_setCell_other _ ⟨b,o,none⟩ ⟨b,o+1,none⟩ _ (by simp),World.cell?_drew]
  exact e1.1
 ·rw [World.frozen?_setCell]
  exact e1.2
 rintro e u' w'' ⟨rfl,rfl,rfl⟩
 simp [Leaves,settle,results,Tryz.results350]
 exact ⟨w2,(One.setCell b (o+1) (.int .i32 1) w).trans hE,hE2,rfl⟩
theorem qh2 (b o:Nat) (w:World) (hb:b<w.heap.size) (h:At w b o (gO 0 0 0 gk gk)) :
  Calls prog 314 #[.pointer (some ⟨b,o,none⟩),.func (.func 315) #[.pointer (some ⟨b,o,none⟩)] #[]] w fun e w'=>e=.returned (.tuple #[]) /\
   ∃ w2,One b w w2/\At w2 b o (gO 0 1 1 nk nj)/\w'=(w2.drew.setCell ⟨b,o,none⟩ (.int .u32 1)).setCell ⟨b,o+1,none⟩ (.int .i32 0):=by
 have h0:w.cell? ⟨b,o,none⟩=some (.int .u32 0):=(h 0 _ rfl).1
 have hl:=run_call_load (P:=prog) func362 (by kernel_rfl) (by kernel_rfl) (by kernel_rfl) .u32 (by kernel_rfl) h0
 have hnot:∀ (x:Bool) (w:World),(Op.unary .not (.bool x)).run prog w=.ok (.bool (!x)) w:=fun _ _=>rfl
 go_enter func314,Tryz.ntmps314
 go_wp2_with (first|(go_at_call 350;refine (U0 b o _ hb h).mono ?_;rintro e w' ⟨rfl,w2,hE,hE2,rfl⟩)|(go_at_call 349;go_in))
 go_end0
 exact ⟨rfl,w2,hE,hE2,rfl⟩
theorem qh3 (a:Addr) (fv:Value) (w:World) (h0:w.cell? a=some (.int .u32 1)) :
  Calls prog 314 #[.pointer (some a),fv] w fun e w'=>e=.returned (.tuple #[])/\w'=w:=by
 have hl:=run_call_load (P:=prog) func362 (by kernel_rfl) (by kernel_rfl) (by kernel_rfl) .u32 (by kernel_rfl) h0
 have hnot:∀ (x:Bool) (w:World),(Op.unary .not (.bool x)).run prog w=.ok (.bool (!x)) w:=fun _ _=>rfl
 go_enter func314,Tryz.ntmps314
 go_wp2
 go_end0
 exact ⟨rfl,rfl⟩
def wQ:List Value:=gO 0 0 0 gk gk
def nG:List Value:=gO 1 0 1 nk nj
theorem Pf {z:Base} {V:Vl} {vs:List Value} (hA:aG (aI V) [.ptr 0 0,.clo 315 0 0] vs):∃ b o,V.b 0=some (b,o)/\vs=[.pointer (some ⟨b,o,none⟩),.func (.func 315) #[.pointer (some ⟨b,o,none⟩)] #[]]:=by
 match vs,hA with
 | [x,y],⟨⟨b,o,h1,h2⟩,⟨b',o',h3,h4⟩,_⟩ =>
  rw [h1] at h3
  injection h3 with h3
  injection h3 with e1 e2
  subst e1 e2
  refine ⟨b,o,h1,?_⟩
  rw [h2,h4]
  unfold jv
  rw [if_pos (show (315:Nat)<jy by decide)]
  rfl
theorem qh4:bB prog 314 [.ptr 0 0,.clo 315 0 0] ⟨[wQ.map .v],[true],[]⟩ (.v (.tuple #[])) ⟨[nG.map .v],[true],[]⟩:=by
 intro z V vs hl hm ha
 obtain ⟨b,o,hb,rfl⟩:=Pf (z:=z) ha
 have hat:At z.w b o wQ:=fun j x hx=>by
  obtain ⟨y,c1,c2,c3⟩:=hm.mem 0 b o hb (wQ.map .v) rfl j (.v x) (by rw [List.getElem?_map,hx];rfl)
  have c2:y=x:=c2
  subst c2
  exact ⟨c1,c3⟩
 refine .inr ⟨ot func314 (by kernel_rfl) (nF names func314 (by kernel_rfl)) z.w,?_⟩
 refine (qh2 b o z.w (hm.own 0 b o hb).2 hat).mono ?_
 rintro e w' ⟨rfl,w2,hE,hE2,rfl⟩
 have k0:At w2.drew b o (gO 0 1 1 nk nj):=hE2
 have k1:=(k0.set (n:=0) (x:=.int .u32 1) (by simp [gO])).set (n:=1) (x:=.int .i32 0) (by simp [gO])
 exact ⟨_,rfl,V,rfl,qbQ (b:=b) (o:=o) (cs':=nG) hl hm hb (((hE.trans (One.drew b w2)).trans (One.setCell b o _ _)).trans (One.setCell b (o+1) _ _)) k1⟩
theorem qh5:bB prog 314 [.ptr 0 0,.clo 315 0 0] ⟨[nG.map .v],[true],[]⟩ (.v (.tuple #[])) ⟨[nG.map .v],[true],[]⟩:=by
 intro z V vs hl hm ha
 obtain ⟨b,o,hb,rfl⟩:=Pf (z:=z) ha
 obtain ⟨y,c1,c2,c3⟩:=hm.mem 0 b o hb (nG.map .v) rfl 0 (.v (.int .u32 1)) rfl
 have c2:y=.int .u32 1:=c2
 subst c2
 refine .inr ⟨ot func314 (by kernel_rfl) (nF names func314 (by kernel_rfl)) z.w,?_⟩
 refine (qh3 ⟨b,o,none⟩ _ z.w c1).mono ?_
 rintro e w' ⟨rfl,rfl⟩
 exact ⟨_,rfl,V,rfl,hm⟩
def G6 (a:SA) (b:Value):Bool :=
 match a,b with
 | .v (.int k x),.int k' y=>decide (k=k')&&decide (x=y)
 | _,_=>false
def eqL:List SA->List Value->Bool
 | [],[]=>true
 | x::a,y::b=>G6 x y&&eqL a b
 | _,_=>false
theorem qhX {x:SA} {y:Value} (h:G6 x y=true):x=.v y:=by
 unfold G6 at h
 split at h
 ·simp only [Bool.and_eq_true,decide_eq_true_eq] at h
  rw [h.1,h.2]
 ·cases h
theorem eqL_eq:∀ {a:List SA} {b:List Value},eqL a b=true->a=b.map .v
 | [],[],_=>rfl
 | x::a,y::b,h=>by
  simp only [eqL,Bool.and_eq_true] at h
  rw [qhX h.1,eqL_eq h.2]
  rfl
 | [],_::_,h=>by cases h
 | _::_,[],h=>by cases h
def Pd (cs:List SA):Bool :=
 match cs with
 | .v (.int .u32 d)::_=>decide (d=1)
 | _=>false
def NH (cs:List SA):Bool:=bif Pd cs then eqL cs nG else eqL cs wQ
def Ga (xs:List SV) (m:Mem):Option (Bool×SV×Mem) :=
 match xs,m with
 | [.ptr 0 0,.clo f 0 0],⟨[cs],[true],[]⟩=>match Nat.beq f 315 with
  | true=>some (NH cs,.v (.tuple #[]),⟨[nG.map .v],[true],[]⟩)
  | false=>none
 | _,_=>none
theorem qgS:aQ 314 Ga:=by
 intro xs m r m' h
 unfold Ga at h
 split at h
 ·split at h
  ·rename_i f cs _ hf
   obtain rfl:=Nat.eq_of_beq_eq_true hf
   obtain ⟨h1,rfl,rfl⟩:=aw h
   unfold NH at h1
   cases hd:Pd cs
   ·rw [hd] at h1
    rw [eqL_eq h1]
    exact qh4
   ·rw [hd] at h1
    rw [eqL_eq h1]
    exact qh5
  ·cases h
 ·cases h
def ΓDo:Orc:=aC 314 Ga Γf0
theorem IV:ΓDo.Ok prog:=aA Okf0 qgS
end Go.Proofs.YtainfdcfkgemhaaGreat
