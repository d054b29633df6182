/-
  What is known of this program: sums,bytes and numbers;tables that are made once.
-/
import Derived.Test.YtagaiddomhpdmaaGreatYc
import Derived.Laws.Strings
import Derived.Test.YtagaiddomhpdmaaGreatSx
import Derived.Tactics
import Derived.Tactics2
import Derived.Defers
import Derived.Laws.Pointers
import Derived.Laws.LoneSync
import Derived.RegionTactic
import Derived.RegionCalls
import Derived.ChangeAlike
set_option maxRecDepth 100000
namespace Go.Proofs.YtagaiddomhpdmaaGreat
open Go Go.Proofs Go.Sx
def n16 (n:Nat):Nat:=bif Nat.ble 32768 n then Nat.xor (2*n % 65536) 4129 else 2*n % 65536
def n32 (n:Nat):Nat:=bif Nat.beq (n % 2) 1 then Nat.xor (n / 2) 3988292384 else n / 2
def it (f:Nat→Nat):Nat→Nat→Nat
  | 0,n=>n
  | k+1,n=>it f k (f n)
def N16 (n:Nat):Nat:=it n16 8 n
def N32 (n:Nat):Nat:=it n32 8 n
theorem xor_lt {a b:Nat} (k:Nat) (ha:a<2 ^ k) (hb:b<2 ^ k):Nat.xor a b<2 ^ k:=Nat.xor_lt_two_pow ha hb
theorem n16_lt (n:Nat):n16 n<65536:=by
  unfold n16
  cases Nat.ble 32768 n
  · exact Nat.mod_lt _ (by decide)
  · exact xor_lt 16 (Nat.mod_lt _ (by decide)) (by decide)
theorem n32_lt {n:Nat} (h:n<4294967296):n32 n<4294967296:=by
  unfold n32
  cases Nat.beq (n % 2) 1
  · show n / 2<_;omega
  · exact xor_lt 32 (by have:(2:Nat) ^ 32=4294967296:=by decide
                        omega) (by decide)
theorem it_lt {f:Nat→Nat} {m:Nat} (hf:∀ n,n<m→f n<m):∀ (k n:Nat),n<m→it f k n<m
  | 0,_,h=>h
  | k+1,n,h=>it_lt hf k (f n) (hf n h)
theorem N16_lt {n:Nat} (h:n<65536):N16 n<65536:=it_lt (fun n _=>n16_lt n) 8 n h
theorem N32_lt {n:Nat} (h:n<4294967296):N32 n<4294967296:=it_lt (fun _=>n32_lt) 8 n h
theorem wrap16 (n:Nat):IntKind.u16.wrap (n:Int)=((n % 65536:Nat):Int):=by
  rw [← wr_eq true];simp only [wr];omega
theorem wrap32 (n:Nat):IntKind.u32.wrap (n:Int)=((n % 4294967296:Nat):Int):=by
  rw [← wr_eq true];simp only [wr];omega
theorem xorB (w a b:Nat) (ha:a<2 ^ w) (hb:b<2 ^ w):(((BitVec.ofInt w (a:Int) ^^^ BitVec.ofInt w (b:Int)).toNat:Nat):Int)=((Nat.xor a b:Nat):Int):=by
  rw [BitVec.toNat_xor,BitVec.ofInt_natCast,BitVec.ofInt_natCast,BitVec.toNat_ofNat,BitVec.toNat_ofNat,Nat.mod_eq_of_lt ha,Nat.mod_eq_of_lt hb]
  rfl
theorem andB (w a b:Nat) (ha:a<2 ^ w) (hb:b<2 ^ w):(((BitVec.ofInt w (a:Int) &&& BitVec.ofInt w (b:Int)).toNat:Nat):Int)=((Nat.land a b:Nat):Int):=by
  rw [BitVec.toNat_and,BitVec.ofInt_natCast,BitVec.ofInt_natCast,BitVec.toNat_ofNat,BitVec.toNat_ofNat,Nat.mod_eq_of_lt ha,Nat.mod_eq_of_lt hb]
  rfl
theorem eight {α:Type} (E:Nat→Int→Int→Option α) (F:Int→Option α) (c:Int→Bool) (A B:Int→Int) (f:Nat→Nat) (m:Nat) (hf:∀ n,n<m→f n<m) (hc:∀ n:Nat,n<m→(bif c (n:Int) then A (n:Int) else B (n:Int))=((f n:Nat):Int))
    (hE:∀ k x i,E (k+1) x i=bif decide (i<(8:Int)) then (bif c x then E k (A x) (wI (i+1)) else E k (B x) (wI (i+1))) else F x) :
    ∀ (j n:Nat),j≤8→n<m→E (j+1) (n:Int) ((8 - j:Nat):Int)=F ((it f j n:Nat):Int):=by
  intro j
  induction j with
  | zero =>
    intro n _ _
    rw [hE]
    rfl
  | succ j ih =>
    intro n hj hn
    rw [hE,show decide (((8 - (j+1):Nat):Int)<8)=true from decide_eq_true (by omega),wI_id (by omega),show ((8 - (j+1):Nat):Int)+1=((8 - j:Nat):Int) by omega]
    have hx:=hc n hn
    have h2:(bif c (n:Int) then E (j+1) (A n) ((8 - j:Nat):Int) else E (j+1) (B n) ((8 - j:Nat):Int))=E (j+1) (bif c (n:Int) then A (n:Int) else B (n:Int)) ((8 - j:Nat):Int):=by
      cases c (n:Int)<;>rfl
    rw [cond_true,h2,hx,ih (f n) (by omega) (hf n hn)]
    rfl
def a16 (x:Int):Int:=IntKind.u16.wrap (((BitVec.ofInt 16 (IntKind.u16.wrap (x*2 ^ min (Int.toNat 1) 16)) ^^^ BitVec.ofInt 16 4129).toNat:Nat):Int)
def b16 (x:Int):Int:=IntKind.u16.wrap (x*2 ^ min (Int.toNat 1) 16)
theorem step_n16 (n:Nat) (_:n<65536):(bif decide ((n:Int)≥32768) then a16 n else b16 n)=((n16 n:Nat):Int):=by
  have e:(n:Int)*2 ^ min (Int.toNat 1) 16=((2*n:Nat):Int):=by
    rw [show min (Int.toNat 1) 16=1 from rfl];omega
  unfold a16 b16 n16
  rw [e,wrap16 (2*n),show (4129:Int)=((4129:Nat):Int) from rfl,xorB 16 _ _ (Nat.mod_lt _ (by decide)) (by decide),wrap16]
  by_cases h:32768≤n
  · rw [decide_eq_true (by omega),show Nat.ble 32768 n=true from by rw [Nat.ble_eq];exact h]
    simp only [cond_true]
    rw [Nat.mod_eq_of_lt (xor_lt 16 (Nat.mod_lt _ (by decide)) (by decide))]
  · rw [decide_eq_false (by omega),show Nat.ble 32768 n=false from by rw [← Bool.not_eq_true,Nat.ble_eq];exact h]
    rfl
def c32 (x:Int):Bool:=IntKind.u32.wrap (((BitVec.ofInt 32 x &&& BitVec.ofInt 32 1).toNat:Nat):Int)==1
def a32 (x:Int):Int:=IntKind.u32.wrap (((BitVec.ofInt 32 (Int.fdiv x (2 ^ min (Int.toNat 1) 32)) ^^^ BitVec.ofInt 32 3988292384).toNat:Nat):Int)
def b32 (x:Int):Int:=Int.fdiv x (2 ^ min (Int.toNat 1) 32)
theorem two32:(2:Nat) ^ 32=4294967296:=by decide
theorem step_n32 (n:Nat) (h:n<4294967296):(bif c32 n then a32 n else b32 n)=((n32 n:Nat):Int):=by
  have e:Int.fdiv (n:Int) (2 ^ min (Int.toNat 1) 32)=((n / 2:Nat):Int):=by
    rw [show min (Int.toNat 1) 32=1 from rfl,Int.fdiv_eq_ediv_of_nonneg _ (by decide)];omega
  unfold c32 a32 b32 n32
  rw [e,show (3988292384:Int)=((3988292384:Nat):Int) from rfl,show (1:Int)=((1:Nat):Int) from rfl,andB 32 _ _ (by rw [two32];exact h) (by decide),xorB 32 _ _ (by rw [two32];omega) (by decide),wrap32,wrap32]
  have e2:Nat.land n 1=n % 2:=Nat.and_one_is_mod n
  rw [e2]
  rcases Nat.mod_two_eq_zero_or_one n with h0|h0
  · rw [h0];rfl
  · rw [h0,Nat.mod_eq_of_lt (xor_lt 32 (by rw [two32];omega) (by decide))];rfl
def d32 (x:Int):Bool:=Int.tmod x 2==1
def g32 (x:Int):Int:=IntKind.u32.wrap (((BitVec.ofInt 32 (IntKind.u32.wrap (Int.tdiv x 2)) ^^^ BitVec.ofInt 32 3988292384).toNat:Nat):Int)
def h32 (x:Int):Int:=IntKind.u32.wrap (Int.tdiv x 2)
theorem step_r32 (n:Nat) (h:n<4294967296):(bif d32 n then g32 n else h32 n)=((n32 n:Nat):Int):=by
  have e:Int.tdiv (n:Int) 2=((n / 2:Nat):Int):=by
    rw [Int.tdiv_eq_ediv_of_nonneg (by omega)];omega
  have e1:Int.tmod (n:Int) 2=((n % 2:Nat):Int):=by
    rw [Int.tmod_eq_emod_of_nonneg (by omega)];omega
  unfold d32 g32 h32 n32
  rw [e,e1,wrap32 (n / 2),Nat.mod_eq_of_lt (show n / 2<4294967296 by omega),show (3988292384:Int)=((3988292384:Nat):Int) from rfl,xorB 32 _ _ (by rw [two32];omega) (by decide),wrap32]
  rcases Nat.mod_two_eq_zero_or_one n with h0|h0
  · rw [h0];rfl
  · rw [h0,Nat.mod_eq_of_lt (xor_lt 32 (by rw [two32];omega) (by decide))];rfl
def p16 (x:Nat) (b:UInt8):Nat:=N16 (Nat.xor x (b.toNat*256))
def p32 (x:Nat) (b:UInt8):Nat:=N32 (Nat.xor x b.toNat)
theorem byte_lt (b:UInt8):b.toNat<256:=b.toNat_lt
theorem p16_lt {x:Nat} (b:UInt8) (h:x<65536):p16 x b<65536 :=
  N16_lt (xor_lt 16 h (by have:=byte_lt b;show _<65536;omega))
theorem p32_lt {x:Nat} (b:UInt8) (h:x<4294967296):p32 x b<4294967296 :=
  N32_lt (xor_lt 32 h (by have:=byte_lt b;rw [two32];omega))
def R16 (x:Int) (s:ByteArray):Int:=((s.data.toList.foldl p16 x.toNat:Nat):Int)
def F32 (s:ByteArray):Nat:=s.data.toList.foldl p32 4294967295
theorem fold_lt {α:Type} {f:Nat→α→Nat} {m:Nat} (hf:∀ n b,n<m→f n b<m):∀ (l:List α) (n:Nat),n<m→l.foldl f n<m
  | [],_,h=>h
  | b::l,n,h=>fold_lt hf l _ (hf n b h)
theorem strAt_some {s:ByteArray} {k:Nat} {b:UInt8} (h:s.data[k]?=some b):strAt s (k:Int)=(b.toNat:Int):=by
  unfold strAt
  have:s[(k:Int).toNat]?=some b:=by
    rw [Int.toNat_natCast]
    have hk:k<s.size:=by
      have:=(Array.getElem?_eq_some_iff.1 h).1
      exact this
    rw [getElem?_pos s k hk]
    have h2:=(Array.getElem?_eq_some_iff.1 h).2
    rw [← h2]
    rfl
  rw [this]
theorem overS {α:Type} (s:ByteArray) (hs:s.size≤9223372036854775807) (E:Nat→Int→Int→Option α) (F:Int→Option α) (g:Int→Int→Bool) (A:Int→Int→Int) (f:Nat→UInt8→Nat) (m:Nat) (hf:∀ n b,n<m→f n b<m)
    (hg:∀ (n k:Nat) b,n<m→s.data[k]?=some b→g n k=true∧A n k=((f n b:Nat):Int))
    (hE:∀ k x i,E (k+1) x i=bif decide (i<(s.size:Int)) then (bif decide (0≤i)&&decide (i<(s.size:Int)) then (bif g x i then E k (A x i) (wI (i+1)) else none) else none) else F x) :
    ∀ (j k n:Nat),k+j=s.size→n<m→E (j+1) (n:Int) (k:Int)=F (((s.data.toList.drop k).foldl f n:Nat):Int):=by
  intro j
  induction j with
  | zero =>
    intro k n hk _
    rw [hE,show decide ((k:Int)<(s.size:Int))=false from decide_eq_false (by omega)]
    rw [List.drop_eq_nil_of_le (by simp;omega)]
    rfl
  | succ j ih =>
    intro k n hk hn
    have hlt:k<s.data.size:=by show k<s.size;omega
    obtain ⟨b,hb⟩:∃ b,s.data[k]?=some b:=⟨s.data[k],by simp⟩
    obtain ⟨h1,h2⟩:=hg n k b hn hb
    rw [hE,show decide ((k:Int)<(s.size:Int))=true from decide_eq_true (by omega),show decide ((0:Int)≤(k:Int))=true from decide_eq_true (by omega),wI_id (by omega),h1,h2]
    simp only [cond_true,Bool.and_self]
    rw [show (k:Int)+1=((k+1:Nat):Int) by omega,ih (k+1) _ (by omega) (hf n b hn)]
    have e2:s.data.toList.drop k=b::s.data.toList.drop (k+1):=by
      rw [List.drop_eq_getElem_cons (by simpa using hlt)]
      have:=(Array.getElem?_eq_some_iff.1 hb).2
      simp [this]
    rw [e2,List.foldl_cons]
def q16 (s:ByteArray) (x i:Int):Int:=IntKind.u16.wrap (((BitVec.ofInt 16 x ^^^ BitVec.ofInt 16 (IntKind.u16.wrap (IntKind.u16.wrap (strAt s i)*2 ^ min (Int.toNat 8) 16))).toNat:Nat):Int)
def q32 (s:ByteArray) (x i:Int):Int:=IntKind.u32.wrap (((BitVec.ofInt 32 x ^^^ BitVec.ofInt 32 (IntKind.u32.wrap (strAt s i))).toNat:Nat):Int)
theorem q16_nat {s:ByteArray} {n k:Nat} {b:UInt8} (hn:n<65536) (hb:s.data[k]?=some b):q16 s n k=((Nat.xor n (b.toNat*256):Nat):Int):=by
  have h:=byte_lt b
  unfold q16
  rw [strAt_some hb,wrap16 b.toNat,Nat.mod_eq_of_lt (show b.toNat<65536 by omega)]
  have e:((b.toNat:Nat):Int)*2 ^ min (Int.toNat 8) 16=((b.toNat*256:Nat):Int):=by
    rw [show min (Int.toNat 8) 16=8 from rfl];omega
  rw [e,wrap16 (b.toNat*256),Nat.mod_eq_of_lt (show b.toNat*256<65536 by omega),xorB 16 _ _ hn (by show _<65536;omega),wrap16,Nat.mod_eq_of_lt (xor_lt 16 hn (by show _<65536;omega))]
theorem q32_nat {s:ByteArray} {n k:Nat} {b:UInt8} (hn:n<4294967296) (hb:s.data[k]?=some b):q32 s n k=((Nat.xor n b.toNat:Nat):Int):=by
  have h:=byte_lt b
  unfold q32
  rw [strAt_some hb,wrap32 b.toNat,Nat.mod_eq_of_lt (show b.toNat<4294967296 by omega)]
  rw [xorB 32 _ _ (by rw [two32];exact hn) (by rw [two32];omega),wrap32,Nat.mod_eq_of_lt (xor_lt 32 (by rw [two32];exact hn) (by rw [two32];omega))]
def inN (m:Nat) (x:Int):Bool :=
  match x with
  | .ofNat n=>Nat.ble (n+1) m
  | .negSucc _=>false
theorem inN_nat {m:Nat} {x:Int} (h:inN m x=true):∃ n:Nat,x=(n:Int)∧n<m:=by
  cases x with
  | ofNat n=>exact ⟨n,rfl,Nat.le_of_ble_eq_true h⟩
  | negSucc n=>cases h
theorem inN_of {m n:Nat} (h:n<m):inN m (n:Int)=true:=Nat.ble_eq_true_of_le h
def in16 (x:Int):Bool:=inN 65536 x
def in32 (x:Int):Bool:=inN 4294967296 x
def S16 (x:Int):Int:=((N16 x.toNat:Nat):Int)
def S32 (x:Int):Int:=((N32 x.toNat:Nat):Int)
theorem in16_nat {x:Int} (h:in16 x=true):∃ n:Nat,x=(n:Int)∧n<65536:=inN_nat h
theorem in32_nat {x:Int} (h:in32 x=true):∃ n:Nat,x=(n:Int)∧n<4294967296:=inN_nat h
def R32 (x:Int) (s:ByteArray):Int:=((s.data.toList.foldl p32 x.toNat:Nat):Int)
def sum32 (s:ByteArray):Int:=((Nat.xor (F32 s) 4294967295:Nat):Int)
def fin32 (s:ByteArray):Int:=IntKind.u32.wrap (((BitVec.ofInt 32 (R32 4294967295 s) ^^^ BitVec.ofInt 32 4294967295).toNat:Nat):Int)
theorem F32_lt (s:ByteArray):F32 s<4294967296:=fold_lt (fun _ b=>p32_lt b) _ _ (by decide)
theorem fin32_eq (s:ByteArray):fin32 s=sum32 s:=by
  have h:=F32_lt s
  unfold fin32 sum32
  have e:R32 4294967295 s=((F32 s:Nat):Int):=rfl
  rw [e,show (4294967295:Int)=((4294967295:Nat):Int) from rfl,xorB 32 _ _ (by rw [two32];exact h) (by decide),wrap32,Nat.mod_eq_of_lt (xor_lt 32 (by rw [two32];exact h) (by decide))]
def szS (s:ByteArray):Bool:=Nat.ble s.size 9223372036854775807
theorem gs16 (s:ByteArray) (n k:Nat) (b:UInt8) (hn:n<65536) (hb:s.data[k]?=some b):in16 (q16 s n k)=true∧S16 (q16 s n k)=((p16 n b:Nat):Int):=by
  rw [q16_nat hn hb]
  exact ⟨inN_of (xor_lt 16 hn (by have:=byte_lt b;show _<65536;omega)),rfl⟩
theorem gs32 (s:ByteArray) (n k:Nat) (b:UInt8) (hn:n<4294967296) (hb:s.data[k]?=some b):in32 (q32 s n k)=true∧S32 (q32 s n k)=((p32 n b:Nat):Int):=by
  rw [q32_nat hn hb]
  exact ⟨inN_of (xor_lt 32 (by rw [two32];exact hn) (by have:=byte_lt b;rw [two32];omega)),rfl⟩
def kEight16:List Bool:=maskOf 15 [0,4]
def xEight16:List Bool:=maskOf 15 [0]
noncomputable def bodyEight16:Code:=loopAt (Tryz.f285.body.getD .skip) 0
theorem loopsEight16:loopsOf (Tryz.f285.body.getD .skip)=[bodyEight16]:=by kernel_rfl
theorem loopsEight160:loopsOf bodyEight16=[]:=by kernel_rfl
def EEight16 (e:Ex) (st:St):Option (Ex×St):=some (e,cutC 0 0 xEight16 st)
theorem stepEight16 (k:Nat) (x i:Int):evLoop ΓA13 Tryz.prog L0 (cutC 0 0 kEight16) bodyEight16 (k+1) (mk kEight16 [.v (U16 x),.v (I i)] M0) EEight16 =
    bif decide (i<8) then (bif decide (x≥32768) then evLoop ΓA13 Tryz.prog L0 (cutC 0 0 kEight16) bodyEight16 k (mk kEight16 [.v (U16 (a16 x)),.v (I (wI (i+1)))] M0) EEight16 else evLoop ΓA13 Tryz.prog L0 (cutC 0 0 kEight16) bodyEight16 k (mk kEight16 [.v (U16 (b16 x)),.v (I (wI (i+1)))] M0) EEight16)
    else some (.exit 0,mk xEight16 [.v (U16 x)] M0):=by kernel_rfl
def GEight16 (vals:List SV) (m:Mem):Option (Bool×Ex×St) :=
  match vals,m with
  | [.v (.int .u16 x),.v (.int .i64 i)],⟨[],[],[]⟩=>some (i==0&&in16 x,.exit 0,mk xEight16 [.v (U16 (S16 x))] M0)
  | _,_=>none
noncomputable def ΛEight16:LoopOrc:=fun _ st=>viaC 0 0 kEight16 GEight16 st
theorem loopOkEight16 (z:Base) (z1:z.L.length=0) (z2:z.U.length=0):LoopOk ΛEight16 Tryz.prog z bodyEight16:=by
  refine loop_okC (Λ:=L0) (kx:=fun _=>xEight16) OkA13 mixed z1 z2 (fun b hb=>by rw [loopsEight160] at hb;cases hb) (G:=GEight16) (fun _=>rfl) ?_
  intro vals m e st' h
  unfold GEight16 at h
  split at h
  · rename_i x i
    obtain ⟨h1,rfl,rfl⟩:=some_t2 h
    simp only [Bool.and_eq_true,beq_iff_eq] at h1
    obtain ⟨rfl,h1⟩:=h1
    obtain ⟨n,rfl,hn⟩:=in16_nat h1
    exact ⟨9,eight (fun k x i=>evLoop ΓA13 Tryz.prog L0 (cutC 0 0 kEight16) bodyEight16 k (mk kEight16 [.v (U16 x),.v (I i)] M0) EEight16) (fun x=>some (.exit 0,mk xEight16 [.v (U16 x)] M0)) (fun x=>decide (x≥32768)) a16 b16 n16 65536 (fun n _=>n16_lt n) step_n16 stepEight16 8 n (Nat.le_refl 8) hn⟩
  · cases h
theorem runEight16 (x:Int):runG ΓA13 ΛEight16 Tryz.prog Tryz.f285 [.v (U16 x)] M0=bif (0:Int)==0&&in16 x then some (.v (U16 (S16 x)),M0) else none:=by kernel_rfl
def gEight16 (vs:List Value):Option (Bool×Value) :=
  match vs with
  | [.int .u16 x]=>some (in16 x,U16 (S16 x))
  | _=>none
theorem gEight16_ok:CtV 285 gEight16:=by
  intro vs r h
  unfold gEight16 at h
  split at h
  · rename_i x
    obtain ⟨h1,rfl⟩:=some_t h
    refine runV (vs:=[U16 x]) (Λ:=ΛEight16) (m':=M0) OkA13 Tryz.func285 rfl (fun z z1 z2=>oneLoop (c:=Tryz.f285.body.getD .skip) loopsEight16 (loopOkEight16 z z1 z2)) ?_
    exact (runEight16 x).trans (by rw [h1];rfl)
  · cases h
noncomputable def ΓK1:Orc:=addVal 285 gEight16 ΓA13
theorem OkK1:ΓK1.Ok Tryz.prog:=addVal_ok OkA13 gEight16_ok
def kStep16:List Bool:=maskOf 16 [0,3]
def xStep16:List Bool:=maskOf 16 [0]
noncomputable def bodyStep16:Code:=loopAt (Tryz.f150.body.getD .skip) 0
theorem loopsStep16:loopsOf (Tryz.f150.body.getD .skip)=[bodyStep16]:=by kernel_rfl
theorem loopsStep160:loopsOf bodyStep16=[]:=by kernel_rfl
def EStep16 (e:Ex) (st:St):Option (Ex×St):=some (e,cutC 0 0 xStep16 st)
theorem stepStep16 (k:Nat) (x i:Int):evLoop ΓK1 Tryz.prog L0 (cutC 0 0 kStep16) bodyStep16 (k+1) (mk kStep16 [.v (U16 x),.v (I i)] M0) EStep16 =
    bif decide (i<8) then (bif decide (x≥32768) then evLoop ΓK1 Tryz.prog L0 (cutC 0 0 kStep16) bodyStep16 k (mk kStep16 [.v (U16 (a16 x)),.v (I (wI (i+1)))] M0) EStep16 else evLoop ΓK1 Tryz.prog L0 (cutC 0 0 kStep16) bodyStep16 k (mk kStep16 [.v (U16 (b16 x)),.v (I (wI (i+1)))] M0) EStep16)
    else some (.exit 0,mk xStep16 [.v (U16 x)] M0):=by kernel_rfl
def GStep16 (vals:List SV) (m:Mem):Option (Bool×Ex×St) :=
  match vals,m with
  | [.v (.int .u16 x),.v (.int .i64 i)],⟨[],[],[]⟩=>some (i==0&&in16 x,.exit 0,mk xStep16 [.v (U16 (S16 x))] M0)
  | _,_=>none
noncomputable def ΛStep16:LoopOrc:=fun _ st=>viaC 0 0 kStep16 GStep16 st
theorem loopOkStep16 (z:Base) (z1:z.L.length=0) (z2:z.U.length=0):LoopOk ΛStep16 Tryz.prog z bodyStep16:=by
  refine loop_okC (Λ:=L0) (kx:=fun _=>xStep16) OkK1 mixed z1 z2 (fun b hb=>by rw [loopsStep160] at hb;cases hb) (G:=GStep16) (fun _=>rfl) ?_
  intro vals m e st' h
  unfold GStep16 at h
  split at h
  · rename_i x i
    obtain ⟨h1,rfl,rfl⟩:=some_t2 h
    simp only [Bool.and_eq_true,beq_iff_eq] at h1
    obtain ⟨rfl,h1⟩:=h1
    obtain ⟨n,rfl,hn⟩:=in16_nat h1
    exact ⟨9,eight (fun k x i=>evLoop ΓK1 Tryz.prog L0 (cutC 0 0 kStep16) bodyStep16 k (mk kStep16 [.v (U16 x),.v (I i)] M0) EStep16) (fun x=>some (.exit 0,mk xStep16 [.v (U16 x)] M0)) (fun x=>decide (x≥32768)) a16 b16 n16 65536 (fun n _=>n16_lt n) step_n16 stepStep16 8 n (Nat.le_refl 8) hn⟩
  · cases h
theorem runStep16 (x:Int):runG ΓK1 ΛStep16 Tryz.prog Tryz.f150 [.v (U16 x)] M0=bif (0:Int)==0&&in16 x then some (.v (U16 (S16 x)),M0) else none:=by kernel_rfl
def gStep16 (vs:List Value):Option (Bool×Value) :=
  match vs with
  | [.int .u16 x]=>some (in16 x,U16 (S16 x))
  | _=>none
theorem gStep16_ok:CtV 150 gStep16:=by
  intro vs r h
  unfold gStep16 at h
  split at h
  · rename_i x
    obtain ⟨h1,rfl⟩:=some_t h
    refine runV (vs:=[U16 x]) (Λ:=ΛStep16) (m':=M0) OkK1 Tryz.func150 rfl (fun z z1 z2=>oneLoop (c:=Tryz.f150.body.getD .skip) loopsStep16 (loopOkStep16 z z1 z2)) ?_
    exact (runStep16 x).trans (by rw [h1];rfl)
  · cases h
noncomputable def ΓK2:Orc:=addVal 150 gStep16 ΓK1
theorem OkK2:ΓK2.Ok Tryz.prog:=addVal_ok OkK1 gStep16_ok
def kMore16:List Bool:=maskOf 21 [0,1,7,8]
def xMore16:List Bool:=maskOf 21 [0]
noncomputable def bodyMore16:Code:=loopAt (Tryz.f244.body.getD .skip) 0
theorem loopsMore16:loopsOf (Tryz.f244.body.getD .skip)=[bodyMore16]:=by kernel_rfl
theorem loopsMore160:loopsOf bodyMore16=[]:=by kernel_rfl
def EMore16 (e:Ex) (st:St):Option (Ex×St):=some (e,cutC 0 0 xMore16 st)
def HMore16 (s:ByteArray) (x i:Int):St:=mk kMore16 [.v (U16 x),.v (S s),.v (I (s.size:Int)),.v (I i)] M0
theorem stepMore16 (s:ByteArray) (k:Nat) (x i:Int):evLoop ΓK2 Tryz.prog L0 (cutC 0 0 kMore16) bodyMore16 (k+1) (HMore16 s x i) EMore16 =
    bif decide (i<(s.size:Int)) then (bif decide (0≤i)&&decide (i<(s.size:Int)) then (bif in16 (q16 s x i) then evLoop ΓK2 Tryz.prog L0 (cutC 0 0 kMore16) bodyMore16 k (HMore16 s (S16 (q16 s x i)) (wI (i+1))) EMore16 else none) else none)
    else some (.exit 0,mk xMore16 [.v (U16 x)] M0):=by kernel_rfl
def GMore16 (vals:List SV) (m:Mem):Option (Bool×Ex×St) :=
  match vals,m with
  | [.v (.int .u16 x),.v (.string s),.v (.int .i64 n),.v (.int .i64 i)],⟨[],[],[]⟩=>some (n==(s.size:Int)&&(i==0&&(in16 x&&szS s)),.exit 0,mk xMore16 [.v (U16 (R16 x s))] M0)
  | _,_=>none
noncomputable def ΛMore16:LoopOrc:=fun _ st=>viaC 0 0 kMore16 GMore16 st
theorem loopOkMore16 (z:Base) (z1:z.L.length=0) (z2:z.U.length=0):LoopOk ΛMore16 Tryz.prog z bodyMore16:=by
  refine loop_okC (Λ:=L0) (kx:=fun _=>xMore16) OkK2 mixed z1 z2 (fun b hb=>by rw [loopsMore160] at hb;cases hb) (G:=GMore16) (fun _=>rfl) ?_
  intro vals m e st' h
  unfold GMore16 at h
  split at h
  · rename_i x s n i
    obtain ⟨h1,rfl,rfl⟩:=some_t2 h
    simp only [Bool.and_eq_true,beq_iff_eq] at h1
    obtain ⟨rfl,rfl,h1,h4⟩:=h1
    obtain ⟨n,rfl,hn⟩:=in16_nat h1
    exact ⟨s.size+1,overS s (Nat.le_of_ble_eq_true h4) (fun k x i=>evLoop ΓK2 Tryz.prog L0 (cutC 0 0 kMore16) bodyMore16 k (HMore16 s x i) EMore16) (fun x=>some (.exit 0,mk xMore16 [.v (U16 x)] M0)) (fun x i=>in16 (q16 s x i)) (fun x i=>S16 (q16 s x i)) p16 65536 (fun n b=>p16_lt b) (gs16 s) (stepMore16 s) s.size 0 n (by omega) hn⟩
  · cases h
theorem runMore16 (x:Int) (s:ByteArray):runG ΓK2 ΛMore16 Tryz.prog Tryz.f244 [.v (U16 x),.v (S s)] M0=bif (s.size:Int)==(s.size:Int)&&((0:Int)==0&&(in16 x&&szS s)) then some (.v (U16 (R16 x s)),M0) else none:=by kernel_rfl
def gMore16 (vs:List Value):Option (Bool×Value) :=
  match vs with
  | [.int .u16 x,.string s]=>some (in16 x&&szS s,(U16 (R16 x s)))
  | _=>none
theorem gMore16_ok:CtV 244 gMore16:=by
  intro vs r h
  unfold gMore16 at h
  split at h
  · rename_i x s
    obtain ⟨h1,rfl⟩:=some_t h
    refine runV (vs:=[U16 x,S s]) (Λ:=ΛMore16) (m':=M0) OkK2 Tryz.func244 rfl (fun z z1 z2=>oneLoop (c:=Tryz.f244.body.getD .skip) loopsMore16 (loopOkMore16 z z1 z2)) ?_
    exact (runMore16 x s).trans (by rw [h1,beq_self_eq_true];rfl)
  · cases h
noncomputable def ΓK3:Orc:=addVal 244 gMore16 ΓK2
theorem OkK3:ΓK3.Ok Tryz.prog:=addVal_ok OkK2 gMore16_ok
def kRMore16:List Bool:=maskOf 21 [0,1,5]
def xRMore16:List Bool:=maskOf 21 [0]
noncomputable def bodyRMore16:Code:=loopAt (Tryz.f95.body.getD .skip) 0
theorem loopsRMore16:loopsOf (Tryz.f95.body.getD .skip)=[bodyRMore16]:=by kernel_rfl
theorem loopsRMore160:loopsOf bodyRMore16=[]:=by kernel_rfl
def ERMore16 (e:Ex) (st:St):Option (Ex×St):=some (e,cutC 0 0 xRMore16 st)
def HRMore16 (s:ByteArray) (x i:Int):St:=mk kRMore16 [.v (U16 x),.v (S s),.v (I i)] M0
theorem stepRMore16 (s:ByteArray) (k:Nat) (x i:Int):evLoop ΓK3 Tryz.prog L0 (cutC 0 0 kRMore16) bodyRMore16 (k+1) (HRMore16 s x i) ERMore16 =
    bif decide (i<(s.size:Int)) then (bif decide (0≤i)&&decide (i<(s.size:Int)) then (bif in16 (q16 s x i) then evLoop ΓK3 Tryz.prog L0 (cutC 0 0 kRMore16) bodyRMore16 k (HRMore16 s (S16 (q16 s x i)) (wI (i+1))) ERMore16 else none) else none)
    else some (.exit 0,mk xRMore16 [.v (U16 x)] M0):=by kernel_rfl
def GRMore16 (vals:List SV) (m:Mem):Option (Bool×Ex×St) :=
  match vals,m with
  | [.v (.int .u16 x),.v (.string s),.v (.int .i64 i)],⟨[],[],[]⟩=>some (i==0&&(in16 x&&szS s),.exit 0,mk xRMore16 [.v (U16 (R16 x s))] M0)
  | _,_=>none
noncomputable def ΛRMore16:LoopOrc:=fun _ st=>viaC 0 0 kRMore16 GRMore16 st
theorem loopOkRMore16 (z:Base) (z1:z.L.length=0) (z2:z.U.length=0):LoopOk ΛRMore16 Tryz.prog z bodyRMore16:=by
  refine loop_okC (Λ:=L0) (kx:=fun _=>xRMore16) OkK3 mixed z1 z2 (fun b hb=>by rw [loopsRMore160] at hb;cases hb) (G:=GRMore16) (fun _=>rfl) ?_
  intro vals m e st' h
  unfold GRMore16 at h
  split at h
  · rename_i x s i
    obtain ⟨h1,rfl,rfl⟩:=some_t2 h
    simp only [Bool.and_eq_true,beq_iff_eq] at h1
    obtain ⟨rfl,h1,h4⟩:=h1
    obtain ⟨n,rfl,hn⟩:=in16_nat h1
    exact ⟨s.size+1,overS s (Nat.le_of_ble_eq_true h4) (fun k x i=>evLoop ΓK3 Tryz.prog L0 (cutC 0 0 kRMore16) bodyRMore16 k (HRMore16 s x i) ERMore16) (fun x=>some (.exit 0,mk xRMore16 [.v (U16 x)] M0)) (fun x i=>in16 (q16 s x i)) (fun x i=>S16 (q16 s x i)) p16 65536 (fun n b=>p16_lt b) (gs16 s) (stepRMore16 s) s.size 0 n (by omega) hn⟩
  · cases h
theorem runRMore16 (x:Int) (s:ByteArray):runG ΓK3 ΛRMore16 Tryz.prog Tryz.f95 [.v (U16 x),.v (S s)] M0=bif (0:Int)==0&&(in16 x&&szS s) then some (.v (U16 (R16 x s)),M0) else none:=by kernel_rfl
def gRMore16 (vs:List Value):Option (Bool×Value) :=
  match vs with
  | [.int .u16 x,.string s]=>some (in16 x&&szS s,(U16 (R16 x s)))
  | _=>none
theorem gRMore16_ok:CtV 95 gRMore16:=by
  intro vs r h
  unfold gRMore16 at h
  split at h
  · rename_i x s
    obtain ⟨h1,rfl⟩:=some_t h
    refine runV (vs:=[U16 x,S s]) (Λ:=ΛRMore16) (m':=M0) OkK3 Tryz.func95 rfl (fun z z1 z2=>oneLoop (c:=Tryz.f95.body.getD .skip) loopsRMore16 (loopOkRMore16 z z1 z2)) ?_
    exact (runRMore16 x s).trans (by rw [h1];rfl)
  · cases h
noncomputable def ΓK4:Orc:=addVal 95 gRMore16 ΓK3
theorem OkK4:ΓK4.Ok Tryz.prog:=addVal_ok OkK3 gRMore16_ok
theorem runSum16 (s:ByteArray):runG ΓK4 L0 Tryz.prog Tryz.f193 [.v (S s)] M0=bif in16 65535&&szS s then some (.v (U16 (R16 65535 s)),M0) else none:=by kernel_rfl
def gSum16 (vs:List Value):Option (Bool×Value) :=
  match vs with
  | [.string s]=>some (szS s,U16 (R16 65535 s))
  | _=>none
theorem gSum16_ok:CtV 193 gSum16:=by
  intro vs r h
  unfold gSum16 at h
  split at h
  · rename_i s
    obtain ⟨h1,rfl⟩:=some_t h
    refine runV (vs:=[S s]) (Λ:=L0) (m':=M0) OkK4 Tryz.func193 rfl (fun z _ _=>noLoops (by kernel_rfl) z) ?_
    exact (runSum16 s).trans (by rw [h1];rfl)
  · cases h
noncomputable def ΓK5:Orc:=addVal 193 gSum16 ΓK4
theorem OkK5:ΓK5.Ok Tryz.prog:=addVal_ok OkK4 gSum16_ok
def kEight32:List Bool:=maskOf 16 [0,4]
def xEight32:List Bool:=maskOf 16 [0]
noncomputable def bodyEight32:Code:=loopAt (Tryz.f239.body.getD .skip) 0
theorem loopsEight32:loopsOf (Tryz.f239.body.getD .skip)=[bodyEight32]:=by kernel_rfl
theorem loopsEight320:loopsOf bodyEight32=[]:=by kernel_rfl
def EEight32 (e:Ex) (st:St):Option (Ex×St):=some (e,cutC 0 0 xEight32 st)
theorem stepEight32 (k:Nat) (x i:Int):evLoop ΓK5 Tryz.prog L0 (cutC 0 0 kEight32) bodyEight32 (k+1) (mk kEight32 [.v (U32 x),.v (I i)] M0) EEight32 =
    bif decide (i<8) then (bif c32 x then evLoop ΓK5 Tryz.prog L0 (cutC 0 0 kEight32) bodyEight32 k (mk kEight32 [.v (U32 (a32 x)),.v (I (wI (i+1)))] M0) EEight32 else evLoop ΓK5 Tryz.prog L0 (cutC 0 0 kEight32) bodyEight32 k (mk kEight32 [.v (U32 (b32 x)),.v (I (wI (i+1)))] M0) EEight32)
    else some (.exit 0,mk xEight32 [.v (U32 x)] M0):=by kernel_rfl
def GEight32 (vals:List SV) (m:Mem):Option (Bool×Ex×St) :=
  match vals,m with
  | [.v (.int .u32 x),.v (.int .i64 i)],⟨[],[],[]⟩=>some (i==0&&in32 x,.exit 0,mk xEight32 [.v (U32 (S32 x))] M0)
  | _,_=>none
noncomputable def ΛEight32:LoopOrc:=fun _ st=>viaC 0 0 kEight32 GEight32 st
theorem loopOkEight32 (z:Base) (z1:z.L.length=0) (z2:z.U.length=0):LoopOk ΛEight32 Tryz.prog z bodyEight32:=by
  refine loop_okC (Λ:=L0) (kx:=fun _=>xEight32) OkK5 mixed z1 z2 (fun b hb=>by rw [loopsEight320] at hb;cases hb) (G:=GEight32) (fun _=>rfl) ?_
  intro vals m e st' h
  unfold GEight32 at h
  split at h
  · rename_i x i
    obtain ⟨h1,rfl,rfl⟩:=some_t2 h
    simp only [Bool.and_eq_true,beq_iff_eq] at h1
    obtain ⟨rfl,h1⟩:=h1
    obtain ⟨n,rfl,hn⟩:=in32_nat h1
    exact ⟨9,eight (fun k x i=>evLoop ΓK5 Tryz.prog L0 (cutC 0 0 kEight32) bodyEight32 k (mk kEight32 [.v (U32 x),.v (I i)] M0) EEight32) (fun x=>some (.exit 0,mk xEight32 [.v (U32 x)] M0)) (fun x=>c32 x) a32 b32 n32 4294967296 (fun n=>n32_lt) step_n32 stepEight32 8 n (Nat.le_refl 8) hn⟩
  · cases h
theorem runEight32 (x:Int):runG ΓK5 ΛEight32 Tryz.prog Tryz.f239 [.v (U32 x)] M0=bif (0:Int)==0&&in32 x then some (.v (U32 (S32 x)),M0) else none:=by kernel_rfl
def gEight32 (vs:List Value):Option (Bool×Value) :=
  match vs with
  | [.int .u32 x]=>some (in32 x,U32 (S32 x))
  | _=>none
theorem gEight32_ok:CtV 239 gEight32:=by
  intro vs r h
  unfold gEight32 at h
  split at h
  · rename_i x
    obtain ⟨h1,rfl⟩:=some_t h
    refine runV (vs:=[U32 x]) (Λ:=ΛEight32) (m':=M0) OkK5 Tryz.func239 rfl (fun z z1 z2=>oneLoop (c:=Tryz.f239.body.getD .skip) loopsEight32 (loopOkEight32 z z1 z2)) ?_
    exact (runEight32 x).trans (by rw [h1];rfl)
  · cases h
noncomputable def ΓK6:Orc:=addVal 239 gEight32 ΓK5
theorem OkK6:ΓK6.Ok Tryz.prog:=addVal_ok OkK5 gEight32_ok
def kStep32:List Bool:=maskOf 17 [0,3]
def xStep32:List Bool:=maskOf 17 [0]
noncomputable def bodyStep32:Code:=loopAt (Tryz.f152.body.getD .skip) 0
theorem loopsStep32:loopsOf (Tryz.f152.body.getD .skip)=[bodyStep32]:=by kernel_rfl
theorem loopsStep320:loopsOf bodyStep32=[]:=by kernel_rfl
def EStep32 (e:Ex) (st:St):Option (Ex×St):=some (e,cutC 0 0 xStep32 st)
theorem stepStep32 (k:Nat) (x i:Int):evLoop ΓK6 Tryz.prog L0 (cutC 0 0 kStep32) bodyStep32 (k+1) (mk kStep32 [.v (U32 x),.v (I i)] M0) EStep32 =
    bif decide (i<8) then (bif d32 x then evLoop ΓK6 Tryz.prog L0 (cutC 0 0 kStep32) bodyStep32 k (mk kStep32 [.v (U32 (g32 x)),.v (I (wI (i+1)))] M0) EStep32 else evLoop ΓK6 Tryz.prog L0 (cutC 0 0 kStep32) bodyStep32 k (mk kStep32 [.v (U32 (h32 x)),.v (I (wI (i+1)))] M0) EStep32)
    else some (.exit 0,mk xStep32 [.v (U32 x)] M0):=by kernel_rfl
def GStep32 (vals:List SV) (m:Mem):Option (Bool×Ex×St) :=
  match vals,m with
  | [.v (.int .u32 x),.v (.int .i64 i)],⟨[],[],[]⟩=>some (i==0&&in32 x,.exit 0,mk xStep32 [.v (U32 (S32 x))] M0)
  | _,_=>none
noncomputable def ΛStep32:LoopOrc:=fun _ st=>viaC 0 0 kStep32 GStep32 st
theorem loopOkStep32 (z:Base) (z1:z.L.length=0) (z2:z.U.length=0):LoopOk ΛStep32 Tryz.prog z bodyStep32:=by
  refine loop_okC (Λ:=L0) (kx:=fun _=>xStep32) OkK6 mixed z1 z2 (fun b hb=>by rw [loopsStep320] at hb;cases hb) (G:=GStep32) (fun _=>rfl) ?_
  intro vals m e st' h
  unfold GStep32 at h
  split at h
  · rename_i x i
    obtain ⟨h1,rfl,rfl⟩:=some_t2 h
    simp only [Bool.and_eq_true,beq_iff_eq] at h1
    obtain ⟨rfl,h1⟩:=h1
    obtain ⟨n,rfl,hn⟩:=in32_nat h1
    exact ⟨9,eight (fun k x i=>evLoop ΓK6 Tryz.prog L0 (cutC 0 0 kStep32) bodyStep32 k (mk kStep32 [.v (U32 x),.v (I i)] M0) EStep32) (fun x=>some (.exit 0,mk xStep32 [.v (U32 x)] M0)) (fun x=>d32 x) g32 h32 n32 4294967296 (fun n=>n32_lt) step_r32 stepStep32 8 n (Nat.le_refl 8) hn⟩
  · cases h
theorem runStep32 (x:Int):runG ΓK6 ΛStep32 Tryz.prog Tryz.f152 [.v (U32 x)] M0=bif (0:Int)==0&&in32 x then some (.v (U32 (S32 x)),M0) else none:=by kernel_rfl
def gStep32 (vs:List Value):Option (Bool×Value) :=
  match vs with
  | [.int .u32 x]=>some (in32 x,U32 (S32 x))
  | _=>none
theorem gStep32_ok:CtV 152 gStep32:=by
  intro vs r h
  unfold gStep32 at h
  split at h
  · rename_i x
    obtain ⟨h1,rfl⟩:=some_t h
    refine runV (vs:=[U32 x]) (Λ:=ΛStep32) (m':=M0) OkK6 Tryz.func152 rfl (fun z z1 z2=>oneLoop (c:=Tryz.f152.body.getD .skip) loopsStep32 (loopOkStep32 z z1 z2)) ?_
    exact (runStep32 x).trans (by rw [h1];rfl)
  · cases h
noncomputable def ΓK7:Orc:=addVal 152 gStep32 ΓK6
theorem OkK7:ΓK7.Ok Tryz.prog:=addVal_ok OkK6 gStep32_ok
def kSum32:List Bool:=maskOf 20 [0,3,6,7]
def xSum32:List Bool:=maskOf 20 [3]
noncomputable def bodySum32:Code:=loopAt (Tryz.f184.body.getD .skip) 0
theorem loopsSum32:loopsOf (Tryz.f184.body.getD .skip)=[bodySum32]:=by kernel_rfl
theorem loopsSum320:loopsOf bodySum32=[]:=by kernel_rfl
def ESum32 (e:Ex) (st:St):Option (Ex×St):=some (e,cutC 0 0 xSum32 st)
def HSum32 (s:ByteArray) (x i:Int):St:=mk kSum32 [.v (S s),.v (U32 x),.v (I (s.size:Int)),.v (I i)] M0
theorem stepSum32 (s:ByteArray) (k:Nat) (x i:Int):evLoop ΓK7 Tryz.prog L0 (cutC 0 0 kSum32) bodySum32 (k+1) (HSum32 s x i) ESum32 =
    bif decide (i<(s.size:Int)) then (bif decide (0≤i)&&decide (i<(s.size:Int)) then (bif in32 (q32 s x i) then evLoop ΓK7 Tryz.prog L0 (cutC 0 0 kSum32) bodySum32 k (HSum32 s (S32 (q32 s x i)) (wI (i+1))) ESum32 else none) else none)
    else some (.exit 0,mk xSum32 [.v (U32 x)] M0):=by kernel_rfl
def GSum32 (vals:List SV) (m:Mem):Option (Bool×Ex×St) :=
  match vals,m with
  | [.v (.string s),.v (.int .u32 x),.v (.int .i64 n),.v (.int .i64 i)],⟨[],[],[]⟩=>some (n==(s.size:Int)&&(i==0&&(in32 x&&szS s)),.exit 0,mk xSum32 [.v (U32 (R32 x s))] M0)
  | _,_=>none
noncomputable def ΛSum32:LoopOrc:=fun _ st=>viaC 0 0 kSum32 GSum32 st
theorem loopOkSum32 (z:Base) (z1:z.L.length=0) (z2:z.U.length=0):LoopOk ΛSum32 Tryz.prog z bodySum32:=by
  refine loop_okC (Λ:=L0) (kx:=fun _=>xSum32) OkK7 mixed z1 z2 (fun b hb=>by rw [loopsSum320] at hb;cases hb) (G:=GSum32) (fun _=>rfl) ?_
  intro vals m e st' h
  unfold GSum32 at h
  split at h
  · rename_i s x n i
    obtain ⟨h1,rfl,rfl⟩:=some_t2 h
    simp only [Bool.and_eq_true,beq_iff_eq] at h1
    obtain ⟨rfl,rfl,h1,h4⟩:=h1
    obtain ⟨n,rfl,hn⟩:=in32_nat h1
    exact ⟨s.size+1,overS s (Nat.le_of_ble_eq_true h4) (fun k x i=>evLoop ΓK7 Tryz.prog L0 (cutC 0 0 kSum32) bodySum32 k (HSum32 s x i) ESum32) (fun x=>some (.exit 0,mk xSum32 [.v (U32 x)] M0)) (fun x i=>in32 (q32 s x i)) (fun x i=>S32 (q32 s x i)) p32 4294967296 (fun n b=>p32_lt b) (gs32 s) (stepSum32 s) s.size 0 n (by omega) hn⟩
  · cases h
theorem runSum32 (s:ByteArray):runG ΓK7 ΛSum32 Tryz.prog Tryz.f184 [.v (S s)] M0=bif (s.size:Int)==(s.size:Int)&&((0:Int)==0&&(in32 4294967295&&szS s)) then some (.v (U32 (fin32 s)),M0) else none:=by kernel_rfl
def gSum32 (vs:List Value):Option (Bool×Value) :=
  match vs with
  | [.string s]=>some (szS s,(U32 (sum32 s)))
  | _=>none
theorem gSum32_ok:CtV 184 gSum32:=by
  intro vs r h
  unfold gSum32 at h
  split at h
  · rename_i s
    obtain ⟨h1,rfl⟩:=some_t h
    refine runV (vs:=[S s]) (Λ:=ΛSum32) (m':=M0) OkK7 Tryz.func184 rfl (fun z z1 z2=>oneLoop (c:=Tryz.f184.body.getD .skip) loopsSum32 (loopOkSum32 z z1 z2)) ?_
    exact (runSum32 s).trans (by rw [h1,beq_self_eq_true,fin32_eq];rfl)
  · cases h
noncomputable def ΓK8:Orc:=addVal 184 gSum32 ΓK7
theorem OkK8:ΓK8.Ok Tryz.prog:=addVal_ok OkK7 gSum32_ok
def kRSum32:List Bool:=maskOf 20 [0,3,4]
def xRSum32:List Bool:=maskOf 20 [3]
noncomputable def bodyRSum32:Code:=loopAt (Tryz.f98.body.getD .skip) 0
theorem loopsRSum32:loopsOf (Tryz.f98.body.getD .skip)=[bodyRSum32]:=by kernel_rfl
theorem loopsRSum320:loopsOf bodyRSum32=[]:=by kernel_rfl
def ERSum32 (e:Ex) (st:St):Option (Ex×St):=some (e,cutC 0 0 xRSum32 st)
def HRSum32 (s:ByteArray) (x i:Int):St:=mk kRSum32 [.v (S s),.v (U32 x),.v (I i)] M0
theorem stepRSum32 (s:ByteArray) (k:Nat) (x i:Int):evLoop ΓK8 Tryz.prog L0 (cutC 0 0 kRSum32) bodyRSum32 (k+1) (HRSum32 s x i) ERSum32 =
    bif decide (i<(s.size:Int)) then (bif decide (0≤i)&&decide (i<(s.size:Int)) then (bif in32 (q32 s x i) then evLoop ΓK8 Tryz.prog L0 (cutC 0 0 kRSum32) bodyRSum32 k (HRSum32 s (S32 (q32 s x i)) (wI (i+1))) ERSum32 else none) else none)
    else some (.exit 0,mk xRSum32 [.v (U32 x)] M0):=by kernel_rfl
def GRSum32 (vals:List SV) (m:Mem):Option (Bool×Ex×St) :=
  match vals,m with
  | [.v (.string s),.v (.int .u32 x),.v (.int .i64 i)],⟨[],[],[]⟩=>some (i==0&&(in32 x&&szS s),.exit 0,mk xRSum32 [.v (U32 (R32 x s))] M0)
  | _,_=>none
noncomputable def ΛRSum32:LoopOrc:=fun _ st=>viaC 0 0 kRSum32 GRSum32 st
theorem loopOkRSum32 (z:Base) (z1:z.L.length=0) (z2:z.U.length=0):LoopOk ΛRSum32 Tryz.prog z bodyRSum32:=by
  refine loop_okC (Λ:=L0) (kx:=fun _=>xRSum32) OkK8 mixed z1 z2 (fun b hb=>by rw [loopsRSum320] at hb;cases hb) (G:=GRSum32) (fun _=>rfl) ?_
  intro vals m e st' h
  unfold GRSum32 at h
  split at h
  · rename_i s x i
    obtain ⟨h1,rfl,rfl⟩:=some_t2 h
    simp only [Bool.and_eq_true,beq_iff_eq] at h1
    obtain ⟨rfl,h1,h4⟩:=h1
    obtain ⟨n,rfl,hn⟩:=in32_nat h1
    exact ⟨s.size+1,overS s (Nat.le_of_ble_eq_true h4) (fun k x i=>evLoop ΓK8 Tryz.prog L0 (cutC 0 0 kRSum32) bodyRSum32 k (HRSum32 s x i) ERSum32) (fun x=>some (.exit 0,mk xRSum32 [.v (U32 x)] M0)) (fun x i=>in32 (q32 s x i)) (fun x i=>S32 (q32 s x i)) p32 4294967296 (fun n b=>p32_lt b) (gs32 s) (stepRSum32 s) s.size 0 n (by omega) hn⟩
  · cases h
theorem runRSum32 (s:ByteArray):runG ΓK8 ΛRSum32 Tryz.prog Tryz.f98 [.v (S s)] M0=bif (0:Int)==0&&(in32 4294967295&&szS s) then some (.v (U32 (fin32 s)),M0) else none:=by kernel_rfl
def gRSum32 (vs:List Value):Option (Bool×Value) :=
  match vs with
  | [.string s]=>some (szS s,(U32 (sum32 s)))
  | _=>none
theorem gRSum32_ok:CtV 98 gRSum32:=by
  intro vs r h
  unfold gRSum32 at h
  split at h
  · rename_i s
    obtain ⟨h1,rfl⟩:=some_t h
    refine runV (vs:=[S s]) (Λ:=ΛRSum32) (m':=M0) OkK8 Tryz.func98 rfl (fun z z1 z2=>oneLoop (c:=Tryz.f98.body.getD .skip) loopsRSum32 (loopOkRSum32 z z1 z2)) ?_
    exact (runRSum32 s).trans (by rw [h1,fin32_eq];rfl)
  · cases h
noncomputable def ΓK9:Orc:=addVal 98 gRSum32 ΓK8
theorem OkK9:ΓK9.Ok Tryz.prog:=addVal_ok OkK8 gRSum32_ok
noncomputable def ΓK:Orc:=ΓK9
theorem OkK:ΓK.Ok Tryz.prog:=OkK9
end Go.Proofs.YtagaiddomhpdmaaGreat
namespace Go.Proofs.YtagaiddomhpdmaaGreat
open Go Go.Proofs Go.Sx
abbrev L (s:ByteArray):List UInt8:=s.data.toList
theorem L_inj {a b:ByteArray}:L a=L b↔a=b:=by
  constructor
  · intro h
    exact ByteArray.ext (Array.toList_inj.1 h)
  · rintro rfl;rfl
theorem L_len (s:ByteArray):(L s).length=s.size:=by simp [L]
theorem L_app (a b:ByteArray):L (a++b)=L a++L b:=by simp [L,ByteArray.data_append]
theorem L_ext (s:ByteArray) (a b:Nat):L (s.extract a b)=((L s).drop a).take (b - a):=by
  simp [L,ByteArray.data_extract,List.extract_eq_take_drop]
theorem L_nums (xs:List Int):L (strOfNums xs)=xs.map fun n=>UInt8.ofNat n.toNat:=rfl
theorem beq_S (a b:ByteArray):(a==b)=true↔a=b:=by
  show ((a.data==b.data)=true)↔a=b
  rw [beq_iff_eq]
  exact ByteArray.ext_iff.symm
theorem beq_L (a b:ByteArray):(a==b)=(L a==L b):=by
  rw [Bool.eq_iff_iff,beq_S]
  simp only [beq_iff_eq,L_inj]
theorem beq_T (a b:ByteArray):(a.toList==b.toList)=(L a==L b):=by rw [ByteArray.toList_eq,ByteArray.toList_eq]
theorem beq_TS (a b:ByteArray):(a.toList==b.toList)=(a==b):=by rw [beq_T,beq_L]
theorem strAt_L (s:ByteArray) (k:Nat):strAt s (k:Int)=(((L s)[k]?.map fun b=>(b.toNat:Int)).getD 0):=by
  cases h:(L s)[k]? with
  | some b =>
    have h':s.data[k]?=some b:=by simpa [L] using h
    rw [strAt_some h']
    rfl
  | none =>
    unfold strAt
    rw [Int.toNat_natCast]
    have hk:s.size≤k:=by
      rw [← L_len]
      simpa using h
    have:s[k]?=none:=by rw [getElem?_neg];omega
    rw [this]
    rfl
theorem ext_all (s:ByteArray):s.extract 0 s.size=s:=by
  rw [← L_inj,L_ext,List.drop_zero,List.take_of_length_le (by rw [L_len];omega)]
theorem app_assoc (a b c:ByteArray):(a++b)++c=a++(b++c):=by
  rw [← L_inj]
  simp only [L_app,List.append_assoc]
theorem wrap8 (n:Nat):IntKind.u8.wrap (n:Int)=((n % 256:Nat):Int):=by
  rw [← wr_eq true];simp only [wr];omega
def two16 (x:Int):ByteArray:=strOfNums [IntKind.u8.wrap (x.fdiv (2 ^ min (Int.toNat 8) IntKind.u16.bits)),IntKind.u8.wrap x]
def sumT (s:ByteArray):ByteArray:=two16 (R16 65535 s)
def bodyT (k:Int) (p:ByteArray):ByteArray:=strOfNums [IntKind.u8.wrap k,IntKind.u8.wrap (p.size:Int)]++p
def mark:ByteArray:=⟨#[165,90]⟩
def prt (k:Int) (p:ByteArray):ByteArray:=(mark++bodyT k p)++sumT (bodyT k p)
def rightB (k:Int) (p:ByteArray):Bool:=decide (k≥0)&&(decide (k≤255)&&decide ((p.size:Int)≤64))
def printB (k:Int) (p:ByteArray):ByteArray:=bif rightB k p then prt k p else ⟨#[]⟩
theorem two16_size (x:Int):(two16 x).size=2:=by simp [two16,strOfNums_size]
theorem bodyT_size (k:Int) (p:ByteArray):(bodyT k p).size=p.size+2:=by
  unfold bodyT
  rw [ByteArray.size_append,strOfNums_size]
  simp only [List.length_cons,List.length_nil]
  omega
theorem prt_size (k:Int) (p:ByteArray):(prt k p).size=p.size+6:=by
  unfold prt sumT
  rw [ByteArray.size_append,ByteArray.size_append,bodyT_size,two16_size]
  show 2+_+2=_
  omega
def badT (s:ByteArray):Bool:=(decide ((s.size:Int)>0)&&strAt s 0 != 165)||((decide ((s.size:Int)>1)&&strAt s 1 != 90)||(decide ((s.size:Int)>3)&&decide (strAt s 3>64)))
def lenN (s:ByteArray):Int:=6+strAt s 3
def shortB (s:ByteArray):Bool:=decide ((s.size:Int)<4)||decide ((s.size:Int)<lenN s)
def kOf (s:ByteArray):Int:=strAt s 2
def pOf (s:ByteArray):ByteArray:=s.extract 4 (lenN s - 2).toNat
def okB (s:ByteArray):Bool:=prt (kOf s) (pOf s)==s.extract 0 (lenN s).toNat
def rdE (s:ByteArray):Int:=bif badT s then 3 else bif shortB s then 5 else bif okB s then 0 else 4
def rdK (s:ByteArray):Int:=bif rdE s==0 then kOf s else 0
def rdP (s:ByteArray):ByteArray:=bif rdE s==0 then pOf s else ⟨#[]⟩
def rdN (s:ByteArray):Int:=bif rdE s==0 then lenN s else 0
theorem strAt_range (s:ByteArray) (k:Nat):0≤strAt s (k:Int)∧strAt s (k:Int)<256:=by
  rw [strAt_L]
  cases (L s)[k]? with
  | none=>simp
  | some b=>have:=byte_lt b;simp;omega
theorem lenN_range (s:ByteArray):6≤lenN s∧lenN s<262:=by
  have:=strAt_range s 3
  unfold lenN
  rw [show (3:Int)=((3:Nat):Int) from rfl]
  omega
theorem rdE_cases (s:ByteArray):(rdE s=3∧badT s=true)∨(rdE s=5∧badT s=false∧shortB s=true)∨(rdE s=0∧badT s=false∧shortB s=false∧okB s=true)∨(rdE s=4∧badT s=false∧shortB s=false∧okB s=false):=by
  unfold rdE
  cases badT s<;>cases shortB s<;>cases okB s<;>simp
theorem not_short {s:ByteArray} (h:shortB s=false):4≤s.size∧(lenN s).toNat≤s.size∧6≤(lenN s).toNat:=by
  unfold shortB at h
  simp only [Bool.or_eq_false_iff,decide_eq_false_iff_not] at h
  have:=lenN_range s
  omega
theorem rd_ok {s:ByteArray} (h:rdE s=0):(rdN s).toNat≤s.size∧6≤(rdN s).toNat∧rdN s=((rdN s).toNat:Int)∧rdK s=kOf s∧rdP s=pOf s∧rdN s=lenN s∧(rdP s).size+6=(rdN s).toNat∧(rdP s).size≤64∧0≤rdK s∧rdK s≤255∧badT s=false∧shortB s=false∧okB s=true:=by
  rcases rdE_cases s with ⟨h1,h2⟩|⟨h1,h2,h3⟩|⟨h1,h2,h3,h4⟩|⟨h1,h2,h3,h4⟩
  · omega
  · omega
  · obtain ⟨g1,g2,g3⟩:=not_short h3
    have e1:rdN s=lenN s:=by unfold rdN;rw [h];rfl
    have e2:rdK s=kOf s:=by unfold rdK;rw [h];rfl
    have e3:rdP s=pOf s:=by unfold rdP;rw [h];rfl
    have hl:=lenN_range s
    have hb:=h2
    unfold badT at hb
    simp only [Bool.or_eq_false_iff,Bool.and_eq_false_iff,decide_eq_false_iff_not] at hb
    have h64:strAt s 3≤64:=by omega
    have hp:(rdP s).size+6=(lenN s).toNat:=by
      rw [e3]
      unfold pOf
      rw [ByteArray.size_extract]
      omega
    have hk:=strAt_range s 2
    refine ⟨by rw [e1];exact g2,by rw [e1];exact g3,by rw [e1];omega,e2,e3,e1,by rw [e1];exact hp,?_,?_,?_,h2,h3,h4⟩
    · unfold lenN at hp
      omega
    · rw [e2];exact hk.1
    · rw [e2];unfold kOf;have:=hk.2;rw [show (2:Int)=((2:Nat):Int) from rfl];omega
  · omega
theorem rd_short {s:ByteArray} (h:rdE s=5):s.size<70:=by
  rcases rdE_cases s with ⟨h1,h2⟩|⟨h1,h2,h3⟩|⟨h1,h2,h3,h4⟩|⟨h1,h2,h3,h4⟩
  · omega
  · unfold shortB at h3
    unfold badT at h2
    simp only [Bool.or_eq_true,decide_eq_true_eq,Bool.or_eq_false_iff,Bool.and_eq_false_iff,decide_eq_false_iff_not] at h2 h3
    unfold lenN at h3
    omega
  · omega
  · omega
theorem rd_nil:rdE ⟨#[]⟩=5:=by rfl
theorem rd_some {s:ByteArray} (h:rdE s≠5):0<s.size:=by
  apply Classical.byContradiction
  intro hn
  have:s=⟨#[]⟩:=by
    rw [← L_inj]
    have:(L s).length=0:=by rw [L_len];omega
    exact List.eq_nil_of_length_eq_zero this
  rw [this] at h
  exact h rd_nil
end Go.Proofs.YtagaiddomhpdmaaGreat
namespace Go.Proofs.YtagaiddomhpdmaaGreat
open Go Go.Proofs Go.Sx
set_option linter.unusedVariables false
def U64 (x:Int):Value:=.int .u64 x
theorem l0Ok (c:Code) (z:Base):∀ b∈loopsOf c,LoopOk L0 Tryz.prog z b:=fun b _ st t h=>by cases h
def p8 (n:Nat) (b:UInt8):Nat:=n*256 % 18446744073709551616+b.toNat
theorem p8_lt (n:Nat) (b:UInt8) (_:n<18446744073709551616):p8 n b<18446744073709551616:=by
  have:=byte_lt b
  unfold p8
  omega
def numN (s:ByteArray):Nat:=s.data.toList.foldl p8 0
theorem wrap64 (n:Nat):IntKind.u64.wrap (n:Int)=((n % 18446744073709551616:Nat):Int):=by
  rw [← wr_eq true];simp only [wr];omega
theorem two64:(2:Nat) ^ 64=18446744073709551616:=by decide
theorem orB (w a b:Nat) (ha:a<2 ^ w) (hb:b<2 ^ w):(((BitVec.ofInt w (a:Int) ||| BitVec.ofInt w (b:Int)).toNat:Nat):Int)=((Nat.lor a b:Nat):Int):=by
  rw [BitVec.toNat_or,BitVec.ofInt_natCast,BitVec.ofInt_natCast,BitVec.toNat_ofNat,BitVec.toNat_ofNat,Nat.mod_eq_of_lt ha,Nat.mod_eq_of_lt hb]
  rfl
def a64 (s:ByteArray) (x i:Int):Int:=IntKind.u64.wrap (((BitVec.ofInt 64 (IntKind.u64.wrap (x*2 ^ min (Int.toNat 8) 64)) ||| BitVec.ofInt 64 (IntKind.u64.wrap (strAt s i))).toNat:Nat):Int)
theorem a64_nat {s:ByteArray} {n k:Nat} {b:UInt8} (hb:s.data[k]?=some b):a64 s n k=((p8 n b:Nat):Int):=by
  have h:=byte_lt b
  unfold a64 p8
  have e:(n:Int)*2 ^ min (Int.toNat 8) 64=((n*256:Nat):Int):=by
    rw [show min (Int.toNat 8) 64=8 from rfl];omega
  rw [e,wrap64 (n*256),strAt_some hb,wrap64 b.toNat,Nat.mod_eq_of_lt (show b.toNat<18446744073709551616 by omega),orB 64 _ _ (by rw [two64];exact Nat.mod_lt _ (by decide)) (by rw [two64];omega)]
  have e2:Nat.lor (n*256 % 18446744073709551616) b.toNat=n*256 % 18446744073709551616+b.toNat:=by
    have e3:n*256 % 18446744073709551616=2 ^ 8*(n % 72057594037927936):=by
      rw [show (2:Nat) ^ 8=256 from rfl];omega
    rw [e3]
    exact (Nat.two_pow_add_eq_or_of_lt (show b.toNat<2 ^ 8 by rw [show (2:Nat) ^ 8=256 from rfl];exact h) _).symm
  rw [e2,wrap64,Nat.mod_eq_of_lt (by omega)]
def be (k:Nat) (x:Int):ByteArray:=strOfNums ((List.range k).reverse.map fun i=>x / 256 ^ i % 256)
def kNumber:List Bool:=maskOf 19 [0,3,6,7]
def xNumber:List Bool:=maskOf 19 [3]
noncomputable def bodyNumber:Code:=loopAt (Tryz.f210.body.getD .skip) 0
theorem loopsNumber:loopsOf (Tryz.f210.body.getD .skip)=[bodyNumber]:=by kernel_rfl
theorem loopsNumber0:loopsOf bodyNumber=[]:=by kernel_rfl
def ENumber (e:Ex) (st:St):Option (Ex×St):=some (e,cutC 0 0 xNumber st)
def HNumber (s:ByteArray) (x i:Int):St:=mk kNumber [.v (S s),.v (U64 x),.v (I (s.size:Int)),.v (I i)] M0
theorem stepNumber (s:ByteArray) (k:Nat) (x i:Int):evLoop ΓK Tryz.prog L0 (cutC 0 0 kNumber) bodyNumber (k+1) (HNumber s x i) ENumber =
    bif decide (i<(s.size:Int)) then (bif decide (0≤i)&&decide (i<(s.size:Int)) then evLoop ΓK Tryz.prog L0 (cutC 0 0 kNumber) bodyNumber k (HNumber s (a64 s x i) (wI (i+1))) ENumber else none)
    else some (.exit 0,mk xNumber [.v (U64 x)] M0):=by kernel_rfl
def GNumber (vals:List SV) (m:Mem):Option (Bool×Ex×St) :=
  match vals,m with
  | [.v (.string s),.v (.int .u64 x),.v (.int .i64 n),.v (.int .i64 i)],⟨[],[],[]⟩=>some (n==(s.size:Int)&&(i==0&&(x==0&&szS s)),.exit 0,mk xNumber [.v (U64 ((numN s:Nat):Int))] M0)
  | _,_=>none
noncomputable def ΛNumber:LoopOrc:=fun _ st=>viaC 0 0 kNumber GNumber st
theorem loopOkNumber (z:Base) (z1:z.L.length=0) (z2:z.U.length=0):LoopOk ΛNumber Tryz.prog z bodyNumber:=by
  refine loop_okC (Λ:=L0) (kx:=fun _=>xNumber) OkK mixed z1 z2 (fun b hb=>by rw [loopsNumber0] at hb;cases hb) (G:=GNumber) (fun _=>rfl) ?_
  intro vals m e st' h
  unfold GNumber at h
  split at h
  · rename_i s x n i
    obtain ⟨h1,rfl,rfl⟩:=some_t2 h
    simp only [Bool.and_eq_true,beq_iff_eq] at h1
    obtain ⟨rfl,rfl,rfl,h4⟩:=h1
    exact ⟨s.size+1,overS s (Nat.le_of_ble_eq_true h4) (fun k x i=>evLoop ΓK Tryz.prog L0 (cutC 0 0 kNumber) bodyNumber k (HNumber s x i) ENumber) (fun x=>some (.exit 0,mk xNumber [.v (U64 x)] M0)) (fun _ _=>true) (a64 s) p8 18446744073709551616 p8_lt (fun n k b _ hb=>⟨rfl,a64_nat hb⟩) (stepNumber s) s.size 0 0 (by omega) (by omega)⟩
  · cases h
theorem runNumber (s:ByteArray):runG ΓK ΛNumber Tryz.prog Tryz.f210 [.v (S s)] M0=bif (s.size:Int)==(s.size:Int)&&((0:Int)==0&&((0:Int)==0&&szS s)) then some (.v (U64 ((numN s:Nat):Int)),M0) else none:=by kernel_rfl
def gNumber (vs:List Value):Option (Bool×Value) :=
  match vs with
  | [.string s]=>some (szS s,U64 ((numN s:Nat):Int))
  | _=>none
theorem gNumber_ok:CtV 210 gNumber:=by
  intro vs r h
  unfold gNumber at h
  split at h
  · rename_i s
    obtain ⟨h1,rfl⟩:=some_t h
    refine runV (vs:=[S s]) (Λ:=ΛNumber) (m':=M0) OkK Tryz.func210 rfl (fun z z1 z2=>oneLoop (c:=Tryz.f210.body.getD .skip) loopsNumber (loopOkNumber z z1 z2)) ?_
    exact (runNumber s).trans (by rw [h1,beq_self_eq_true];rfl)
  · cases h
noncomputable def ΓO1:Orc:=addVal 210 gNumber ΓK
theorem OkO1:ΓO1.Ok Tryz.prog:=addVal_ok OkK gNumber_ok
theorem runBytes1 (x:Int):runG ΓO1 L0 Tryz.prog Tryz.f130 [.v (U64 x),.v (I 1)] M0=some (.v (S (strOfNums [IntKind.u8.wrap (x.fdiv (2 ^ min (Int.toNat 0) 64))])),M0):=by kernel_rfl
theorem runBytes2 (x:Int):runG ΓO1 L0 Tryz.prog Tryz.f130 [.v (U64 x),.v (I 2)] M0=some (.v (S (strOfNums [IntKind.u8.wrap (x.fdiv (2 ^ min (Int.toNat 8) 64)),IntKind.u8.wrap (x.fdiv (2 ^ min (Int.toNat 0) 64))])),M0):=by kernel_rfl
theorem runBytes4 (x:Int):runG ΓO1 L0 Tryz.prog Tryz.f130 [.v (U64 x),.v (I 4)] M0=some (.v (S (strOfNums [IntKind.u8.wrap (x.fdiv (2 ^ min (Int.toNat 24) 64)),IntKind.u8.wrap (x.fdiv (2 ^ min (Int.toNat 16) 64)),IntKind.u8.wrap (x.fdiv (2 ^ min (Int.toNat 8) 64)),IntKind.u8.wrap (x.fdiv (2 ^ min (Int.toNat 0) 64))])),M0):=by kernel_rfl
theorem byteAt (x:Int) (j k:Nat) (h:(2:Int) ^ min (Int.toNat (8*k:Nat)) 64=256 ^ k) (hj:j=8*k):IntKind.u8.wrap (x.fdiv (2 ^ min (Int.toNat (j:Nat)) 64))=x / 256 ^ k % 256:=by
  subst hj
  rw [h,Int.fdiv_eq_ediv_of_nonneg _ (Int.le_of_lt (Int.pow_pos (by decide))),← wr_eq true]
  rfl
theorem be1 (x:Int):strOfNums [IntKind.u8.wrap (x.fdiv (2 ^ min (Int.toNat 0) 64))]=be 1 x:=by
  have e0:=byteAt x 0 0 (by decide) rfl
  rw [show ((0:Nat):Int)=0 from rfl] at e0
  rw [e0];rfl
theorem be2 (x:Int):strOfNums [IntKind.u8.wrap (x.fdiv (2 ^ min (Int.toNat 8) 64)),IntKind.u8.wrap (x.fdiv (2 ^ min (Int.toNat 0) 64))]=be 2 x:=by
  have e0:=byteAt x 0 0 (by decide) rfl
  have e1:=byteAt x 8 1 (by decide) rfl
  rw [show ((0:Nat):Int)=0 from rfl] at e0
  rw [show ((8:Nat):Int)=8 from rfl] at e1
  rw [e0,e1];rfl
theorem be4 (x:Int):strOfNums [IntKind.u8.wrap (x.fdiv (2 ^ min (Int.toNat 24) 64)),IntKind.u8.wrap (x.fdiv (2 ^ min (Int.toNat 16) 64)),IntKind.u8.wrap (x.fdiv (2 ^ min (Int.toNat 8) 64)),IntKind.u8.wrap (x.fdiv (2 ^ min (Int.toNat 0) 64))]=be 4 x:=by
  have e0:=byteAt x 0 0 (by decide) rfl
  have e1:=byteAt x 8 1 (by decide) rfl
  have e2:=byteAt x 16 2 (by decide) rfl
  have e3:=byteAt x 24 3 (by decide) rfl
  rw [show ((0:Nat):Int)=0 from rfl] at e0
  rw [show ((8:Nat):Int)=8 from rfl] at e1
  rw [show ((16:Nat):Int)=16 from rfl] at e2
  rw [show ((24:Nat):Int)=24 from rfl] at e3
  rw [e0,e1,e2,e3];rfl
def gBytes (vs:List Value):Option (Bool×Value) :=
  match vs with
  | [.int .u64 x,.int .i64 (.ofNat k)]=>some (Nat.beq k 1||(Nat.beq k 2||Nat.beq k 4),S (be k x))
  | _=>none
theorem gBytes_ok:CtV 130 gBytes:=by
  intro vs r h
  unfold gBytes at h
  split at h
  · rename_i x k
    obtain ⟨h1,rfl⟩:=some_t h
    have hk:k=1∨k=2∨k=4:=by
      simp only [Bool.or_eq_true] at h1
      rcases h1 with h1|h1|h1
      · exact .inl (Nat.eq_of_beq_eq_true h1)
      · exact .inr (.inl (Nat.eq_of_beq_eq_true h1))
      · exact .inr (.inr (Nat.eq_of_beq_eq_true h1))
    rcases hk with rfl|rfl|rfl
    · exact runV (vs:=[U64 x,I 1]) (Λ:=L0) (m':=M0) OkO1 Tryz.func130 rfl (fun z _ _=>l0Ok _ z) ((runBytes1 x).trans (by rw [be1]))
    · exact runV (vs:=[U64 x,I 2]) (Λ:=L0) (m':=M0) OkO1 Tryz.func130 rfl (fun z _ _=>l0Ok _ z) ((runBytes2 x).trans (by rw [be2]))
    · exact runV (vs:=[U64 x,I 4]) (Λ:=L0) (m':=M0) OkO1 Tryz.func130 rfl (fun z _ _=>l0Ok _ z) ((runBytes4 x).trans (by rw [be4]))
  · cases h
noncomputable def ΓO:Orc:=addVal 130 gBytes ΓO1
theorem OkO:ΓO.Ok Tryz.prog:=addVal_ok OkO1 gBytes_ok
end Go.Proofs.YtagaiddomhpdmaaGreat
namespace Go.Proofs.YtagaiddomhpdmaaGreat
open Go Go.Proofs Go.Sx
theorem nums_app (a b:List Int):strOfNums (a++b)=strOfNums a++strOfNums b:=by
  rw [← L_inj,L_app,L_nums,L_nums,L_nums,List.map_append]
theorem be_size (k:Nat) (x:Int):(be k x).size=k:=by
  unfold be
  rw [strOfNums_size]
  simp
theorem be_u64_1 (x:Int):be 1 (IntKind.u64.wrap x)=be 1 x:=by
  have e:∀ j:Int,IntKind.u64.wrap j=j % 18446744073709551616:=fun j=>by rw [← wr_eq true];rfl
  show strOfNums [_]=strOfNums [_]
  rw [e]
  congr 2
  show x % 18446744073709551616 / 256 ^ 0 % 256=x / 256 ^ 0 % 256
  omega
theorem be_u64_2 (x:Int):be 2 (IntKind.u64.wrap x)=be 2 x:=by
  have e:∀ j:Int,IntKind.u64.wrap j=j % 18446744073709551616:=fun j=>by rw [← wr_eq true];rfl
  have h0:x % 18446744073709551616 / 256 ^ 0 % 256=x / 256 ^ 0 % 256:=by omega
  have h1:x % 18446744073709551616 / 256 ^ 1 % 256=x / 256 ^ 1 % 256:=by omega
  show strOfNums [_ / 256 ^ 1 % 256,_ / 256 ^ 0 % 256]=strOfNums [_ / 256 ^ 1 % 256,_ / 256 ^ 0 % 256]
  rw [e,h0,h1]
theorem be_u64_4 (x:Int):be 4 (IntKind.u64.wrap x)=be 4 x:=by
  have e:∀ j:Int,IntKind.u64.wrap j=j % 18446744073709551616:=fun j=>by rw [← wr_eq true];rfl
  have h0:x % 18446744073709551616 / 256 ^ 0 % 256=x / 256 ^ 0 % 256:=by omega
  have h1:x % 18446744073709551616 / 256 ^ 1 % 256=x / 256 ^ 1 % 256:=by omega
  have h2:x % 18446744073709551616 / 256 ^ 2 % 256=x / 256 ^ 2 % 256:=by omega
  have h3:x % 18446744073709551616 / 256 ^ 3 % 256=x / 256 ^ 3 % 256:=by omega
  show strOfNums [_ / 256 ^ 3 % 256,_ / 256 ^ 2 % 256,_ / 256 ^ 1 % 256,_ / 256 ^ 0 % 256]=strOfNums [_ / 256 ^ 3 % 256,_ / 256 ^ 2 % 256,_ / 256 ^ 1 % 256,_ / 256 ^ 0 % 256]
  rw [e,h0,h1,h2,h3]
theorem four_of {s:ByteArray} {i:Nat} (h:i+4≤s.size):∃ b0 b1 b2 b3:UInt8,L (s.extract i (i+4))=[b0,b1,b2,b3]∧strAt s (i:Int)=(b0.toNat:Int)∧strAt s ((i+1:Nat):Int)=(b1.toNat:Int)∧strAt s ((i+2:Nat):Int)=(b2.toNat:Int)∧strAt s ((i+3:Nat):Int)=(b3.toNat:Int):=by
  have hl:=L_len s
  have hd:∃ b0 b1 b2 b3 r,(L s).drop i=b0::b1::b2::b3::r:=by
    have:4≤((L s).drop i).length:=by rw [List.length_drop];omega
    match hq:(L s).drop i,this with
    | b0::b1::b2::b3::r,_=>exact ⟨b0,b1,b2,b3,r,rfl⟩
  obtain ⟨b0,b1,b2,b3,r,hd⟩:=hd
  have g:∀ j,(L s)[i+j]?=((L s).drop i)[j]?:=fun j=>by rw [List.getElem?_drop]
  refine ⟨b0,b1,b2,b3,?_,?_,?_,?_,?_⟩
  · rw [L_ext,hd,show i+4 - i=4 by omega];rfl
  · have:=g 0
    rw [hd] at this
    rw [strAt_L,show i=i+0 from rfl,this];rfl
  · have:=g 1
    rw [hd] at this
    rw [strAt_L,this];rfl
  · have:=g 2
    rw [hd] at this
    rw [strAt_L,this];rfl
  · have:=g 3
    rw [hd] at this
    rw [strAt_L,this];rfl
theorem numN_four {s:ByteArray} {b0 b1 b2 b3:UInt8} (h:L s=[b0,b1,b2,b3]):((numN s:Nat):Int)=(b0.toNat:Int)*16777216+(b1.toNat:Int)*65536+(b2.toNat:Int)*256+(b3.toNat:Int):=by
  have h0:=byte_lt b0
  have h1:=byte_lt b1
  have h2:=byte_lt b2
  have h3:=byte_lt b3
  unfold numN
  rw [show s.data.toList=[b0,b1,b2,b3] from h]
  simp only [List.foldl_cons,List.foldl_nil,p8]
  omega
end Go.Proofs.YtagaiddomhpdmaaGreat
namespace Go.Proofs.YtagaiddomhpdmaaGreat
open Go Go.Proofs Go.Sx
set_option linter.unusedVariables false
def Blk (d st m:Int) (a b:List Int):List Value:=.int .u32 d::.int .i32 st::.int .u32 0::.int .i64 m::(a.map (.int .u16)++b.map (.int .u32))
def zeroR:List Int:=List.replicate 256 0
def tab16:List Int:=(List.range 256).map fun i=>((N16 (i*256):Nat):Int)
def tab32:List Int:=(List.range 256).map fun i=>((N32 i:Nat):Int)
def blkS (d st m:Int) (a b:List Int):Mem:=⟨[(Blk d st m a b).map .v],[true],[]⟩
theorem xAdd64:∀ f xs m r m',addE 310 .i64 f xs m=some (true,r,m')→CallOk Tryz.prog f xs m r m':=addE_ok Tryz.func310 (by kernel_rfl) (by kernel_rfl) (by kernel_rfl) (by kernel_rfl)
noncomputable def Γf0:Orc:=addC (addE 310 .i64) ΓK
theorem Okf0:Γf0.Ok Tryz.prog:=addC_ok OkK xAdd64
noncomputable def Γfi:Orc:=exec Tryz.prog Γf0.call Γf0.rd Γf0.eqv (fun _=>false) 300 1
theorem Okfi:Γfi.Ok Tryz.prog:=exec_ok mixed names (ext:=Γf0.call) (rd:=Γf0.rd) (eqv:=Γf0.eqv) ⟨Okf0.call,Okf0.rd,Okf0.eqv⟩ 300 1
theorem runFill:runG Γfi (loopX Γfi Tryz.prog 300 1) Tryz.prog Tryz.f246 [.ptr 0 0] (blkS 0 1 0 zeroR zeroR)=some (.v (.tuple #[]),blkS 0 1 1 tab16 tab32):=by kernel_rfl
theorem fillOk:CallOk Tryz.prog 246 [.ptr 0 0] (blkS 0 1 0 zeroR zeroR) (.v (.tuple #[])) (blkS 0 1 1 tab16 tab32) :=
  runOk Okfi Tryz.func246 rfl (fun z _ _ b _=>loopX_ok Okfi mixed 300 1 b) runFill
end Go.Proofs.YtagaiddomhpdmaaGreat
namespace Go.Proofs.YtagaiddomhpdmaaGreat
open Go Go.Proofs Go.Sx Go.RowKit
set_option linter.unusedVariables false
structure One (b:Nat) (w w':World):Prop where
  os:w'.os=w.os
  tape:w'.tape=w.tape
  output:w'.output=w.output
  size:w.heap.size≤w'.heap.size
  block:∀ k,k≠b→k<w.heap.size→w'.heap[k]?=w.heap[k]?
  froz:∀ p,p.block<w.heap.size→w'.frozen? p=w.frozen? p
theorem One.trans {b:Nat} {w w1 w2:World} (h:One b w w1) (k:One b w1 w2):One b w w2 :=
  ⟨k.os.trans h.os,k.tape.trans h.tape,k.output.trans h.output,Nat.le_trans h.size k.size,fun j hj hl=>(k.block j hj (Nat.lt_of_lt_of_le hl h.size)).trans (h.block j hj hl),fun p hp=>(k.froz p (Nat.lt_of_lt_of_le hp h.size)).trans (h.froz p hp)⟩
theorem One.setCell (b n:Nat) (x:Value) (w:World):One b w (w.setCell ⟨b,n,none⟩ x) :=
  ⟨rfl,rfl,rfl,by simp,fun k hk _=>Below.heap_setCell _ _ _ _ hk,fun p _=>World.frozen?_setCell _ _ _ _⟩
theorem One.drew (b:Nat) (w:World):One b w w.drew:=⟨rfl,rfl,rfl,Nat.le_refl _,fun _ _ _=>rfl,fun _ _=>rfl⟩
def At (w:World) (b o:Nat) (cs:List Value):Prop:=∀ (j:Nat) x,cs[j]?=some x→w.cell? ⟨b,o+j,none⟩=some x∧w.frozen? ⟨b,o+j,none⟩=false
theorem At.set {w:World} {b o:Nat} {cs:List Value} (h:At w b o cs) {n:Nat} {x:Value} (hn:n<cs.length):At (w.setCell ⟨b,o+n,none⟩ x) b o (cs.set n x):=by
  intro j y hy
  rw [World.frozen?_setCell]
  rw [List.getElem?_set] at hy
  by_cases hj:n=j
  · subst hj
    simp [hn] at hy
    subst hy
    have h1:=h n cs[n] (by simp [hn])
    exact ⟨World.cell?_setCell_same _ _ _ h1.1,h1.2⟩
  · simp only [if_neg hj] at hy
    have h1:=h j y hy
    exact ⟨by rw [World.cell?_setCell_other _ _ _ _ (fun e=>by injection e with _ e;omega)];exact h1.1,h1.2⟩
theorem calls_one {f:FuncId} {cs cs':List Value} {r:Value} (h:CallOk Tryz.prog f [.ptr 0 0] ⟨[cs.map .v],[true],[]⟩ (.v r) ⟨[cs'.map .v],[true],[]⟩) {w:World} {b o:Nat} (hb:b<w.heap.size) (ha:At w b o cs)
    (he:(callFunc f #[.pointer (some ⟨b,o,none⟩)]).run Tryz.prog w=.ok (.enter f #[.pointer (some ⟨b,o,none⟩)]) w) :
    Calls Tryz.prog f #[.pointer (some ⟨b,o,none⟩)] w fun e w'=>e=.returned r∧One b w w'∧At w' b o cs':=by
  let z:Base:=⟨w,[(b,o)],[],[],fun _=>False⟩
  let V:Vl:=⟨fun i=>if i=0 then some (b,o) else none,fun _=>none,fun _=>none⟩
  have vb:∀ l q,V.b l=some q→l=0∧q=(b,o):=by
    intro l q hq
    simp only [V] at hq
    split at hq
    · rename_i h0
      exact ⟨h0,(Option.some.inj hq).symm⟩
    · cases hq
  have hL:Lent z ⟨[cs.map .v],[true],[]⟩ V:=by
    refine { bl:=(rfl:(1:Nat)=1),b:=fun i=>?_,ul:=(rfl:(0:Nat)=0),u:=fun j u hu=>absurd hu (by simp [z]),rl:=fun g=>⟨fun hg=>absurd hg (by simp [z]),?_⟩ }
    · cases i with
      | zero=>rfl
      | succ i=>simp [V,z]
    · rintro ⟨j,rc,u,h1,_⟩
      exact absurd h1 (by simp [Sx.rowAt])
  have hM:MemOk z ⟨[cs.map .v],[true],[]⟩ V z.w:=by
    refine { len:=fun t x hx=>absurd hx (by simp [Tr.get]),tmps:=fun t x hx=>absurd hx (by simp [Tr.get]),defers:=rfl,lens:=rfl,mem:=?_,inj:=?_,own:=?_,lent:=?_,base0:=?_,dom:=?_,lentr:=fun j u hu=>absurd hu (by simp [z]),rows:=fun r rc hr=>absurd hr (by simp [Sx.rowAt]),rowsN:=fun r _=>rfl,apart:=fun r r' rc rc' u u' g h1=>absurd h1 (by simp [Sx.rowAt]),apartb:=fun r rc u g l b' o' h1=>absurd h1 (by simp [Sx.rowAt]),below:=⟨rfl,rfl,rfl,Nat.le_refl _,fun _ _=>rfl⟩,froz:=fun _ _=>rfl,lits:=LitsOk.none fun _=>rfl,sk:=fun _ h=>h.elim,qs:=fun g cs h=>absurd h (by simp [V]) }
    · intro l b' o' hl cs1 hcs j x hx
      obtain ⟨rfl,hq⟩:=vb l _ hl
      injection hq with e1 e2
      subst e1 e2
      simp at hcs
      subst hcs
      rw [List.getElem?_map] at hx
      cases hv:cs[j]? with
      | none=>rw [hv] at hx;cases hx
      | some v =>
        rw [hv] at hx
        injection hx with hx
        subst hx
        obtain ⟨a1,a2⟩:=ha j v hv
        exact ⟨v,a1,rfl,a2⟩
    · intro l l' b1 o1 b2 o2 h1 h2 hne
      exact absurd ((vb l _ h1).1.trans (vb l' _ h2).1.symm) hne
    · intro l b' o' hl
      obtain ⟨rfl,hq⟩:=vb l _ hl
      injection hq with e1 e2
      subst e1 e2
      exact ⟨.inr (by simp [z]),hb⟩
    · intro l q hq
      cases l with
      | zero=>exact hq
      | succ l=>simp [z] at hq
    · intro l b' o' hl h0
      obtain ⟨rfl,_⟩:=vb l _ hl
      simp [z] at h0
    · intro l hl
      obtain ⟨q,hq⟩:=Option.ne_none_iff_exists'.1 hl
      obtain ⟨rfl,_⟩:=vb l q hq
      rfl
  have hA:DenL (Den V) [.ptr 0 0] [.pointer (some ⟨b,o,none⟩)]:=⟨⟨b,o,rfl,rfl⟩,trivial⟩
  rcases h z V [.pointer (some ⟨b,o,none⟩)] hL hM hA with ⟨y,w',h1,_⟩|⟨_,h2⟩
  · rw [show ([.pointer (some ⟨b,o,none⟩)]:List Value).toArray=#[.pointer (some ⟨b,o,none⟩)] from rfl,he] at h1
    cases h1
  · refine h2.mono fun e w' ⟨y,he,V',hd,hm⟩=>?_
    have hd:y=r:=hd
    subst hd
    have hv0:=hm.lent 0 (b,o) rfl
    refine ⟨he,⟨hm.below.os,hm.below.tape,hm.below.output,hm.below.size,fun k hk hl=>hm.below.block k ⟨hl,fun o' ho=>?_,by simp [z]⟩,fun p hp=>hm.froz p hp⟩,fun j x hx=>?_⟩
    · simp [z] at ho
      exact hk ho.1
    · obtain ⟨y',c1,c2,c3⟩:=hm.mem 0 b o hv0 (cs'.map .v) rfl j (.v x) (by rw [List.getElem?_map,hx];rfl)
      have c2:y'=x:=c2
      subst c2
      exact ⟨c1,c3⟩
theorem memOk_one {z:Base} {V:Vl} {cs:List SA} {cs':List Value} {b o:Nat} {w':World} (hl:Lent z ⟨[cs],[true],[]⟩ V) (hm:MemOk z ⟨[cs],[true],[]⟩ V z.w) (hb:V.b 0=some (b,o)) (hs:One b z.w w') (ha:At w' b o cs') :
    MemOk z ⟨[cs'.map .v],[true],[]⟩ V w':=by
  have hL0:z.L[0]?=some (b,o):=by rw [← hl.b];exact hb
  have vb:∀ l q,V.b l=some q→l=0∧q=(b,o):=by
    intro l q hq
    have h1:z.L[l]?=some q:=by rw [← hl.b];exact hq
    have h2:=(List.getElem?_eq_some_iff.1 h1).1
    have h3:z.L.length=1:=hl.bl
    have:l=0:=by omega
    subst this
    rw [hb] at hq
    injection hq with hq
    exact ⟨rfl,hq.symm⟩
  have hq0:∀ g,V.q g=none:=by
    intro g
    cases hq:V.q g with
    | none=>rfl
    | some cs1 =>
      have h1:=hm.qs g cs1 hq
      have h2:=hm.lits.lt hq
      rcases h1 with h1|h1
      · exact absurd h2 (by have:z.w.heap.size≤g:=h1;omega)
      · obtain ⟨j,rc,u,h3,_⟩:=(hl.rl g).1 h1
        exact absurd h3 (by simp [Sx.rowAt])
  refine { hm with lens:=rfl,mem:=?_,own:=?_,rows:=fun r rc hr=>absurd hr (by simp [Sx.rowAt]),dom:=?_,apart:=fun r r' rc rc' u u' g h1=>absurd h1 (by simp [Sx.rowAt]),apartb:=fun r rc u g l b' o' h1=>absurd h1 (by simp [Sx.rowAt]),below:=?_,froz:=?_,lits:=LitsOk.none hq0,rowsN:=fun r hr=>hm.rowsN r hr }
  · intro l b' o' hl' cs1 hcs j x hx
    obtain ⟨rfl,hq⟩:=vb l _ hl'
    injection hq with e1 e2
    subst e1 e2
    simp at hcs
    subst hcs
    rw [List.getElem?_map] at hx
    cases hv:cs'[j]? with
    | none=>rw [hv] at hx;cases hx
    | some v =>
      rw [hv] at hx
      injection hx with hx
      subst hx
      obtain ⟨a1,a2⟩:=ha j v hv
      exact ⟨v,a1,rfl,a2⟩
  · intro l b' o' hl'
    obtain ⟨h1,h2⟩:=hm.own l b' o' hl'
    exact ⟨h1,Nat.lt_of_lt_of_le h2 hs.size⟩
  · intro l hl'
    obtain ⟨q,hq⟩:=Option.ne_none_iff_exists'.1 hl'
    obtain ⟨rfl,_⟩:=vb l q hq
    rfl
  · refine ⟨hs.os,hs.tape,hs.output,hs.size,fun k hk=>hs.block k ?_ hk.1⟩
    rintro rfl
    exact hk.2.1 o (List.mem_of_getElem? hL0)
  · intro p hp
    exact hs.froz p hp
end Go.Proofs.YtagaiddomhpdmaaGreat
namespace Go.Proofs.YtagaiddomhpdmaaGreat
open Go Go.Proofs Go.Sx
set_option linter.unusedVariables false
theorem disable (w:World):(callFunc 323 #[]).run Tryz.prog w=.ok (.value (.tuple #[])) w:=run_call_mark0 Tryz.func323 (by kernel_rfl) (by kernel_rfl) (by kernel_rfl) .disable (by kernel_rfl) w
theorem enable (w:World):(callFunc 325 #[]).run Tryz.prog w=.ok (.value (.tuple #[])) w:=run_call_mark0 Tryz.func325 (by kernel_rfl) (by kernel_rfl) (by kernel_rfl) .enable (by kernel_rfl) w
theorem acquire (a:Addr) (w:World):(callFunc 326 #[.pointer (some a)]).run Tryz.prog w=.ok (.value (.tuple #[])) w:=run_call_marked Tryz.func326 (by kernel_rfl) (by kernel_rfl) (by kernel_rfl) .acquire (by kernel_rfl) a w
theorem releaseMerge (a:Addr) (w:World):(callFunc 328 #[.pointer (some a)]).run Tryz.prog w=.ok (.value (.tuple #[])) w:=run_call_marked Tryz.func328 (by kernel_rfl) (by kernel_rfl) (by kernel_rfl) .releaseMerge (by kernel_rfl) a w
theorem store_deferred (a:Addr) (x:Value) (u:FrameMode) (w:World) (hc:w.cell? a=some x) (hz:w.frozen? a=false) :
    CallsD Tryz.prog 309 #[.pointer (some a),.bool true] u w fun e u' w'=>u'=u∧(e=.returned (.tuple #[])∧w'=w.drew.setCell a (.int .u32 1)):=by
  have hc':w.drew.cell? a=some x:=by go_simp
  have hz':w.drew.frozen? a=false:=by go_simp
  have hst:=run_call_store (P:=Tryz.prog) Tryz.func318 (by kernel_rfl) (by kernel_rfl) (by kernel_rfl) (by kernel_rfl) (k:=.u32) (y:=1) hc' hz'
  go_enter_d Tryz.func309,Tryz.ntmps309
  go_wp2
  go_region_calls
  all_goals (go_end0;exact ⟨rfl,rfl⟩)
theorem unlock_deferred (a:Addr) (u:FrameMode) (w:World) (hc:w.cell? a=some (.int .i32 1)) (hz:w.frozen? a=false) :
    CallsD Tryz.prog 308 #[.pointer (some a)] u w fun e u' w'=>u'=u∧(e=.returned (.tuple #[])∧w'=w.setCell a (.int .i32 0)):=by
  have hd:=disable
  have he:=enable
  have hr:=releaseMerge
  have hadd:=run_call_add (P:=Tryz.prog) Tryz.func329 (by kernel_rfl) (by kernel_rfl) (by kernel_rfl) .i32 (by kernel_rfl) (y:=-1) (s:=0) hc hz (by simp [go_sem];rfl)
  have hcv:=run_convert_to_unsafe (P:=Tryz.prog) (src:=402) (dst:=406) Tryz.underlying402 Tryz.underlying406 (by kernel_rfl) hc
  go_enter_d Tryz.func308,Tryz.ntmps308
  go_wp2
  go_end0
  go_wp2
  go_end0
  exact ⟨rfl,rfl⟩
theorem lock_free (a:Addr) (w:World) (hc:w.cell? a=some (.int .i32 0)) (hz:w.frozen? a=false) :
    Calls Tryz.prog 307 #[.pointer (some a)] w fun e w'=>e=.returned (.tuple #[])∧w'=w.setCell a (.int .i32 1):=by
  have hd:=disable
  have he:=enable
  have ha:=acquire
  have hcas:=run_call_cas_hit (P:=Tryz.prog) Tryz.func324 (by kernel_rfl) (by kernel_rfl) (by kernel_rfl) .i32 (by kernel_rfl) (y:=1) hc hz
  have hc':(w.setCell a (.int .i32 1)).cell? a=some (.int .i32 1):=World.cell?_setCell_same w a _ hc
  have hcv:=run_convert_to_unsafe (P:=Tryz.prog) (src:=402) (dst:=406) Tryz.underlying402 Tryz.underlying406 (by kernel_rfl) hc'
  go_enter Tryz.func307,Tryz.ntmps307
  go_wp2
  first|go_end0|(simp only [Exit.inBlock,Exit.then];refine bodyPost_ret (results_none rfl _ _ _) rfl ?_)|refine bodyPost_ret (results_none rfl _ _ _) rfl ?_
  go_wp2
  go_end0
  exact ⟨rfl,rfl⟩
end Go.Proofs.YtagaiddomhpdmaaGreat
namespace Go.Proofs.YtagaiddomhpdmaaGreat
open Go Go.Proofs Go.Sx
set_option linter.unusedVariables false
theorem fill_calls (w:World) (b o:Nat) (hb:b<w.heap.size) (h:At w b o (Blk 0 1 0 zeroR zeroR)) :
    Calls Tryz.prog 246 #[.pointer (some ⟨b,o,none⟩)] w fun e w'=>e=.returned (.tuple #[])∧One b w w'∧At w' b o (Blk 0 1 1 tab16 tab32) :=
  calls_one fillOk hb h (callFunc_enter Tryz.func246 (by kernel_rfl) (names_of names Tryz.func246 (by kernel_rfl)) w)
theorem slow_any (b o:Nat) (w:World) (hb:b<w.heap.size) (h:At w b o (Blk 0 0 0 zeroR zeroR)) :
    Calls Tryz.prog 287 #[.pointer (some ⟨b,o,none⟩),.func (.func 246) #[.pointer (some ⟨b,o,none⟩)] #[]] w fun e w'=>e=.returned (.tuple #[]) ∧
      ∃ w2,One b w w2∧At w2 b o (Blk 0 1 1 tab16 tab32)∧w'=(w2.drew.setCell ⟨b,o,none⟩ (.int .u32 1)).setCell ⟨b,o+1,none⟩ (.int .i32 0):=by
  have h0:w.cell? ⟨b,o,none⟩=some (.int .u32 0):=(h 0 _ rfl).1
  have h1:w.cell? ⟨b,o+1,none⟩=some (.int .i32 0):=(h 1 _ rfl).1
  have f1:w.frozen? ⟨b,o+1,none⟩=false:=(h 1 _ rfl).2
  have hA:At (w.setCell ⟨b,o+1,none⟩ (.int .i32 1)) b o (Blk 0 1 0 zeroR zeroR):=h.set (n:=1) (x:=.int .i32 1) (by simp [Blk])
  have hl:=run_call_load (P:=Tryz.prog) Tryz.func306 (by kernel_rfl) (by kernel_rfl) (by kernel_rfl) .u32 (by kernel_rfl) (w:=w.setCell ⟨b,o+1,none⟩ (.int .i32 1)) (a:=⟨b,o,none⟩) (x:=0) ((World.cell?_setCell_other _ ⟨b,o+1,none⟩ ⟨b,o,none⟩ _ (by simp)).trans h0)
  have hnot:∀ (x:Bool) (w:World),(Op.unary .not (.bool x)).run Tryz.prog w=.ok (.bool (!x)) w:=fun _ _=>rfl
  go_enter_defers Tryz.func287,Tryz.ntmps287
  go_wp2_with (first|(go_at_call 307;refine (lock_free ⟨b,o+1,none⟩ _ (by go_simp) (by go_simp)).mono ?_;rintro e w' ⟨rfl,rfl⟩)|(go_at_call 286;go_in)|(go_at_call 246;refine (fill_calls _ b o (by simpa using hb) hA).mono ?_;rintro e w2 ⟨rfl,hE,hE2⟩))
  have e0:=hE2 0 (.int .u32 0) rfl
  have e1:=hE2 1 (.int .i32 1) rfl
  refine leaves_cons (f:=309) (args:=#[.pointer (some ⟨b,o,none⟩),.bool true]) (by simp) (by simp [go_sem]) ?_
  refine (store_deferred ⟨b,o,none⟩ (.int .u32 0) .returning _ e0.1 e0.2).mono ?_
  rintro e u' w'' ⟨rfl,rfl,rfl⟩
  refine leaves_cons (f:=308) (args:=#[.pointer (some ⟨b,o+1,none⟩)]) (by simp [settle]) (by simp [go_sem]) ?_
  refine (unlock_deferred ⟨b,o+1,none⟩ _ _ ?_ ?_).mono ?_
  · rw [World.cell?_setCell_other _ ⟨b,o,none⟩ ⟨b,o+1,none⟩ _ (by simp),World.cell?_drew]
    exact e1.1
  · rw [World.frozen?_setCell]
    exact e1.2
  rintro e u' w'' ⟨rfl,rfl,rfl⟩
  simp [Leaves,settle,results,Tryz.results287]
  exact ⟨w2,(One.setCell b (o+1) (.int .i32 1) w).trans hE,hE2,rfl⟩
theorem do_first (b o:Nat) (w:World) (hb:b<w.heap.size) (h:At w b o (Blk 0 0 0 zeroR zeroR)) :
    Calls Tryz.prog 245 #[.pointer (some ⟨b,o,none⟩),.func (.func 246) #[.pointer (some ⟨b,o,none⟩)] #[]] w fun e w'=>e=.returned (.tuple #[]) ∧
      ∃ w2,One b w w2∧At w2 b o (Blk 0 1 1 tab16 tab32)∧w'=(w2.drew.setCell ⟨b,o,none⟩ (.int .u32 1)).setCell ⟨b,o+1,none⟩ (.int .i32 0):=by
  have h0:w.cell? ⟨b,o,none⟩=some (.int .u32 0):=(h 0 _ rfl).1
  have hl:=run_call_load (P:=Tryz.prog) Tryz.func306 (by kernel_rfl) (by kernel_rfl) (by kernel_rfl) .u32 (by kernel_rfl) h0
  have hnot:∀ (x:Bool) (w:World),(Op.unary .not (.bool x)).run Tryz.prog w=.ok (.bool (!x)) w:=fun _ _=>rfl
  go_enter Tryz.func245,Tryz.ntmps245
  go_wp2_with (first|(go_at_call 287;refine (slow_any b o _ hb h).mono ?_;rintro e w' ⟨rfl,w2,hE,hE2,rfl⟩)|(go_at_call 286;go_in))
  go_end0
  exact ⟨rfl,w2,hE,hE2,rfl⟩
theorem do_done (a:Addr) (fv:Value) (w:World) (h0:w.cell? a=some (.int .u32 1)) :
    Calls Tryz.prog 245 #[.pointer (some a),fv] w fun e w'=>e=.returned (.tuple #[])∧w'=w:=by
  have hl:=run_call_load (P:=Tryz.prog) Tryz.func306 (by kernel_rfl) (by kernel_rfl) (by kernel_rfl) .u32 (by kernel_rfl) h0
  have hnot:∀ (x:Bool) (w:World),(Op.unary .not (.bool x)).run Tryz.prog w=.ok (.bool (!x)) w:=fun _ _=>rfl
  go_enter Tryz.func245,Tryz.ntmps245
  go_wp2
  go_end0
  exact ⟨rfl,rfl⟩
def newB:List Value:=Blk 0 0 0 zeroR zeroR
def madeB:List Value:=Blk 1 0 1 tab16 tab32
theorem do_args {z:Base} {V:Vl} {vs:List Value} (hA:DenL (Den V) [.ptr 0 0,.clo 246 0 0] vs):∃ b o,V.b 0=some (b,o)∧vs=[.pointer (some ⟨b,o,none⟩),.func (.func 246) #[.pointer (some ⟨b,o,none⟩)] #[]]:=by
  match vs,hA with
  | [x,y],⟨⟨b,o,h1,h2⟩,⟨b',o',h3,h4⟩,_⟩ =>
    rw [h1] at h3
    injection h3 with h3
    injection h3 with e1 e2
    subst e1 e2
    refine ⟨b,o,h1,?_⟩
    rw [h2,h4]
    unfold cloV
    rw [if_pos (show (246:Nat)<capN by decide)]
    rfl
theorem doFirst:CallOk Tryz.prog 245 [.ptr 0 0,.clo 246 0 0] ⟨[newB.map .v],[true],[]⟩ (.v (.tuple #[])) ⟨[madeB.map .v],[true],[]⟩:=by
  intro z V vs hl hm ha
  obtain ⟨b,o,hb,rfl⟩:=do_args (z:=z) ha
  have hat:At z.w b o newB:=fun j x hx=>by
    obtain ⟨y,c1,c2,c3⟩:=hm.mem 0 b o hb (newB.map .v) rfl j (.v x) (by rw [List.getElem?_map,hx];rfl)
    have c2:y=x:=c2
    subst c2
    exact ⟨c1,c3⟩
  refine .inr ⟨callFunc_enter Tryz.func245 (by kernel_rfl) (names_of names Tryz.func245 (by kernel_rfl)) z.w,?_⟩
  refine (do_first b o z.w (hm.own 0 b o hb).2 hat).mono ?_
  rintro e w' ⟨rfl,w2,hE,hE2,rfl⟩
  have k0:At w2.drew b o (Blk 0 1 1 tab16 tab32):=hE2
  have k1:=(k0.set (n:=0) (x:=.int .u32 1) (by simp [Blk])).set (n:=1) (x:=.int .i32 0) (by simp [Blk])
  exact ⟨_,rfl,V,rfl,memOk_one (b:=b) (o:=o) (cs':=madeB) hl hm hb (((hE.trans (One.drew b w2)).trans (One.setCell b o _ _)).trans (One.setCell b (o+1) _ _)) k1⟩
theorem doDone:CallOk Tryz.prog 245 [.ptr 0 0,.clo 246 0 0] ⟨[madeB.map .v],[true],[]⟩ (.v (.tuple #[])) ⟨[madeB.map .v],[true],[]⟩:=by
  intro z V vs hl hm ha
  obtain ⟨b,o,hb,rfl⟩:=do_args (z:=z) ha
  obtain ⟨y,c1,c2,c3⟩:=hm.mem 0 b o hb (madeB.map .v) rfl 0 (.v (.int .u32 1)) rfl
  have c2:y=.int .u32 1:=c2
  subst c2
  refine .inr ⟨callFunc_enter Tryz.func245 (by kernel_rfl) (names_of names Tryz.func245 (by kernel_rfl)) z.w,?_⟩
  refine (do_done ⟨b,o,none⟩ _ z.w c1).mono ?_
  rintro e w' ⟨rfl,rfl⟩
  exact ⟨_,rfl,V,rfl,hm⟩
def eqI (a:SA) (b:Value):Bool :=
  match a,b with
  | .v (.int k x),.int k' y=>decide (k=k')&&decide (x=y)
  | _,_=>false
def eqL:List SA→List Value→Bool
  | [],[]=>true
  | x::a,y::b=>eqI x y&&eqL a b
  | _,_=>false
theorem eqI_eq {x:SA} {y:Value} (h:eqI x y=true):x=.v y:=by
  unfold eqI at h
  split at h
  · simp only [Bool.and_eq_true,decide_eq_true_eq] at h
    rw [h.1,h.2]
  · cases h
theorem eqL_eq:∀ {a:List SA} {b:List Value},eqL a b=true→a=b.map .v
  | [],[],_=>rfl
  | x::a,y::b,h=>by
    simp only [eqL,Bool.and_eq_true] at h
    rw [eqI_eq h.1,eqL_eq h.2]
    rfl
  | [],_::_,h=>by cases h
  | _::_,[],h=>by cases h
def doneB (cs:List SA):Bool :=
  match cs with
  | .v (.int .u32 d)::_=>decide (d=1)
  | _=>false
def isTab (cs:List SA):Bool:=bif doneB cs then eqL cs madeB else eqL cs newB
def gDo (xs:List SV) (m:Mem):Option (Bool×SV×Mem) :=
  match xs,m with
  | [.ptr 0 0,.clo f 0 0],⟨[cs],[true],[]⟩=>match Nat.beq f 246 with
    | true=>some (isTab cs,.v (.tuple #[]),⟨[madeB.map .v],[true],[]⟩)
    | false=>none
  | _,_=>none
theorem gDo_ok:CtC 245 gDo:=by
  intro xs m r m' h
  unfold gDo at h
  split at h
  · split at h
    · rename_i f cs _ hf
      obtain rfl:=Nat.eq_of_beq_eq_true hf
      obtain ⟨h1,rfl,rfl⟩:=some_t2 h
      unfold isTab at h1
      cases hd:doneB cs
      · rw [hd] at h1
        rw [eqL_eq h1]
        exact doFirst
      · rw [hd] at h1
        rw [eqL_eq h1]
        exact doDone
    · cases h
  · cases h
noncomputable def ΓDo:Orc:=addCl 245 gDo Γf0
theorem OkDo:ΓDo.Ok Tryz.prog:=addCl_ok Okf0 gDo_ok
end Go.Proofs.YtagaiddomhpdmaaGreat
