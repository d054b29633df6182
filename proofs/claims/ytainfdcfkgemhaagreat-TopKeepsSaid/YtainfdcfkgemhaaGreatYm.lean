/-
  A truth that goes on,a mission of one phase;that the answers that the document fixes are so.
-/
import Derived.Test.YtainfdcfkgemhaaGreatYl
import Derived.Test.YtainfdcfkgemhaaGreatYe
set_option maxRecDepth 100000
open Go.Proofs.Tryz
namespace Go.Proofs.YtainfdcfkgemhaaGreat.Hr
open Go Go.Proofs Go.Sx Pe
set_option linter.unusedVariables false
end Go.Proofs.YtainfdcfkgemhaaGreat.Hr
namespace Go.Proofs.YtainfdcfkgemhaaGreat.Hr
open Go Go.Proofs Go.Sx Nw Pe So
set_option linter.unusedVariables false
def qbO:SV:=.ag [.row 0,.v (I 2),.v (I 3),.v (I 4),.v (I 2),.v (I 50),.v (I 2),.v (I 10),.v (I 1)]
def qbP:Mem:=⟨[],[],[cq [gS]]⟩
theorem Lz:runG Γx24 (dV Γx24 prog 60 3) prog f30 [.v (I 1)] M0=some (.v (S kW),M0):=by kernel_rfl
def qlr (xs:List SV) (m:Mem):Option (Bool×SV×Mem) :=
 match xs,m with
 | [.v (.int .i64 n)],⟨[],[],[]⟩=>some (n==1,qbO,qbP)
 | _,_=>none
def Fy (vs:List Value):Option (Bool×Value) :=
 match vs with
 | [.int .i64 n]=>some (n==1,S kW)
 | _=>none
theorem qgi:am 30 Fy:=by
 intro vs r h
 unfold Fy at h
 split at h
 ·rename_i n
  obtain ⟨h1,rfl⟩:=ab h
  obtain rfl:=eq_of_beq h1
  exact ak (vs:=[I 1]) (m':=M0) gK func30 rfl (fun z _ _ b _=>eY gK mixed 60 3 b) Lz
 ·cases h
end Go.Proofs.YtainfdcfkgemhaaGreat.Hr
namespace Go.Proofs.YtainfdcfkgemhaaGreat.Hr
open Go Go.Proofs Go.Sx Nw Pe So
set_option linter.unusedVariables false
end Go.Proofs.YtainfdcfkgemhaaGreat.Hr
