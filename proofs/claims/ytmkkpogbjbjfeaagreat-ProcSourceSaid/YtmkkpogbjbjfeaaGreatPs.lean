/-
  Calls with known arguments over known memory: what a processor that is armed does of nothing.
-/
import Derived.Test.YtmkkpogbjbjfeaaGreatPc
namespace Go.Proofs.YtmkkpogbjbjfeaaGreat
open Go Go.Proofs Go.Sx
set_option linter.unusedVariables false
noncomputable def ΓL200 : Orc := ΓL52
theorem OkL200 : ΓL200.Ok Tryz.prog := OkL52
end Go.Proofs.YtmkkpogbjbjfeaaGreat

namespace Go.Proofs.YtmkkpogbjbjfeaaGreat
open Go Go.Proofs Go.Sx
set_option linter.unusedVariables false
-- Dal | stop (*apogee/proc.Proc).Cycle 7 [.ptr 0 0, inZ] | mL14
def uinZ_mL14 : Mem := ⟨[[.v (.string imL), .v (I 0), .ptr 1 0, .v (I 8), .v (.bool true), .v (I 0), .row 0, .v (I 2), .v (I 3), .v (I 4), .v (I 2), .v (I 50), .v (I 2), .v (I 10), .v (I 1), .v (I 0), .ptr 2 0, .ptr 3 0, .ptr 4 0, .ptr 5 0, .ptr 6 0, .ptr 7 0, .ptr 8 0, .ptr 9 0, .ptr 10 0, .ptr 11 0, .v (.bool false), .v (I 2)], [.row 1, .ptr 12 0, .v (.bool false), .v (.bool false), .v (I 0)], [.ptr 1 0, .v (I 8), .v (I 1), .v (I 1), .v (I 0), .v (I 1), .v (I 0), .v (I 0), .v (I 0), .v (I 0), .v (I 0), .v (I 1)], [.v (.string e0), .ptr 13 0], [.v (.string e0), .ptr 14 0], [.v (.string e0), .ptr 15 0], [.v (.string e0), .ptr 16 0], [.v (I 50), .v (I 2), .ptr 17 0, .v (I 0), .v (I 0), .v (I 0), .v (I 0), .v (I 0), .v (I 0), .v (I 0), .v (I 0), .v (.bool false)], [.v (I 50), .v (I 2), .ptr 18 0, .v (I 0), .v (I 0), .v (I 0), .v (I 0), .v (I 0), .v (I 0), .v (I 0), .v (I 0), .v (.bool false)], [.row 2, .v (I 2), .v (I 3), .v (I 4), .v (I 2), .v (I 50), .v (I 2), .v (I 10), .v (I 1), .v (I 0), .ptr 19 0], [.ptr 20 0, .ptr 21 0, .ptr 22 0], [.v (I 1), .v (.bool false), .v (I 1), .v (I 0)], [.v (I 1000000), .v (I 1)], [.v (I 1000000), .v (I 0)], [.v (I 1000000), .v (I 0)], [.v (I 1000000), .v (I 0)], [.v (I 1000000), .v (I 0)], [.v (I 1000000), .v (I 1)], [.v (I 1000000), .v (I 1)], [.v (I 1000000), .v (I 0)], [.v (I 2), .v (I 0)], [.v (I 3), .v (I 0)], [.v (I 4), .v (I 0)]], [true, true, true, true, true, true, true, true, true, true, true, true, true, true, true, true, true, true, true, true, true, true, true], [.live ⟨151, [CK.sl (153) [CK0.num IntKind.i64, CK0.num IntKind.i64], .num .i64, .num .i64, .num .i64, .num .i64], [[Dat.l (Value.slice none 0 0) [[Dat.n (Int.negSucc 999), Dat.n (Int.negSucc 999)], [Dat.n 1000, Dat.n (Int.negSucc 999)], [Dat.n 1000, Dat.n 1000], [Dat.n (Int.negSucc 999), Dat.n 1000]], .n (1), .n (200), .n (5), .n (100)]], true, false⟩, .live ⟨5, [.num .u8], [bN 255, bN 255, bN 255, bN 255, bN 255, bN 255, bN 255, bN 255, bN 0, bN 0, bN 0, bN 1, bN 0, bN 0, bN 0, bN 1, bN 16, bN 0, bN 0, bN 0, bN 0, bN 0, bN 0, bN 0, bN 90, bN 237, bN 183, bN 184, bN 0, bN 0, bN 0, bN 1, bN 255, bN 255, bN 255, bN 255, bN 255, bN 255, bN 255, bN 255, bN 255, bN 255, bN 255, bN 255, bN 255, bN 255, bN 255, bN 255, bN 255, bN 255, bN 255, bN 255, bN 255, bN 255, bN 255, bN 255, bN 255, bN 255, bN 255, bN 255, bN 255, bN 255, bN 255, bN 255], true, true⟩, .live ⟨151, [CK.sl (153) [CK0.num IntKind.i64, CK0.num IntKind.i64], .num .i64, .num .i64, .num .i64, .num .i64], [[Dat.l (Value.slice none 0 0) [[Dat.n (Int.negSucc 999), Dat.n (Int.negSucc 999)], [Dat.n 1000, Dat.n (Int.negSucc 999)], [Dat.n 1000, Dat.n 1000], [Dat.n (Int.negSucc 999), Dat.n 1000]], .n (1), .n (200), .n (5), .n (100)]], true, false⟩]⟩
end Go.Proofs.YtmkkpogbjbjfeaaGreat

namespace Go.Proofs.YtmkkpogbjbjfeaaGreat
open Go Go.Proofs Go.Sx
set_option linter.unusedVariables false
-- (*apogee/proc.Proc).hear | [.ptr 0 0, inZ] | uinZ_mL14
noncomputable def ΓxL201 : Orc := execV Tryz.prog ΓL200.call ΓL200.rd ΓL200.eqv wx24b 60 16
theorem OkxL201 : ΓxL201.Ok Tryz.prog := execV_ok mixed names (ext := ΓL200.call) (rd := ΓL200.rd) (eqv := ΓL200.eqv) ⟨OkL200.call, OkL200.rd, OkL200.eqv⟩ 60 16
def rL201 : SV := .v (.agg #[(.int .i64 0), (.int .i64 0), (.int .i64 0), (.int .i64 0), (.int .i64 0), (.int .i64 0), (.int .i64 0), (.int .i64 0), (.int .i64 0), (.int .i64 0), (.int .i64 0), (.int .i64 0), (.int .i64 0), (.int .i64 0), (.int .i64 0), (.int .i64 0), (.bool false), (.bool false), (.int .i64 0), (.int .i64 0), (.int .i64 0), (.int .i64 0), (.int .i64 0), (.bool false)])
def mL201 : Mem := ⟨[[.v (.string imL), .v (I 0), .ptr 1 0, .v (I 8), .v (.bool true), .v (I 0), .row 0, .v (I 2), .v (I 3), .v (I 4), .v (I 2), .v (I 50), .v (I 2), .v (I 10), .v (I 1), .v (I 0), .ptr 2 0, .ptr 3 0, .ptr 4 0, .ptr 5 0, .ptr 6 0, .ptr 7 0, .ptr 8 0, .ptr 9 0, .ptr 10 0, .ptr 11 0, .v (.bool false), .v (I 2)], [.row 1, .ptr 12 0, .v (.bool false), .v (.bool false), .v (I 0)], [.ptr 1 0, .v (I 8), .v (I 1), .v (I 1), .v (I 0), .v (I 1), .v (I 0), .v (I 0), .v (I 0), .v (I 0), .v (I 0), .v (I 1)], [.v (.string e0), .ptr 13 0], [.v (.string e0), .ptr 14 0], [.v (.string e0), .ptr 15 0], [.v (.string e0), .ptr 16 0], [.v (I 50), .v (I 2), .ptr 17 0, .v (I 0), .v (I 0), .v (I 0), .v (I 0), .v (I 0), .v (I 0), .v (I 0), .v (I 0), .v (.bool false)], [.v (I 50), .v (I 2), .ptr 18 0, .v (I 0), .v (I 0), .v (I 0), .v (I 0), .v (I 0), .v (I 0), .v (I 0), .v (I 0), .v (.bool false)], [.row 2, .v (I 2), .v (I 3), .v (I 4), .v (I 2), .v (I 50), .v (I 2), .v (I 10), .v (I 1), .v (I 0), .ptr 19 0], [.ptr 20 0, .ptr 21 0, .ptr 22 0], [.v (I 1), .v (.bool false), .v (I 1), .v (I 0)], [.v (I 1000000), .v (I 1)], [.v (I 1000000), .v (I 0)], [.v (I 1000000), .v (I 0)], [.v (I 1000000), .v (I 0)], [.v (I 1000000), .v (I 0)], [.v (I 1000000), .v (I 2)], [.v (I 1000000), .v (I 2)], [.v (I 1000000), .v (I 0)], [.v (I 2), .v (I 0)], [.v (I 3), .v (I 0)], [.v (I 4), .v (I 0)]], [true, true, true, true, true, true, true, true, true, true, true, true, true, true, true, true, true, true, true, true, true, true, true], [.live ⟨151, [CK.sl (153) [CK0.num IntKind.i64, CK0.num IntKind.i64], .num .i64, .num .i64, .num .i64, .num .i64], [[Dat.l (Value.slice none 0 0) [[Dat.n (Int.negSucc 999), Dat.n (Int.negSucc 999)], [Dat.n 1000, Dat.n (Int.negSucc 999)], [Dat.n 1000, Dat.n 1000], [Dat.n (Int.negSucc 999), Dat.n 1000]], .n (1), .n (200), .n (5), .n (100)]], true, false⟩, .live ⟨5, [.num .u8], [bN 255, bN 255, bN 255, bN 255, bN 255, bN 255, bN 255, bN 255, bN 0, bN 0, bN 0, bN 1, bN 0, bN 0, bN 0, bN 1, bN 16, bN 0, bN 0, bN 0, bN 0, bN 0, bN 0, bN 0, bN 90, bN 237, bN 183, bN 184, bN 0, bN 0, bN 0, bN 1, bN 255, bN 255, bN 255, bN 255, bN 255, bN 255, bN 255, bN 255, bN 255, bN 255, bN 255, bN 255, bN 255, bN 255, bN 255, bN 255, bN 255, bN 255, bN 255, bN 255, bN 255, bN 255, bN 255, bN 255, bN 255, bN 255, bN 255, bN 255, bN 255, bN 255, bN 255, bN 255], true, true⟩, .live ⟨151, [CK.sl (153) [CK0.num IntKind.i64, CK0.num IntKind.i64], .num .i64, .num .i64, .num .i64, .num .i64], [[Dat.l (Value.slice none 0 0) [[Dat.n (Int.negSucc 999), Dat.n (Int.negSucc 999)], [Dat.n 1000, Dat.n (Int.negSucc 999)], [Dat.n 1000, Dat.n 1000], [Dat.n (Int.negSucc 999), Dat.n 1000]], .n (1), .n (200), .n (5), .n (100)]], true, false⟩]⟩
set_option maxRecDepth 100000 in
theorem runL201 : runG ΓxL201 (loopX ΓxL201 Tryz.prog 60 3) Tryz.prog Tryz.f44 [.ptr 0 0, inZ] uinZ_mL14 = some (rL201, mL201) := by kernel_rfl
theorem okL201 : CallOk Tryz.prog 44 [.ptr 0 0, inZ] uinZ_mL14 rL201 mL201 := runOk OkxL201 Tryz.func44 rfl (fun z _ _ b _ => loopX_ok OkxL201 mixed 60 3 b) runL201
noncomputable def ΓL201 : Orc := addCl 44 (litC [.ptr 0 0, inZ] uinZ_mL14 rL201 mL201) ΓL200
theorem OkL201 : ΓL201.Ok Tryz.prog := addCl_ok OkL200 (litC_ok okL201)
end Go.Proofs.YtmkkpogbjbjfeaaGreat

namespace Go.Proofs.YtmkkpogbjbjfeaaGreat
open Go Go.Proofs Go.Sx
set_option linter.unusedVariables false
-- (*apogee/proc.Proc).judge | [.ptr 0 0, rL201] | mL201
noncomputable def ΓxL202 : Orc := execV Tryz.prog ΓL201.call ΓL201.rd ΓL201.eqv wx24b 60 16
theorem OkxL202 : ΓxL202.Ok Tryz.prog := execV_ok mixed names (ext := ΓL201.call) (rd := ΓL201.rd) (eqv := ΓL201.eqv) ⟨OkL201.call, OkL201.rd, OkL201.eqv⟩ 60 16
def rL202 : SV := .v (.agg #[(.int .i64 4), (.int .i64 4), (.int .i64 0), (.bool false), (.int .i64 192)])
def mL202 : Mem := ⟨[[.v (.string imL), .v (I 0), .ptr 1 0, .v (I 8), .v (.bool true), .v (I 0), .row 0, .v (I 2), .v (I 3), .v (I 4), .v (I 2), .v (I 50), .v (I 2), .v (I 10), .v (I 1), .v (I 0), .ptr 2 0, .ptr 3 0, .ptr 4 0, .ptr 5 0, .ptr 6 0, .ptr 7 0, .ptr 8 0, .ptr 9 0, .ptr 10 0, .ptr 11 0, .v (.bool false), .v (I 2)], [.row 1, .ptr 12 0, .v (.bool false), .v (.bool false), .v (I 0)], [.ptr 1 0, .v (I 8), .v (I 1), .v (I 1), .v (I 0), .v (I 1), .v (I 0), .v (I 0), .v (I 0), .v (I 0), .v (I 0), .v (I 1)], [.v (.string e0), .ptr 13 0], [.v (.string e0), .ptr 14 0], [.v (.string e0), .ptr 15 0], [.v (.string e0), .ptr 16 0], [.v (I 50), .v (I 2), .ptr 17 0, .v (I 0), .v (I 0), .v (I 0), .v (I 0), .v (I 0), .v (I 0), .v (I 0), .v (I 0), .v (.bool false)], [.v (I 50), .v (I 2), .ptr 18 0, .v (I 0), .v (I 0), .v (I 0), .v (I 0), .v (I 0), .v (I 0), .v (I 0), .v (I 0), .v (.bool false)], [.row 2, .v (I 2), .v (I 3), .v (I 4), .v (I 2), .v (I 50), .v (I 2), .v (I 10), .v (I 1), .v (I 0), .ptr 19 0], [.ptr 20 0, .ptr 21 0, .ptr 22 0], [.v (I 1), .v (.bool false), .v (I 1), .v (I 0)], [.v (I 1000000), .v (I 1)], [.v (I 1000000), .v (I 0)], [.v (I 1000000), .v (I 0)], [.v (I 1000000), .v (I 0)], [.v (I 1000000), .v (I 0)], [.v (I 1000000), .v (I 2)], [.v (I 1000000), .v (I 2)], [.v (I 1000000), .v (I 0)], [.v (I 2), .v (I 0)], [.v (I 3), .v (I 0)], [.v (I 4), .v (I 0)]], [true, true, true, true, true, true, true, true, true, true, true, true, true, true, true, true, true, true, true, true, true, true, true], [.live ⟨151, [CK.sl (153) [CK0.num IntKind.i64, CK0.num IntKind.i64], .num .i64, .num .i64, .num .i64, .num .i64], [[Dat.l (Value.slice none 0 0) [[Dat.n (Int.negSucc 999), Dat.n (Int.negSucc 999)], [Dat.n 1000, Dat.n (Int.negSucc 999)], [Dat.n 1000, Dat.n 1000], [Dat.n (Int.negSucc 999), Dat.n 1000]], .n (1), .n (200), .n (5), .n (100)]], true, false⟩, .live ⟨5, [.num .u8], [bN 255, bN 255, bN 255, bN 255, bN 255, bN 255, bN 255, bN 255, bN 0, bN 0, bN 0, bN 1, bN 0, bN 0, bN 0, bN 1, bN 16, bN 0, bN 0, bN 0, bN 0, bN 0, bN 0, bN 0, bN 90, bN 237, bN 183, bN 184, bN 0, bN 0, bN 0, bN 1, bN 255, bN 255, bN 255, bN 255, bN 255, bN 255, bN 255, bN 255, bN 255, bN 255, bN 255, bN 255, bN 255, bN 255, bN 255, bN 255, bN 255, bN 255, bN 255, bN 255, bN 255, bN 255, bN 255, bN 255, bN 255, bN 255, bN 255, bN 255, bN 255, bN 255, bN 255, bN 255], true, true⟩, .live ⟨151, [CK.sl (153) [CK0.num IntKind.i64, CK0.num IntKind.i64], .num .i64, .num .i64, .num .i64, .num .i64], [[Dat.l (Value.slice none 0 0) [[Dat.n (Int.negSucc 999), Dat.n (Int.negSucc 999)], [Dat.n 1000, Dat.n (Int.negSucc 999)], [Dat.n 1000, Dat.n 1000], [Dat.n (Int.negSucc 999), Dat.n 1000]], .n (1), .n (200), .n (5), .n (100)]], true, false⟩]⟩
set_option maxRecDepth 100000 in
theorem runL202 : runG ΓxL202 (loopX ΓxL202 Tryz.prog 60 3) Tryz.prog Tryz.f45 [.ptr 0 0, rL201] mL201 = some (rL202, mL202) := by kernel_rfl
theorem okL202 : CallOk Tryz.prog 45 [.ptr 0 0, rL201] mL201 rL202 mL202 := runOk OkxL202 Tryz.func45 rfl (fun z _ _ b _ => loopX_ok OkxL202 mixed 60 3 b) runL202
noncomputable def ΓL202 : Orc := addCl 45 (litC [.ptr 0 0, rL201] mL201 rL202 mL202) ΓL201
theorem OkL202 : ΓL202.Ok Tryz.prog := addCl_ok OkL201 (litC_ok okL202)
end Go.Proofs.YtmkkpogbjbjfeaaGreat

namespace Go.Proofs.YtmkkpogbjbjfeaaGreat
open Go Go.Proofs Go.Sx
set_option linter.unusedVariables false
-- (*apogee/proc.Proc).changeState | [.ptr 0 0, rL201, rL202] | mL202
noncomputable def ΓxL203 : Orc := execV Tryz.prog ΓL202.call ΓL202.rd ΓL202.eqv wx24b 60 16
theorem OkxL203 : ΓxL203.Ok Tryz.prog := execV_ok mixed names (ext := ΓL202.call) (rd := ΓL202.rd) (eqv := ΓL202.eqv) ⟨OkL202.call, OkL202.rd, OkL202.eqv⟩ 60 16
def rL203 : SV := .v (.tuple #[])
def mL203 : Mem := ⟨[[.v (.string imL), .v (I 0), .ptr 1 0, .v (I 8), .v (.bool true), .v (I 0), .row 0, .v (I 2), .v (I 3), .v (I 4), .v (I 2), .v (I 50), .v (I 2), .v (I 10), .v (I 1), .v (I 0), .ptr 2 0, .ptr 3 0, .ptr 4 0, .ptr 5 0, .ptr 6 0, .ptr 7 0, .ptr 8 0, .ptr 9 0, .ptr 10 0, .ptr 11 0, .v (.bool false), .v (I 2)], [.row 1, .ptr 12 0, .v (.bool false), .v (.bool false), .v (I 0)], [.ptr 1 0, .v (I 8), .v (I 1), .v (I 1), .v (I 0), .v (I 1), .v (I 0), .v (I 0), .v (I 0), .v (I 0), .v (I 0), .v (I 1)], [.v (.string e0), .ptr 13 0], [.v (.string e0), .ptr 14 0], [.v (.string e0), .ptr 15 0], [.v (.string e0), .ptr 16 0], [.v (I 50), .v (I 2), .ptr 17 0, .v (I 0), .v (I 0), .v (I 0), .v (I 0), .v (I 0), .v (I 0), .v (I 0), .v (I 0), .v (.bool false)], [.v (I 50), .v (I 2), .ptr 18 0, .v (I 0), .v (I 0), .v (I 0), .v (I 0), .v (I 0), .v (I 0), .v (I 0), .v (I 0), .v (.bool false)], [.row 2, .v (I 2), .v (I 3), .v (I 4), .v (I 2), .v (I 50), .v (I 2), .v (I 10), .v (I 1), .v (I 0), .ptr 19 0], [.ptr 20 0, .ptr 21 0, .ptr 22 0], [.v (I 1), .v (.bool false), .v (I 1), .v (I 0)], [.v (I 1000000), .v (I 1)], [.v (I 1000000), .v (I 0)], [.v (I 1000000), .v (I 0)], [.v (I 1000000), .v (I 0)], [.v (I 1000000), .v (I 0)], [.v (I 1000000), .v (I 2)], [.v (I 1000000), .v (I 2)], [.v (I 1000000), .v (I 0)], [.v (I 2), .v (I 0)], [.v (I 3), .v (I 0)], [.v (I 4), .v (I 1)]], [true, true, true, true, true, true, true, true, true, true, true, true, true, true, true, true, true, true, true, true, true, true, true], [.live ⟨151, [CK.sl (153) [CK0.num IntKind.i64, CK0.num IntKind.i64], .num .i64, .num .i64, .num .i64, .num .i64], [[Dat.l (Value.slice none 0 0) [[Dat.n (Int.negSucc 999), Dat.n (Int.negSucc 999)], [Dat.n 1000, Dat.n (Int.negSucc 999)], [Dat.n 1000, Dat.n 1000], [Dat.n (Int.negSucc 999), Dat.n 1000]], .n (1), .n (200), .n (5), .n (100)]], true, false⟩, .live ⟨5, [.num .u8], [bN 255, bN 255, bN 255, bN 255, bN 255, bN 255, bN 255, bN 255, bN 0, bN 0, bN 0, bN 1, bN 0, bN 0, bN 0, bN 1, bN 16, bN 0, bN 0, bN 0, bN 0, bN 0, bN 0, bN 0, bN 90, bN 237, bN 183, bN 184, bN 0, bN 0, bN 0, bN 1, bN 255, bN 255, bN 255, bN 255, bN 255, bN 255, bN 255, bN 255, bN 255, bN 255, bN 255, bN 255, bN 255, bN 255, bN 255, bN 255, bN 255, bN 255, bN 255, bN 255, bN 255, bN 255, bN 255, bN 255, bN 255, bN 255, bN 255, bN 255, bN 255, bN 255, bN 255, bN 255], true, true⟩, .live ⟨151, [CK.sl (153) [CK0.num IntKind.i64, CK0.num IntKind.i64], .num .i64, .num .i64, .num .i64, .num .i64], [[Dat.l (Value.slice none 0 0) [[Dat.n (Int.negSucc 999), Dat.n (Int.negSucc 999)], [Dat.n 1000, Dat.n (Int.negSucc 999)], [Dat.n 1000, Dat.n 1000], [Dat.n (Int.negSucc 999), Dat.n 1000]], .n (1), .n (200), .n (5), .n (100)]], true, false⟩]⟩
set_option maxRecDepth 100000 in
theorem runL203 : runG ΓxL203 (loopX ΓxL203 Tryz.prog 60 3) Tryz.prog Tryz.f46 [.ptr 0 0, rL201, rL202] mL202 = some (rL203, mL203) := by kernel_rfl
theorem okL203 : CallOk Tryz.prog 46 [.ptr 0 0, rL201, rL202] mL202 rL203 mL203 := runOk OkxL203 Tryz.func46 rfl (fun z _ _ b _ => loopX_ok OkxL203 mixed 60 3 b) runL203
noncomputable def ΓL203 : Orc := addCl 46 (litC [.ptr 0 0, rL201, rL202] mL202 rL203 mL203) ΓL202
theorem OkL203 : ΓL203.Ok Tryz.prog := addCl_ok OkL202 (litC_ok okL203)
end Go.Proofs.YtmkkpogbjbjfeaaGreat

namespace Go.Proofs.YtmkkpogbjbjfeaaGreat
open Go Go.Proofs Go.Sx
set_option linter.unusedVariables false
-- (*apogee/proc.Proc).changePhase | [.ptr 0 0, rL201, rL202] | mL203
noncomputable def ΓxL204 : Orc := execV Tryz.prog ΓL203.call ΓL203.rd ΓL203.eqv wx24b 60 16
theorem OkxL204 : ΓxL204.Ok Tryz.prog := execV_ok mixed names (ext := ΓL203.call) (rd := ΓL203.rd) (eqv := ΓL203.eqv) ⟨OkL203.call, OkL203.rd, OkL203.eqv⟩ 60 16
def rL204 : SV := .v (.bool false)
def mL204 : Mem := ⟨[[.v (.string imL), .v (I 0), .ptr 1 0, .v (I 8), .v (.bool true), .v (I 0), .row 0, .v (I 2), .v (I 3), .v (I 4), .v (I 2), .v (I 50), .v (I 2), .v (I 10), .v (I 1), .v (I 0), .ptr 2 0, .ptr 3 0, .ptr 4 0, .ptr 5 0, .ptr 6 0, .ptr 7 0, .ptr 8 0, .ptr 9 0, .ptr 10 0, .ptr 11 0, .v (.bool false), .v (I 2)], [.row 1, .ptr 12 0, .v (.bool false), .v (.bool false), .v (I 0)], [.ptr 1 0, .v (I 8), .v (I 1), .v (I 1), .v (I 0), .v (I 1), .v (I 0), .v (I 0), .v (I 0), .v (I 0), .v (I 0), .v (I 1)], [.v (.string e0), .ptr 13 0], [.v (.string e0), .ptr 14 0], [.v (.string e0), .ptr 15 0], [.v (.string e0), .ptr 16 0], [.v (I 50), .v (I 2), .ptr 17 0, .v (I 0), .v (I 0), .v (I 0), .v (I 0), .v (I 0), .v (I 0), .v (I 0), .v (I 0), .v (.bool false)], [.v (I 50), .v (I 2), .ptr 18 0, .v (I 0), .v (I 0), .v (I 0), .v (I 0), .v (I 0), .v (I 0), .v (I 0), .v (I 0), .v (.bool false)], [.row 2, .v (I 2), .v (I 3), .v (I 4), .v (I 2), .v (I 50), .v (I 2), .v (I 10), .v (I 1), .v (I 0), .ptr 19 0], [.ptr 20 0, .ptr 21 0, .ptr 22 0], [.v (I 1), .v (.bool false), .v (I 1), .v (I 0)], [.v (I 1000000), .v (I 1)], [.v (I 1000000), .v (I 0)], [.v (I 1000000), .v (I 0)], [.v (I 1000000), .v (I 0)], [.v (I 1000000), .v (I 0)], [.v (I 1000000), .v (I 2)], [.v (I 1000000), .v (I 2)], [.v (I 1000000), .v (I 0)], [.v (I 2), .v (I 0)], [.v (I 3), .v (I 0)], [.v (I 4), .v (I 1)]], [true, true, true, true, true, true, true, true, true, true, true, true, true, true, true, true, true, true, true, true, true, true, true], [.live ⟨151, [CK.sl (153) [CK0.num IntKind.i64, CK0.num IntKind.i64], .num .i64, .num .i64, .num .i64, .num .i64], [[Dat.l (Value.slice none 0 0) [[Dat.n (Int.negSucc 999), Dat.n (Int.negSucc 999)], [Dat.n 1000, Dat.n (Int.negSucc 999)], [Dat.n 1000, Dat.n 1000], [Dat.n (Int.negSucc 999), Dat.n 1000]], .n (1), .n (200), .n (5), .n (100)]], true, false⟩, .live ⟨5, [.num .u8], [bN 255, bN 255, bN 255, bN 255, bN 255, bN 255, bN 255, bN 255, bN 0, bN 0, bN 0, bN 1, bN 0, bN 0, bN 0, bN 1, bN 16, bN 0, bN 0, bN 0, bN 0, bN 0, bN 0, bN 0, bN 90, bN 237, bN 183, bN 184, bN 0, bN 0, bN 0, bN 1, bN 255, bN 255, bN 255, bN 255, bN 255, bN 255, bN 255, bN 255, bN 255, bN 255, bN 255, bN 255, bN 255, bN 255, bN 255, bN 255, bN 255, bN 255, bN 255, bN 255, bN 255, bN 255, bN 255, bN 255, bN 255, bN 255, bN 255, bN 255, bN 255, bN 255, bN 255, bN 255], true, true⟩, .live ⟨151, [CK.sl (153) [CK0.num IntKind.i64, CK0.num IntKind.i64], .num .i64, .num .i64, .num .i64, .num .i64], [[Dat.l (Value.slice none 0 0) [[Dat.n (Int.negSucc 999), Dat.n (Int.negSucc 999)], [Dat.n 1000, Dat.n (Int.negSucc 999)], [Dat.n 1000, Dat.n 1000], [Dat.n (Int.negSucc 999), Dat.n 1000]], .n (1), .n (200), .n (5), .n (100)]], true, false⟩]⟩
set_option maxRecDepth 100000 in
theorem runL204 : runG ΓxL204 (loopX ΓxL204 Tryz.prog 60 3) Tryz.prog Tryz.f47 [.ptr 0 0, rL201, rL202] mL203 = some (rL204, mL204) := by kernel_rfl
theorem okL204 : CallOk Tryz.prog 47 [.ptr 0 0, rL201, rL202] mL203 rL204 mL204 := runOk OkxL204 Tryz.func47 rfl (fun z _ _ b _ => loopX_ok OkxL204 mixed 60 3 b) runL204
noncomputable def ΓL204 : Orc := addCl 47 (litC [.ptr 0 0, rL201, rL202] mL203 rL204 mL204) ΓL203
theorem OkL204 : ΓL204.Ok Tryz.prog := addCl_ok OkL203 (litC_ok okL204)
end Go.Proofs.YtmkkpogbjbjfeaaGreat

namespace Go.Proofs.YtmkkpogbjbjfeaaGreat
open Go Go.Proofs Go.Sx
set_option linter.unusedVariables false
-- (*apogee/proc.Proc).save | [.ptr 0 0] | mL204
noncomputable def ΓxL205 : Orc := execV Tryz.prog ΓL204.call ΓL204.rd ΓL204.eqv wx24b 60 16
theorem OkxL205 : ΓxL205.Ok Tryz.prog := execV_ok mixed names (ext := ΓL204.call) (rd := ΓL204.rd) (eqv := ΓL204.eqv) ⟨OkL204.call, OkL204.rd, OkL204.eqv⟩ 60 16
def rL205 : SV := .v (I 0)
def mL205 : Mem := ⟨[[.v (.string imL), .v (I 0), .ptr 1 0, .v (I 8), .v (.bool true), .v (I 0), .row 0, .v (I 2), .v (I 3), .v (I 4), .v (I 2), .v (I 50), .v (I 2), .v (I 10), .v (I 1), .v (I 0), .ptr 2 0, .ptr 3 0, .ptr 4 0, .ptr 5 0, .ptr 6 0, .ptr 7 0, .ptr 8 0, .ptr 9 0, .ptr 10 0, .ptr 11 0, .v (.bool false), .v (I 2)], [.row 1, .ptr 12 0, .v (.bool false), .v (.bool false), .v (I 0)], [.ptr 1 0, .v (I 8), .v (I 2), .v (I 2), .v (I 0), .v (I 1), .v (I 0), .v (I 0), .v (I 0), .v (I 1), .v (I 0), .v (I 0)], [.v (.string e0), .ptr 13 0], [.v (.string e0), .ptr 14 0], [.v (.string e0), .ptr 15 0], [.v (.string e0), .ptr 16 0], [.v (I 50), .v (I 2), .ptr 17 0, .v (I 0), .v (I 0), .v (I 0), .v (I 0), .v (I 0), .v (I 0), .v (I 0), .v (I 0), .v (.bool false)], [.v (I 50), .v (I 2), .ptr 18 0, .v (I 0), .v (I 0), .v (I 0), .v (I 0), .v (I 0), .v (I 0), .v (I 0), .v (I 0), .v (.bool false)], [.row 2, .v (I 2), .v (I 3), .v (I 4), .v (I 2), .v (I 50), .v (I 2), .v (I 10), .v (I 1), .v (I 0), .ptr 19 0], [.ptr 20 0, .ptr 21 0, .ptr 22 0], [.v (I 1), .v (.bool false), .v (I 1), .v (I 0)], [.v (I 1000000), .v (I 2)], [.v (I 1000000), .v (I 0)], [.v (I 1000000), .v (I 0)], [.v (I 1000000), .v (I 0)], [.v (I 1000000), .v (I 0)], [.v (I 1000000), .v (I 2)], [.v (I 1000000), .v (I 2)], [.v (I 1000000), .v (I 0)], [.v (I 2), .v (I 0)], [.v (I 3), .v (I 0)], [.v (I 4), .v (I 1)]], [true, true, true, true, true, true, true, true, true, true, true, true, true, true, true, true, true, true, true, true, true, true, true], [.live ⟨151, [CK.sl (153) [CK0.num IntKind.i64, CK0.num IntKind.i64], .num .i64, .num .i64, .num .i64, .num .i64], [[Dat.l (Value.slice none 0 0) [[Dat.n (Int.negSucc 999), Dat.n (Int.negSucc 999)], [Dat.n 1000, Dat.n (Int.negSucc 999)], [Dat.n 1000, Dat.n 1000], [Dat.n (Int.negSucc 999), Dat.n 1000]], .n (1), .n (200), .n (5), .n (100)]], true, false⟩, .live ⟨5, [.num .u8], [bN 255, bN 255, bN 255, bN 255, bN 255, bN 255, bN 255, bN 255, bN 0, bN 0, bN 0, bN 1, bN 0, bN 0, bN 0, bN 1, bN 16, bN 0, bN 0, bN 0, bN 0, bN 0, bN 0, bN 0, bN 90, bN 237, bN 183, bN 184, bN 0, bN 0, bN 0, bN 1, bN 0, bN 0, bN 0, bN 2, bN 0, bN 0, bN 0, bN 2, bN 16, bN 0, bN 0, bN 1, bN 0, bN 0, bN 0, bN 0, bN 227, bN 202, bN 206, bN 3, bN 0, bN 0, bN 0, bN 2, bN 255, bN 255, bN 255, bN 255, bN 255, bN 255, bN 255, bN 255], true, true⟩, .live ⟨151, [CK.sl (153) [CK0.num IntKind.i64, CK0.num IntKind.i64], .num .i64, .num .i64, .num .i64, .num .i64], [[Dat.l (Value.slice none 0 0) [[Dat.n (Int.negSucc 999), Dat.n (Int.negSucc 999)], [Dat.n 1000, Dat.n (Int.negSucc 999)], [Dat.n 1000, Dat.n 1000], [Dat.n (Int.negSucc 999), Dat.n 1000]], .n (1), .n (200), .n (5), .n (100)]], true, false⟩]⟩
set_option maxRecDepth 100000 in
theorem runL205 : runG ΓxL205 (loopX ΓxL205 Tryz.prog 60 3) Tryz.prog Tryz.f48 [.ptr 0 0] mL204 = some (rL205, mL205) := by kernel_rfl
theorem okL205 : CallOk Tryz.prog 48 [.ptr 0 0] mL204 rL205 mL205 := runOk OkxL205 Tryz.func48 rfl (fun z _ _ b _ => loopX_ok OkxL205 mixed 60 3 b) runL205
noncomputable def ΓL205 : Orc := addCl 48 (litC [.ptr 0 0] mL204 rL205 mL205) ΓL204
theorem OkL205 : ΓL205.Ok Tryz.prog := addCl_ok OkL204 (litC_ok okL205)
end Go.Proofs.YtmkkpogbjbjfeaaGreat

namespace Go.Proofs.YtmkkpogbjbjfeaaGreat
open Go Go.Proofs Go.Sx
set_option linter.unusedVariables false
-- (*apogee/proc.Proc).tell | [.ptr 0 0, rL202, rL204] | mL205
noncomputable def ΓxL206 : Orc := execV Tryz.prog ΓL205.call ΓL205.rd ΓL205.eqv wx24b 60 16
theorem OkxL206 : ΓxL206.Ok Tryz.prog := execV_ok mixed names (ext := ΓL205.call) (rd := ΓL205.rd) (eqv := ΓL205.eqv) ⟨OkL205.call, OkL205.rd, OkL205.eqv⟩ 60 16
def rL206 : SV := .v (.agg #[(.bool true), (.int .i64 1), (.int .i64 0), (.bool false), (.string ⟨#[165, 90, 48, 10, 0, 0, 0, 2, 16, 0, 248, 132, 103, 156, 136, 207]⟩), (.string ⟨#[165, 90, 64, 14, 0, 0, 0, 2, 16, 0, 0, 1, 68, 192, 121, 112, 89, 66, 113, 234]⟩)])
def mL206 : Mem := ⟨[[.v (.string imL), .v (I 0), .ptr 1 0, .v (I 8), .v (.bool true), .v (I 0), .row 0, .v (I 2), .v (I 3), .v (I 4), .v (I 2), .v (I 50), .v (I 2), .v (I 10), .v (I 1), .v (I 0), .ptr 2 0, .ptr 3 0, .ptr 4 0, .ptr 5 0, .ptr 6 0, .ptr 7 0, .ptr 8 0, .ptr 9 0, .ptr 10 0, .ptr 11 0, .v (.bool false), .v (I 2)], [.row 1, .ptr 12 0, .v (.bool false), .v (.bool false), .v (I 0)], [.ptr 1 0, .v (I 8), .v (I 2), .v (I 2), .v (I 0), .v (I 1), .v (I 0), .v (I 0), .v (I 0), .v (I 1), .v (I 0), .v (I 0)], [.v (.string e0), .ptr 13 0], [.v (.string e0), .ptr 14 0], [.v (.string e0), .ptr 15 0], [.v (.string e0), .ptr 16 0], [.v (I 50), .v (I 2), .ptr 17 0, .v (I 0), .v (I 0), .v (I 0), .v (I 0), .v (I 0), .v (I 0), .v (I 0), .v (I 0), .v (.bool false)], [.v (I 50), .v (I 2), .ptr 18 0, .v (I 0), .v (I 0), .v (I 0), .v (I 0), .v (I 0), .v (I 0), .v (I 0), .v (I 0), .v (.bool false)], [.row 2, .v (I 2), .v (I 3), .v (I 4), .v (I 2), .v (I 50), .v (I 2), .v (I 10), .v (I 1), .v (I 0), .ptr 19 0], [.ptr 20 0, .ptr 21 0, .ptr 22 0], [.v (I 1), .v (.bool false), .v (I 1), .v (I 0)], [.v (I 1000000), .v (I 2)], [.v (I 1000000), .v (I 0)], [.v (I 1000000), .v (I 0)], [.v (I 1000000), .v (I 0)], [.v (I 1000000), .v (I 0)], [.v (I 1000000), .v (I 2)], [.v (I 1000000), .v (I 2)], [.v (I 1000000), .v (I 0)], [.v (I 2), .v (I 0)], [.v (I 3), .v (I 0)], [.v (I 4), .v (I 1)]], [true, true, true, true, true, true, true, true, true, true, true, true, true, true, true, true, true, true, true, true, true, true, true], [.live ⟨151, [CK.sl (153) [CK0.num IntKind.i64, CK0.num IntKind.i64], .num .i64, .num .i64, .num .i64, .num .i64], [[Dat.l (Value.slice none 0 0) [[Dat.n (Int.negSucc 999), Dat.n (Int.negSucc 999)], [Dat.n 1000, Dat.n (Int.negSucc 999)], [Dat.n 1000, Dat.n 1000], [Dat.n (Int.negSucc 999), Dat.n 1000]], .n (1), .n (200), .n (5), .n (100)]], true, false⟩, .live ⟨5, [.num .u8], [bN 255, bN 255, bN 255, bN 255, bN 255, bN 255, bN 255, bN 255, bN 0, bN 0, bN 0, bN 1, bN 0, bN 0, bN 0, bN 1, bN 16, bN 0, bN 0, bN 0, bN 0, bN 0, bN 0, bN 0, bN 90, bN 237, bN 183, bN 184, bN 0, bN 0, bN 0, bN 1, bN 0, bN 0, bN 0, bN 2, bN 0, bN 0, bN 0, bN 2, bN 16, bN 0, bN 0, bN 1, bN 0, bN 0, bN 0, bN 0, bN 227, bN 202, bN 206, bN 3, bN 0, bN 0, bN 0, bN 2, bN 255, bN 255, bN 255, bN 255, bN 255, bN 255, bN 255, bN 255], true, true⟩, .live ⟨151, [CK.sl (153) [CK0.num IntKind.i64, CK0.num IntKind.i64], .num .i64, .num .i64, .num .i64, .num .i64], [[Dat.l (Value.slice none 0 0) [[Dat.n (Int.negSucc 999), Dat.n (Int.negSucc 999)], [Dat.n 1000, Dat.n (Int.negSucc 999)], [Dat.n 1000, Dat.n 1000], [Dat.n (Int.negSucc 999), Dat.n 1000]], .n (1), .n (200), .n (5), .n (100)]], true, false⟩]⟩
set_option maxRecDepth 100000 in
theorem runL206 : runG ΓxL206 (loopX ΓxL206 Tryz.prog 60 3) Tryz.prog Tryz.f49 [.ptr 0 0, rL202, rL204] mL205 = some (rL206, mL206) := by kernel_rfl
theorem okL206 : CallOk Tryz.prog 49 [.ptr 0 0, rL202, rL204] mL205 rL206 mL206 := runOk OkxL206 Tryz.func49 rfl (fun z _ _ b _ => loopX_ok OkxL206 mixed 60 3 b) runL206
noncomputable def ΓL206 : Orc := addCl 49 (litC [.ptr 0 0, rL202, rL204] mL205 rL206 mL206) ΓL205
theorem OkL206 : ΓL206.Ok Tryz.prog := addCl_ok OkL205 (litC_ok okL206)
end Go.Proofs.YtmkkpogbjbjfeaaGreat

namespace Go.Proofs.YtmkkpogbjbjfeaaGreat
open Go Go.Proofs Go.Sx
set_option linter.unusedVariables false
-- (*apogee/proc.Proc).Cycle | [.ptr 0 0, inZ] | mL14
noncomputable def ΓxL207 : Orc := execV Tryz.prog ΓL206.call ΓL206.rd ΓL206.eqv wx24b 60 16
theorem OkxL207 : ΓxL207.Ok Tryz.prog := execV_ok mixed names (ext := ΓL206.call) (rd := ΓL206.rd) (eqv := ΓL206.eqv) ⟨OkL206.call, OkL206.rd, OkL206.eqv⟩ 60 16
def rL207 : SV := .v (.agg #[(.bool true), (.int .i64 1), (.int .i64 0), (.bool false), (.string ⟨#[165, 90, 48, 10, 0, 0, 0, 2, 16, 0, 248, 132, 103, 156, 136, 207]⟩), (.string ⟨#[165, 90, 64, 14, 0, 0, 0, 2, 16, 0, 0, 1, 68, 192, 121, 112, 89, 66, 113, 234]⟩)])
def mL207 : Mem := ⟨[[.v (.string imL), .v (I 0), .ptr 1 0, .v (I 8), .v (.bool true), .v (I 0), .row 0, .v (I 2), .v (I 3), .v (I 4), .v (I 2), .v (I 50), .v (I 2), .v (I 10), .v (I 1), .v (I 0), .ptr 2 0, .ptr 3 0, .ptr 4 0, .ptr 5 0, .ptr 6 0, .ptr 7 0, .ptr 8 0, .ptr 9 0, .ptr 10 0, .ptr 11 0, .v (.bool false), .v (I 2)], [.row 1, .ptr 12 0, .v (.bool false), .v (.bool false), .v (I 0)], [.ptr 1 0, .v (I 8), .v (I 2), .v (I 2), .v (I 0), .v (I 1), .v (I 0), .v (I 0), .v (I 0), .v (I 1), .v (I 0), .v (I 0)], [.v (.string e0), .ptr 13 0], [.v (.string e0), .ptr 14 0], [.v (.string e0), .ptr 15 0], [.v (.string e0), .ptr 16 0], [.v (I 50), .v (I 2), .ptr 17 0, .v (I 0), .v (I 0), .v (I 0), .v (I 0), .v (I 0), .v (I 0), .v (I 0), .v (I 0), .v (.bool false)], [.v (I 50), .v (I 2), .ptr 18 0, .v (I 0), .v (I 0), .v (I 0), .v (I 0), .v (I 0), .v (I 0), .v (I 0), .v (I 0), .v (.bool false)], [.row 2, .v (I 2), .v (I 3), .v (I 4), .v (I 2), .v (I 50), .v (I 2), .v (I 10), .v (I 1), .v (I 0), .ptr 19 0], [.ptr 20 0, .ptr 21 0, .ptr 22 0], [.v (I 1), .v (.bool false), .v (I 1), .v (I 0)], [.v (I 1000000), .v (I 2)], [.v (I 1000000), .v (I 0)], [.v (I 1000000), .v (I 0)], [.v (I 1000000), .v (I 0)], [.v (I 1000000), .v (I 0)], [.v (I 1000000), .v (I 2)], [.v (I 1000000), .v (I 2)], [.v (I 1000000), .v (I 0)], [.v (I 2), .v (I 0)], [.v (I 3), .v (I 0)], [.v (I 4), .v (I 1)]], [true, true, true, true, true, true, true, true, true, true, true, true, true, true, true, true, true, true, true, true, true, true, true], [.live ⟨151, [CK.sl (153) [CK0.num IntKind.i64, CK0.num IntKind.i64], .num .i64, .num .i64, .num .i64, .num .i64], [[Dat.l (Value.slice none 0 0) [[Dat.n (Int.negSucc 999), Dat.n (Int.negSucc 999)], [Dat.n 1000, Dat.n (Int.negSucc 999)], [Dat.n 1000, Dat.n 1000], [Dat.n (Int.negSucc 999), Dat.n 1000]], .n (1), .n (200), .n (5), .n (100)]], true, false⟩, .live ⟨5, [.num .u8], [bN 255, bN 255, bN 255, bN 255, bN 255, bN 255, bN 255, bN 255, bN 0, bN 0, bN 0, bN 1, bN 0, bN 0, bN 0, bN 1, bN 16, bN 0, bN 0, bN 0, bN 0, bN 0, bN 0, bN 0, bN 90, bN 237, bN 183, bN 184, bN 0, bN 0, bN 0, bN 1, bN 0, bN 0, bN 0, bN 2, bN 0, bN 0, bN 0, bN 2, bN 16, bN 0, bN 0, bN 1, bN 0, bN 0, bN 0, bN 0, bN 227, bN 202, bN 206, bN 3, bN 0, bN 0, bN 0, bN 2, bN 255, bN 255, bN 255, bN 255, bN 255, bN 255, bN 255, bN 255], true, true⟩, .live ⟨151, [CK.sl (153) [CK0.num IntKind.i64, CK0.num IntKind.i64], .num .i64, .num .i64, .num .i64, .num .i64], [[Dat.l (Value.slice none 0 0) [[Dat.n (Int.negSucc 999), Dat.n (Int.negSucc 999)], [Dat.n 1000, Dat.n (Int.negSucc 999)], [Dat.n 1000, Dat.n 1000], [Dat.n (Int.negSucc 999), Dat.n 1000]], .n (1), .n (200), .n (5), .n (100)]], true, false⟩]⟩
set_option maxRecDepth 100000 in
theorem runL207 : runG ΓxL207 (loopX ΓxL207 Tryz.prog 60 3) Tryz.prog Tryz.f21 [.ptr 0 0, inZ] mL14 = some (rL207, mL207) := by kernel_rfl
theorem okL207 : CallOk Tryz.prog 21 [.ptr 0 0, inZ] mL14 rL207 mL207 := runOk OkxL207 Tryz.func21 rfl (fun z _ _ b _ => loopX_ok OkxL207 mixed 60 3 b) runL207
noncomputable def ΓL207 : Orc := addCl 21 (litC [.ptr 0 0, inZ] mL14 rL207 mL207) ΓL206
theorem OkL207 : ΓL207.Ok Tryz.prog := addCl_ok OkL206 (litC_ok okL207)
end Go.Proofs.YtmkkpogbjbjfeaaGreat

namespace Go.Proofs.YtmkkpogbjbjfeaaGreat
open Go Go.Proofs Go.Sx
set_option linter.unusedVariables false
-- L207 | [.ptr 7 0] | uinZ_mL14
def sS : Mem := ⟨[[.v (I 50), .v (I 2), .ptr 1 0, .v (I 0), .v (I 0), .v (I 0), .v (I 0), .v (I 0), .v (I 0), .v (I 0), .v (I 0), .v (.bool false)], [.v (I 1000000), .v (I 1)]], [true, true], []⟩
end Go.Proofs.YtmkkpogbjbjfeaaGreat

namespace Go.Proofs.YtmkkpogbjbjfeaaGreat
open Go Go.Proofs Go.Sx
set_option linter.unusedVariables false
-- CsS | [.ptr 8 0] | uinZ_mL14
end Go.Proofs.YtmkkpogbjbjfeaaGreat

namespace Go.Proofs.YtmkkpogbjbjfeaaGreat
open Go Go.Proofs Go.Sx
set_option linter.unusedVariables false
-- (*apogee/source.Source).grow | [.ptr 0 0] | sS
noncomputable def ΓxL208 : Orc := execV Tryz.prog ΓL207.call ΓL207.rd ΓL207.eqv wx24b 60 16
theorem OkxL208 : ΓxL208.Ok Tryz.prog := execV_ok mixed names (ext := ΓL207.call) (rd := ΓL207.rd) (eqv := ΓL207.eqv) ⟨OkL207.call, OkL207.rd, OkL207.eqv⟩ 60 16
def rL208 : SV := .v (.tuple #[])
def mL208 : Mem := ⟨[[.v (I 50), .v (I 2), .ptr 1 0, .v (I 0), .v (I 0), .v (I 0), .v (I 0), .v (I 0), .v (I 0), .v (I 0), .v (I 0), .v (.bool false)], [.v (I 1000000), .v (I 2)]], [true, true], []⟩
set_option maxRecDepth 100000 in
theorem runL208 : runG ΓxL208 (loopX ΓxL208 Tryz.prog 60 3) Tryz.prog Tryz.f130 [.ptr 0 0] sS = some (rL208, mL208) := by kernel_rfl
theorem okL208 : CallOk Tryz.prog 130 [.ptr 0 0] sS rL208 mL208 := runOk OkxL208 Tryz.func130 rfl (fun z _ _ b _ => loopX_ok OkxL208 mixed 60 3 b) runL208
noncomputable def ΓL208 : Orc := addCl 130 (litC [.ptr 0 0] sS rL208 mL208) ΓL207
theorem OkL208 : ΓL208.Ok Tryz.prog := addCl_ok OkL207 (litC_ok okL208)
end Go.Proofs.YtmkkpogbjbjfeaaGreat

namespace Go.Proofs.YtmkkpogbjbjfeaaGreat
open Go Go.Proofs Go.Sx
set_option linter.unusedVariables false
-- apogee/apogeeref24.Word | [.v (.agg #[I 0, I 0, I 2, I 7])] | M0
noncomputable def ΓxL209 : Orc := execV Tryz.prog ΓL208.call ΓL208.rd ΓL208.eqv wx24b 60 16
theorem OkxL209 : ΓxL209.Ok Tryz.prog := execV_ok mixed names (ext := ΓL208.call) (rd := ΓL208.rd) (eqv := ΓL208.eqv) ⟨OkL208.call, OkL208.rd, OkL208.eqv⟩ 60 16
def rL209 : SV := .v (.string ⟨#[165, 90, 48, 10, 0, 0, 0, 0, 32, 7, 186, 34, 16, 162, 106, 239]⟩)
def mL209 : Mem := ⟨[], [], []⟩
set_option maxRecDepth 100000 in
theorem runL209 : runG ΓxL209 (loopX ΓxL209 Tryz.prog 60 3) Tryz.prog Tryz.f25 [.v (.agg #[I 0, I 0, I 2, I 7])] M0 = some (rL209, mL209) := by kernel_rfl
theorem okL209 : CallOk Tryz.prog 25 [.v (.agg #[I 0, I 0, I 2, I 7])] M0 rL209 mL209 := runOk OkxL209 Tryz.func25 rfl (fun z _ _ b _ => loopX_ok OkxL209 mixed 60 3 b) runL209
noncomputable def ΓL209 : Orc := addCl 25 (litC [.v (.agg #[I 0, I 0, I 2, I 7])] M0 rL209 mL209) ΓL208
theorem OkL209 : ΓL209.Ok Tryz.prog := addCl_ok OkL208 (litC_ok okL209)
end Go.Proofs.YtmkkpogbjbjfeaaGreat

namespace Go.Proofs.YtmkkpogbjbjfeaaGreat
open Go Go.Proofs Go.Sx
set_option linter.unusedVariables false
-- apogee/apogeeref24.Command | [.v (I 1)] | M0
noncomputable def ΓxL210 : Orc := execV Tryz.prog ΓL209.call ΓL209.rd ΓL209.eqv wx24b 60 16
theorem OkxL210 : ΓxL210.Ok Tryz.prog := execV_ok mixed names (ext := ΓL209.call) (rd := ΓL209.rd) (eqv := ΓL209.eqv) ⟨OkL209.call, OkL209.rd, OkL209.eqv⟩ 60 16
def rL210 : SV := .v (.string gA)
def mL210 : Mem := ⟨[], [], []⟩
set_option maxRecDepth 100000 in
theorem runL210 : runG ΓxL210 (loopX ΓxL210 Tryz.prog 60 3) Tryz.prog Tryz.f26 [.v (I 1)] M0 = some (rL210, mL210) := by kernel_rfl
theorem okL210 : CallOk Tryz.prog 26 [.v (I 1)] M0 rL210 mL210 := runOk OkxL210 Tryz.func26 rfl (fun z _ _ b _ => loopX_ok OkxL210 mixed 60 3 b) runL210
noncomputable def ΓL210 : Orc := addCl 26 (litC [.v (I 1)] M0 rL210 mL210) ΓL209
theorem OkL210 : ΓL210.Ok Tryz.prog := addCl_ok OkL209 (litC_ok okL210)
end Go.Proofs.YtmkkpogbjbjfeaaGreat

namespace Go.Proofs.YtmkkpogbjbjfeaaGreat
open Go Go.Proofs Go.Sx
set_option linter.unusedVariables false
-- apogee/apogeeref24.Command | [.v (I 2)] | M0
noncomputable def ΓxL211 : Orc := execV Tryz.prog ΓL210.call ΓL210.rd ΓL210.eqv wx24b 60 16
theorem OkxL211 : ΓxL211.Ok Tryz.prog := execV_ok mixed names (ext := ΓL210.call) (rd := ΓL210.rd) (eqv := ΓL210.eqv) ⟨OkL210.call, OkL210.rd, OkL210.eqv⟩ 60 16
def rL211 : SV := .v (.string ⟨#[165, 90, 32, 8, 2, 87, 168, 253, 71, 108, 151, 226, 242, 83]⟩)
def mL211 : Mem := ⟨[], [], []⟩
set_option maxRecDepth 100000 in
theorem runL211 : runG ΓxL211 (loopX ΓxL211 Tryz.prog 60 3) Tryz.prog Tryz.f26 [.v (I 2)] M0 = some (rL211, mL211) := by kernel_rfl
theorem okL211 : CallOk Tryz.prog 26 [.v (I 2)] M0 rL211 mL211 := runOk OkxL211 Tryz.func26 rfl (fun z _ _ b _ => loopX_ok OkxL211 mixed 60 3 b) runL211
noncomputable def ΓL211 : Orc := addCl 26 (litC [.v (I 2)] M0 rL211 mL211) ΓL210
theorem OkL211 : ΓL211.Ok Tryz.prog := addCl_ok OkL210 (litC_ok okL211)
end Go.Proofs.YtmkkpogbjbjfeaaGreat

namespace Go.Proofs.YtmkkpogbjbjfeaaGreat
open Go Go.Proofs Go.Sx
set_option linter.unusedVariables false
-- apogee/apogeeref24.Command | [.v (I 3)] | M0
noncomputable def ΓxL212 : Orc := execV Tryz.prog ΓL211.call ΓL211.rd ΓL211.eqv wx24b 60 16
theorem OkxL212 : ΓxL212.Ok Tryz.prog := execV_ok mixed names (ext := ΓL211.call) (rd := ΓL211.rd) (eqv := ΓL211.eqv) ⟨OkL211.call, OkL211.rd, OkL211.eqv⟩ 60 16
def rL212 : SV := .v (.string ⟨#[165, 90, 32, 8, 3, 86, 169, 252, 144, 14, 155, 103, 106, 117]⟩)
def mL212 : Mem := ⟨[], [], []⟩
set_option maxRecDepth 100000 in
theorem runL212 : runG ΓxL212 (loopX ΓxL212 Tryz.prog 60 3) Tryz.prog Tryz.f26 [.v (I 3)] M0 = some (rL212, mL212) := by kernel_rfl
theorem okL212 : CallOk Tryz.prog 26 [.v (I 3)] M0 rL212 mL212 := runOk OkxL212 Tryz.func26 rfl (fun z _ _ b _ => loopX_ok OkxL212 mixed 60 3 b) runL212
noncomputable def ΓL212 : Orc := addCl 26 (litC [.v (I 3)] M0 rL212 mL212) ΓL211
theorem OkL212 : ΓL212.Ok Tryz.prog := addCl_ok OkL211 (litC_ok okL212)
end Go.Proofs.YtmkkpogbjbjfeaaGreat

