/-
  A processor behind a reset: a law over values.
-/
import Derived.Test.YtmkkpogbjbjfeaaGreatYe
import Derived.Test.YtmkkpogbjbjfeaaGreatPe
import Derived.Test.YtmkkpogbjbjfeaaGreatSx
namespace Go.Proofs.YtmkkpogbjbjfeaaGreat
open Go Go.Proofs Go.Sx
set_option linter.unusedVariables false
/-! norm -/
/-! cast -/
/-! rep (decide (wI (wI (wI ((((L.getD i.toNat []).headD (Dat.n (0 : Int))).toS.size : Int) + (((L.getD i.toNat []).tail.headD (Dat.n (0 : Int))).toS.size : Int)) + (((L.getD i.toNat []).tail.tail.headD (Dat.n (0 : Int))).toS.size : Int)) + (((L.getD i.toNat []).tail.tail.tail.headD (Dat.n (0 : Int))).toS.size : Int)) > (1000 : Int))) => (bigO L i) -/
/-! rep decide (wI (wI (wI ((((L.getD i.toNat []).headD (Dat.n (0 : Int))).toS.size : Int) + (((L.getD i.toNat []).tail.headD (Dat.n (0 : Int))).toS.size : Int)) + (((L.getD i.toNat []).tail.tail.headD (Dat.n (0 : Int))).toS.size : Int)) + (((L.getD i.toNat []).tail.tail.tail.headD (Dat.n (0 : Int))).toS.size : Int)) > (1000 : Int)) => (bigO L i) -/
/-! May cycles be played? -/
def bigO (L : List (List Dat)) (i : Int) : Bool := decide (wI (wI (wI ((((L.getD i.toNat []).headD (Dat.n (0 : Int))).toS.size : Int) + (((L.getD i.toNat []).tail.headD (Dat.n (0 : Int))).toS.size : Int)) + (((L.getD i.toNat []).tail.tail.headD (Dat.n (0 : Int))).toS.size : Int)) + (((L.getD i.toNat []).tail.tail.tail.headD (Dat.n (0 : Int))).toS.size : Int)) > (1000 : Int))
def kOp : List CK := [.str, .str, .str, .str, .num .i64, .bool]
abbrev rOp (L : List (List Dat)) (own mark : Bool) : RowS := .live ⟨36, kOp, L, own, mark⟩
noncomputable def bdFz : Code := loopAt (Tryz.f10.body.getD .skip) 0
def kFz : List Bool := maskOf 37 [0,5,6,7]
def xFz (e : Ex) : List Bool := match e with
  | .exit _ => maskOf 37 [0]
  | .ret => maskOf 37 [2]
  | .normal => maskOf 37 [0,5,6,7]
def KFz (e : Ex) (st : St) : Option (Ex × St) := some (e, cutC 0 1 (xFz e) st)
set_option maxRecDepth 20000 in
theorem stepFz (i nn : Int) (L : List (List Dat)) (own mark : Bool) (n : Nat) : evLoop ΓP24 Tryz.prog L0 (cutC 0 1 kFz) bdFz (n + 1) (mk kFz [.row 0, .row 0, .v (I nn), .v (I i)] ⟨[], [], [rOp L own mark]⟩) KFz =
    (bif decide (i < nn) then (bif decide ((0 : Int) ≤ i) && decide (i < (L.length : Int)) then (bif (bigO L i) then some (.ret, mk (xFz .ret) [.v (Bo false)] ⟨[], [], [.live ⟨36, [.str, .str, .str, .str, .num .i64, .bool], L, own, mark⟩]⟩) else evLoop ΓP24 Tryz.prog L0 (cutC 0 1 kFz) bdFz n (mk kFz [.row 0, .row 0, .v (I nn), .v (I (wI (i + (1 : Int))))] ⟨[], [], [.live ⟨36, [.str, .str, .str, .str, .num .i64, .bool], L, own, mark⟩]⟩) KFz) else none) else some ((.exit 0), mk (xFz (.exit 0)) [.row 0] ⟨[], [], [.live ⟨36, [.str, .str, .str, .str, .num .i64, .bool], L, own, mark⟩]⟩)) := by kernel_rfl
noncomputable def EFz (n : Nat) (i : Int) (nn : Int) (L : List (List Dat)) (own : Bool) (mark : Bool) : Option (Ex × St) :=
  evLoop ΓP24 Tryz.prog L0 (cutC 0 1 kFz) bdFz n (mk kFz [.row 0, .row 0, .v (I nn), .v (I i)] ⟨[], [], [rOp L own mark]⟩) KFz
def lfFz (L : List (List Dat)) (own mark : Bool) : LT := .br (anyN (bigO L) L.length 0) (.leaf .ret (mk (xFz .ret) [.v (Bo false)] ⟨[], [], [rOp L own mark]⟩)) (.leaf (.exit 0) (mk (xFz (.exit 0)) [.row 0] ⟨[], [], [rOp L own mark]⟩))
theorem loopFz (L : List (List Dat)) (own mark : Bool) (hl : L.length ≤ 281474976710656) : EFz (L.length + 1) 0 (L.length : Int) L own mark = some (lfFz L own mark).pick := by
  have h := findLoop (bigO L) (L.length : Int) (fun n k => EFz n k (L.length : Int) L own mark) (some (.exit 0, mk (xFz (.exit 0)) [.row 0] ⟨[], [], [rOp L own mark]⟩)) (some (.ret, mk (xFz .ret) [.v (Bo false)] ⟨[], [], [rOp L own mark]⟩)) (fun n k hk => ?_) (fun n k hk => ?_) L.length 0 (by decide) (by omega)
  · refine h.trans ?_
    unfold lfFz
    cases anyN (bigO L) L.length 0 <;> rfl
  · refine (stepFz k (L.length : Int) L own mark n).trans ?_
    rw [decide_eq_false hk]
    rfl
  · refine (stepFz k (L.length : Int) L own mark n).trans ?_
    rw [decide_eq_true hk.1, decide_eq_true hk.2, wI_id (n := k + 1) (by omega)]
    rfl
def GFz (vals : List SV) (m : Mem) : Option (Bool × LT) :=
  match vals, m with
  | [.row 0, .row 0, .v (.int .i64 nn), .v (.int .i64 i)], ⟨[], [], [.live ⟨36, [.str, .str, .str, .str, .num .i64, .bool], L, own, mark⟩]⟩ => some (nn == (L.length : Int) && (i == 0 && Nat.ble L.length 281474976710656), lfFz L own mark)
  | _, _ => none
noncomputable def ΛFz : LoopOrc := fun _ st => viaT 0 1 kFz GFz st
theorem loopOkFz (z : Base) (z1 : z.L.length = 0) (z2 : z.U.length = 1) : LoopOk ΛFz Tryz.prog z bdFz := by
  refine loop_okT (Λ := L0) (kx := xFz) OkP24 mixed z1 z2 (fun b hb st t h => by cases h) (G := GFz) (fun _ => rfl) ?_
  intro vals m t h
  unfold GFz at h
  split at h
  · rename_i nn i L own mark
    obtain ⟨h1, rfl⟩ := some_t h
    simp only [Bool.and_eq_true, beq_iff_eq] at h1
    obtain ⟨rfl, rfl, hl⟩ := h1
    exact ⟨L.length + 1, loopFz L own mark (Nat.le_of_ble_eq_true hl)⟩
  · cases h
theorem loopsFz : loopsOf (Tryz.f10.body.getD .skip) = [bdFz] := by kernel_rfl
def fewO (L : List (List Dat)) : Bool := bif anyN (bigO L) L.length 0 then false else decide ((L.length : Int) ≤ 150)
set_option maxRecDepth 20000 in
theorem runFew24 (L : List (List Dat)) (own mark : Bool) : runG ΓP24 ΛFz Tryz.prog Tryz.f10 [.row 0] ⟨[], [], [rOp L own mark]⟩ = bif Nat.ble L.length 281474976710656 then (bif anyN (bigO L) L.length 0 then some (.v (Bo false), ⟨[], [], [rOp L own mark]⟩) else some (.v (Bo (decide ((L.length : Int) ≤ 150))), ⟨[], [], [rOp L own mark]⟩)) else none := by
  have : runG ΓP24 ΛFz Tryz.prog Tryz.f10 [.row 0] ⟨[], [], [rOp L own mark]⟩ = bif (L.length : Int) == (L.length : Int) && Nat.ble L.length 281474976710656 then (bif anyN (bigO L) L.length 0 then some (.v (Bo false), ⟨[], [], [rOp L own mark]⟩) else some (.v (Bo (decide ((L.length : Int) ≤ 150))), ⟨[], [], [rOp L own mark]⟩)) else none := by kernel_rfl
  rw [this, beq_self_eq_true, Bool.true_and]
def gFew24 (xs : List SV) (m : Mem) : Option (Bool × Value) :=
  match xs, m with
  | [.row 0], ⟨[], [], [.live ⟨36, [.str, .str, .str, .str, .num .i64, .bool], L, own, mark⟩]⟩ => some (Nat.ble L.length 281474976710656, Bo (fewO L))
  | _, _ => none
theorem gFew24_ok : ∀ xs m r, gFew24 xs m = some (true, r) → CallOk Tryz.prog 10 xs m (.v r) m := by
  intro xs m r h
  unfold gFew24 at h
  split at h
  · rename_i L own mark
    obtain ⟨h1, rfl⟩ := some_t h
    refine runOk (Λ := ΛFz) OkP24 Tryz.func10 rfl (fun z z1 z2 => oneLoop loopsFz (loopOkFz z z1 z2)) ?_
    refine (runFew24 L own mark).trans ?_
    rw [h1]
    unfold fewO
    cases anyN (bigO L) L.length 0 <;> rfl
  · cases h
end Go.Proofs.YtmkkpogbjbjfeaaGreat

namespace Go.Proofs.YtmkkpogbjbjfeaaGreat
open Go Go.Proofs Go.Sx
set_option linter.unusedVariables false
/-! A processor of two phases behind a reset, as the law's loop finds it, and as it leaves it. -/
def hB : Mem := ⟨[[.v (.string imM), .v (I 0), .ptr 2 0, .v (I 8), .v (.bool false), .v (I 3), .row 1, .v (I 2), .v (I 3), .v (I 4), .v (I 2), .v (I 50), .v (I 2), .v (I 10), .v (I 2), .v (I 0), .ptr 3 0, .ptr 4 0, .ptr 5 0, .ptr 6 0, .ptr 7 0, .ptr 8 0, .ptr 9 0, .ptr 10 0, .ptr 11 0, .ptr 12 0, .v (.bool false), .v (I 1)], [.v (I 1), .v (I 1), .v (I 0), .v (I 1), .v (I 0), .v (I 0), .v (I 0), .v (I 0), .v (I 0)], [.row 2, .ptr 13 0, .v (.bool false), .v (.bool false), .v (I 0)], [.ptr 2 0, .v (I 8), .v (I 1), .v (I 1), .v (I 0), .v (I 1), .v (I 0), .v (I 0), .v (I 0), .v (I 0), .v (I 0), .v (I 1)], [.v (.string e0), .ptr 14 0], [.v (.string e0), .ptr 15 0], [.v (.string e0), .ptr 16 0], [.v (.string e0), .ptr 17 0], [.v (I 50), .v (I 2), .ptr 18 0, .v (I 0), .v (I 0), .v (I 0), .v (I 0), .v (I 0), .v (I 0), .v (I 0), .v (I 0), .v (.bool false)], [.v (I 50), .v (I 2), .ptr 19 0, .v (I 0), .v (I 0), .v (I 0), .v (I 0), .v (I 0), .v (I 0), .v (I 0), .v (I 0), .v (.bool false)], [.row 3, .v (I 2), .v (I 3), .v (I 4), .v (I 2), .v (I 50), .v (I 2), .v (I 10), .v (I 2), .v (I 0), .ptr 20 0], [.ptr 21 0, .ptr 22 0, .ptr 23 0], [.v (I 2), .v (.bool false), .v (I 1), .v (I 0)], [.v (I 1000000), .v (I 1)], [.v (I 1000000), .v (I 0)], [.v (I 1000000), .v (I 0)], [.v (I 1000000), .v (I 0)], [.v (I 1000000), .v (I 0)], [.v (I 1000000), .v (I 1)], [.v (I 1000000), .v (I 1)], [.v (I 1000000), .v (I 0)], [.v (I 2), .v (I 0)], [.v (I 3), .v (I 0)], [.v (I 4), .v (I 0)]], [true, true, true, true, true, true, true, true, true, true, true, true, true, true, true, true, true, true, true, true, true, true, true, true], [.live ⟨151, [CK.sl (153) [CK0.num IntKind.i64, CK0.num IntKind.i64], .num .i64, .num .i64, .num .i64, .num .i64], [[Dat.l (Value.slice none 0 0) [[Dat.n (Int.negSucc 999), Dat.n (Int.negSucc 999)], [Dat.n 1000, Dat.n (Int.negSucc 999)], [Dat.n 1000, Dat.n 1000], [Dat.n (Int.negSucc 999), Dat.n 1000]], .n (1), .n (200), .n (5), .n (100)], [Dat.l (Value.slice none 0 0) [[Dat.n (Int.negSucc 999), Dat.n (Int.negSucc 999)], [Dat.n 1000, Dat.n (Int.negSucc 999)], [Dat.n 1000, Dat.n 1000], [Dat.n (Int.negSucc 999), Dat.n 1000]], .n (1), .n (200), .n (5), .n (100)]], true, false⟩, .live ⟨5, [.num .u8], have y := have y := have y := have y := [bN 255, bN 255, bN 255, bN 255]; bN 255 :: bN 255 :: bN 255 :: bN 255 :: y; have y := bN 255 :: bN 255 :: bN 255 :: bN 255 :: y; bN 255 :: bN 255 :: bN 255 :: bN 255 :: y; have y := have y := bN 255 :: bN 255 :: bN 255 :: bN 255 :: y; bN 255 :: bN 255 :: bN 255 :: bN 255 :: y; have y := bN 255 :: bN 255 :: bN 255 :: bN 255 :: y; bN 255 :: bN 255 :: bN 255 :: bN 255 :: y; have y := have y := have y := bN 0 :: bN 0 :: bN 0 :: bN 1 :: y; bN 90 :: bN 237 :: bN 183 :: bN 184 :: y; have y := bN 0 :: bN 0 :: bN 0 :: bN 0 :: y; bN 16 :: bN 0 :: bN 0 :: bN 0 :: y; have y := have y := bN 0 :: bN 0 :: bN 0 :: bN 1 :: y; bN 0 :: bN 0 :: bN 0 :: bN 1 :: y; have y := bN 255 :: bN 255 :: bN 255 :: bN 255 :: y; bN 255 :: bN 255 :: bN 255 :: bN 255 :: y, true, true⟩, .live ⟨151, [CK.sl (153) [CK0.num IntKind.i64, CK0.num IntKind.i64], .num .i64, .num .i64, .num .i64, .num .i64], [[Dat.l (Value.slice none 0 0) [[Dat.n (Int.negSucc 999), Dat.n (Int.negSucc 999)], [Dat.n 1000, Dat.n (Int.negSucc 999)], [Dat.n 1000, Dat.n 1000], [Dat.n (Int.negSucc 999), Dat.n 1000]], .n (1), .n (200), .n (5), .n (100)], [Dat.l (Value.slice none 0 0) [[Dat.n (Int.negSucc 999), Dat.n (Int.negSucc 999)], [Dat.n 1000, Dat.n (Int.negSucc 999)], [Dat.n 1000, Dat.n 1000], [Dat.n (Int.negSucc 999), Dat.n 1000]], .n (1), .n (200), .n (5), .n (100)]], true, false⟩]⟩
def uB : Mem := ⟨[[.v (.string imM), .v (I 0), .ptr 2 0, .v (I 8), .v (.bool true), .v (I 0), .row 1, .v (I 2), .v (I 3), .v (I 4), .v (I 2), .v (I 50), .v (I 2), .v (I 10), .v (I 2), .v (I 0), .ptr 3 0, .ptr 4 0, .ptr 5 0, .ptr 6 0, .ptr 7 0, .ptr 8 0, .ptr 9 0, .ptr 10 0, .ptr 11 0, .ptr 12 0, .v (.bool false), .v (I 1)], [.v (I 1), .v (I 1), .v (I 0), .v (I 1), .v (I 0), .v (I 0), .v (I 0), .v (I 0), .v (I 0)], [.row 2, .ptr 13 0, .v (.bool false), .v (.bool false), .v (I 0)], [.ptr 2 0, .v (I 8), .v (I 1), .v (I 1), .v (I 0), .v (I 1), .v (I 0), .v (I 0), .v (I 0), .v (I 0), .v (I 0), .v (I 1)], [.v (.string e0), .ptr 14 0], [.v (.string e0), .ptr 15 0], [.v (.string e0), .ptr 16 0], [.v (.string e0), .ptr 17 0], [.v (I 50), .v (I 2), .ptr 18 0, .v (I 0), .v (I 0), .v (I 0), .v (I 0), .v (I 0), .v (I 0), .v (I 0), .v (I 0), .v (.bool false)], [.v (I 50), .v (I 2), .ptr 19 0, .v (I 0), .v (I 0), .v (I 0), .v (I 0), .v (I 0), .v (I 0), .v (I 0), .v (I 0), .v (.bool false)], [.row 3, .v (I 2), .v (I 3), .v (I 4), .v (I 2), .v (I 50), .v (I 2), .v (I 10), .v (I 2), .v (I 0), .ptr 20 0], [.ptr 21 0, .ptr 22 0, .ptr 23 0], [.v (I 2), .v (.bool false), .v (I 1), .v (I 0)], [.v (I 1000000), .v (I 1)], [.v (I 1000000), .v (I 0)], [.v (I 1000000), .v (I 0)], [.v (I 1000000), .v (I 0)], [.v (I 1000000), .v (I 0)], [.v (I 1000000), .v (I 0)], [.v (I 1000000), .v (I 0)], [.v (I 1000000), .v (I 0)], [.v (I 2), .v (I 0)], [.v (I 3), .v (I 0)], [.v (I 4), .v (I 0)]], [true, true, true, true, true, true, true, true, true, true, true, true, true, true, true, true, true, true, true, true, true, true, true, true], [.live ⟨151, [CK.sl (153) [CK0.num IntKind.i64, CK0.num IntKind.i64], .num .i64, .num .i64, .num .i64, .num .i64], [[Dat.l (Value.slice none 0 0) [[Dat.n (Int.negSucc 999), Dat.n (Int.negSucc 999)], [Dat.n 1000, Dat.n (Int.negSucc 999)], [Dat.n 1000, Dat.n 1000], [Dat.n (Int.negSucc 999), Dat.n 1000]], .n (1), .n (200), .n (5), .n (100)], [Dat.l (Value.slice none 0 0) [[Dat.n (Int.negSucc 999), Dat.n (Int.negSucc 999)], [Dat.n 1000, Dat.n (Int.negSucc 999)], [Dat.n 1000, Dat.n 1000], [Dat.n (Int.negSucc 999), Dat.n 1000]], .n (1), .n (200), .n (5), .n (100)]], true, false⟩, .live ⟨5, [.num .u8], have y := have y := have y := have y := [bN 255, bN 255, bN 255, bN 255]; bN 255 :: bN 255 :: bN 255 :: bN 255 :: y; have y := bN 255 :: bN 255 :: bN 255 :: bN 255 :: y; bN 255 :: bN 255 :: bN 255 :: bN 255 :: y; have y := have y := bN 255 :: bN 255 :: bN 255 :: bN 255 :: y; bN 255 :: bN 255 :: bN 255 :: bN 255 :: y; have y := bN 255 :: bN 255 :: bN 255 :: bN 255 :: y; bN 255 :: bN 255 :: bN 255 :: bN 255 :: y; have y := have y := have y := bN 0 :: bN 0 :: bN 0 :: bN 1 :: y; bN 90 :: bN 237 :: bN 183 :: bN 184 :: y; have y := bN 0 :: bN 0 :: bN 0 :: bN 0 :: y; bN 16 :: bN 0 :: bN 0 :: bN 0 :: y; have y := have y := bN 0 :: bN 0 :: bN 0 :: bN 1 :: y; bN 0 :: bN 0 :: bN 0 :: bN 1 :: y; have y := bN 255 :: bN 255 :: bN 255 :: bN 255 :: y; bN 255 :: bN 255 :: bN 255 :: bN 255 :: y, true, true⟩, .live ⟨151, [CK.sl (153) [CK0.num IntKind.i64, CK0.num IntKind.i64], .num .i64, .num .i64, .num .i64, .num .i64], [[Dat.l (Value.slice none 0 0) [[Dat.n (Int.negSucc 999), Dat.n (Int.negSucc 999)], [Dat.n 1000, Dat.n (Int.negSucc 999)], [Dat.n 1000, Dat.n 1000], [Dat.n (Int.negSucc 999), Dat.n 1000]], .n (1), .n (200), .n (5), .n (100)], [Dat.l (Value.slice none 0 0) [[Dat.n (Int.negSucc 999), Dat.n (Int.negSucc 999)], [Dat.n 1000, Dat.n (Int.negSucc 999)], [Dat.n 1000, Dat.n 1000], [Dat.n (Int.negSucc 999), Dat.n 1000]], .n (1), .n (200), .n (5), .n (100)]], true, false⟩]⟩
end Go.Proofs.YtmkkpogbjbjfeaaGreat

namespace Go.Proofs.YtmkkpogbjbjfeaaGreat
open Go Go.Proofs Go.Sx
set_option linter.unusedVariables false
/-! Cycles of one that isn't up, whatever comes. -/
noncomputable def Γd0 : Orc := { ΓL106 with av := true, bs := true, sb := true, wr := wx24b }
theorem Okd0 : Γd0.Ok Tryz.prog := ⟨OkL106.call, OkL106.rd, OkL106.eqv⟩
def zOut : SV := .v (.agg #[Bo false, I 0, I 0, Bo false, S e0, S e0])
def gDn (D W : Mem) (xs : List SV) (m : Mem) : Option (Bool × SV × Mem) :=
  match xs with
  | [.ptr 0 0, .v (.agg ⟨[.string a, .string b, .string c, .string d]⟩)] => match eqMem m D with
    | true => some (true, zOut, W)
    | false => none
  | _ => none
theorem gDn_ok {D W : Mem} (hl : ∀ z : Base, ∀ b ∈ loopsOf (Tryz.f21.body.getD .skip), LoopOk L0 Tryz.prog z b) (h : ∀ a b c d : ByteArray, runG Γd0 L0 Tryz.prog Tryz.f21 [.ptr 0 0, .v (.agg #[S a, S b, S c, S d])] D = some (zOut, W)) : ∀ xs m r m', gDn D W xs m = some (true, r, m') → CallOk Tryz.prog 21 xs m r m' := by
  intro xs m r m' e
  unfold gDn at e
  split at e
  case h_2 => cases e
  rename_i a b c d
  split at e
  case h_2 => cases e
  rename_i hq
  obtain ⟨_, rfl, rfl⟩ := some_t2 e
  rw [eqMem_eq hq]
  exact runOk (Λ := L0) Okd0 Tryz.func21 rfl (fun z _ _ => hl z) (h a b c d)
theorem cycLoops : ∀ z : Base, ∀ b ∈ loopsOf (Tryz.f21.body.getD .skip), LoopOk L0 Tryz.prog z b := fun z => noLoops (by kernel_rfl) z
set_option maxRecDepth 20000 in
theorem runDn1 (a b c d : ByteArray) : runG Γd0 L0 Tryz.prog Tryz.f21 [.ptr 0 0, .v (.agg #[S a, S b, S c, S d])] mL77 = some (zOut, mL79) := by kernel_rfl
set_option maxRecDepth 20000 in
theorem runDn2 (a b c d : ByteArray) : runG Γd0 L0 Tryz.prog Tryz.f21 [.ptr 0 0, .v (.agg #[S a, S b, S c, S d])] mL79 = some (zOut, mL82) := by kernel_rfl
set_option maxRecDepth 20000 in
theorem runDn3 (a b c d : ByteArray) : runG Γd0 L0 Tryz.prog Tryz.f21 [.ptr 0 0, .v (.agg #[S a, S b, S c, S d])] mL82 = some (zOut, mL87) := by kernel_rfl
set_option maxRecDepth 20000 in
theorem runDn4 (a b c d : ByteArray) : runG Γd0 L0 Tryz.prog Tryz.f21 [.ptr 0 0, .v (.agg #[S a, S b, S c, S d])] mL89 = some (zOut, mL91) := by kernel_rfl
set_option maxRecDepth 20000 in
theorem runDn5 (a b c d : ByteArray) : runG Γd0 L0 Tryz.prog Tryz.f21 [.ptr 0 0, .v (.agg #[S a, S b, S c, S d])] mL91 = some (zOut, mL94) := by kernel_rfl
set_option maxRecDepth 20000 in
theorem runDn6 (a b c d : ByteArray) : runG Γd0 L0 Tryz.prog Tryz.f21 [.ptr 0 0, .v (.agg #[S a, S b, S c, S d])] mL94 = some (zOut, mL99) := by kernel_rfl
noncomputable def ΓPb : Orc := addRd 10 gFew24 (addCl 21 (gDn mL77 mL79) (addCl 21 (gDn mL79 mL82) (addCl 21 (gDn mL82 mL87) (addCl 21 (gDn mL89 mL91) (addCl 21 (gDn mL91 mL94) (addCl 21 (gDn mL94 mL99) Γd0))))))
theorem OkPb : ΓPb.Ok Tryz.prog := addRd_ok (addCl_ok (addCl_ok (addCl_ok (addCl_ok (addCl_ok (addCl_ok Okd0 (gDn_ok cycLoops runDn6)) (gDn_ok cycLoops runDn5)) (gDn_ok cycLoops runDn4)) (gDn_ok cycLoops runDn3)) (gDn_ok cycLoops runDn2)) (gDn_ok cycLoops runDn1)) gFew24_ok
/-! The law's loop: it leaves it as it boots, from whichever cycle on it is reset once more. -/
noncomputable def bdPb : Code := loopAt (Tryz.f8.body.getD .skip) 0
def kPb : List Bool := maskOf 104 [0,1,5,7,39,40]
def xPb (e : Ex) : List Bool := match e with
  | .exit _ => maskOf 104 [5,7]
  | .ret => maskOf 104 [4]
  | .normal => maskOf 104 [0,1,5,7,39,40]
def KPb (e : Ex) (st : St) : Option (Ex × St) := some (e, cutC 0 1 (xPb e) st)
/-- Rounds that come to the same, whether there is one more in the list, or not. -/
def TT {α : Type} (len : Int) (A : Option α) : Nat → Int → Option α
  | 0, _ => A
  | n + 1, k => bif decide (k < len) then (bif decide ((0 : Int) ≤ k) && decide (k < len) then TT len A n (k + 1) else none) else TT len A n (k + 1)
theorem TT_eq {α : Type} {len : Int} {A : Option α} : ∀ (n : Nat) (k : Int), 0 ≤ k → TT len A n k = A
  | 0, _, _ => rfl
  | n + 1, k, h => by
    show (bif decide (k < len) then (bif decide ((0 : Int) ≤ k) && decide (k < len) then TT len A n (k + 1) else none) else TT len A n (k + 1)) = A
    rw [TT_eq n (k + 1) (by omega), decide_eq_true h]
    cases decide (k < len) <;> rfl
def hBL (L : List (List Dat)) (own mark : Bool) : Mem := ⟨hB.blk, hB.live, rOp L own mark :: hB.rows⟩
def uBL (L : List (List Dat)) (own mark : Bool) : Mem := ⟨uB.blk, uB.live, rOp L own mark :: uB.rows⟩
noncomputable def EPb (n : Nat) (r b : Int) (L : List (List Dat)) (own mark : Bool) : Option (Ex × St) :=
  evLoop ΓPb Tryz.prog L0 (cutC 0 1 kPb) bdPb n (mk kPb [.row 0, .v (I r), .ptr 0 0, .ptr 1 0, .v (I b), .v (I 0)] (hBL L own mark)) KPb
def lfPb (L : List (List Dat)) (own mark : Bool) : Ex × St := (.exit 0, mk (xPb (.exit 0)) [.ptr 0 0, .ptr 1 0] (uBL L own mark))
set_option maxRecDepth 100000 in
theorem treePb0 (L : List (List Dat)) (own mark : Bool) : EPb 4 0 3 L own mark = TT (L.length : Int) (some (lfPb L own mark)) 3 0 := by kernel_rfl
end Go.Proofs.YtmkkpogbjbjfeaaGreat

namespace Go.Proofs.YtmkkpogbjbjfeaaGreat
open Go Go.Proofs Go.Sx
set_option linter.unusedVariables false
/-! With a reset on the way. -/
set_option maxRecDepth 100000 in
theorem treePb1 (L : List (List Dat)) (own mark : Bool) : EPb 5 1 4 L own mark = TT (L.length : Int) (some (lfPb L own mark)) 4 0 := by kernel_rfl
set_option maxRecDepth 100000 in
theorem treePb2 (L : List (List Dat)) (own mark : Bool) : EPb 6 2 5 L own mark = TT (L.length : Int) (some (lfPb L own mark)) 5 0 := by kernel_rfl
set_option maxRecDepth 100000 in
theorem treePb3 (L : List (List Dat)) (own mark : Bool) : EPb 7 3 6 L own mark = TT (L.length : Int) (some (lfPb L own mark)) 6 0 := by kernel_rfl
end Go.Proofs.YtmkkpogbjbjfeaaGreat

namespace Go.Proofs.YtmkkpogbjbjfeaaGreat
open Go Go.Proofs Go.Sx
set_option linter.unusedVariables false
def GPb (vals : List SV) (m : Mem) : Option (Bool × LT) :=
  match vals, m with
  | [.row 0, .v (.int .i64 r), .ptr 0 0, .ptr 1 0, .v (.int .i64 b), .v (.int .i64 k)], ⟨blk, live, .live ⟨36, [.str, .str, .str, .str, .num .i64, .bool], L, own, mark⟩ :: rows⟩ => match eqMem ⟨blk, live, rows⟩ hB with
    | true => some (decide (b = 3 + r) && (decide (k = 0) && (decide (0 ≤ r) && decide (r < 4))), .leaf (lfPb L own mark).1 (lfPb L own mark).2)
    | false => none
  | _, _ => none
noncomputable def ΛPb : LoopOrc := fun _ st => viaT 0 1 kPb GPb st
theorem loopOkPb (z : Base) (z1 : z.L.length = 0) (z2 : z.U.length = 1) : LoopOk ΛPb Tryz.prog z bdPb := by
  refine loop_okT (Λ := L0) (kx := xPb) OkPb mixed z1 z2 (fun b hb st t h => by cases h) (G := GPb) (fun _ => rfl) ?_
  intro vals m t h
  unfold GPb at h
  split at h
  case h_2 => cases h
  rename_i r b k blk live L own mark rows
  split at h
  case h_2 => cases h
  rename_i hq
  obtain ⟨h1, rfl⟩ := some_t h
  simp only [Bool.and_eq_true, decide_eq_true_eq] at h1
  obtain ⟨rfl, rfl, h2, h3⟩ := h1
  have e := eqMem_eq hq
  have e1 : blk = hB.blk := congrArg Mem.blk e
  have e2 : live = hB.live := congrArg Mem.live e
  have e3 : rows = hB.rows := congrArg Mem.rows e
  subst e1 e2 e3
  have : r = 0 ∨ r = 1 ∨ r = 2 ∨ r = 3 := by omega
  rcases this with rfl | rfl | rfl | rfl
  · exact ⟨4, (treePb0 L own mark).trans (TT_eq _ _ (by decide))⟩
  · exact ⟨5, (treePb1 L own mark).trans (TT_eq _ _ (by decide))⟩
  · exact ⟨6, (treePb2 L own mark).trans (TT_eq _ _ (by decide))⟩
  · exact ⟨7, (treePb3 L own mark).trans (TT_eq _ _ (by decide))⟩
theorem loopsPb : loopsOf (Tryz.f8.body.getD .skip) = [bdPb] := by kernel_rfl
def agB (x : Int) : Int := wI ((IntKind.u64.wrap x).tmod 4)
theorem agB_in (x : Int) : 0 ≤ agB x ∧ agB x < 4 := by
  have e2 : 0 ≤ IntKind.u64.wrap x := Int.emod_nonneg x (by show (18446744073709551616 : Int) ≠ 0; decide)
  unfold agB
  rw [Int.tmod_eq_emod_of_nonneg e2, wI_id (by omega)]
  omega
end Go.Proofs.YtmkkpogbjbjfeaaGreat

namespace Go.Proofs.YtmkkpogbjbjfeaaGreat
open Go Go.Proofs Go.Sx
set_option linter.unusedVariables false
/-! Behind a reset it is up again in the fourth cycle, with what it kept. -/
set_option maxRecDepth 100000 in
theorem runPbT (L : List (List Dat)) (own mark : Bool) (x : Int) : runG ΓPb ΛPb Tryz.prog Tryz.f8 [.row 0, .v (I x)] ⟨[], [], [rOp L own mark]⟩ = bif L.length.ble 281474976710656 then (bif !fewO L then some (.v (Bo true), ⟨[], [], [rOp L own mark]⟩) else bif decide (wI (3 + agB x) = 3 + agB x) && (true && (decide (0 ≤ agB x) && decide (agB x < 4))) then some (.v (Bo true), ⟨[], [], [rOp L own mark]⟩) else none) else none := by kernel_rfl
theorem loopsOkPb (z : Base) (z1 : z.L.length = 0) (z2 : z.U.length = 1) : ∀ b ∈ loopsOf (Tryz.f8.body.getD .skip), LoopOk ΛPb Tryz.prog z b :=
  oneLoop loopsPb (loopOkPb z z1 z2)
theorem procBootLaw (l0 : List (List Dat)) (a1 : Int) (w0 : ∀ o ∈ l0, WfL [.str, .str, .str, .str, .num .i64, .bool] o) (n0 : l0.length ≤ 281474976710656) (u1 : (Lit.int .i64 a1).wf = true) : ∃ m', runG ΓPb ΛPb Tryz.prog Tryz.f8 (inArgs [.row 36 [.str, .str, .str, .str, .num .i64, .bool] l0, .v (.int .i64 a1)] 0) (inMem [.row 36 [.str, .str, .str, .str, .num .i64, .bool] l0, .v (.int .i64 a1)]) = some (.v (.bool true), m') := by
  have h := agB_in a1
  refine ⟨⟨[], [], [rOp l0 false false]⟩, (runPbT l0 false false a1).trans ?_⟩
  rw [Nat.ble_eq_true_of_le n0, decide_eq_true h.1, decide_eq_true h.2, wI_id (by omega), decide_eq_true rfl]
  cases fewO l0 <;> rfl
end Go.Proofs.YtmkkpogbjbjfeaaGreat

