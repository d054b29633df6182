/-
  The four laws of pair over values.
-/
import Derived.Test.YtnelbjbphkfkkaaYa
import Derived.Test.YtnelbjbphkfkkaaSx
import Derived.DataShut
namespace Go.Proofs.Ytnelbjbphkfkkaa
open Go Go.Proofs Go.Sx
set_option linter.unusedVariables false
/-! norm -/
/-! cast -/
/-! Pairs of navs. -/
def epsP (e : Int) : Int := wI (2 * clI e (-1) 2305843009213693952)
def cmpP (x y near : Bool) : Int := bif x then (bif y then (bif near then 3 else 4) else 1) else (bif y then 2 else 0)
def hgt (a b : Int) (x y : Bool) : Int := bif x then (bif y then (if b < a then b else a) else a) else (bif y then b else 0)
def knP (s : Int) : Int := bif s == 1 then 1 else bif s == 2 then 1 else bif s == 3 then 2 else bif s == 4 then 2 else 0
def flP (s : Int) : Int := bif s == 1 then 2 else bif s == 2 then 1 else s
theorem epsR (e : Int) (h : inI e = true) : (bif decide (e ≤ 2305843009213693952) then wI (2 * (if (-1 : Int) > e then -1 else e)) else 4611686018427387904) = epsP e := by
  rw [inI_iff] at h
  unfold epsP clI
  by_cases h1 : e < -1
  · rw [decide_eq_true h1, decide_eq_true (show e ≤ 2305843009213693952 by omega), if_pos (show (-1 : Int) > e by omega)]; rfl
  · by_cases h2 : e > 2305843009213693952
    · rw [decide_eq_false h1, decide_eq_true h2, decide_eq_false (show ¬ e ≤ 2305843009213693952 by omega)]; rfl
    · rw [decide_eq_false h1, decide_eq_false h2, decide_eq_true (show e ≤ 2305843009213693952 by omega), if_neg (show ¬ (-1 : Int) > e by omega)]; rfl

set_option maxRecDepth 20000 in
theorem runPCmp (a : Int) (b : Int) (c : Int) (d : Int) (e : Int) (f : Int) (g : Int) (q : Int) (a' : Int) (b' : Int) (c' : Int) (d' : Int) (e' : Int) (f' : Int) (g' : Int) (q' : Int) (x : Bool) (y : Bool) (w : Int) : runG ΓRt L0 Try.prog Try.f20 [.v (.agg #[I a, I b, I c, I d, I e, I f, I g, I q]), .v (.agg #[I a', I b', I c', I d', I e', I f', I g', I q']), .v (Bo x), .v (Bo y), .v (I w)] M0 = 
    (bif !x then (bif !y then some (.v (I 0), M0) else (bif !y then some (.v (I 1), M0) else (bif !x then some (.v (I 2), M0) else (bif nearB (wI ((2 : Int) * clI w (-1 : Int) (2305843009213693952 : Int))) c c' d d' e e' f f' g g' q q' then some (.v (I 3), M0) else some (.v (I 4), M0))))) else (bif !y then some (.v (I 1), M0) else (bif !x then some (.v (I 2), M0) else (bif nearB (wI ((2 : Int) * clI w (-1 : Int) (2305843009213693952 : Int))) c c' d d' e e' f f' g g' q q' then some (.v (I 3), M0) else some (.v (I 4), M0))))) := by kernel_rfl
def gPCmp (vs : List Value) : Option (Bool × Value) :=
  match vs with
  | [.agg ⟨[.int .i64 a, .int .i64 b, .int .i64 c, .int .i64 d, .int .i64 e, .int .i64 f, .int .i64 g, .int .i64 q]⟩, .agg ⟨[.int .i64 a', .int .i64 b', .int .i64 c', .int .i64 d', .int .i64 e', .int .i64 f', .int .i64 g', .int .i64 q']⟩, .bool x, .bool y, .int .i64 w] => some (true, I (cmpP x y (nearB (epsP w) c c' d d' e e' f f' g g' q q')))
  | _ => none
theorem gPCmp_ok : ∀ vs r, gPCmp vs = some (true, r) → ∀ m, CallOk Try.prog 20 (vs.map .v) m (.v r) m := by
  intro vs r h
  unfold gPCmp at h
  split at h
  · rename_i a b c d e f g q a' b' c' d' e' f' g' q' x y w
    obtain ⟨h1, rfl⟩ := some_t h
    refine runV (vs := [.agg #[I a, I b, I c, I d, I e, I f, I g, I q], .agg #[I a', I b', I c', I d', I e', I f', I g', I q'], Bo x, Bo y, I w]) (Λ := L0) (m' := M0) OkRt Try.func20 rfl (fun z _ _ => l0Ok' _ z) ?_
    exact (runPCmp a b c d e f g q a' b' c' d' e' f' g' q' x y w).trans (by rw [show wI (2 * clI w (-1) 2305843009213693952) = epsP w from rfl]; cases x <;> cases y <;> first | rfl | (cases nearB (epsP w) c c' d d' e e' f f' g g' q q' <;> rfl))
  · cases h
noncomputable def ΓJ1 : Orc := addVal 20 gPCmp ΓRt
theorem OkJ1 : ΓJ1.Ok Try.prog := addVal_ok OkRt gPCmp_ok
set_option maxRecDepth 20000 in
theorem runRCm (a : Int) (b : Int) (c : Int) (d : Int) (e : Int) (f : Int) (g : Int) (q : Int) (a' : Int) (b' : Int) (c' : Int) (d' : Int) (e' : Int) (f' : Int) (g' : Int) (q' : Int) (x : Bool) (y : Bool) (w : Int) : runG ΓJ1 L0 Try.prog Try.f23 [.v (.agg #[I a, I b, I c, I d, I e, I f, I g, I q]), .v (.agg #[I a', I b', I c', I d', I e', I f', I g', I q']), .v (Bo x), .v (Bo y), .v (I w)] M0 = 
    (bif !x then (bif !y then some (.v (I 0), M0) else (bif !y then some (.v (I 1), M0) else (bif !x then some (.v (I 2), M0) else (bif decide (w ≤ (2305843009213693952 : Int)) then (bif nearB (wI ((2 : Int) * if (-1 : Int) > w then (-1 : Int) else w)) c c' d d' e e' f f' g g' q q' then some (.v (I 3), M0) else some (.v (I 4), M0)) else (bif nearB (4611686018427387904 : Int) c c' d d' e e' f f' g g' q q' then some (.v (I 3), M0) else some (.v (I 4), M0)))))) else (bif !y then some (.v (I 1), M0) else (bif !x then some (.v (I 2), M0) else (bif decide (w ≤ (2305843009213693952 : Int)) then (bif nearB (wI ((2 : Int) * if (-1 : Int) > w then (-1 : Int) else w)) c c' d d' e e' f f' g g' q q' then some (.v (I 3), M0) else some (.v (I 4), M0)) else (bif nearB (4611686018427387904 : Int) c c' d d' e e' f f' g g' q q' then some (.v (I 3), M0) else some (.v (I 4), M0)))))) := by kernel_rfl
def gRCm (vs : List Value) : Option (Bool × Value) :=
  match vs with
  | [.agg ⟨[.int .i64 a, .int .i64 b, .int .i64 c, .int .i64 d, .int .i64 e, .int .i64 f, .int .i64 g, .int .i64 q]⟩, .agg ⟨[.int .i64 a', .int .i64 b', .int .i64 c', .int .i64 d', .int .i64 e', .int .i64 f', .int .i64 g', .int .i64 q']⟩, .bool x, .bool y, .int .i64 w] => some (inI w, I (cmpP x y (nearB (epsP w) c c' d d' e e' f f' g g' q q')))
  | _ => none
theorem gRCm_ok : ∀ vs r, gRCm vs = some (true, r) → ∀ m, CallOk Try.prog 23 (vs.map .v) m (.v r) m := by
  intro vs r h
  unfold gRCm at h
  split at h
  · rename_i a b c d e f g q a' b' c' d' e' f' g' q' x y w
    obtain ⟨h1, rfl⟩ := some_t h
    refine runV (vs := [.agg #[I a, I b, I c, I d, I e, I f, I g, I q], .agg #[I a', I b', I c', I d', I e', I f', I g', I q'], Bo x, Bo y, I w]) (Λ := L0) (m' := M0) OkJ1 Try.func23 rfl (fun z _ _ => l0Ok' _ z) ?_
    exact (runRCm a b c d e f g q a' b' c' d' e' f' g' q' x y w).trans (by
      have k := epsR w h1
      cases hw : decide (w ≤ 2305843009213693952)
      · rw [hw] at k
        rw [show (4611686018427387904 : Int) = epsP w from k]; cases x <;> cases y <;> first | rfl | (cases nearB (epsP w) c c' d d' e e' f f' g g' q q' <;> rfl)
      · rw [hw] at k
        rw [show wI (2 * (if (-1 : Int) > w then -1 else w)) = epsP w from k]; cases x <;> cases y <;> first | rfl | (cases nearB (epsP w) c c' d d' e e' f f' g g' q q' <;> rfl))
  · cases h
noncomputable def ΓJ2 : Orc := addVal 23 gRCm ΓJ1
theorem OkJ2 : ΓJ2.Ok Try.prog := addVal_ok OkJ1 gRCm_ok
set_option maxRecDepth 20000 in
theorem runPHgt (a : Int) (b : Int) (c : Int) (d : Int) (e : Int) (f : Int) (g : Int) (q : Int) (a' : Int) (b' : Int) (c' : Int) (d' : Int) (e' : Int) (f' : Int) (g' : Int) (q' : Int) (x : Bool) (y : Bool) : runG ΓJ2 L0 Try.prog Try.f21 [.v (.agg #[I a, I b, I c, I d, I e, I f, I g, I q]), .v (.agg #[I a', I b', I c', I d', I e', I f', I g', I q']), .v (Bo x), .v (Bo y)] M0 = 
    (bif x then (bif y then some (.v (.tuple #[(I (if e' < e then e' else e)), (Bo true)]), M0) else (bif x then some (.v (.tuple #[(I e), (Bo true)]), M0) else (bif y then some (.v (.tuple #[(I e'), (Bo true)]), M0) else some (.v (.tuple #[(I 0), (Bo false)]), M0)))) else (bif x then some (.v (.tuple #[(I e), (Bo true)]), M0) else (bif y then some (.v (.tuple #[(I e'), (Bo true)]), M0) else some (.v (.tuple #[(I 0), (Bo false)]), M0)))) := by kernel_rfl
def gPHgt (vs : List Value) : Option (Bool × Value) :=
  match vs with
  | [.agg ⟨[.int .i64 a, .int .i64 b, .int .i64 c, .int .i64 d, .int .i64 e, .int .i64 f, .int .i64 g, .int .i64 q]⟩, .agg ⟨[.int .i64 a', .int .i64 b', .int .i64 c', .int .i64 d', .int .i64 e', .int .i64 f', .int .i64 g', .int .i64 q']⟩, .bool x, .bool y] => some (true, Value.tuple #[I (hgt e e' x y), Bo (x || y)])
  | _ => none
theorem gPHgt_ok : ∀ vs r, gPHgt vs = some (true, r) → ∀ m, CallOk Try.prog 21 (vs.map .v) m (.v r) m := by
  intro vs r h
  unfold gPHgt at h
  split at h
  · rename_i a b c d e f g q a' b' c' d' e' f' g' q' x y
    obtain ⟨h1, rfl⟩ := some_t h
    refine runV (vs := [.agg #[I a, I b, I c, I d, I e, I f, I g, I q], .agg #[I a', I b', I c', I d', I e', I f', I g', I q'], Bo x, Bo y]) (Λ := L0) (m' := M0) OkJ2 Try.func21 rfl (fun z _ _ => l0Ok' _ z) ?_
    exact (runPHgt a b c d e f g q a' b' c' d' e' f' g' q' x y).trans (by cases x <;> cases y <;> rfl)
  · cases h
noncomputable def ΓJ3 : Orc := addVal 21 gPHgt ΓJ2
theorem OkJ3 : ΓJ3.Ok Try.prog := addVal_ok OkJ2 gPHgt_ok
set_option maxRecDepth 20000 in
theorem runPKn (s : Int) : runG ΓJ3 L0 Try.prog Try.f25 [.v (I s)] M0 = 
    (bif s == (1 : Int) then some (.v (I 1), M0) else (bif s == (2 : Int) then some (.v (I 1), M0) else (bif s == (3 : Int) then some (.v (I 2), M0) else (bif s == (4 : Int) then some (.v (I 2), M0) else some (.v (I 0), M0))))) := by kernel_rfl
def gPKn (vs : List Value) : Option (Bool × Value) :=
  match vs with
  | [.int .i64 s] => some (true, I (knP s))
  | _ => none
theorem gPKn_ok : ∀ vs r, gPKn vs = some (true, r) → ∀ m, CallOk Try.prog 25 (vs.map .v) m (.v r) m := by
  intro vs r h
  unfold gPKn at h
  split at h
  · rename_i s
    obtain ⟨h1, rfl⟩ := some_t h
    refine runV (vs := [I s]) (Λ := L0) (m' := M0) OkJ3 Try.func25 rfl (fun z _ _ => l0Ok' _ z) ?_
    exact (runPKn s).trans (by unfold knP; cases s == 1 <;> cases s == 2 <;> cases s == 3 <;> cases s == 4 <;> rfl)
  · cases h
noncomputable def ΓJ4 : Orc := addVal 25 gPKn ΓJ3
theorem OkJ4 : ΓJ4.Ok Try.prog := addVal_ok OkJ3 gPKn_ok
set_option maxRecDepth 20000 in
theorem runPFl (s : Int) : runG ΓJ4 L0 Try.prog Try.f24 [.v (I s)] M0 = 
    (bif s == (1 : Int) then some (.v (I 2), M0) else (bif s == (2 : Int) then some (.v (I 1), M0) else some (.v (I s), M0))) := by kernel_rfl
def gPFl (vs : List Value) : Option (Bool × Value) :=
  match vs with
  | [.int .i64 s] => some (true, I (flP s))
  | _ => none
theorem gPFl_ok : ∀ vs r, gPFl vs = some (true, r) → ∀ m, CallOk Try.prog 24 (vs.map .v) m (.v r) m := by
  intro vs r h
  unfold gPFl at h
  split at h
  · rename_i s
    obtain ⟨h1, rfl⟩ := some_t h
    refine runV (vs := [I s]) (Λ := L0) (m' := M0) OkJ4 Try.func24 rfl (fun z _ _ => l0Ok' _ z) ?_
    exact (runPFl s).trans (by unfold flP; cases s == 1 <;> cases s == 2 <;> rfl)
  · cases h
noncomputable def ΓJ5 : Orc := addVal 24 gPFl ΓJ4
theorem OkJ5 : ΓJ5.Ok Try.prog := addVal_ok OkJ4 gPFl_ok
set_option maxRecDepth 20000 in
theorem runRPKn (s : Int) : runG ΓJ5 L0 Try.prog Try.f26 [.v (I s)] M0 = 
    (bif s == (1 : Int) then some (.v (I 1), M0) else (bif s == (2 : Int) then some (.v (I 1), M0) else (bif s == (3 : Int) then some (.v (I 2), M0) else (bif s == (4 : Int) then some (.v (I 2), M0) else some (.v (I 0), M0))))) := by kernel_rfl
def gRPKn (vs : List Value) : Option (Bool × Value) :=
  match vs with
  | [.int .i64 s] => some (true, I (knP s))
  | _ => none
theorem gRPKn_ok : ∀ vs r, gRPKn vs = some (true, r) → ∀ m, CallOk Try.prog 26 (vs.map .v) m (.v r) m := by
  intro vs r h
  unfold gRPKn at h
  split at h
  · rename_i s
    obtain ⟨h1, rfl⟩ := some_t h
    refine runV (vs := [I s]) (Λ := L0) (m' := M0) OkJ5 Try.func26 rfl (fun z _ _ => l0Ok' _ z) ?_
    exact (runRPKn s).trans (by unfold knP; cases s == 1 <;> cases s == 2 <;> cases s == 3 <;> cases s == 4 <;> rfl)
  · cases h
noncomputable def ΓJ6 : Orc := addVal 26 gRPKn ΓJ5
theorem OkJ6 : ΓJ6.Ok Try.prog := addVal_ok OkJ5 gRPKn_ok
noncomputable def Γx16 : Orc := exec Try.prog ΓJ6.call ΓJ6.rd ΓJ6.eqv (fun _ => false) 30 3
theorem Okx16 : Γx16.Ok Try.prog := exec_ok mixed names (ext := ΓJ6.call) (rd := ΓJ6.rd) (eqv := ΓJ6.eqv) ⟨OkJ6.call, OkJ6.rd, OkJ6.eqv⟩ 30 3
set_option maxRecDepth 100000 in
theorem runAwake16 : runG Γx16 (loopX Γx16 Try.prog 30 2) Try.prog Try.f22 [] M0 = some (.v (Bo true), M0) := by kernel_rfl
def gAwake16 (vs : List Value) : Option (Bool × Value) :=
  match vs with
  | [] => some (true, Bo true)
  | _ => none
theorem gAwake16_ok : ∀ vs r, gAwake16 vs = some (true, r) → ∀ m, CallOk Try.prog 22 (vs.map .v) m (.v r) m := by
  intro vs r h
  unfold gAwake16 at h
  split at h
  · obtain ⟨_, rfl⟩ := some_t h
    exact runV (vs := []) Okx16 Try.func22 rfl (fun z _ _ b hb => loopX_ok Okx16 mixed 30 2 b) runAwake16
  · cases h
noncomputable def ΓJ7 : Orc := addVal 22 gAwake16 ΓJ6
theorem OkJ7 : ΓJ7.Ok Try.prog := addVal_ok OkJ6 gAwake16_ok
noncomputable def ΓPx : Orc := ΓJ7
theorem OkPx : ΓPx.Ok Try.prog := OkJ7
end Go.Proofs.Ytnelbjbphkfkkaa

namespace Go.Proofs.Ytnelbjbphkfkkaa
open Go Go.Proofs Go.Sx
set_option linter.unusedVariables false
/-! norm -/
/-! cast -/
set_option maxRecDepth 40000 in
theorem treePairTells (a b c d e f g q a' b' c' d' e' f' g' q' w : Int) (x y : Bool) : runG ΓPx L0 Try.prog Try.f3 [.v (.agg #[I a, I b, I c, I d, I e, I f, I g, I q]), .v (.agg #[I a', I b', I c', I d', I e', I f', I g', I q']), .v (Bo x), .v (Bo y), .v (I w)] M0 = 
    (bif x then (bif y then (bif x then (bif y then (bif inI w then (bif cmpP x y (nearB (epsP w) c c' d d' e e' f f' g g' q q') == cmpP x y (nearB (epsP w) c c' d d' e e' f f' g g' q q') then (bif cmpP y x (nearB (epsP w) c' c d' d e' e f' f g' g q' q) == flP (cmpP x y (nearB (epsP w) c c' d d' e e' f f' g g' q q')) then (bif hgt e e' x y == if e' < e then e' else e then (bif x then (bif (x || y) == true then some (.v (Bo (knP (cmpP x y (nearB (epsP w) c c' d d' e e' f f' g g' q q')) == (2 : Int))), M0) else some (.v (Bo false), M0)) else (bif (x || y) == y then some (.v (Bo (knP (cmpP x y (nearB (epsP w) c c' d d' e e' f f' g g' q q')) == (2 : Int))), M0) else some (.v (Bo false), M0))) else some (.v (Bo false), M0)) else some (.v (Bo false), M0)) else some (.v (Bo false), M0)) else none) else (bif inI w then (bif cmpP x y (nearB (epsP w) c c' d d' e e' f f' g g' q q') == cmpP x y (nearB (epsP w) c c' d d' e e' f f' g g' q q') then (bif cmpP y x (nearB (epsP w) c' c d' d e' e f' f g' g q' q) == flP (cmpP x y (nearB (epsP w) c c' d d' e e' f f' g g' q q')) then (bif hgt e e' x y == if e' < e then e' else e then (bif x then (bif (x || y) == true then some (.v (Bo (knP (cmpP x y (nearB (epsP w) c c' d d' e e' f f' g g' q q')) == (1 : Int))), M0) else some (.v (Bo false), M0)) else (bif (x || y) == y then some (.v (Bo (knP (cmpP x y (nearB (epsP w) c c' d d' e e' f f' g g' q q')) == (1 : Int))), M0) else some (.v (Bo false), M0))) else some (.v (Bo false), M0)) else some (.v (Bo false), M0)) else some (.v (Bo false), M0)) else none)) else (bif y then (bif inI w then (bif cmpP x y (nearB (epsP w) c c' d d' e e' f f' g g' q q') == cmpP x y (nearB (epsP w) c c' d d' e e' f f' g g' q q') then (bif cmpP y x (nearB (epsP w) c' c d' d e' e f' f g' g q' q) == flP (cmpP x y (nearB (epsP w) c c' d d' e e' f f' g g' q q')) then (bif hgt e e' x y == if e' < e then e' else e then (bif x then (bif (x || y) == true then some (.v (Bo (knP (cmpP x y (nearB (epsP w) c c' d d' e e' f f' g g' q q')) == (1 : Int))), M0) else some (.v (Bo false), M0)) else (bif (x || y) == y then some (.v (Bo (knP (cmpP x y (nearB (epsP w) c c' d d' e e' f f' g g' q q')) == (1 : Int))), M0) else some (.v (Bo false), M0))) else some (.v (Bo false), M0)) else some (.v (Bo false), M0)) else some (.v (Bo false), M0)) else none) else (bif inI w then (bif cmpP x y (nearB (epsP w) c c' d d' e e' f f' g g' q q') == cmpP x y (nearB (epsP w) c c' d d' e e' f f' g g' q q') then (bif cmpP y x (nearB (epsP w) c' c d' d e' e f' f g' g q' q) == flP (cmpP x y (nearB (epsP w) c c' d d' e e' f f' g g' q q')) then (bif hgt e e' x y == if e' < e then e' else e then (bif x then (bif (x || y) == true then some (.v (Bo (knP (cmpP x y (nearB (epsP w) c c' d d' e e' f f' g g' q q')) == (0 : Int))), M0) else some (.v (Bo false), M0)) else (bif (x || y) == y then some (.v (Bo (knP (cmpP x y (nearB (epsP w) c c' d d' e e' f f' g g' q q')) == (0 : Int))), M0) else some (.v (Bo false), M0))) else some (.v (Bo false), M0)) else some (.v (Bo false), M0)) else some (.v (Bo false), M0)) else none))) else (bif x then (bif x then (bif y then (bif inI w then (bif cmpP x y (nearB (epsP w) c c' d d' e e' f f' g g' q q') == cmpP x y (nearB (epsP w) c c' d d' e e' f f' g g' q q') then (bif cmpP y x (nearB (epsP w) c' c d' d e' e f' f g' g q' q) == flP (cmpP x y (nearB (epsP w) c c' d d' e e' f f' g g' q q')) then (bif hgt e e' x y == e then (bif x then (bif (x || y) == true then some (.v (Bo (knP (cmpP x y (nearB (epsP w) c c' d d' e e' f f' g g' q q')) == (2 : Int))), M0) else some (.v (Bo false), M0)) else (bif (x || y) == y then some (.v (Bo (knP (cmpP x y (nearB (epsP w) c c' d d' e e' f f' g g' q q')) == (2 : Int))), M0) else some (.v (Bo false), M0))) else some (.v (Bo false), M0)) else some (.v (Bo false), M0)) else some (.v (Bo false), M0)) else none) else (bif inI w then (bif cmpP x y (nearB (epsP w) c c' d d' e e' f f' g g' q q') == cmpP x y (nearB (epsP w) c c' d d' e e' f f' g g' q q') then (bif cmpP y x (nearB (epsP w) c' c d' d e' e f' f g' g q' q) == flP (cmpP x y (nearB (epsP w) c c' d d' e e' f f' g g' q q')) then (bif hgt e e' x y == e then (bif x then (bif (x || y) == true then some (.v (Bo (knP (cmpP x y (nearB (epsP w) c c' d d' e e' f f' g g' q q')) == (1 : Int))), M0) else some (.v (Bo false), M0)) else (bif (x || y) == y then some (.v (Bo (knP (cmpP x y (nearB (epsP w) c c' d d' e e' f f' g g' q q')) == (1 : Int))), M0) else some (.v (Bo false), M0))) else some (.v (Bo false), M0)) else some (.v (Bo false), M0)) else some (.v (Bo false), M0)) else none)) else (bif y then (bif inI w then (bif cmpP x y (nearB (epsP w) c c' d d' e e' f f' g g' q q') == cmpP x y (nearB (epsP w) c c' d d' e e' f f' g g' q q') then (bif cmpP y x (nearB (epsP w) c' c d' d e' e f' f g' g q' q) == flP (cmpP x y (nearB (epsP w) c c' d d' e e' f f' g g' q q')) then (bif hgt e e' x y == e then (bif x then (bif (x || y) == true then some (.v (Bo (knP (cmpP x y (nearB (epsP w) c c' d d' e e' f f' g g' q q')) == (1 : Int))), M0) else some (.v (Bo false), M0)) else (bif (x || y) == y then some (.v (Bo (knP (cmpP x y (nearB (epsP w) c c' d d' e e' f f' g g' q q')) == (1 : Int))), M0) else some (.v (Bo false), M0))) else some (.v (Bo false), M0)) else some (.v (Bo false), M0)) else some (.v (Bo false), M0)) else none) else (bif inI w then (bif cmpP x y (nearB (epsP w) c c' d d' e e' f f' g g' q q') == cmpP x y (nearB (epsP w) c c' d d' e e' f f' g g' q q') then (bif cmpP y x (nearB (epsP w) c' c d' d e' e f' f g' g q' q) == flP (cmpP x y (nearB (epsP w) c c' d d' e e' f f' g g' q q')) then (bif hgt e e' x y == e then (bif x then (bif (x || y) == true then some (.v (Bo (knP (cmpP x y (nearB (epsP w) c c' d d' e e' f f' g g' q q')) == (0 : Int))), M0) else some (.v (Bo false), M0)) else (bif (x || y) == y then some (.v (Bo (knP (cmpP x y (nearB (epsP w) c c' d d' e e' f f' g g' q q')) == (0 : Int))), M0) else some (.v (Bo false), M0))) else some (.v (Bo false), M0)) else some (.v (Bo false), M0)) else some (.v (Bo false), M0)) else none))) else (bif y then (bif x then (bif y then (bif inI w then (bif cmpP x y (nearB (epsP w) c c' d d' e e' f f' g g' q q') == cmpP x y (nearB (epsP w) c c' d d' e e' f f' g g' q q') then (bif cmpP y x (nearB (epsP w) c' c d' d e' e f' f g' g q' q) == flP (cmpP x y (nearB (epsP w) c c' d d' e e' f f' g g' q q')) then (bif hgt e e' x y == e' then (bif x then (bif (x || y) == true then some (.v (Bo (knP (cmpP x y (nearB (epsP w) c c' d d' e e' f f' g g' q q')) == (2 : Int))), M0) else some (.v (Bo false), M0)) else (bif (x || y) == y then some (.v (Bo (knP (cmpP x y (nearB (epsP w) c c' d d' e e' f f' g g' q q')) == (2 : Int))), M0) else some (.v (Bo false), M0))) else some (.v (Bo false), M0)) else some (.v (Bo false), M0)) else some (.v (Bo false), M0)) else none) else (bif inI w then (bif cmpP x y (nearB (epsP w) c c' d d' e e' f f' g g' q q') == cmpP x y (nearB (epsP w) c c' d d' e e' f f' g g' q q') then (bif cmpP y x (nearB (epsP w) c' c d' d e' e f' f g' g q' q) == flP (cmpP x y (nearB (epsP w) c c' d d' e e' f f' g g' q q')) then (bif hgt e e' x y == e' then (bif x then (bif (x || y) == true then some (.v (Bo (knP (cmpP x y (nearB (epsP w) c c' d d' e e' f f' g g' q q')) == (1 : Int))), M0) else some (.v (Bo false), M0)) else (bif (x || y) == y then some (.v (Bo (knP (cmpP x y (nearB (epsP w) c c' d d' e e' f f' g g' q q')) == (1 : Int))), M0) else some (.v (Bo false), M0))) else some (.v (Bo false), M0)) else some (.v (Bo false), M0)) else some (.v (Bo false), M0)) else none)) else (bif y then (bif inI w then (bif cmpP x y (nearB (epsP w) c c' d d' e e' f f' g g' q q') == cmpP x y (nearB (epsP w) c c' d d' e e' f f' g g' q q') then (bif cmpP y x (nearB (epsP w) c' c d' d e' e f' f g' g q' q) == flP (cmpP x y (nearB (epsP w) c c' d d' e e' f f' g g' q q')) then (bif hgt e e' x y == e' then (bif x then (bif (x || y) == true then some (.v (Bo (knP (cmpP x y (nearB (epsP w) c c' d d' e e' f f' g g' q q')) == (1 : Int))), M0) else some (.v (Bo false), M0)) else (bif (x || y) == y then some (.v (Bo (knP (cmpP x y (nearB (epsP w) c c' d d' e e' f f' g g' q q')) == (1 : Int))), M0) else some (.v (Bo false), M0))) else some (.v (Bo false), M0)) else some (.v (Bo false), M0)) else some (.v (Bo false), M0)) else none) else (bif inI w then (bif cmpP x y (nearB (epsP w) c c' d d' e e' f f' g g' q q') == cmpP x y (nearB (epsP w) c c' d d' e e' f f' g g' q q') then (bif cmpP y x (nearB (epsP w) c' c d' d e' e f' f g' g q' q) == flP (cmpP x y (nearB (epsP w) c c' d d' e e' f f' g g' q q')) then (bif hgt e e' x y == e' then (bif x then (bif (x || y) == true then some (.v (Bo (knP (cmpP x y (nearB (epsP w) c c' d d' e e' f f' g g' q q')) == (0 : Int))), M0) else some (.v (Bo false), M0)) else (bif (x || y) == y then some (.v (Bo (knP (cmpP x y (nearB (epsP w) c c' d d' e e' f f' g g' q q')) == (0 : Int))), M0) else some (.v (Bo false), M0))) else some (.v (Bo false), M0)) else some (.v (Bo false), M0)) else some (.v (Bo false), M0)) else none))) else (bif x then (bif y then (bif inI w then (bif cmpP x y (nearB (epsP w) c c' d d' e e' f f' g g' q q') == cmpP x y (nearB (epsP w) c c' d d' e e' f f' g g' q q') then (bif cmpP y x (nearB (epsP w) c' c d' d e' e f' f g' g q' q) == flP (cmpP x y (nearB (epsP w) c c' d d' e e' f f' g g' q q')) then (bif hgt e e' x y == (0 : Int) then (bif x then (bif (x || y) == true then some (.v (Bo (knP (cmpP x y (nearB (epsP w) c c' d d' e e' f f' g g' q q')) == (2 : Int))), M0) else some (.v (Bo false), M0)) else (bif (x || y) == y then some (.v (Bo (knP (cmpP x y (nearB (epsP w) c c' d d' e e' f f' g g' q q')) == (2 : Int))), M0) else some (.v (Bo false), M0))) else some (.v (Bo false), M0)) else some (.v (Bo false), M0)) else some (.v (Bo false), M0)) else none) else (bif inI w then (bif cmpP x y (nearB (epsP w) c c' d d' e e' f f' g g' q q') == cmpP x y (nearB (epsP w) c c' d d' e e' f f' g g' q q') then (bif cmpP y x (nearB (epsP w) c' c d' d e' e f' f g' g q' q) == flP (cmpP x y (nearB (epsP w) c c' d d' e e' f f' g g' q q')) then (bif hgt e e' x y == (0 : Int) then (bif x then (bif (x || y) == true then some (.v (Bo (knP (cmpP x y (nearB (epsP w) c c' d d' e e' f f' g g' q q')) == (1 : Int))), M0) else some (.v (Bo false), M0)) else (bif (x || y) == y then some (.v (Bo (knP (cmpP x y (nearB (epsP w) c c' d d' e e' f f' g g' q q')) == (1 : Int))), M0) else some (.v (Bo false), M0))) else some (.v (Bo false), M0)) else some (.v (Bo false), M0)) else some (.v (Bo false), M0)) else none)) else (bif y then (bif inI w then (bif cmpP x y (nearB (epsP w) c c' d d' e e' f f' g g' q q') == cmpP x y (nearB (epsP w) c c' d d' e e' f f' g g' q q') then (bif cmpP y x (nearB (epsP w) c' c d' d e' e f' f g' g q' q) == flP (cmpP x y (nearB (epsP w) c c' d d' e e' f f' g g' q q')) then (bif hgt e e' x y == (0 : Int) then (bif x then (bif (x || y) == true then some (.v (Bo (knP (cmpP x y (nearB (epsP w) c c' d d' e e' f f' g g' q q')) == (1 : Int))), M0) else some (.v (Bo false), M0)) else (bif (x || y) == y then some (.v (Bo (knP (cmpP x y (nearB (epsP w) c c' d d' e e' f f' g g' q q')) == (1 : Int))), M0) else some (.v (Bo false), M0))) else some (.v (Bo false), M0)) else some (.v (Bo false), M0)) else some (.v (Bo false), M0)) else none) else (bif inI w then (bif cmpP x y (nearB (epsP w) c c' d d' e e' f f' g g' q q') == cmpP x y (nearB (epsP w) c c' d d' e e' f f' g g' q q') then (bif cmpP y x (nearB (epsP w) c' c d' d e' e f' f g' g q' q) == flP (cmpP x y (nearB (epsP w) c c' d d' e e' f f' g g' q q')) then (bif hgt e e' x y == (0 : Int) then (bif x then (bif (x || y) == true then some (.v (Bo (knP (cmpP x y (nearB (epsP w) c c' d d' e e' f f' g g' q q')) == (0 : Int))), M0) else some (.v (Bo false), M0)) else (bif (x || y) == y then some (.v (Bo (knP (cmpP x y (nearB (epsP w) c c' d d' e e' f f' g g' q q')) == (0 : Int))), M0) else some (.v (Bo false), M0))) else some (.v (Bo false), M0)) else some (.v (Bo false), M0)) else some (.v (Bo false), M0)) else none)))))) else (bif x then (bif x then (bif y then (bif inI w then (bif cmpP x y (nearB (epsP w) c c' d d' e e' f f' g g' q q') == cmpP x y (nearB (epsP w) c c' d d' e e' f f' g g' q q') then (bif cmpP y x (nearB (epsP w) c' c d' d e' e f' f g' g q' q) == flP (cmpP x y (nearB (epsP w) c c' d d' e e' f f' g g' q q')) then (bif hgt e e' x y == e then (bif x then (bif (x || y) == true then some (.v (Bo (knP (cmpP x y (nearB (epsP w) c c' d d' e e' f f' g g' q q')) == (2 : Int))), M0) else some (.v (Bo false), M0)) else (bif (x || y) == y then some (.v (Bo (knP (cmpP x y (nearB (epsP w) c c' d d' e e' f f' g g' q q')) == (2 : Int))), M0) else some (.v (Bo false), M0))) else some (.v (Bo false), M0)) else some (.v (Bo false), M0)) else some (.v (Bo false), M0)) else none) else (bif inI w then (bif cmpP x y (nearB (epsP w) c c' d d' e e' f f' g g' q q') == cmpP x y (nearB (epsP w) c c' d d' e e' f f' g g' q q') then (bif cmpP y x (nearB (epsP w) c' c d' d e' e f' f g' g q' q) == flP (cmpP x y (nearB (epsP w) c c' d d' e e' f f' g g' q q')) then (bif hgt e e' x y == e then (bif x then (bif (x || y) == true then some (.v (Bo (knP (cmpP x y (nearB (epsP w) c c' d d' e e' f f' g g' q q')) == (1 : Int))), M0) else some (.v (Bo false), M0)) else (bif (x || y) == y then some (.v (Bo (knP (cmpP x y (nearB (epsP w) c c' d d' e e' f f' g g' q q')) == (1 : Int))), M0) else some (.v (Bo false), M0))) else some (.v (Bo false), M0)) else some (.v (Bo false), M0)) else some (.v (Bo false), M0)) else none)) else (bif y then (bif inI w then (bif cmpP x y (nearB (epsP w) c c' d d' e e' f f' g g' q q') == cmpP x y (nearB (epsP w) c c' d d' e e' f f' g g' q q') then (bif cmpP y x (nearB (epsP w) c' c d' d e' e f' f g' g q' q) == flP (cmpP x y (nearB (epsP w) c c' d d' e e' f f' g g' q q')) then (bif hgt e e' x y == e then (bif x then (bif (x || y) == true then some (.v (Bo (knP (cmpP x y (nearB (epsP w) c c' d d' e e' f f' g g' q q')) == (1 : Int))), M0) else some (.v (Bo false), M0)) else (bif (x || y) == y then some (.v (Bo (knP (cmpP x y (nearB (epsP w) c c' d d' e e' f f' g g' q q')) == (1 : Int))), M0) else some (.v (Bo false), M0))) else some (.v (Bo false), M0)) else some (.v (Bo false), M0)) else some (.v (Bo false), M0)) else none) else (bif inI w then (bif cmpP x y (nearB (epsP w) c c' d d' e e' f f' g g' q q') == cmpP x y (nearB (epsP w) c c' d d' e e' f f' g g' q q') then (bif cmpP y x (nearB (epsP w) c' c d' d e' e f' f g' g q' q) == flP (cmpP x y (nearB (epsP w) c c' d d' e e' f f' g g' q q')) then (bif hgt e e' x y == e then (bif x then (bif (x || y) == true then some (.v (Bo (knP (cmpP x y (nearB (epsP w) c c' d d' e e' f f' g g' q q')) == (0 : Int))), M0) else some (.v (Bo false), M0)) else (bif (x || y) == y then some (.v (Bo (knP (cmpP x y (nearB (epsP w) c c' d d' e e' f f' g g' q q')) == (0 : Int))), M0) else some (.v (Bo false), M0))) else some (.v (Bo false), M0)) else some (.v (Bo false), M0)) else some (.v (Bo false), M0)) else none))) else (bif y then (bif x then (bif y then (bif inI w then (bif cmpP x y (nearB (epsP w) c c' d d' e e' f f' g g' q q') == cmpP x y (nearB (epsP w) c c' d d' e e' f f' g g' q q') then (bif cmpP y x (nearB (epsP w) c' c d' d e' e f' f g' g q' q) == flP (cmpP x y (nearB (epsP w) c c' d d' e e' f f' g g' q q')) then (bif hgt e e' x y == e' then (bif x then (bif (x || y) == true then some (.v (Bo (knP (cmpP x y (nearB (epsP w) c c' d d' e e' f f' g g' q q')) == (2 : Int))), M0) else some (.v (Bo false), M0)) else (bif (x || y) == y then some (.v (Bo (knP (cmpP x y (nearB (epsP w) c c' d d' e e' f f' g g' q q')) == (2 : Int))), M0) else some (.v (Bo false), M0))) else some (.v (Bo false), M0)) else some (.v (Bo false), M0)) else some (.v (Bo false), M0)) else none) else (bif inI w then (bif cmpP x y (nearB (epsP w) c c' d d' e e' f f' g g' q q') == cmpP x y (nearB (epsP w) c c' d d' e e' f f' g g' q q') then (bif cmpP y x (nearB (epsP w) c' c d' d e' e f' f g' g q' q) == flP (cmpP x y (nearB (epsP w) c c' d d' e e' f f' g g' q q')) then (bif hgt e e' x y == e' then (bif x then (bif (x || y) == true then some (.v (Bo (knP (cmpP x y (nearB (epsP w) c c' d d' e e' f f' g g' q q')) == (1 : Int))), M0) else some (.v (Bo false), M0)) else (bif (x || y) == y then some (.v (Bo (knP (cmpP x y (nearB (epsP w) c c' d d' e e' f f' g g' q q')) == (1 : Int))), M0) else some (.v (Bo false), M0))) else some (.v (Bo false), M0)) else some (.v (Bo false), M0)) else some (.v (Bo false), M0)) else none)) else (bif y then (bif inI w then (bif cmpP x y (nearB (epsP w) c c' d d' e e' f f' g g' q q') == cmpP x y (nearB (epsP w) c c' d d' e e' f f' g g' q q') then (bif cmpP y x (nearB (epsP w) c' c d' d e' e f' f g' g q' q) == flP (cmpP x y (nearB (epsP w) c c' d d' e e' f f' g g' q q')) then (bif hgt e e' x y == e' then (bif x then (bif (x || y) == true then some (.v (Bo (knP (cmpP x y (nearB (epsP w) c c' d d' e e' f f' g g' q q')) == (1 : Int))), M0) else some (.v (Bo false), M0)) else (bif (x || y) == y then some (.v (Bo (knP (cmpP x y (nearB (epsP w) c c' d d' e e' f f' g g' q q')) == (1 : Int))), M0) else some (.v (Bo false), M0))) else some (.v (Bo false), M0)) else some (.v (Bo false), M0)) else some (.v (Bo false), M0)) else none) else (bif inI w then (bif cmpP x y (nearB (epsP w) c c' d d' e e' f f' g g' q q') == cmpP x y (nearB (epsP w) c c' d d' e e' f f' g g' q q') then (bif cmpP y x (nearB (epsP w) c' c d' d e' e f' f g' g q' q) == flP (cmpP x y (nearB (epsP w) c c' d d' e e' f f' g g' q q')) then (bif hgt e e' x y == e' then (bif x then (bif (x || y) == true then some (.v (Bo (knP (cmpP x y (nearB (epsP w) c c' d d' e e' f f' g g' q q')) == (0 : Int))), M0) else some (.v (Bo false), M0)) else (bif (x || y) == y then some (.v (Bo (knP (cmpP x y (nearB (epsP w) c c' d d' e e' f f' g g' q q')) == (0 : Int))), M0) else some (.v (Bo false), M0))) else some (.v (Bo false), M0)) else some (.v (Bo false), M0)) else some (.v (Bo false), M0)) else none))) else (bif x then (bif y then (bif inI w then (bif cmpP x y (nearB (epsP w) c c' d d' e e' f f' g g' q q') == cmpP x y (nearB (epsP w) c c' d d' e e' f f' g g' q q') then (bif cmpP y x (nearB (epsP w) c' c d' d e' e f' f g' g q' q) == flP (cmpP x y (nearB (epsP w) c c' d d' e e' f f' g g' q q')) then (bif hgt e e' x y == (0 : Int) then (bif x then (bif (x || y) == true then some (.v (Bo (knP (cmpP x y (nearB (epsP w) c c' d d' e e' f f' g g' q q')) == (2 : Int))), M0) else some (.v (Bo false), M0)) else (bif (x || y) == y then some (.v (Bo (knP (cmpP x y (nearB (epsP w) c c' d d' e e' f f' g g' q q')) == (2 : Int))), M0) else some (.v (Bo false), M0))) else some (.v (Bo false), M0)) else some (.v (Bo false), M0)) else some (.v (Bo false), M0)) else none) else (bif inI w then (bif cmpP x y (nearB (epsP w) c c' d d' e e' f f' g g' q q') == cmpP x y (nearB (epsP w) c c' d d' e e' f f' g g' q q') then (bif cmpP y x (nearB (epsP w) c' c d' d e' e f' f g' g q' q) == flP (cmpP x y (nearB (epsP w) c c' d d' e e' f f' g g' q q')) then (bif hgt e e' x y == (0 : Int) then (bif x then (bif (x || y) == true then some (.v (Bo (knP (cmpP x y (nearB (epsP w) c c' d d' e e' f f' g g' q q')) == (1 : Int))), M0) else some (.v (Bo false), M0)) else (bif (x || y) == y then some (.v (Bo (knP (cmpP x y (nearB (epsP w) c c' d d' e e' f f' g g' q q')) == (1 : Int))), M0) else some (.v (Bo false), M0))) else some (.v (Bo false), M0)) else some (.v (Bo false), M0)) else some (.v (Bo false), M0)) else none)) else (bif y then (bif inI w then (bif cmpP x y (nearB (epsP w) c c' d d' e e' f f' g g' q q') == cmpP x y (nearB (epsP w) c c' d d' e e' f f' g g' q q') then (bif cmpP y x (nearB (epsP w) c' c d' d e' e f' f g' g q' q) == flP (cmpP x y (nearB (epsP w) c c' d d' e e' f f' g g' q q')) then (bif hgt e e' x y == (0 : Int) then (bif x then (bif (x || y) == true then some (.v (Bo (knP (cmpP x y (nearB (epsP w) c c' d d' e e' f f' g g' q q')) == (1 : Int))), M0) else some (.v (Bo false), M0)) else (bif (x || y) == y then some (.v (Bo (knP (cmpP x y (nearB (epsP w) c c' d d' e e' f f' g g' q q')) == (1 : Int))), M0) else some (.v (Bo false), M0))) else some (.v (Bo false), M0)) else some (.v (Bo false), M0)) else some (.v (Bo false), M0)) else none) else (bif inI w then (bif cmpP x y (nearB (epsP w) c c' d d' e e' f f' g g' q q') == cmpP x y (nearB (epsP w) c c' d d' e e' f f' g g' q q') then (bif cmpP y x (nearB (epsP w) c' c d' d e' e f' f g' g q' q) == flP (cmpP x y (nearB (epsP w) c c' d d' e e' f f' g g' q q')) then (bif hgt e e' x y == (0 : Int) then (bif x then (bif (x || y) == true then some (.v (Bo (knP (cmpP x y (nearB (epsP w) c c' d d' e e' f f' g g' q q')) == (0 : Int))), M0) else some (.v (Bo false), M0)) else (bif (x || y) == y then some (.v (Bo (knP (cmpP x y (nearB (epsP w) c c' d d' e e' f f' g g' q q')) == (0 : Int))), M0) else some (.v (Bo false), M0))) else some (.v (Bo false), M0)) else some (.v (Bo false), M0)) else some (.v (Bo false), M0)) else none)))))) := by kernel_rfl
set_option maxRecDepth 40000 in
theorem treePairStates (s : Int) : runG ΓPx L0 Try.prog Try.f4 [.v (I s)] M0 = 
    (bif knP s == knP s then (bif flP (flP s) == s then (bif knP (flP s) == knP s then (bif s == (1 : Int) then some (.v (Bo ((flP s != s) == true)), M0) else some (.v (Bo ((flP s != s) == (s == (2 : Int)))), M0)) else some (.v (Bo false), M0)) else some (.v (Bo false), M0)) else some (.v (Bo false), M0)) := by kernel_rfl
set_option maxRecDepth 40000 in
theorem treePairEps (a b c d e f g q a' b' c' d' e' f' g' q' w k : Int) : runG ΓPx L0 Try.prog Try.f5 [.v (.agg #[I a, I b, I c, I d, I e, I f, I g, I q]), .v (.agg #[I a', I b', I c', I d', I e', I f', I g', I q']), .v (I w), .v (I k)] M0 = 
    (bif decide (w < (0 : Int)) then some (.v (Bo true), M0) else (bif decide (k < (0 : Int)) then some (.v (Bo true), M0) else (bif decide (w > (1152921504606846976 : Int)) then some (.v (Bo true), M0) else (bif decide (k > (1152921504606846976 : Int)) then some (.v (Bo true), M0) else (bif cmpP true true (nearB (epsP w) c c d d e e f f g g q q) == (3 : Int) then (bif cmpP true true (nearB (epsP w) c c' d d' e e' f f' g g' q q') != (3 : Int) then some (.v (Bo true), M0) else some (.v (Bo (cmpP true true (nearB (epsP (wI (w + k))) c c' d d' e e' f f' g g' q q') == (3 : Int))), M0)) else some (.v (Bo false), M0)))))) := by kernel_rfl
set_option maxRecDepth 40000 in
theorem treePairHeight (a b c d e f g q a' b' c' d' e' f' g' q' : Int) : runG ΓPx L0 Try.prog Try.f6 [.v (.agg #[I a, I b, I c, I d, I e, I f, I g, I q]), .v (.agg #[I a', I b', I c', I d', I e', I f', I g', I q'])] M0 = 
    (bif decide (hgt e e' true true ≤ hgt e e' true false) then (bif decide (hgt e e' true true ≤ hgt e e' false true) then (bif hgt e e' true false == e then (bif hgt e e' false true == e' then (bif hgt e e' true true == hgt e e' true false then some (.v (Bo true), M0) else some (.v (Bo (hgt e e' true true == hgt e e' false true)), M0)) else some (.v (Bo false), M0)) else some (.v (Bo false), M0)) else some (.v (Bo false), M0)) else some (.v (Bo false), M0)) := by kernel_rfl
end Go.Proofs.Ytnelbjbphkfkkaa

namespace Go.Proofs.Ytnelbjbphkfkkaa
open Go Go.Proofs Go.Sx
set_option linter.unusedVariables false
abbrev ksNv : List CK := [.num .i64, .num .i64, .num .i64, .num .i64, .num .i64, .num .i64, .num .i64, .num .i64]
theorem nv_is {l : List Dat} (h : WfL ksNv l) : ∃ a b c d e f g q, l = [.n a, .n b, .n c, .n d, .n e, .n f, .n g, .n q] := by
  match l, h with
  | [.n a, .n b, .n c, .n d, .n e, .n f, .n g, .n q], _ => exact ⟨a, b, c, d, e, f, g, q, rfl⟩
theorem apartU_comm (x y : Int) : apartU x y = apartU y x := by
  unfold apartU
  rw [show (if y > x then y else x) = (if x > y then x else y) by split <;> split <;> omega, show (if y < x then y else x) = (if x < y then x else y) by split <;> split <;> omega]
theorem near1_comm (w x y : Int) : near1 w x y = near1 w y x := by unfold near1; rw [apartU_comm]
theorem nearB_comm (w c c' d d' e e' f f' g g' q q' : Int) : nearB w c' c d' d e' e f' f g' g q' q = nearB w c c' d d' e e' f f' g g' q q' := by
  unfold nearB
  rw [near1_comm w c' c, near1_comm w d' d, near1_comm w e' e, near1_comm w f' f, near1_comm w g' g, near1_comm w q' q]
theorem pairTells (a b c d e f g q a' b' c' d' e' f' g' q' w : Int) (x y : Bool) (hw : inI w = true) : runG ΓPx L0 Try.prog Try.f3 [.v (.agg #[I a, I b, I c, I d, I e, I f, I g, I q]), .v (.agg #[I a', I b', I c', I d', I e', I f', I g', I q']), .v (Bo x), .v (Bo y), .v (I w)] M0 = some (.v (.bool true), M0) := (treePairTells a b c d e f g q a' b' c' d' e' f' g' q' w x y).trans (by
  rw [nearB_comm (epsP w) c c' d d' e e' f f' g g' q q', hw]
  generalize nearB (epsP w) c c' d d' e e' f f' g g' q q' = N
  have k : hgt e e' true true = if e' < e then e' else e := rfl
  have k1 : hgt e e' true false = e := rfl
  have k2 : hgt e e' false true = e' := rfl
  have k3 : hgt e e' false false = 0 := rfl
  cases x <;> cases y <;> simp only [k, k1, k2, k3, beq_self_eq_true, cond_true, cond_false] <;> cases N <;> rfl)
theorem pairStates (s : Int) : runG ΓPx L0 Try.prog Try.f4 [.v (I s)] M0 = some (.v (.bool true), M0) := (treePairStates s).trans (by
  by_cases h1 : s = 1
  · subst h1; rfl
  · by_cases h2 : s = 2
    · subst h2; rfl
    · have e : flP s = s := by
        unfold flP
        rw [beq_eq_false_iff_ne.2 h1, beq_eq_false_iff_ne.2 h2]; rfl
      rw [e, e]
      rw [beq_eq_false_iff_ne.2 h1, beq_eq_false_iff_ne.2 h2]
      simp only [beq_self_eq_true, bne_self_eq_false, cond_true, cond_false]
      rfl)
theorem apart_small (x y : Int) : 0 ≤ apartU x y := by
  unfold apartU
  exact (inU_iff.1 (inU_wrap _)).1
theorem apart_self (x : Int) : apartU x x = 0 := by
  unfold apartU
  simp only [ite_self, Int.sub_self]
  rfl
theorem near1_more {w v x y : Int} (h0 : 0 ≤ w) (h : w ≤ v) (h2 : v < 9223372036854775808) (hn : near1 w x y = true) : near1 v x y = true := by
  unfold near1 at hn ⊢
  rw [wrU_id (by omega)] at hn ⊢
  simp only [decide_eq_true_eq] at hn ⊢
  omega
theorem nearB_more {w v c c' d d' e e' f f' g g' q q' : Int} (h0 : 0 ≤ w) (h : w ≤ v) (h2 : v < 9223372036854775808) (hn : nearB w c c' d d' e e' f f' g g' q q' = true) : nearB v c c' d d' e e' f f' g g' q q' = true := by
  unfold nearB at hn ⊢
  simp only [Bool.and_eq_true, Bool.not_eq_true', decide_eq_false_iff_not] at hn ⊢
  obtain ⟨_, k1, k2, k3, k4, k5, k6⟩ := hn
  exact ⟨by omega, near1_more h0 h h2 k1, near1_more h0 h h2 k2, near1_more h0 h h2 k3, near1_more h0 h h2 k4, near1_more h0 h h2 k5, near1_more h0 h h2 k6⟩
theorem nearB_self {w c d e f g q : Int} (h0 : 0 ≤ w) (h2 : w < 9223372036854775808) : nearB w c c d d e e f f g g q q = true := by
  have k : ∀ x, near1 w x x = true := fun x => by
    unfold near1
    rw [apart_self, wrU_id (by omega)]
    exact decide_eq_true h0
  unfold nearB
  rw [k, k, k, k, k, k, decide_eq_false (show ¬ w < 0 by omega)]
  rfl
theorem epsP_in {w : Int} (h0 : 0 ≤ w) (h1 : w ≤ 2305843009213693952) : epsP w = 2 * w := by
  unfold epsP clI
  rw [decide_eq_false (show ¬ w < -1 by omega), decide_eq_false (show ¬ w > 2305843009213693952 by omega)]
  exact wI_id (by simp only [cond_false]; omega)
theorem pairEps (a b c d e f g q a' b' c' d' e' f' g' q' w k : Int) : runG ΓPx L0 Try.prog Try.f5 [.v (.agg #[I a, I b, I c, I d, I e, I f, I g, I q]), .v (.agg #[I a', I b', I c', I d', I e', I f', I g', I q']), .v (I w), .v (I k)] M0 = some (.v (.bool true), M0) := (treePairEps a b c d e f g q a' b' c' d' e' f' g' q' w k).trans (by
  by_cases h1 : w < 0
  · rw [decide_eq_true h1]; rfl
  by_cases h2 : k < 0
  · rw [decide_eq_true h2]; cases decide (w < 0) <;> rfl
  by_cases h3 : w > 1152921504606846976
  · rw [decide_eq_true h3]; cases decide (w < 0) <;> cases decide (k < 0) <;> rfl
  by_cases h4 : k > 1152921504606846976
  · rw [decide_eq_true h4]; cases decide (w < 0) <;> cases decide (k < 0) <;> cases decide (w > 1152921504606846976) <;> rfl
  rw [decide_eq_false h1, decide_eq_false h2, decide_eq_false h3, decide_eq_false h4, wI_id (n := w + k) (by omega), epsP_in (w := w) (by omega) (by omega), epsP_in (w := w + k) (by omega) (by omega), nearB_self (by omega) (by omega)]
  cases hn : nearB (2 * w) c c' d d' e e' f f' g g' q q'
  · rfl
  · rw [nearB_more (w := 2 * w) (v := 2 * (w + k)) (by omega) (by omega) (by omega) hn]
    rfl)
theorem pairHeight (a b c d e f g q a' b' c' d' e' f' g' q' : Int) : runG ΓPx L0 Try.prog Try.f6 [.v (.agg #[I a, I b, I c, I d, I e, I f, I g, I q]), .v (.agg #[I a', I b', I c', I d', I e', I f', I g', I q'])] M0 = some (.v (.bool true), M0) := (treePairHeight a b c d e f g q a' b' c' d' e' f' g' q').trans (by
  have k : hgt e e' true true = if e' < e then e' else e := rfl
  have k1 : hgt e e' true false = e := rfl
  have k2 : hgt e e' false true = e' := rfl
  rw [k1, k2, k]
  by_cases h : e' < e
  · rw [if_pos h, decide_eq_true (show e' ≤ e by omega), decide_eq_true (show e' ≤ e' by omega)]
    simp only [beq_self_eq_true, cond_true]
    cases e' == e <;> rfl
  · rw [if_neg h, decide_eq_true (show e ≤ e by omega), decide_eq_true (show e ≤ e' by omega)]
    simp only [beq_self_eq_true, cond_true]
    rfl)
theorem i64_wf {x : Int} (h : (Lit.int .i64 x).wf = true) : -9223372036854775808 ≤ x ∧ x < 9223372036854775808 := by
  have h := (Lit.wf_int_iff .i64 x).1 h
  have e1 : IntKind.i64.min = -9223372036854775808 := by decide
  have e2 : IntKind.i64.max = 9223372036854775807 := by decide
  rw [e1, e2] at h
  omega
theorem i64_in {a : Int} (u : (Lit.int .i64 a).wf = true) : inI a = true := inI_iff.2 (i64_wf u)
theorem pairTellsLaw (l0 l1 : List Dat) (a2 a3 : Bool) (a4 : Int) (w0 : WfL ksNv l0) (w1 : WfL ksNv l1) (u4 : (Lit.int .i64 a4).wf = true) : ∃ m', runG ΓPx L0 Try.prog Try.f3 (inArgs [.v (.agg (mkEl ksNv l0).toArray), .v (.agg (mkEl ksNv l1).toArray), .v (.bool a2), .v (.bool a3), .v (.int .i64 a4)] 0) (inMem [.v (.agg (mkEl ksNv l0).toArray), .v (.agg (mkEl ksNv l1).toArray), .v (.bool a2), .v (.bool a3), .v (.int .i64 a4)]) = some (.v (.bool true), m') := by
  obtain ⟨a, b, c, d, e, f, g, q, rfl⟩ := nv_is w0
  obtain ⟨a', b', c', d', e', f', g', q', rfl⟩ := nv_is w1
  exact ⟨_, pairTells a b c d e f g q a' b' c' d' e' f' g' q' a4 a2 a3 (i64_in u4)⟩
theorem pairStatesLaw (a0 : Int) (u0 : (Lit.int .i64 a0).wf = true) : ∃ m', runG ΓPx L0 Try.prog Try.f4 (inArgs [.v (.int .i64 a0)] 0) (inMem [.v (.int .i64 a0)]) = some (.v (.bool true), m') := ⟨_, pairStates a0⟩
theorem pairEpsLaw (l0 l1 : List Dat) (a2 a3 : Int) (w0 : WfL ksNv l0) (w1 : WfL ksNv l1) (u2 : (Lit.int .i64 a2).wf = true) (u3 : (Lit.int .i64 a3).wf = true) : ∃ m', runG ΓPx L0 Try.prog Try.f5 (inArgs [.v (.agg (mkEl ksNv l0).toArray), .v (.agg (mkEl ksNv l1).toArray), .v (.int .i64 a2), .v (.int .i64 a3)] 0) (inMem [.v (.agg (mkEl ksNv l0).toArray), .v (.agg (mkEl ksNv l1).toArray), .v (.int .i64 a2), .v (.int .i64 a3)]) = some (.v (.bool true), m') := by
  obtain ⟨a, b, c, d, e, f, g, q, rfl⟩ := nv_is w0
  obtain ⟨a', b', c', d', e', f', g', q', rfl⟩ := nv_is w1
  exact ⟨_, pairEps a b c d e f g q a' b' c' d' e' f' g' q' a2 a3⟩
theorem pairHeightLaw (l0 l1 : List Dat) (w0 : WfL ksNv l0) (w1 : WfL ksNv l1) : ∃ m', runG ΓPx L0 Try.prog Try.f6 (inArgs [.v (.agg (mkEl ksNv l0).toArray), .v (.agg (mkEl ksNv l1).toArray)] 0) (inMem [.v (.agg (mkEl ksNv l0).toArray), .v (.agg (mkEl ksNv l1).toArray)]) = some (.v (.bool true), m') := by
  obtain ⟨a, b, c, d, e, f, g, q, rfl⟩ := nv_is w0
  obtain ⟨a', b', c', d', e', f', g', q', rfl⟩ := nv_is w1
  exact ⟨_, pairHeight a b c d e f g q a' b' c' d' e' f' g' q'⟩
end Go.Proofs.Ytnelbjbphkfkkaa

