/-
  The four laws of flash over values.
-/
import Derived.Test.YtlhgaehjkpjniaaYc
import Derived.Test.YtlhgaehjkpjniaaSx
namespace Go.Proofs.Ytlhgaehjkpjniaa
open Go Go.Proofs Go.Sx
set_option linter.unusedVariables false
/-! norm -/
/-! cast -/
set_option maxRecDepth 40000 in
theorem treeFlashKeeps (a b : ByteArray) (k : Int) : runG ΓFl L0 Try.prog Try.f4 [.v (S a), .v (S b), .v (I k)] M0 = 
    (bif decide (wI ((a.size : Int) + (b.size : Int)) > (200 : Int)) then some (.v (Bo true), M0) else (bif decide (wI ((a.size : Int) + (b.size : Int)) < (1 : Int)) then some (.v (Bo true), M0) else (bif decide ((1 : Int) ≤ wI (wI ((a.size : Int) + (b.size : Int)) + wI ((IntKind.u64.wrap k).tmod (50 : Int))) ∧ wI (wI ((a.size : Int) + (b.size : Int)) + wI ((IntKind.u64.wrap k).tmod (50 : Int))) ≤ (4096 : Int)) then (bif okL (rowT (manyT (wI (wI ((a.size : Int) + (b.size : Int)) + wI ((IntKind.u64.wrap k).tmod (50 : Int)))).toNat (255))) (0 : Int) then (bif wrE (txt (rowT (manyT (wI (wI ((a.size : Int) + (b.size : Int)) + wI ((IntKind.u64.wrap k).tmod (50 : Int)))).toNat (255)))) false false (0 : Int) a != (0 : Int) then some (.v (Bo false), M0) else (bif okL (rowT (wrB (txt (rowT (manyT (wI (wI ((a.size : Int) + (b.size : Int)) + wI ((IntKind.u64.wrap k).tmod (50 : Int)))).toNat (255)))) false false (0 : Int) (0 : Int) a)) (0 : Int) then (bif wrE (txt (rowT (wrB (txt (rowT (manyT (wI (wI ((a.size : Int) + (b.size : Int)) + wI ((IntKind.u64.wrap k).tmod (50 : Int)))).toNat (255)))) false false (0 : Int) (0 : Int) a))) (wrD (txt (rowT (manyT (wI (wI ((a.size : Int) + (b.size : Int)) + wI ((IntKind.u64.wrap k).tmod (50 : Int)))).toNat (255)))) false false (0 : Int) a) (wrW (txt (rowT (manyT (wI (wI ((a.size : Int) + (b.size : Int)) + wI ((IntKind.u64.wrap k).tmod (50 : Int)))).toNat (255)))) false false (0 : Int) a) (wI (((rowT (manyT (wI (wI ((a.size : Int) + (b.size : Int)) + wI ((IntKind.u64.wrap k).tmod (50 : Int)))).toNat (255))).length : Int) - (b.size : Int))) b != (0 : Int) then some (.v (Bo false), M0) else (bif okL (rowT (wrB (txt (rowT (wrB (txt (rowT (manyT (wI (wI ((a.size : Int) + (b.size : Int)) + wI ((IntKind.u64.wrap k).tmod (50 : Int)))).toNat (255)))) false false (0 : Int) (0 : Int) a))) (wrD (txt (rowT (manyT (wI (wI ((a.size : Int) + (b.size : Int)) + wI ((IntKind.u64.wrap k).tmod (50 : Int)))).toNat (255)))) false false (0 : Int) a) (wrW (txt (rowT (manyT (wI (wI ((a.size : Int) + (b.size : Int)) + wI ((IntKind.u64.wrap k).tmod (50 : Int)))).toNat (255)))) false false (0 : Int) a) (0 : Int) (wI (((rowT (manyT (wI (wI ((a.size : Int) + (b.size : Int)) + wI ((IntKind.u64.wrap k).tmod (50 : Int)))).toNat (255))).length : Int) - (b.size : Int))) b)) (0 : Int) then (bif okL (rowT (wrB (txt (rowT (wrB (txt (rowT (manyT (wI (wI ((a.size : Int) + (b.size : Int)) + wI ((IntKind.u64.wrap k).tmod (50 : Int)))).toNat (255)))) false false (0 : Int) (0 : Int) a))) (wrD (txt (rowT (manyT (wI (wI ((a.size : Int) + (b.size : Int)) + wI ((IntKind.u64.wrap k).tmod (50 : Int)))).toNat (255)))) false false (0 : Int) a) (wrW (txt (rowT (manyT (wI (wI ((a.size : Int) + (b.size : Int)) + wI ((IntKind.u64.wrap k).tmod (50 : Int)))).toNat (255)))) false false (0 : Int) a) (0 : Int) (wI (((rowT (manyT (wI (wI ((a.size : Int) + (b.size : Int)) + wI ((IntKind.u64.wrap k).tmod (50 : Int)))).toNat (255))).length : Int) - (b.size : Int))) b)) (0 : Int) then (bif refE (wrD (txt (rowT (wrB (txt (rowT (manyT (wI (wI ((a.size : Int) + (b.size : Int)) + wI ((IntKind.u64.wrap k).tmod (50 : Int)))).toNat (255)))) false false (0 : Int) (0 : Int) a))) (wrD (txt (rowT (manyT (wI (wI ((a.size : Int) + (b.size : Int)) + wI ((IntKind.u64.wrap k).tmod (50 : Int)))).toNat (255)))) false false (0 : Int) a) (wrW (txt (rowT (manyT (wI (wI ((a.size : Int) + (b.size : Int)) + wI ((IntKind.u64.wrap k).tmod (50 : Int)))).toNat (255)))) false false (0 : Int) a) (wI (((rowT (manyT (wI (wI ((a.size : Int) + (b.size : Int)) + wI ((IntKind.u64.wrap k).tmod (50 : Int)))).toNat (255))).length : Int) - (b.size : Int))) b) ((txt (rowT (wrB (txt (rowT (wrB (txt (rowT (manyT (wI (wI ((a.size : Int) + (b.size : Int)) + wI ((IntKind.u64.wrap k).tmod (50 : Int)))).toNat (255)))) false false (0 : Int) (0 : Int) a))) (wrD (txt (rowT (manyT (wI (wI ((a.size : Int) + (b.size : Int)) + wI ((IntKind.u64.wrap k).tmod (50 : Int)))).toNat (255)))) false false (0 : Int) a) (wrW (txt (rowT (manyT (wI (wI ((a.size : Int) + (b.size : Int)) + wI ((IntKind.u64.wrap k).tmod (50 : Int)))).toNat (255)))) false false (0 : Int) a) (0 : Int) (wI (((rowT (manyT (wI (wI ((a.size : Int) + (b.size : Int)) + wI ((IntKind.u64.wrap k).tmod (50 : Int)))).toNat (255))).length : Int) - (b.size : Int))) b))).size : Int) (0 : Int) (a.size : Int) == (0 : Int) then (bif refE (wrD (txt (rowT (wrB (txt (rowT (manyT (wI (wI ((a.size : Int) + (b.size : Int)) + wI ((IntKind.u64.wrap k).tmod (50 : Int)))).toNat (255)))) false false (0 : Int) (0 : Int) a))) (wrD (txt (rowT (manyT (wI (wI ((a.size : Int) + (b.size : Int)) + wI ((IntKind.u64.wrap k).tmod (50 : Int)))).toNat (255)))) false false (0 : Int) a) (wrW (txt (rowT (manyT (wI (wI ((a.size : Int) + (b.size : Int)) + wI ((IntKind.u64.wrap k).tmod (50 : Int)))).toNat (255)))) false false (0 : Int) a) (wI (((rowT (manyT (wI (wI ((a.size : Int) + (b.size : Int)) + wI ((IntKind.u64.wrap k).tmod (50 : Int)))).toNat (255))).length : Int) - (b.size : Int))) b) (((txt (rowT (wrB (txt (rowT (wrB (txt (rowT (manyT (wI (wI ((a.size : Int) + (b.size : Int)) + wI ((IntKind.u64.wrap k).tmod (50 : Int)))).toNat (255)))) false false (0 : Int) (0 : Int) a))) (wrD (txt (rowT (manyT (wI (wI ((a.size : Int) + (b.size : Int)) + wI ((IntKind.u64.wrap k).tmod (50 : Int)))).toNat (255)))) false false (0 : Int) a) (wrW (txt (rowT (manyT (wI (wI ((a.size : Int) + (b.size : Int)) + wI ((IntKind.u64.wrap k).tmod (50 : Int)))).toNat (255)))) false false (0 : Int) a) (0 : Int) (wI (((rowT (manyT (wI (wI ((a.size : Int) + (b.size : Int)) + wI ((IntKind.u64.wrap k).tmod (50 : Int)))).toNat (255))).length : Int) - (b.size : Int))) b))).size : Int)) (wI (((rowT (manyT (wI (wI ((a.size : Int) + (b.size : Int)) + wI ((IntKind.u64.wrap k).tmod (50 : Int)))).toNat (255))).length : Int) - (b.size : Int))) (b.size : Int) == (0 : Int) then (bif (bif refE (wrD (txt (rowT (wrB (txt (rowT (manyT (wI (wI ((a.size : Int) + (b.size : Int)) + wI ((IntKind.u64.wrap k).tmod (50 : Int)))).toNat (255)))) false false (0 : Int) (0 : Int) a))) (wrD (txt (rowT (manyT (wI (wI ((a.size : Int) + (b.size : Int)) + wI ((IntKind.u64.wrap k).tmod (50 : Int)))).toNat (255)))) false false (0 : Int) a) (wrW (txt (rowT (manyT (wI (wI ((a.size : Int) + (b.size : Int)) + wI ((IntKind.u64.wrap k).tmod (50 : Int)))).toNat (255)))) false false (0 : Int) a) (wI (((rowT (manyT (wI (wI ((a.size : Int) + (b.size : Int)) + wI ((IntKind.u64.wrap k).tmod (50 : Int)))).toNat (255))).length : Int) - (b.size : Int))) b) ((txt (rowT (wrB (txt (rowT (wrB (txt (rowT (manyT (wI (wI ((a.size : Int) + (b.size : Int)) + wI ((IntKind.u64.wrap k).tmod (50 : Int)))).toNat (255)))) false false (0 : Int) (0 : Int) a))) (wrD (txt (rowT (manyT (wI (wI ((a.size : Int) + (b.size : Int)) + wI ((IntKind.u64.wrap k).tmod (50 : Int)))).toNat (255)))) false false (0 : Int) a) (wrW (txt (rowT (manyT (wI (wI ((a.size : Int) + (b.size : Int)) + wI ((IntKind.u64.wrap k).tmod (50 : Int)))).toNat (255)))) false false (0 : Int) a) (0 : Int) (wI (((rowT (manyT (wI (wI ((a.size : Int) + (b.size : Int)) + wI ((IntKind.u64.wrap k).tmod (50 : Int)))).toNat (255))).length : Int) - (b.size : Int))) b))).size : Int) (0 : Int) (a.size : Int) != (0 : Int) then { data := #[] : ByteArray } else (txt (rowT (wrB (txt (rowT (wrB (txt (rowT (manyT (wI (wI ((a.size : Int) + (b.size : Int)) + wI ((IntKind.u64.wrap k).tmod (50 : Int)))).toNat (255)))) false false (0 : Int) (0 : Int) a))) (wrD (txt (rowT (manyT (wI (wI ((a.size : Int) + (b.size : Int)) + wI ((IntKind.u64.wrap k).tmod (50 : Int)))).toNat (255)))) false false (0 : Int) a) (wrW (txt (rowT (manyT (wI (wI ((a.size : Int) + (b.size : Int)) + wI ((IntKind.u64.wrap k).tmod (50 : Int)))).toNat (255)))) false false (0 : Int) a) (0 : Int) (wI (((rowT (manyT (wI (wI ((a.size : Int) + (b.size : Int)) + wI ((IntKind.u64.wrap k).tmod (50 : Int)))).toNat (255))).length : Int) - (b.size : Int))) b))).extract (0 : Nat) ((0 : Int) + (a.size : Int)).toNat).toList == a.toList then (bif (bif refE (wrD (txt (rowT (wrB (txt (rowT (manyT (wI (wI ((a.size : Int) + (b.size : Int)) + wI ((IntKind.u64.wrap k).tmod (50 : Int)))).toNat (255)))) false false (0 : Int) (0 : Int) a))) (wrD (txt (rowT (manyT (wI (wI ((a.size : Int) + (b.size : Int)) + wI ((IntKind.u64.wrap k).tmod (50 : Int)))).toNat (255)))) false false (0 : Int) a) (wrW (txt (rowT (manyT (wI (wI ((a.size : Int) + (b.size : Int)) + wI ((IntKind.u64.wrap k).tmod (50 : Int)))).toNat (255)))) false false (0 : Int) a) (wI (((rowT (manyT (wI (wI ((a.size : Int) + (b.size : Int)) + wI ((IntKind.u64.wrap k).tmod (50 : Int)))).toNat (255))).length : Int) - (b.size : Int))) b) (((txt (rowT (wrB (txt (rowT (wrB (txt (rowT (manyT (wI (wI ((a.size : Int) + (b.size : Int)) + wI ((IntKind.u64.wrap k).tmod (50 : Int)))).toNat (255)))) false false (0 : Int) (0 : Int) a))) (wrD (txt (rowT (manyT (wI (wI ((a.size : Int) + (b.size : Int)) + wI ((IntKind.u64.wrap k).tmod (50 : Int)))).toNat (255)))) false false (0 : Int) a) (wrW (txt (rowT (manyT (wI (wI ((a.size : Int) + (b.size : Int)) + wI ((IntKind.u64.wrap k).tmod (50 : Int)))).toNat (255)))) false false (0 : Int) a) (0 : Int) (wI (((rowT (manyT (wI (wI ((a.size : Int) + (b.size : Int)) + wI ((IntKind.u64.wrap k).tmod (50 : Int)))).toNat (255))).length : Int) - (b.size : Int))) b))).size : Int)) (wI (((rowT (manyT (wI (wI ((a.size : Int) + (b.size : Int)) + wI ((IntKind.u64.wrap k).tmod (50 : Int)))).toNat (255))).length : Int) - (b.size : Int))) (b.size : Int) != (0 : Int) then { data := #[] : ByteArray } else (txt (rowT (wrB (txt (rowT (wrB (txt (rowT (manyT (wI (wI ((a.size : Int) + (b.size : Int)) + wI ((IntKind.u64.wrap k).tmod (50 : Int)))).toNat (255)))) false false (0 : Int) (0 : Int) a))) (wrD (txt (rowT (manyT (wI (wI ((a.size : Int) + (b.size : Int)) + wI ((IntKind.u64.wrap k).tmod (50 : Int)))).toNat (255)))) false false (0 : Int) a) (wrW (txt (rowT (manyT (wI (wI ((a.size : Int) + (b.size : Int)) + wI ((IntKind.u64.wrap k).tmod (50 : Int)))).toNat (255)))) false false (0 : Int) a) (0 : Int) (wI (((rowT (manyT (wI (wI ((a.size : Int) + (b.size : Int)) + wI ((IntKind.u64.wrap k).tmod (50 : Int)))).toNat (255))).length : Int) - (b.size : Int))) b))).extract (wI (((rowT (manyT (wI (wI ((a.size : Int) + (b.size : Int)) + wI ((IntKind.u64.wrap k).tmod (50 : Int)))).toNat (255))).length : Int) - (b.size : Int))).toNat (wI (((rowT (manyT (wI (wI ((a.size : Int) + (b.size : Int)) + wI ((IntKind.u64.wrap k).tmod (50 : Int)))).toNat (255))).length : Int) - (b.size : Int)) + (b.size : Int)).toNat).toList == b.toList then some (.v (Bo (wrV (txt (rowT (wrB (txt (rowT (manyT (wI (wI ((a.size : Int) + (b.size : Int)) + wI ((IntKind.u64.wrap k).tmod (50 : Int)))).toNat (255)))) false false (0 : Int) (0 : Int) a))) (1000000 : Int) (wrV (txt (rowT (manyT (wI (wI ((a.size : Int) + (b.size : Int)) + wI ((IntKind.u64.wrap k).tmod (50 : Int)))).toNat (255)))) (1000000 : Int) (0 : Int) false (0 : Int) a) (wrD (txt (rowT (manyT (wI (wI ((a.size : Int) + (b.size : Int)) + wI ((IntKind.u64.wrap k).tmod (50 : Int)))).toNat (255)))) false false (0 : Int) a) (wI (((rowT (manyT (wI (wI ((a.size : Int) + (b.size : Int)) + wI ((IntKind.u64.wrap k).tmod (50 : Int)))).toNat (255))).length : Int) - (b.size : Int))) b == (2 : Int))), M0) else some (.v (Bo false), M0)) else some (.v (Bo false), M0)) else some (.v (Bo false), M0)) else some (.v (Bo false), M0)) else none) else none)) else none)) else none) else none))) := by kernel_rfl
set_option maxRecDepth 40000 in
theorem treeFlashTorn (b s : ByteArray) (k t : Int) : runG ΓFl L0 Try.prog Try.f3 [.v (S b), .v (S s), .v (I k), .v (I t)] M0 = 
    (bif decide ((b.size : Int) < (1 : Int)) then some (.v (Bo true), M0) else (bif decide ((b.size : Int) > (200 : Int)) then some (.v (Bo true), M0) else (bif decide ((s.size : Int) > (b.size : Int)) then some (.v (Bo true), M0) else (bif IntKind.u64.wrap (wI (wI ((b.size : Int) - (s.size : Int)) + (1 : Int))) == (0 : Int) then none else (bif decide ((1 : Int) ≤ (b.size : Int) ∧ (b.size : Int) ≤ (4096 : Int)) then (bif okL (rowT (manyT ((b.size : Int)).toNat (255))) (0 : Int) then (bif wrE (txt (rowT (manyT ((b.size : Int)).toNat (255)))) false false (0 : Int) b != (0 : Int) then some (.v (Bo false), M0) else (bif okL (rowT (wrB (txt (rowT (manyT ((b.size : Int)).toNat (255)))) false false (0 : Int) (0 : Int) b)) (if t > (0 : Int) then t else (0 : Int)) then (bif wrE (txt (rowT (wrB (txt (rowT (manyT ((b.size : Int)).toNat (255)))) false false (0 : Int) (0 : Int) b))) (wrD (txt (rowT (manyT ((b.size : Int)).toNat (255)))) false false (0 : Int) b) true (wI ((IntKind.u64.wrap k).tmod (IntKind.u64.wrap (wI (wI ((b.size : Int) - (s.size : Int)) + (1 : Int)))))) s != (11 : Int) then some (.v (Bo false), M0) else (bif !wrD (txt (rowT (wrB (txt (rowT (manyT ((b.size : Int)).toNat (255)))) false false (0 : Int) (0 : Int) b))) (wrD (txt (rowT (manyT ((b.size : Int)).toNat (255)))) false false (0 : Int) b) true (wI ((IntKind.u64.wrap k).tmod (IntKind.u64.wrap (wI (wI ((b.size : Int) - (s.size : Int)) + (1 : Int)))))) s then some (.v (Bo false), M0) else (bif okL (rowT (wrB (txt (rowT (wrB (txt (rowT (manyT ((b.size : Int)).toNat (255)))) false false (0 : Int) (0 : Int) b))) (wrD (txt (rowT (manyT ((b.size : Int)).toNat (255)))) false false (0 : Int) b) true (if t > (0 : Int) then t else (0 : Int)) (wI ((IntKind.u64.wrap k).tmod (IntKind.u64.wrap (wI (wI ((b.size : Int) - (s.size : Int)) + (1 : Int)))))) s)) (if t > (0 : Int) then t else (0 : Int)) then (bif wrE (txt (rowT (wrB (txt (rowT (wrB (txt (rowT (manyT ((b.size : Int)).toNat (255)))) false false (0 : Int) (0 : Int) b))) (wrD (txt (rowT (manyT ((b.size : Int)).toNat (255)))) false false (0 : Int) b) true (if t > (0 : Int) then t else (0 : Int)) (wI ((IntKind.u64.wrap k).tmod (IntKind.u64.wrap (wI (wI ((b.size : Int) - (s.size : Int)) + (1 : Int)))))) s))) (wrD (txt (rowT (wrB (txt (rowT (manyT ((b.size : Int)).toNat (255)))) false false (0 : Int) (0 : Int) b))) (wrD (txt (rowT (manyT ((b.size : Int)).toNat (255)))) false false (0 : Int) b) true (wI ((IntKind.u64.wrap k).tmod (IntKind.u64.wrap (wI (wI ((b.size : Int) - (s.size : Int)) + (1 : Int)))))) s) (wrW (txt (rowT (wrB (txt (rowT (manyT ((b.size : Int)).toNat (255)))) false false (0 : Int) (0 : Int) b))) (wrD (txt (rowT (manyT ((b.size : Int)).toNat (255)))) false false (0 : Int) b) true (wI ((IntKind.u64.wrap k).tmod (IntKind.u64.wrap (wI (wI ((b.size : Int) - (s.size : Int)) + (1 : Int)))))) s) (0 : Int) { data := #[120] : ByteArray } != (11 : Int) then some (.v (Bo false), M0) else (bif okL (rowT (wrB (txt (rowT (wrB (txt (rowT (wrB (txt (rowT (manyT ((b.size : Int)).toNat (255)))) false false (0 : Int) (0 : Int) b))) (wrD (txt (rowT (manyT ((b.size : Int)).toNat (255)))) false false (0 : Int) b) true (if t > (0 : Int) then t else (0 : Int)) (wI ((IntKind.u64.wrap k).tmod (IntKind.u64.wrap (wI (wI ((b.size : Int) - (s.size : Int)) + (1 : Int)))))) s))) (wrD (txt (rowT (wrB (txt (rowT (manyT ((b.size : Int)).toNat (255)))) false false (0 : Int) (0 : Int) b))) (wrD (txt (rowT (manyT ((b.size : Int)).toNat (255)))) false false (0 : Int) b) true (wI ((IntKind.u64.wrap k).tmod (IntKind.u64.wrap (wI (wI ((b.size : Int) - (s.size : Int)) + (1 : Int)))))) s) (wrW (txt (rowT (wrB (txt (rowT (manyT ((b.size : Int)).toNat (255)))) false false (0 : Int) (0 : Int) b))) (wrD (txt (rowT (manyT ((b.size : Int)).toNat (255)))) false false (0 : Int) b) true (wI ((IntKind.u64.wrap k).tmod (IntKind.u64.wrap (wI (wI ((b.size : Int) - (s.size : Int)) + (1 : Int)))))) s) (if t > (0 : Int) then t else (0 : Int)) (0 : Int) { data := #[120] : ByteArray })) (if t > (0 : Int) then t else (0 : Int)) then (bif refE false ((txt (rowT (wrB (txt (rowT (wrB (txt (rowT (wrB (txt (rowT (manyT ((b.size : Int)).toNat (255)))) false false (0 : Int) (0 : Int) b))) (wrD (txt (rowT (manyT ((b.size : Int)).toNat (255)))) false false (0 : Int) b) true (if t > (0 : Int) then t else (0 : Int)) (wI ((IntKind.u64.wrap k).tmod (IntKind.u64.wrap (wI (wI ((b.size : Int) - (s.size : Int)) + (1 : Int)))))) s))) (wrD (txt (rowT (wrB (txt (rowT (manyT ((b.size : Int)).toNat (255)))) false false (0 : Int) (0 : Int) b))) (wrD (txt (rowT (manyT ((b.size : Int)).toNat (255)))) false false (0 : Int) b) true (wI ((IntKind.u64.wrap k).tmod (IntKind.u64.wrap (wI (wI ((b.size : Int) - (s.size : Int)) + (1 : Int)))))) s) (wrW (txt (rowT (wrB (txt (rowT (manyT ((b.size : Int)).toNat (255)))) false false (0 : Int) (0 : Int) b))) (wrD (txt (rowT (manyT ((b.size : Int)).toNat (255)))) false false (0 : Int) b) true (wI ((IntKind.u64.wrap k).tmod (IntKind.u64.wrap (wI (wI ((b.size : Int) - (s.size : Int)) + (1 : Int)))))) s) (if t > (0 : Int) then t else (0 : Int)) (0 : Int) { data := #[120] : ByteArray }))).size : Int) (0 : Int) (b.size : Int) == (0 : Int) then (bif true && (decide ((0 : Int) ≤ wI ((IntKind.u64.wrap k).tmod (IntKind.u64.wrap (wI (wI ((b.size : Int) - (s.size : Int)) + (1 : Int)))))) && decide (wI ((IntKind.u64.wrap k).tmod (IntKind.u64.wrap (wI (wI ((b.size : Int) - (s.size : Int)) + (1 : Int))))) ≤ (b.size : Int))) then (bif true && (decide ((0 : Int) ≤ if (s.size : Int) < if (0 : Int) > t then (0 : Int) else t then (s.size : Int) else if (0 : Int) > t then (0 : Int) else t) && decide ((if (s.size : Int) < if (0 : Int) > t then (0 : Int) else t then (s.size : Int) else if (0 : Int) > t then (0 : Int) else t) ≤ (s.size : Int))) then (bif ((b.extract (0 : Nat) (wI ((IntKind.u64.wrap k).tmod (IntKind.u64.wrap (wI (wI ((b.size : Int) - (s.size : Int)) + (1 : Int)))))).toNat).size + (s.extract (0 : Nat) (if (s.size : Int) < if (0 : Int) > t then (0 : Int) else t then (s.size : Int) else if (0 : Int) > t then (0 : Int) else t).toNat).size).ble (9223372036854775807) then (bif decide ((0 : Int) ≤ wI (wI ((IntKind.u64.wrap k).tmod (IntKind.u64.wrap (wI (wI ((b.size : Int) - (s.size : Int)) + (1 : Int))))) + if (s.size : Int) < if (0 : Int) > t then (0 : Int) else t then (s.size : Int) else if (0 : Int) > t then (0 : Int) else t)) && (decide (wI (wI ((IntKind.u64.wrap k).tmod (IntKind.u64.wrap (wI (wI ((b.size : Int) - (s.size : Int)) + (1 : Int))))) + if (s.size : Int) < if (0 : Int) > t then (0 : Int) else t then (s.size : Int) else if (0 : Int) > t then (0 : Int) else t) ≤ (b.size : Int)) && decide ((b.size : Int) ≤ (b.size : Int))) then (bif ((b.extract (0 : Nat) (wI ((IntKind.u64.wrap k).tmod (IntKind.u64.wrap (wI (wI ((b.size : Int) - (s.size : Int)) + (1 : Int)))))).toNat ++ s.extract (0 : Nat) (if (s.size : Int) < if (0 : Int) > t then (0 : Int) else t then (s.size : Int) else if (0 : Int) > t then (0 : Int) else t).toNat).size + (b.extract (wI (wI ((IntKind.u64.wrap k).tmod (IntKind.u64.wrap (wI (wI ((b.size : Int) - (s.size : Int)) + (1 : Int))))) + if (s.size : Int) < if (0 : Int) > t then (0 : Int) else t then (s.size : Int) else if (0 : Int) > t then (0 : Int) else t)).toNat ((b.size : Int)).toNat).size).ble (9223372036854775807) then some (.v (Bo ((bif refE false ((txt (rowT (wrB (txt (rowT (wrB (txt (rowT (wrB (txt (rowT (manyT ((b.size : Int)).toNat (255)))) false false (0 : Int) (0 : Int) b))) (wrD (txt (rowT (manyT ((b.size : Int)).toNat (255)))) false false (0 : Int) b) true (if t > (0 : Int) then t else (0 : Int)) (wI ((IntKind.u64.wrap k).tmod (IntKind.u64.wrap (wI (wI ((b.size : Int) - (s.size : Int)) + (1 : Int)))))) s))) (wrD (txt (rowT (wrB (txt (rowT (manyT ((b.size : Int)).toNat (255)))) false false (0 : Int) (0 : Int) b))) (wrD (txt (rowT (manyT ((b.size : Int)).toNat (255)))) false false (0 : Int) b) true (wI ((IntKind.u64.wrap k).tmod (IntKind.u64.wrap (wI (wI ((b.size : Int) - (s.size : Int)) + (1 : Int)))))) s) (wrW (txt (rowT (wrB (txt (rowT (manyT ((b.size : Int)).toNat (255)))) false false (0 : Int) (0 : Int) b))) (wrD (txt (rowT (manyT ((b.size : Int)).toNat (255)))) false false (0 : Int) b) true (wI ((IntKind.u64.wrap k).tmod (IntKind.u64.wrap (wI (wI ((b.size : Int) - (s.size : Int)) + (1 : Int)))))) s) (if t > (0 : Int) then t else (0 : Int)) (0 : Int) { data := #[120] : ByteArray }))).size : Int) (0 : Int) (b.size : Int) != (0 : Int) then { data := #[] : ByteArray } else (txt (rowT (wrB (txt (rowT (wrB (txt (rowT (wrB (txt (rowT (manyT ((b.size : Int)).toNat (255)))) false false (0 : Int) (0 : Int) b))) (wrD (txt (rowT (manyT ((b.size : Int)).toNat (255)))) false false (0 : Int) b) true (if t > (0 : Int) then t else (0 : Int)) (wI ((IntKind.u64.wrap k).tmod (IntKind.u64.wrap (wI (wI ((b.size : Int) - (s.size : Int)) + (1 : Int)))))) s))) (wrD (txt (rowT (wrB (txt (rowT (manyT ((b.size : Int)).toNat (255)))) false false (0 : Int) (0 : Int) b))) (wrD (txt (rowT (manyT ((b.size : Int)).toNat (255)))) false false (0 : Int) b) true (wI ((IntKind.u64.wrap k).tmod (IntKind.u64.wrap (wI (wI ((b.size : Int) - (s.size : Int)) + (1 : Int)))))) s) (wrW (txt (rowT (wrB (txt (rowT (manyT ((b.size : Int)).toNat (255)))) false false (0 : Int) (0 : Int) b))) (wrD (txt (rowT (manyT ((b.size : Int)).toNat (255)))) false false (0 : Int) b) true (wI ((IntKind.u64.wrap k).tmod (IntKind.u64.wrap (wI (wI ((b.size : Int) - (s.size : Int)) + (1 : Int)))))) s) (if t > (0 : Int) then t else (0 : Int)) (0 : Int) { data := #[120] : ByteArray }))).extract (0 : Nat) ((0 : Int) + (b.size : Int)).toNat).toList == (b.extract (0 : Nat) (wI ((IntKind.u64.wrap k).tmod (IntKind.u64.wrap (wI (wI ((b.size : Int) - (s.size : Int)) + (1 : Int)))))).toNat ++ s.extract (0 : Nat) (if (s.size : Int) < if (0 : Int) > t then (0 : Int) else t then (s.size : Int) else if (0 : Int) > t then (0 : Int) else t).toNat ++ b.extract (wI (wI ((IntKind.u64.wrap k).tmod (IntKind.u64.wrap (wI (wI ((b.size : Int) - (s.size : Int)) + (1 : Int))))) + if (s.size : Int) < if (0 : Int) > t then (0 : Int) else t then (s.size : Int) else if (0 : Int) > t then (0 : Int) else t)).toNat ((b.size : Int)).toNat).toList)), M0) else none) else none) else none) else none) else none) else some (.v (Bo false), M0)) else none)) else none))) else none)) else none) else none))))) := by kernel_rfl
set_option maxRecDepth 40000 in
theorem treeFlashTwice (b s : ByteArray) (k t : Int) : runG ΓFl L0 Try.prog Try.f6 [.v (S b), .v (S s), .v (I k), .v (I t)] M0 = 
    (bif decide ((b.size : Int) < (1 : Int)) then some (.v (Bo true), M0) else (bif decide ((b.size : Int) > (200 : Int)) then some (.v (Bo true), M0) else (bif decide ((s.size : Int) > (b.size : Int)) then some (.v (Bo true), M0) else (bif IntKind.u64.wrap (wI (wI ((b.size : Int) - (s.size : Int)) + (1 : Int))) == (0 : Int) then none else (bif decide ((1 : Int) ≤ (b.size : Int) ∧ (b.size : Int) ≤ (4096 : Int)) then (bif decide ((1 : Int) ≤ (b.size : Int) ∧ (b.size : Int) ≤ (4096 : Int)) then (bif okL (rowT (manyT ((b.size : Int)).toNat (255))) (0 : Int) then (bif okL (rowT (manyT ((b.size : Int)).toNat (255))) (0 : Int) then (bif okL (rowT (wrB (txt (rowT (manyT ((b.size : Int)).toNat (255)))) false false (0 : Int) (0 : Int) b)) (if t > (0 : Int) then t else (0 : Int)) then (bif okL (rowT (wrB (txt (rowT (wrB (txt (rowT (manyT ((b.size : Int)).toNat (255)))) false false (0 : Int) (0 : Int) b))) (wrD (txt (rowT (manyT ((b.size : Int)).toNat (255)))) false false (0 : Int) b) true (if t > (0 : Int) then t else (0 : Int)) (wI ((IntKind.u64.wrap k).tmod (IntKind.u64.wrap (wI (wI ((b.size : Int) - (s.size : Int)) + (1 : Int)))))) s)) (if t > (0 : Int) then t else (0 : Int)) then (bif okL (rowT (wrB (txt (rowT (wrB (txt (rowT (wrB (txt (rowT (manyT ((b.size : Int)).toNat (255)))) false false (0 : Int) (0 : Int) b))) (wrD (txt (rowT (manyT ((b.size : Int)).toNat (255)))) false false (0 : Int) b) true (if t > (0 : Int) then t else (0 : Int)) (wI ((IntKind.u64.wrap k).tmod (IntKind.u64.wrap (wI (wI ((b.size : Int) - (s.size : Int)) + (1 : Int)))))) s))) false false (if t > (0 : Int) then t else (0 : Int)) (wI ((IntKind.u64.wrap k).tmod (IntKind.u64.wrap (wI (wI ((b.size : Int) - (s.size : Int)) + (1 : Int)))))) s)) (if t > (0 : Int) then t else (0 : Int)) then (bif okL (rowT (wrB (txt (rowT (manyT ((b.size : Int)).toNat (255)))) false false (0 : Int) (0 : Int) b)) (0 : Int) then (bif okL (rowT (wrB (txt (rowT (wrB (txt (rowT (wrB (txt (rowT (wrB (txt (rowT (manyT ((b.size : Int)).toNat (255)))) false false (0 : Int) (0 : Int) b))) (wrD (txt (rowT (manyT ((b.size : Int)).toNat (255)))) false false (0 : Int) b) true (if t > (0 : Int) then t else (0 : Int)) (wI ((IntKind.u64.wrap k).tmod (IntKind.u64.wrap (wI (wI ((b.size : Int) - (s.size : Int)) + (1 : Int)))))) s))) false false (if t > (0 : Int) then t else (0 : Int)) (wI ((IntKind.u64.wrap k).tmod (IntKind.u64.wrap (wI (wI ((b.size : Int) - (s.size : Int)) + (1 : Int)))))) s))) (wrD (txt (rowT (wrB (txt (rowT (wrB (txt (rowT (manyT ((b.size : Int)).toNat (255)))) false false (0 : Int) (0 : Int) b))) (wrD (txt (rowT (manyT ((b.size : Int)).toNat (255)))) false false (0 : Int) b) true (if t > (0 : Int) then t else (0 : Int)) (wI ((IntKind.u64.wrap k).tmod (IntKind.u64.wrap (wI (wI ((b.size : Int) - (s.size : Int)) + (1 : Int)))))) s))) false false (wI ((IntKind.u64.wrap k).tmod (IntKind.u64.wrap (wI (wI ((b.size : Int) - (s.size : Int)) + (1 : Int)))))) s) (wrW (txt (rowT (wrB (txt (rowT (wrB (txt (rowT (manyT ((b.size : Int)).toNat (255)))) false false (0 : Int) (0 : Int) b))) (wrD (txt (rowT (manyT ((b.size : Int)).toNat (255)))) false false (0 : Int) b) true (if t > (0 : Int) then t else (0 : Int)) (wI ((IntKind.u64.wrap k).tmod (IntKind.u64.wrap (wI (wI ((b.size : Int) - (s.size : Int)) + (1 : Int)))))) s))) false false (wI ((IntKind.u64.wrap k).tmod (IntKind.u64.wrap (wI (wI ((b.size : Int) - (s.size : Int)) + (1 : Int)))))) s) (if t > (0 : Int) then t else (0 : Int)) (wI ((IntKind.u64.wrap k).tmod (IntKind.u64.wrap (wI (wI ((b.size : Int) - (s.size : Int)) + (1 : Int)))))) s)) (if t > (0 : Int) then t else (0 : Int)) then (bif okL (rowT (wrB (txt (rowT (wrB (txt (rowT (manyT ((b.size : Int)).toNat (255)))) false false (0 : Int) (0 : Int) b))) (wrD (txt (rowT (manyT ((b.size : Int)).toNat (255)))) false false (0 : Int) b) (wrW (txt (rowT (manyT ((b.size : Int)).toNat (255)))) false false (0 : Int) b) (0 : Int) (wI ((IntKind.u64.wrap k).tmod (IntKind.u64.wrap (wI (wI ((b.size : Int) - (s.size : Int)) + (1 : Int)))))) s)) (0 : Int) then (bif (bif refE (wrD (txt (rowT (wrB (txt (rowT (wrB (txt (rowT (wrB (txt (rowT (manyT ((b.size : Int)).toNat (255)))) false false (0 : Int) (0 : Int) b))) (wrD (txt (rowT (manyT ((b.size : Int)).toNat (255)))) false false (0 : Int) b) true (if t > (0 : Int) then t else (0 : Int)) (wI ((IntKind.u64.wrap k).tmod (IntKind.u64.wrap (wI (wI ((b.size : Int) - (s.size : Int)) + (1 : Int)))))) s))) false false (if t > (0 : Int) then t else (0 : Int)) (wI ((IntKind.u64.wrap k).tmod (IntKind.u64.wrap (wI (wI ((b.size : Int) - (s.size : Int)) + (1 : Int)))))) s))) (wrD (txt (rowT (wrB (txt (rowT (wrB (txt (rowT (manyT ((b.size : Int)).toNat (255)))) false false (0 : Int) (0 : Int) b))) (wrD (txt (rowT (manyT ((b.size : Int)).toNat (255)))) false false (0 : Int) b) true (if t > (0 : Int) then t else (0 : Int)) (wI ((IntKind.u64.wrap k).tmod (IntKind.u64.wrap (wI (wI ((b.size : Int) - (s.size : Int)) + (1 : Int)))))) s))) false false (wI ((IntKind.u64.wrap k).tmod (IntKind.u64.wrap (wI (wI ((b.size : Int) - (s.size : Int)) + (1 : Int)))))) s) (wrW (txt (rowT (wrB (txt (rowT (wrB (txt (rowT (manyT ((b.size : Int)).toNat (255)))) false false (0 : Int) (0 : Int) b))) (wrD (txt (rowT (manyT ((b.size : Int)).toNat (255)))) false false (0 : Int) b) true (if t > (0 : Int) then t else (0 : Int)) (wI ((IntKind.u64.wrap k).tmod (IntKind.u64.wrap (wI (wI ((b.size : Int) - (s.size : Int)) + (1 : Int)))))) s))) false false (wI ((IntKind.u64.wrap k).tmod (IntKind.u64.wrap (wI (wI ((b.size : Int) - (s.size : Int)) + (1 : Int)))))) s) (wI ((IntKind.u64.wrap k).tmod (IntKind.u64.wrap (wI (wI ((b.size : Int) - (s.size : Int)) + (1 : Int)))))) s) ((txt (rowT (wrB (txt (rowT (wrB (txt (rowT (wrB (txt (rowT (wrB (txt (rowT (manyT ((b.size : Int)).toNat (255)))) false false (0 : Int) (0 : Int) b))) (wrD (txt (rowT (manyT ((b.size : Int)).toNat (255)))) false false (0 : Int) b) true (if t > (0 : Int) then t else (0 : Int)) (wI ((IntKind.u64.wrap k).tmod (IntKind.u64.wrap (wI (wI ((b.size : Int) - (s.size : Int)) + (1 : Int)))))) s))) false false (if t > (0 : Int) then t else (0 : Int)) (wI ((IntKind.u64.wrap k).tmod (IntKind.u64.wrap (wI (wI ((b.size : Int) - (s.size : Int)) + (1 : Int)))))) s))) (wrD (txt (rowT (wrB (txt (rowT (wrB (txt (rowT (manyT ((b.size : Int)).toNat (255)))) false false (0 : Int) (0 : Int) b))) (wrD (txt (rowT (manyT ((b.size : Int)).toNat (255)))) false false (0 : Int) b) true (if t > (0 : Int) then t else (0 : Int)) (wI ((IntKind.u64.wrap k).tmod (IntKind.u64.wrap (wI (wI ((b.size : Int) - (s.size : Int)) + (1 : Int)))))) s))) false false (wI ((IntKind.u64.wrap k).tmod (IntKind.u64.wrap (wI (wI ((b.size : Int) - (s.size : Int)) + (1 : Int)))))) s) (wrW (txt (rowT (wrB (txt (rowT (wrB (txt (rowT (manyT ((b.size : Int)).toNat (255)))) false false (0 : Int) (0 : Int) b))) (wrD (txt (rowT (manyT ((b.size : Int)).toNat (255)))) false false (0 : Int) b) true (if t > (0 : Int) then t else (0 : Int)) (wI ((IntKind.u64.wrap k).tmod (IntKind.u64.wrap (wI (wI ((b.size : Int) - (s.size : Int)) + (1 : Int)))))) s))) false false (wI ((IntKind.u64.wrap k).tmod (IntKind.u64.wrap (wI (wI ((b.size : Int) - (s.size : Int)) + (1 : Int)))))) s) (if t > (0 : Int) then t else (0 : Int)) (wI ((IntKind.u64.wrap k).tmod (IntKind.u64.wrap (wI (wI ((b.size : Int) - (s.size : Int)) + (1 : Int)))))) s))).size : Int) (0 : Int) (b.size : Int) != (0 : Int) then { data := #[] : ByteArray } else (txt (rowT (wrB (txt (rowT (wrB (txt (rowT (wrB (txt (rowT (wrB (txt (rowT (manyT ((b.size : Int)).toNat (255)))) false false (0 : Int) (0 : Int) b))) (wrD (txt (rowT (manyT ((b.size : Int)).toNat (255)))) false false (0 : Int) b) true (if t > (0 : Int) then t else (0 : Int)) (wI ((IntKind.u64.wrap k).tmod (IntKind.u64.wrap (wI (wI ((b.size : Int) - (s.size : Int)) + (1 : Int)))))) s))) false false (if t > (0 : Int) then t else (0 : Int)) (wI ((IntKind.u64.wrap k).tmod (IntKind.u64.wrap (wI (wI ((b.size : Int) - (s.size : Int)) + (1 : Int)))))) s))) (wrD (txt (rowT (wrB (txt (rowT (wrB (txt (rowT (manyT ((b.size : Int)).toNat (255)))) false false (0 : Int) (0 : Int) b))) (wrD (txt (rowT (manyT ((b.size : Int)).toNat (255)))) false false (0 : Int) b) true (if t > (0 : Int) then t else (0 : Int)) (wI ((IntKind.u64.wrap k).tmod (IntKind.u64.wrap (wI (wI ((b.size : Int) - (s.size : Int)) + (1 : Int)))))) s))) false false (wI ((IntKind.u64.wrap k).tmod (IntKind.u64.wrap (wI (wI ((b.size : Int) - (s.size : Int)) + (1 : Int)))))) s) (wrW (txt (rowT (wrB (txt (rowT (wrB (txt (rowT (manyT ((b.size : Int)).toNat (255)))) false false (0 : Int) (0 : Int) b))) (wrD (txt (rowT (manyT ((b.size : Int)).toNat (255)))) false false (0 : Int) b) true (if t > (0 : Int) then t else (0 : Int)) (wI ((IntKind.u64.wrap k).tmod (IntKind.u64.wrap (wI (wI ((b.size : Int) - (s.size : Int)) + (1 : Int)))))) s))) false false (wI ((IntKind.u64.wrap k).tmod (IntKind.u64.wrap (wI (wI ((b.size : Int) - (s.size : Int)) + (1 : Int)))))) s) (if t > (0 : Int) then t else (0 : Int)) (wI ((IntKind.u64.wrap k).tmod (IntKind.u64.wrap (wI (wI ((b.size : Int) - (s.size : Int)) + (1 : Int)))))) s))).extract (0 : Nat) ((0 : Int) + (b.size : Int)).toNat).toList == (bif refE (wrD (txt (rowT (wrB (txt (rowT (manyT ((b.size : Int)).toNat (255)))) false false (0 : Int) (0 : Int) b))) (wrD (txt (rowT (manyT ((b.size : Int)).toNat (255)))) false false (0 : Int) b) (wrW (txt (rowT (manyT ((b.size : Int)).toNat (255)))) false false (0 : Int) b) (wI ((IntKind.u64.wrap k).tmod (IntKind.u64.wrap (wI (wI ((b.size : Int) - (s.size : Int)) + (1 : Int)))))) s) ((txt (rowT (wrB (txt (rowT (wrB (txt (rowT (manyT ((b.size : Int)).toNat (255)))) false false (0 : Int) (0 : Int) b))) (wrD (txt (rowT (manyT ((b.size : Int)).toNat (255)))) false false (0 : Int) b) (wrW (txt (rowT (manyT ((b.size : Int)).toNat (255)))) false false (0 : Int) b) (0 : Int) (wI ((IntKind.u64.wrap k).tmod (IntKind.u64.wrap (wI (wI ((b.size : Int) - (s.size : Int)) + (1 : Int)))))) s))).size : Int) (0 : Int) (b.size : Int) != (0 : Int) then { data := #[] : ByteArray } else (txt (rowT (wrB (txt (rowT (wrB (txt (rowT (manyT ((b.size : Int)).toNat (255)))) false false (0 : Int) (0 : Int) b))) (wrD (txt (rowT (manyT ((b.size : Int)).toNat (255)))) false false (0 : Int) b) (wrW (txt (rowT (manyT ((b.size : Int)).toNat (255)))) false false (0 : Int) b) (0 : Int) (wI ((IntKind.u64.wrap k).tmod (IntKind.u64.wrap (wI (wI ((b.size : Int) - (s.size : Int)) + (1 : Int)))))) s))).extract (0 : Nat) ((0 : Int) + (b.size : Int)).toNat).toList then (bif wrV (txt (rowT (wrB (txt (rowT (wrB (txt (rowT (wrB (txt (rowT (manyT ((b.size : Int)).toNat (255)))) false false (0 : Int) (0 : Int) b))) (wrD (txt (rowT (manyT ((b.size : Int)).toNat (255)))) false false (0 : Int) b) true (if t > (0 : Int) then t else (0 : Int)) (wI ((IntKind.u64.wrap k).tmod (IntKind.u64.wrap (wI (wI ((b.size : Int) - (s.size : Int)) + (1 : Int)))))) s))) false false (if t > (0 : Int) then t else (0 : Int)) (wI ((IntKind.u64.wrap k).tmod (IntKind.u64.wrap (wI (wI ((b.size : Int) - (s.size : Int)) + (1 : Int)))))) s))) (1000000 : Int) (wrV (txt (rowT (wrB (txt (rowT (wrB (txt (rowT (manyT ((b.size : Int)).toNat (255)))) false false (0 : Int) (0 : Int) b))) (wrD (txt (rowT (manyT ((b.size : Int)).toNat (255)))) false false (0 : Int) b) true (if t > (0 : Int) then t else (0 : Int)) (wI ((IntKind.u64.wrap k).tmod (IntKind.u64.wrap (wI (wI ((b.size : Int) - (s.size : Int)) + (1 : Int)))))) s))) (1000000 : Int) (wrV (txt (rowT (wrB (txt (rowT (manyT ((b.size : Int)).toNat (255)))) false false (0 : Int) (0 : Int) b))) (1000000 : Int) (wrV (txt (rowT (manyT ((b.size : Int)).toNat (255)))) (1000000 : Int) (0 : Int) false (0 : Int) b) (wrD (txt (rowT (manyT ((b.size : Int)).toNat (255)))) false false (0 : Int) b) (wI ((IntKind.u64.wrap k).tmod (IntKind.u64.wrap (wI (wI ((b.size : Int) - (s.size : Int)) + (1 : Int)))))) s) false (wI ((IntKind.u64.wrap k).tmod (IntKind.u64.wrap (wI (wI ((b.size : Int) - (s.size : Int)) + (1 : Int)))))) s) (wrD (txt (rowT (wrB (txt (rowT (wrB (txt (rowT (manyT ((b.size : Int)).toNat (255)))) false false (0 : Int) (0 : Int) b))) (wrD (txt (rowT (manyT ((b.size : Int)).toNat (255)))) false false (0 : Int) b) true (if t > (0 : Int) then t else (0 : Int)) (wI ((IntKind.u64.wrap k).tmod (IntKind.u64.wrap (wI (wI ((b.size : Int) - (s.size : Int)) + (1 : Int)))))) s))) false false (wI ((IntKind.u64.wrap k).tmod (IntKind.u64.wrap (wI (wI ((b.size : Int) - (s.size : Int)) + (1 : Int)))))) s) (wI ((IntKind.u64.wrap k).tmod (IntKind.u64.wrap (wI (wI ((b.size : Int) - (s.size : Int)) + (1 : Int)))))) s == (4 : Int) then some (.v (Bo (wrV (txt (rowT (wrB (txt (rowT (manyT ((b.size : Int)).toNat (255)))) false false (0 : Int) (0 : Int) b))) (1000000 : Int) (wrV (txt (rowT (manyT ((b.size : Int)).toNat (255)))) (1000000 : Int) (0 : Int) false (0 : Int) b) (wrD (txt (rowT (manyT ((b.size : Int)).toNat (255)))) false false (0 : Int) b) (wI ((IntKind.u64.wrap k).tmod (IntKind.u64.wrap (wI (wI ((b.size : Int) - (s.size : Int)) + (1 : Int)))))) s == (2 : Int))), M0) else some (.v (Bo false), M0)) else some (.v (Bo false), M0)) else none) else none) else none) else none) else none) else none) else none) else none) else none) else none))))) := by kernel_rfl
end Go.Proofs.Ytlhgaehjkpjniaa

namespace Go.Proofs.Ytlhgaehjkpjniaa
open Go Go.Proofs Go.Sx
set_option linter.unusedVariables false
theorem placeN (n m : Nat) (h : m ≤ n) (hn : n ≤ 200) (k : Int) : ∃ j : Nat, wI ((IntKind.u64.wrap k).tmod (IntKind.u64.wrap (wI (wI ((n : Int) - (m : Int)) + (1 : Int))))) = (j : Int) ∧ j + m ≤ n ∧ (IntKind.u64.wrap (wI (wI ((n : Int) - (m : Int)) + (1 : Int))) == (0 : Int)) = false := by
  rw [wI_id (n := (n : Int) - (m : Int)) (by omega), wI_id (n := (n : Int) - (m : Int) + 1) (by omega), wrU_id (n := (n : Int) - (m : Int) + 1) (by omega), wrU]
  have a0 := Int.emod_nonneg k (show (18446744073709551616 : Int) ≠ 0 by decide)
  rw [Int.tmod_eq_emod_of_nonneg a0]
  have a1 := Int.emod_nonneg (k % 18446744073709551616) (show (n : Int) - (m : Int) + 1 ≠ 0 by omega)
  have a2 := Int.emod_lt_of_pos (k % 18446744073709551616) (show (0 : Int) < (n : Int) - (m : Int) + 1 by omega)
  refine ⟨(k % 18446744073709551616 % ((n : Int) - (m : Int) + 1)).toNat, ?_, by omega, beq_eq_false_iff_ne.2 (by omega)⟩
  rw [wI_id (by omega)]
  omega
theorem wr_free {B s : ByteArray} {k : Int} (hB : B.size ≤ 1000000) (h : 0 ≤ k ∧ k + s.size ≤ B.size) : wrN B false k s = false ∧ refE false (B.size : Int) k (s.size : Int) = 0 := by
  have h0 : refE false (B.size : Int) k (s.size : Int) = 0 := (refE_ok (by omega)).2 ⟨rfl, h.1, by omega, h.2⟩
  exact ⟨by unfold wrN; rw [h0]; rfl, h0⟩
theorem putT_all {B b : ByteArray} (h : B.size = b.size) : putT B 0 b = b := by
  unfold putT
  apply ByteArray.ext
  apply Array.ext'
  simp [h]
theorem wr_plain {B s : ByteArray} {k : Int} (T : Int) (mx v : Int) (hB : B.size ≤ 1000000) (h : 0 ≤ k ∧ k + s.size ≤ B.size) :
    wrE B false false k s = 0 ∧ wrB B false false T k s = putT B k.toNat s ∧ wrD B false false k s = false ∧ wrW B false false k s = false ∧ wrV B mx v false k s = addN' mx v 1 := by
  have e := (wr_free hB h).1
  unfold wrE wrB wrD wrW wrV
  rw [e]
  exact ⟨rfl, rfl, rfl, rfl, rfl⟩
theorem wr_whole {B b : ByteArray} (T : Int) (mx v : Int) (hB : B.size ≤ 1000000) (h : B.size = b.size) :
    wrE B false false 0 b = 0 ∧ wrB B false false T 0 b = b ∧ wrD B false false 0 b = false ∧ wrW B false false 0 b = false ∧ wrV B mx v false 0 b = addN' mx v 1 := by
  have e := wr_plain (k := 0) (s := b) T mx v hB (by omega)
  rw [show (0 : Int).toNat = 0 from rfl, putT_all h] at e
  exact e
theorem wr_torn {B s : ByteArray} {k : Int} (T : Int) (mx v : Int) (hB : B.size ≤ 1000000) (h : 0 ≤ k ∧ k + s.size ≤ B.size) :
    wrE B false true k s = 11 ∧ wrB B false true T k s = putT B k.toNat (tornS true T s) ∧ wrD B false true k s = true ∧ wrW B false true k s = false ∧ wrV B mx v false k s = addN' mx v 1 := by
  have e := (wr_free hB h).1
  unfold wrE wrB wrD wrW wrV
  rw [e]
  exact ⟨rfl, rfl, rfl, rfl, rfl⟩
theorem wr_down (B s : ByteArray) (k : Int) (w : Bool) (T mx v : Int) :
    wrE B true w k s = 11 ∧ wrB B true w T k s = B ∧ wrD B true w k s = true ∧ wrW B true w k s = w ∧ wrV B mx v true k s = v := by
  have e : wrN B true k s = true := rfl
  unfold wrE wrB wrD wrW wrV
  rw [e]
  exact ⟨rfl, rfl, rfl, rfl, rfl⟩
theorem maxS (t : Int) : (if (0 : Int) > t then (0 : Int) else t) = (if t > (0 : Int) then t else (0 : Int)) := by split <;> split <;> omega
theorem flashTorn (b s : ByteArray) (k t : Int) : runG ΓFl L0 Try.prog Try.f3 [.v (S b), .v (S s), .v (I k), .v (I t)] M0 = some (.v (.bool true), M0) := (treeFlashTorn b s k t).trans (by
  by_cases h1 : (b.size : Int) < 1
  · rw [decide_eq_true h1]; rfl
  by_cases h2 : (b.size : Int) > 200
  · rw [decide_eq_false h1, decide_eq_true h2]; rfl
  by_cases h3 : (s.size : Int) > (b.size : Int)
  · rw [decide_eq_false h1, decide_eq_false h2, decide_eq_true h3]; rfl
  obtain ⟨j, e, hj, hz⟩ := placeN b.size s.size (by omega) (by omega) k
  obtain ⟨T, hT, hT0⟩ : ∃ T : Int, (if t > (0 : Int) then t else (0 : Int)) = T ∧ 0 ≤ T := ⟨_, rfl, by split <;> omega⟩
  rw [decide_eq_false h1, decide_eq_false h2, decide_eq_false h3, hz, e]
  simp only [maxS, hT, txt_rowT, Int.toNat_natCast, cond_false]
  have hM : (manyT b.size 255).size = b.size := manyT_size _ _
  obtain ⟨a1, a2, a3, a4, _⟩ := wr_whole (B := manyT b.size 255) (b := b) 0 0 0 (by omega) hM
  obtain ⟨b1, b2, b3, b4, _⟩ := wr_torn (B := b) (s := s) (k := (j : Int)) T 0 0 (by omega) (by omega)
  have ht := tornS_size true hT0 s
  have hP : (putT b (j : Int).toNat (tornS true T s)).size = b.size := putT_size (by omega)
  obtain ⟨c1, c2, c3, c4, _⟩ := wr_down (putT b (j : Int).toNat (tornS true T s)) ⟨#[120]⟩ 0 false T 0 0
  obtain ⟨M, hM'⟩ : ∃ M, putT b (j : Int).toNat (tornS true T s) = M := ⟨_, rfl⟩
  rw [a1, a2, a3, b1, b2, b3, b4, c1, c2, okL_T (by omega) (by omega), okL_T (by omega) hT0, okL_T (by omega) hT0]
  obtain ⟨N, hN⟩ : ∃ N : Nat, (if (s.size : Int) < T then (s.size : Int) else T) = (N : Int) := ⟨(if (s.size : Int) < T then (s.size : Int) else T).toNat, by split <;> omega⟩
  have hNs : N ≤ s.size := by split at hN <;> omega
  have r0 := (wr_free (B := putT b (j : Int).toNat (tornS true T s)) (s := b) (k := 0) (by omega) (by omega)).2
  rw [r0, hN, wI_id (n := (j : Int) + (N : Int)) (by omega), Int.toNat_natCast N]
  have q1 : decide ((1 : Int) ≤ (b.size : Int) ∧ (b.size : Int) ≤ (4096 : Int)) = true := decide_eq_true (by omega)
  have q2 : (decide ((0 : Int) ≤ (j : Int)) && decide ((j : Int) ≤ (b.size : Int))) = true := by simp; omega
  have q3 : (decide ((0 : Int) ≤ (N : Int)) && decide ((N : Int) ≤ (s.size : Int))) = true := by simp; omega
  have q4 : (decide ((0 : Int) ≤ (j : Int) + (N : Int)) && (decide ((j : Int) + (N : Int) ≤ (b.size : Int)) && decide ((b.size : Int) ≤ (b.size : Int)))) = true := by simp; omega
  have q5 : ((b.extract 0 j).size + (s.extract 0 N).size).ble 9223372036854775807 = true := Nat.ble_eq_true_of_le (by rw [ByteArray.size_extract, ByteArray.size_extract]; omega)
  have q6 : ((b.extract 0 j ++ s.extract 0 N).size + (b.extract ((j : Int) + (N : Int)).toNat b.size).size).ble 9223372036854775807 = true := Nat.ble_eq_true_of_le (by rw [ByteArray.size_append, ByteArray.size_extract, ByteArray.size_extract, ByteArray.size_extract]; omega)
  have q7 : (putT b (j : Int).toNat (tornS true T s)).extract 0 ((0 : Int) + (b.size : Int)).toNat = b.extract 0 j ++ s.extract 0 N ++ b.extract ((j : Int) + (N : Int)).toNat b.size := by
    rw [show ((0 : Int) + (b.size : Int)).toNat = (putT b (j : Int).toNat (tornS true T s)).size by omega, ByteArray.extract_zero_size]
    unfold putT tornS
    rw [cond_true, hN, Int.toNat_natCast, Int.toNat_natCast, show ((j : Int) + (N : Int)).toNat = j + (s.extract 0 N).size by rw [ByteArray.size_extract]; omega]
  simp only [q1, q2, q3, q4, q5, q6, q7, Bool.true_and, cond_true, cond_false, bne_self_eq_false, Bool.not_true, beq_self_eq_true]
  rfl)
theorem putL_over {α : Type} (B t s : List α) (j : Nat) (h : t.length ≤ s.length) (hj : j + s.length ≤ B.length) :
    (B.take j ++ t ++ B.drop (j + t.length)).take j ++ s ++ (B.take j ++ t ++ B.drop (j + t.length)).drop (j + s.length) = B.take j ++ s ++ B.drop (j + s.length) := by
  have l1 : (B.take j).length = j := by rw [List.length_take]; omega
  have e1 : (B.take j ++ t ++ B.drop (j + t.length)).take j = B.take j := by
    rw [List.append_assoc, List.take_append_of_le_length (by omega), List.take_of_length_le (by omega)]
  have e2 : (B.take j ++ t ++ B.drop (j + t.length)).drop (j + s.length) = B.drop (j + s.length) := by
    rw [List.drop_append, List.drop_of_length_le (by rw [List.length_append]; omega), List.nil_append, List.drop_drop, List.length_append, l1]
    congr 1
    omega
  rw [e1, e2]
theorem putT_list (B s : ByteArray) (j : Nat) : (putT B j s).data.toList = B.data.toList.take j ++ s.data.toList ++ B.data.toList.drop (j + s.data.toList.length) := by
  unfold putT
  have e : B.data.toList.length = B.size := rfl
  have e' : s.data.toList.length = s.size := rfl
  simp only [ByteArray.data_append, ByteArray.data_extract, Array.toList_append, Array.toList_extract, List.extract_eq_take_drop, Nat.sub_zero, List.drop_zero]
  rw [e', List.take_of_length_le (l := B.data.toList.drop (j + s.size)) (by rw [List.length_drop]; omega)]
theorem putT_over {B t s : ByteArray} {j : Nat} (h : t.size ≤ s.size) (hj : j + s.size ≤ B.size) : putT (putT B j t) j s = putT B j s := by
  apply ByteArray.ext
  apply Array.ext'
  rw [putT_list, putT_list, putT_list]
  exact putL_over _ _ _ _ h hj
theorem flashTwice (b s : ByteArray) (k t : Int) : runG ΓFl L0 Try.prog Try.f6 [.v (S b), .v (S s), .v (I k), .v (I t)] M0 = some (.v (.bool true), M0) := (treeFlashTwice b s k t).trans (by
  by_cases h1 : (b.size : Int) < 1
  · rw [decide_eq_true h1]; rfl
  by_cases h2 : (b.size : Int) > 200
  · rw [decide_eq_false h1, decide_eq_true h2]; rfl
  by_cases h3 : (s.size : Int) > (b.size : Int)
  · rw [decide_eq_false h1, decide_eq_false h2, decide_eq_true h3]; rfl
  obtain ⟨j, e, hj, hz⟩ := placeN b.size s.size (by omega) (by omega) k
  obtain ⟨T, hT, hT0⟩ : ∃ T : Int, (if t > (0 : Int) then t else (0 : Int)) = T ∧ 0 ≤ T := ⟨_, rfl, by split <;> omega⟩
  rw [decide_eq_false h1, decide_eq_false h2, decide_eq_false h3, hz, e]
  simp only [hT, txt_rowT, Int.toNat_natCast, cond_false]
  have hM : (manyT b.size 255).size = b.size := manyT_size _ _
  obtain ⟨a1, a2, a3, a4, a5⟩ := wr_whole (B := manyT b.size 255) (b := b) 0 1000000 0 (by omega) hM
  have a6 : addN' 1000000 0 1 = 1 := by decide
  have a7 : addN' 1000000 1 1 = 2 := by decide
  have a8 : addN' 1000000 2 1 = 3 := by decide
  have a9 : addN' 1000000 3 1 = 4 := by decide
  obtain ⟨b1, b2, b3, b4, b5⟩ := wr_torn (B := b) (s := s) (k := (j : Int)) T 1000000 1 (by omega) (by omega)
  have ht := tornS_size true hT0 s
  have hP : (putT b j (tornS true T s)).size = b.size := putT_size (by omega)
  have hQ : (putT b j s).size = b.size := putT_size (by omega)
  have hO : putT (putT b j (tornS true T s)) j s = putT b j s := putT_over ht hj
  have hO2 : putT (putT b j s) j s = putT b j s := putT_over (Nat.le_refl _) hj
  obtain ⟨c1, c2, c3, c4, c5⟩ := wr_plain (B := putT b j (tornS true T s)) (s := s) (k := (j : Int)) T 1000000 2 (by omega) (by omega)
  obtain ⟨d1, d2, d3, d4, d5⟩ := wr_plain (B := putT b j s) (s := s) (k := (j : Int)) T 1000000 3 (by omega) (by omega)
  obtain ⟨f1, f2, f3, f4, _⟩ := wr_plain (B := b) (s := s) (k := (j : Int)) 0 1000000 1 (by omega) (by omega)
  rw [Int.toNat_natCast] at b2 c2 d2 f2
  rw [hO] at c2
  rw [hO2] at d2
  have r0 := (wr_free (B := putT b j s) (s := b) (k := 0) (by omega) (by omega)).2
  have q1 : decide ((1 : Int) ≤ (b.size : Int) ∧ (b.size : Int) ≤ (4096 : Int)) = true := decide_eq_true (by omega)
  have o1 := okL_T (B := manyT b.size 255) (lets := 0) (by omega) (by omega)
  have o2 := okL_T (B := b) (lets := T) (by omega) hT0
  have o3 := okL_T (B := b) (lets := 0) (by omega) (by omega)
  have o4 := okL_T (B := putT b j (tornS true T s)) (lets := T) (by omega) hT0
  have o5 := okL_T (B := putT b j s) (lets := T) (by omega) hT0
  have o6 := okL_T (B := putT b j s) (lets := 0) (by omega) (by omega)
  simp only [a2, a3, a4, a5, a6, a7, a8, a9, b2, b5, c2, c3, c4, c5, d2, d3, d5, f2, f3, r0, q1, o1, o2, o3, o4, o5, o6, cond_true, cond_false, bne_self_eq_false, beq_self_eq_true]
  rfl)
theorem flashKeeps (a b : ByteArray) (k : Int) (na : a.size ≤ 281474976710656) (nb : b.size ≤ 281474976710656) : runG ΓFl L0 Try.prog Try.f4 [.v (S a), .v (S b), .v (I k)] M0 = some (.v (.bool true), M0) := (treeFlashKeeps a b k).trans (by
  rw [wI_id (n := (a.size : Int) + (b.size : Int)) (by omega)]
  by_cases h1 : (a.size : Int) + (b.size : Int) > 200
  · rw [decide_eq_true h1]; rfl
  by_cases h2 : (a.size : Int) + (b.size : Int) < 1
  · rw [decide_eq_false h1, decide_eq_true h2]; rfl
  rw [decide_eq_false h1, decide_eq_false h2]
  obtain ⟨N, hN, hN1, hN2⟩ : ∃ N : Nat, wI ((a.size : Int) + (b.size : Int) + wI ((IntKind.u64.wrap k).tmod (50 : Int))) = (N : Int) ∧ a.size + b.size ≤ N ∧ N < 250 := by
    rw [wrU]
    have a0 := Int.emod_nonneg k (show (18446744073709551616 : Int) ≠ 0 by decide)
    rw [Int.tmod_eq_emod_of_nonneg a0]
    have a1 := Int.emod_nonneg (k % 18446744073709551616) (show (50 : Int) ≠ 0 by omega)
    have a2 := Int.emod_lt_of_pos (k % 18446744073709551616) (show (0 : Int) < 50 by omega)
    rw [wI_id (n := k % 18446744073709551616 % 50) (by omega), wI_id (by omega)]
    exact ⟨((a.size : Int) + (b.size : Int) + k % 18446744073709551616 % 50).toNat, by omega, by omega, by omega⟩
  simp only [hN, txt_rowT, rowT_len, Int.toNat_natCast, cond_false, manyT_size]
  rw [wI_id (n := (N : Int) - (b.size : Int)) (by omega)]
  have hM : (manyT N 255).size = N := manyT_size _ _
  obtain ⟨a1, a2, a3, a4, a5⟩ := wr_plain (B := manyT N 255) (s := a) (k := 0) 0 1000000 0 (by omega) (by omega)
  have hP : (putT (manyT N 255) 0 a).size = N := by rw [putT_size (by omega), hM]
  rw [show (0 : Int).toNat = 0 from rfl] at a2
  obtain ⟨b1, b2, b3, b4, b5⟩ := wr_plain (B := putT (manyT N 255) 0 a) (s := b) (k := (N : Int) - (b.size : Int)) 0 1000000 1 (by omega) (by omega)
  rw [show ((N : Int) - (b.size : Int)).toNat = N - b.size by omega] at b2
  have hQ : (putT (putT (manyT N 255) 0 a) (N - b.size) b).size = N := by rw [putT_size (by omega), hP]
  have r0 := (wr_free (B := putT (putT (manyT N 255) 0 a) (N - b.size) b) (s := a) (k := 0) (by omega) (by omega)).2
  have r1 := (wr_free (B := putT (putT (manyT N 255) 0 a) (N - b.size) b) (s := b) (k := (N : Int) - (b.size : Int)) (by omega) (by omega)).2
  have q1 : decide ((1 : Int) ≤ (N : Int) ∧ (N : Int) ≤ (4096 : Int)) = true := decide_eq_true (by omega)
  have a6 : addN' 1000000 0 1 = 1 := by decide
  have a7 : addN' 1000000 1 1 = 2 := by decide
  have o1 := okL_T (B := manyT N 255) (lets := 0) (by omega) (by omega)
  have o2 := okL_T (B := putT (manyT N 255) 0 a) (lets := 0) (by omega) (by omega)
  have o3 := okL_T (B := putT (putT (manyT N 255) 0 a) (N - b.size) b) (lets := 0) (by omega) (by omega)
  have x1 : (putT (putT (manyT N 255) 0 a) (N - b.size) b).extract 0 ((0 : Int) + (a.size : Int)).toNat = a := by
    apply ByteArray.ext
    apply Array.ext'
    rw [ByteArray.data_extract, Array.toList_extract, List.extract_eq_take_drop, putT_list, putT_list]
    have l1 : (manyT N 255).data.toList.length = N := hM
    have l2 : a.data.toList.length = a.size := rfl
    have l3 : b.data.toList.length = b.size := rfl
    rw [show ((0 : Int) + (a.size : Int)).toNat - 0 = a.data.toList.length by omega, List.drop_zero, List.take_zero, List.nil_append, List.append_assoc, List.take_append_of_le_length (by rw [List.length_take, List.length_append, List.length_drop]; omega), List.take_take, Nat.min_eq_left (by omega), List.take_left]
  have x2 : (putT (putT (manyT N 255) 0 a) (N - b.size) b).extract ((N : Int) - (b.size : Int)).toNat ((N : Int) - (b.size : Int) + (b.size : Int)).toNat = b := by
    apply ByteArray.ext
    apply Array.ext'
    rw [ByteArray.data_extract, Array.toList_extract, List.extract_eq_take_drop, putT_list]
    have l1 : (putT (manyT N 255) 0 a).data.toList.length = N := hP
    have l3 : b.data.toList.length = b.size := rfl
    have l4 : ((putT (manyT N 255) 0 a).data.toList.take (N - b.size)).length = N - b.size := by rw [List.length_take]; omega
    rw [show ((N : Int) - (b.size : Int) + (b.size : Int)).toNat - ((N : Int) - (b.size : Int)).toNat = b.data.toList.length by omega, show ((N : Int) - (b.size : Int)).toNat = N - b.size by omega, List.append_assoc, List.drop_append, List.drop_of_length_le (by omega), l4, Nat.sub_self, List.drop_zero, List.nil_append, List.take_left]
  simp only [a1, a2, a3, a4, a5, a6, a7, b1, b2, b3, b5, r0, r1, q1, o1, o2, o3, x1, x2, cond_true, cond_false, bne_self_eq_false, beq_self_eq_true]
  rfl)
end Go.Proofs.Ytlhgaehjkpjniaa

namespace Go.Proofs.Ytlhgaehjkpjniaa
open Go Go.Proofs Go.Sx
set_option linter.unusedVariables false
/-! norm -/
/-! cast -/
def OM (a b c : Int) (s : ByteArray) (mark : Bool) : Mem := ⟨[], [], [.live ⟨36, [.num .i64, .num .i64, .num .i64, .str], [[.n a, .n b, .n c, .s s]], true, mark⟩]⟩
noncomputable def bdFw : Code := loopAt (Try.f26.body.getD .skip) 0
def kFw : List Bool := maskOf 19 [0, 5, 6, 7]
def xFw (e : Ex) : List Bool := match e with
  | .exit _ => maskOf 19 [0]
  | _ => maskOf 19 [2]
def KFw (e : Ex) (st : St) : Option (Ex × St) := some (e, cutC 0 1 (xFw e) st)
def HFw (a b c : Int) (s : ByteArray) (mark : Bool) : St := mk kFw [.row 0, .row 0, .v (I 1), .v (I 0)] (OM a b c s mark)
def RFw (a b c : Int) (s : ByteArray) (mark : Bool) : St := mk (maskOf 19 [2]) [.v (Bo false)] (OM a b c s mark)
def EFw (a b c : Int) (s : ByteArray) (mark : Bool) : St := mk (maskOf 19 [0]) [.row 0] (OM a b c s mark)
theorem loopsFw : loopsOf (Try.f26.body.getD .skip) = [bdFw] := by kernel_rfl
theorem loopsFw0 : loopsOf bdFw = [] := by kernel_rfl
theorem stepFw (a b c : Int) (s : ByteArray) (mark : Bool) : evLoop ΓFl Try.prog L0 (cutC 0 1 kFw) bdFw 2 (HFw a b c s mark) KFw = bif decide ((s.size : Int) > (200 : Int)) then some (.ret, RFw a b c s mark) else some (.exit 0, EFw a b c s mark) := by kernel_rfl
def GFw (long : Bool) (vals : List SV) (m : Mem) : Option (Bool × Ex × St) :=
  match vals, m with
  | [.row 0, .row 0, .v (.int .i64 1), .v (.int .i64 0)], ⟨[], [], [.live ⟨36, [.num .i64, .num .i64, .num .i64, .str], [[.n a, .n b, .n c, .s s]], true, mark⟩]⟩ => bif long then some (decide ((s.size : Int) > (200 : Int)), .ret, RFw a b c s mark) else some (!decide ((s.size : Int) > (200 : Int)), .exit 0, EFw a b c s mark)
  | _, _ => none
noncomputable def ΛFw (long : Bool) : LoopOrc := fun _ st => viaC 0 1 kFw (GFw long) st
theorem loopOkFw (long : Bool) (z : Base) (z1 : z.L.length = 0) (z2 : z.U.length = 1) : LoopOk (ΛFw long) Try.prog z bdFw := by
  refine loop_okC (Λ := L0) (kx := xFw) OkFl mixed z1 z2 (fun b hb => by rw [loopsFw0] at hb; cases hb) (G := GFw long) (fun _ => rfl) ?_
  intro vals m e st' h
  unfold GFw at h
  split at h
  · rename_i a b c s mark
    refine ⟨2, (stepFw a b c s mark).trans ?_⟩
    cases long
    · simp only [cond_false] at h
      obtain ⟨h1, rfl, rfl⟩ := some_t2 h
      rw [Bool.not_eq_true'] at h1
      rw [h1]
      rfl
    · simp only [cond_true] at h
      obtain ⟨h1, rfl, rfl⟩ := some_t2 h
      rw [h1]
      rfl
  · cases h
theorem runFw1 (a b c : Int) (s : ByteArray) (mark : Bool) : runG ΓFl (ΛFw true) Try.prog Try.f26 [.row 0] (OM a b c s mark) = bif decide ((s.size : Int) > (200 : Int)) then some (.v (Bo false), OM a b c s mark) else none := by kernel_rfl
theorem runFw2 (a b c : Int) (s : ByteArray) (mark : Bool) : runG ΓFl (ΛFw false) Try.prog Try.f26 [.row 0] (OM a b c s mark) = bif !decide ((s.size : Int) > (200 : Int)) then some (.v (Bo true), OM a b c s mark) else none := by kernel_rfl
def gFw (xs : List SV) (m : Mem) : Option (Bool × Value) :=
  match xs, m with
  | [.row 0], ⟨[], [], [.live ⟨36, [.num .i64, .num .i64, .num .i64, .str], [[.n a, .n b, .n c, .s s]], true, mark⟩]⟩ => some (true, Bo (!decide ((s.size : Int) > (200 : Int))))
  | _, _ => none
theorem gFw_ok : ∀ xs m r, gFw xs m = some (true, r) → CallOk Try.prog 26 xs m (.v r) m := by
  intro xs m r h
  unfold gFw at h
  split at h
  · rename_i a b c s mark
    obtain ⟨_, rfl⟩ := some_t h
    cases hd : decide ((s.size : Int) > (200 : Int))
    · refine runOk (Λ := ΛFw false) OkFl Try.func26 rfl (fun z h1 h2 => oneLoop (c := Try.f26.body.getD .skip) loopsFw (loopOkFw false z h1 h2)) ?_
      exact (runFw2 a b c s mark).trans (by rw [hd]; rfl)
    · refine runOk (Λ := ΛFw true) OkFl Try.func26 rfl (fun z h1 h2 => oneLoop (c := Try.f26.body.getD .skip) loopsFw (loopOkFw true z h1 h2)) ?_
      exact (runFw1 a b c s mark).trans (by rw [hd]; rfl)
  · cases h
noncomputable def ΓFm : Orc := addRd 26 gFw ΓFl
theorem OkFm : ΓFm.Ok Try.prog := addRd_ok OkFl gFw_ok
set_option maxRecDepth 40000 in
theorem treeFlashNil (a b c : Int) (s : ByteArray) : runG ΓFm L0 Try.prog Try.f5 [.v (.agg #[I a, I b, I c, S s])] M0 = 
    (bif !!decide ((s.size : Int) > (200 : Int)) then some (.v (Bo true), M0) else some (.v (Bo true), M0)) := by kernel_rfl
end Go.Proofs.Ytlhgaehjkpjniaa

namespace Go.Proofs.Ytlhgaehjkpjniaa
open Go Go.Proofs Go.Sx
set_option linter.unusedVariables false
abbrev ksOp : List CK := [.num .i64, .num .i64, .num .i64, .str]
theorem op_is {l : List Dat} (h : WfL ksOp l) : ∃ a b c s, l = [.n a, .n b, .n c, .s s] := by
  match l, h with
  | [.n a, .n b, .n c, .s s], _ => exact ⟨a, b, c, s, rfl⟩
theorem flashTornLaw (z0 z1 : ByteArray) (a2 a3 : Int) (n0 : z0.size ≤ 281474976710656) (n1 : z1.size ≤ 281474976710656) (u2 : (Lit.int .i64 a2).wf = true) (u3 : (Lit.int .i64 a3).wf = true) : ∃ m', runG ΓFl L0 Try.prog Try.f3 (inArgs [.v (.string z0), .v (.string z1), .v (.int .i64 a2), .v (.int .i64 a3)] 0) (inMem [.v (.string z0), .v (.string z1), .v (.int .i64 a2), .v (.int .i64 a3)]) = some (.v (.bool true), m') := ⟨_, flashTorn z0 z1 a2 a3⟩
theorem flashTwiceLaw (z0 z1 : ByteArray) (a2 a3 : Int) (n0 : z0.size ≤ 281474976710656) (n1 : z1.size ≤ 281474976710656) (u2 : (Lit.int .i64 a2).wf = true) (u3 : (Lit.int .i64 a3).wf = true) : ∃ m', runG ΓFl L0 Try.prog Try.f6 (inArgs [.v (.string z0), .v (.string z1), .v (.int .i64 a2), .v (.int .i64 a3)] 0) (inMem [.v (.string z0), .v (.string z1), .v (.int .i64 a2), .v (.int .i64 a3)]) = some (.v (.bool true), m') := ⟨_, flashTwice z0 z1 a2 a3⟩
theorem flashKeepsLaw (z0 z1 : ByteArray) (a2 : Int) (n0 : z0.size ≤ 281474976710656) (n1 : z1.size ≤ 281474976710656) (u2 : (Lit.int .i64 a2).wf = true) : ∃ m', runG ΓFl L0 Try.prog Try.f4 (inArgs [.v (.string z0), .v (.string z1), .v (.int .i64 a2)] 0) (inMem [.v (.string z0), .v (.string z1), .v (.int .i64 a2)]) = some (.v (.bool true), m') := ⟨_, flashKeeps z0 z1 a2 n0 n1⟩
theorem flashNilLaw (l0 : List Dat) (w0 : WfL ksOp l0) : ∃ m', runG ΓFm L0 Try.prog Try.f5 (inArgs [.v (.agg (mkEl ksOp l0).toArray)] 0) (inMem [.v (.agg (mkEl ksOp l0).toArray)]) = some (.v (.bool true), m') := by
  obtain ⟨a, b, c, s, rfl⟩ := op_is w0
  exact ⟨_, (treeFlashNil a b c s).trans (by cases decide ((s.size : Int) > (200 : Int)) <;> rfl)⟩
end Go.Proofs.Ytlhgaehjkpjniaa

