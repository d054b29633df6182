/-
  Rows of bytes, as texts. No condition.
-/
import Derived.Test.YtlhgaehjkpjniaaSw
namespace Go.Sx
/-! A row of bytes, as a text. -/
def rowT (B : ByteArray) : List (List Dat) := rowN (bytesL B)
def txt (L : List (List Dat)) : ByteArray := strOfNums (numsOf L)
theorem txt_rowT (B : ByteArray) : txt (rowT B) = B := by
  unfold txt rowT
  rw [nums_rowN]
  apply ByteArray.ext
  apply Array.ext'
  simp [strOfNums, bytesL, Function.comp_def]
theorem rowT_len (B : ByteArray) : (rowT B).length = B.size := by
  unfold rowT
  rw [rowN_len]
  simp [bytesL]
theorem bytesL_app (a b : ByteArray) : bytesL (a ++ b) = bytesL a ++ bytesL b := by simp [bytesL]
theorem bytesL_ext (a : ByteArray) (i j : Nat) : bytesL (a.extract i j) = ((bytesL a).take j).drop i := by
  simp [bytesL, List.drop_take]
theorem rowN_app (a b : List Int) : rowN (a ++ b) = rowN a ++ rowN b := by simp [rowN]
theorem rowN_take (a : List Int) (n : Nat) : rowN (a.take n) = (rowN a).take n := by simp [rowN]
theorem rowN_drop (a : List Int) (n : Nat) : rowN (a.drop n) = (rowN a).drop n := by simp [rowN]
theorem bytesL_len (s : ByteArray) : (bytesL s).length = s.size := by simp [bytesL]
/-- A text with another one laid over it. -/
def putT (B : ByteArray) (k : Nat) (s : ByteArray) : ByteArray := B.extract 0 k ++ s ++ B.extract (k + s.size) B.size
theorem rowT_put (B s : ByteArray) (k : Nat) : (rowT B).take k ++ rowN (bytesL s) ++ (rowT B).drop (k + s.size) = rowT (putT B k s) := by
  unfold rowT putT
  rw [bytesL_app, bytesL_app, rowN_app, rowN_app, bytesL_ext, bytesL_ext, List.drop_zero, rowN_take, rowN_drop, List.take_of_length_le (Nat.le_of_eq (bytesL_len B))]
theorem txt_part (B : ByteArray) (lo n : Nat) : strOfNums (numsOf (((rowT B).drop lo).take n)) = B.extract lo (lo + n) := by
  have : ((rowT B).drop lo).take n = rowT (B.extract lo (lo + n)) := by
    unfold rowT
    rw [bytesL_ext, rowN_drop, rowN_take, List.drop_take]
    congr 1
    omega
  rw [this]
  exact txt_rowT _
theorem putT_size {B s : ByteArray} {k : Nat} (h : k + s.size ≤ B.size) : (putT B k s).size = B.size := by
  unfold putT
  simp only [ByteArray.size_append, ByteArray.size_extract]
  omega
/-- So many bytes of one kind. -/
def manyT (n : Nat) (x : UInt8) : ByteArray := ⟨(List.replicate n x).toArray⟩
theorem manyT_size (n : Nat) (x : UInt8) : (manyT n x).size = n := by simp [manyT, ByteArray.size]
theorem rowT_many (n : Nat) (x : UInt8) : rowT (manyT n x) = List.replicate n [.n (x.toNat : Int)] := by
  simp [rowT, manyT, bytesL, rowN]
end Go.Sx

