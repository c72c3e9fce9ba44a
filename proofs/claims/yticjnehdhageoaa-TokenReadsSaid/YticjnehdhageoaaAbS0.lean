/- Texts as lists of bytes. -/
import Derived.Test.YticjnehdhageoaaAbP
namespace Go.Ab

abbrev B (l : List UInt8) : ByteArray := ⟨⟨l⟩⟩

theorem B_data (s : ByteArray) : B s.data.toList = s := rfl
theorem B_size (l : List UInt8) : (B l).size = l.length := rfl
theorem B_inj {l m : List UInt8} : B l = B m ↔ l = m := by
  constructor
  · intro h
    have := congrArg (fun s : ByteArray => s.data.toList) h
    exact this
  · intro h; rw [h]
theorem B_eq (l m : List UInt8) : decide (B l = B m) = decide (l = m) := by
  rw [Bool.eq_iff_iff]; simp only [decide_eq_true_eq]; exact B_inj
theorem B_append (l m : List UInt8) : B l ++ B m = B (l ++ m) := by
  have h : ∀ a b : ByteArray, a.data.toList = b.data.toList → a = b := fun a b h => (B_inj (l := a.data.toList) (m := b.data.toList)).2 h
  apply h
  rw [ByteArray.data_append]
  simp
theorem B_extract (l : List UInt8) (a b : Nat) : (B l).extract a b = B ((l.take b).drop a) := by
  have h : ∀ a b : ByteArray, a.data.toList = b.data.toList → a = b := fun a b h => (B_inj (l := a.data.toList) (m := b.data.toList)).2 h
  apply h
  rw [ByteArray.data_extract]
  simp [List.drop_take]
theorem byteAt_B (l : List UInt8) (i : Nat) : byteAt (B l) i = ((l.getD i 0).toNat : Int) := rfl
theorem byteAt_cons (a : UInt8) (l : List UInt8) : byteAt (B (a :: l)) 0 = (a.toNat : Int) := rfl
theorem byteAt_cons1 (a b : UInt8) (l : List UInt8) : byteAt (B (a :: b :: l)) 1 = (b.toNat : Int) := rfl
theorem byteAt_succ (a : UInt8) (l : List UInt8) (i : Nat) : byteAt (B (a :: l)) ((i + 1 : Nat) : Int) = byteAt (B l) i := rfl
end Go.Ab
