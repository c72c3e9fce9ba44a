/- The reference of package token: Read. -/
import Derived.Test.YticjnehdhageoaaAbR21
namespace Go.Ab
open Go.Proofs
set_option linter.unusedSectionVars false
set_option maxRecDepth 100000
variable [Glob]

theorem skipL_suffix : ∀ (k : Nat) (l : List UInt8) (p : Int × Int), ∃ m, m ≤ l.length ∧ (skipL k l p).2.1 = l.drop m ∧ (skipL k l p).2.2 = posL (l.take m) p
  | 0, l, p => ⟨0, Nat.zero_le _, rfl, rfl⟩
  | k + 1, l, p => by
    simp only [skipL]
    split
    · exact ⟨0, Nat.zero_le _, rfl, rfl⟩
    · obtain ⟨m, h1, h2, h3⟩ := skipL_suffix k (l.drop (sepL l).1) (posL (l.take (sepL l).1) p)
      have hle := sepL_le l
      rw [List.length_drop] at h1
      refine ⟨(sepL l).1 + m, by omega, ?_, ?_⟩
      · rw [h2, List.drop_drop]
      · rw [h3, List.take_add, posL_append]

theorem skipA_suffix (l : List UInt8) (p : Int × Int) : ∃ m, m ≤ l.length ∧ (skipA l p).2.1 = l.drop m ∧ (skipA l p).2.2 = posL (l.take m) p := skipL_suffix _ l p

theorem skipR_eq (l : List UInt8) (i : Nat) (x y : Int) (hi : i ≤ l.length) : ∃ m, i + m ≤ l.length ∧ (skipA (l.drop i) (x, y)).2.1 = l.drop (i + m) ∧ (skipA (l.drop i) (x, y)).2.2 = posL ((l.drop i).take m) (x, y) ∧
    skipR ⟨B l, (i : Int), x, y⟩ = ((skipA (l.drop i) (x, y)).1, ⟨B l, ((i + m : Nat) : Int), (posL ((l.drop i).take m) (x, y)).1, (posL ((l.drop i).take m) (x, y)).2⟩) := by
  obtain ⟨m, h1, h2, h3⟩ := skipA_suffix (l.drop i) (x, y)
  rw [List.length_drop] at h1
  rw [List.drop_drop] at h2
  refine ⟨m, by omega, h2, h3, ?_⟩
  show ((skipA (l.drop i) (x, y)).1, RdV.mk (B l) (((B l).size : Int) - ((skipA (l.drop i) (x, y)).2.1.length : Nat)) (skipA (l.drop i) (x, y)).2.2.1 (skipA (l.drop i) (x, y)).2.2.2) = _
  rw [h2, h3, List.length_drop, B_size, show ((l.length : Nat) : Int) - ((l.length - (i + m) : Nat) : Int) = ((i + m : Nat) : Int) by omega]

theorem first_or (b : UInt8) : (letterB (bi b) || decide (bi b = 95) || decide (bi b = 35)) = (firstB (bi b) || decide (b = 35)) := by
  have h : decide (bi b = 35) = decide (b = 35) := byte_dec b 35
  rw [h]; rfl

theorem slash_word (b : UInt8) (q : List UInt8) (hb : b = 47) : wordL (b :: q) = slashR q := by
  unfold wordL slashR
  subst hb
  simp

theorem strL_shape : ∀ (k : Nat) (l : List UInt8) (out : List Int) (n : Nat), (strL k l out n).2.2 = 0 → ({ kind := 3, text := (strL k l out n).1.text } : TokV) = (strL k l out n).1
  | 0, l, out, n, h => absurd h (by simp only [strL]; decide)
  | k + 1, l, out, n, h => by
    simp only [strL] at h ⊢
    split at h
    · exact absurd h (by decide)
    · rename_i a r
      split at h
      · exact absurd h (by decide)
      · rename_i h1
        rw [if_neg h1]
        split at h
        · rename_i h2; rw [if_pos h2]
        · rename_i h2
          rw [if_neg h2]
          split at h
          · rename_i h3
            rw [if_pos h3]
            split at h
            · rename_i h4; rw [if_pos h4]; exact strL_shape k _ _ _ h
            · rename_i h4; exact absurd h h4
          · rename_i h3; rw [if_neg h3]; exact strL_shape k _ _ _ h

/-- Where the program's token is without an error, the reference's is the same; the errors are the same. -/
theorem next_cut (b : UInt8) (q : List UInt8) : (nextR b q).2.2 = (cutC b q).2.2 ∧ ((cutC b q).2.2 = 0 → nextR b q = ((cutC b q).1, ((cutC b q).2.1 : Int), 0)) := by
  unfold nextR cutC
  rw [first_or]
  by_cases h1 : (firstB (bi b) || decide (b = 35)) = true
  · rw [if_pos h1, if_pos h1]
    unfold nameR nameLx
    split
    · split
      · exact ⟨rfl, fun h => absurd h (by decide)⟩
      · exact ⟨rfl, fun _ => by simp only [Int.natCast_add]; rfl⟩
    · exact ⟨rfl, fun _ => rfl⟩
  rw [if_neg h1, if_neg h1]
  by_cases h2 : digitB (bi b) = true
  · rw [if_pos h2, if_pos h2]
    unfold numLx numR
    split
    · rename_i h3
      exact ⟨h3, fun _ => by rw [h3]⟩
    · rename_i h3
      exact ⟨rfl, fun h => absurd h h3⟩
  rw [if_neg h2, if_neg h2]
  have e34 : (bi b = 34) = (b = 34) := byte_iff b 34
  by_cases h3 : b = 34
  · rw [if_pos (e34 ▸ h3), if_pos h3]
    refine ⟨rfl, fun h => ?_⟩
    have hs := strL_shape (q.length + 1) q [] 1 h
    rw [h]
    generalize strL (q.length + 1) q [] 1 = z at hs
    rw [← hs]
  rw [if_neg (fun h => h3 (e34 ▸ h)), if_neg h3]
  by_cases h4 : refH b q = true
  · rw [if_pos h4, if_pos h4]
    exact ⟨rfl, fun _ => by simp only [Int.natCast_add]; rfl⟩
  rw [if_neg h4, if_neg h4]
  have e47 : (bi b = 47) = (b = 47) := byte_iff b 47
  by_cases h5 : 0 < wordL (b :: q)
  · have hb : b = 47 := by
      unfold wordL at h5
      split at h5
      · rename_i h6; simpa using h6.1
      · omega
    have hw := slash_word b q hb
    rw [if_pos ⟨e47 ▸ hb, by omega⟩, if_pos h5, hw]
    exact ⟨rfl, fun _ => rfl⟩
  rw [if_neg (fun h => h5 (by rw [slash_word b q (e47 ▸ h.1)]; exact h.2)), if_neg h5]
  unfold signL
  by_cases h6 : twoH b q = true
  · rw [if_pos h6, if_pos h6, if_pos (by decide)]
    exact ⟨rfl, fun _ => rfl⟩
  rw [if_neg h6, if_neg h6]
  by_cases h7 : oneP b = true
  · rw [if_pos h7, if_pos h7, if_pos (by decide)]
    exact ⟨rfl, fun _ => rfl⟩
  rw [if_neg h7, if_neg h7, if_neg (by decide)]
  exact ⟨rfl, fun h => absurd h (by decide)⟩
end Go.Ab
