/- What the reference's reader needs of S6. -/
import Derived.Test.YteidakoieemlgaaGreatDoorTS3toV13
namespace Go.Ab
open Go.Proofs
set_option linter.unusedSectionVars false
variable [Glob]

theorem skipA_blank' (a : UInt8) (l : List UInt8) (p : Int × Int) (h : spaceB (bi a) = true) : skipA (a :: l) p = skipA l (stepP p a) := by
  rw [skipA_blanks a l p h, tw_cons_pos h, posL_cons]
  cases l with
  | nil => rfl
  | cons b r =>
    cases hb : spaceB (bi b) with
    | true => rw [skipA_blanks b r _ hb, dw_cons_pos hb]
    | false => rw [dw_cons_neg hb, tw_cons_neg hb]; rfl

theorem name_first : ∀ n : Fin 256, (firstB (n.val : Int) || decide ((n.val : Int) = 35)) = true → nameB (n.val : Int) = true := by decide +kernel
theorem digit_word : ∀ n : Fin 256, digitB (n.val : Int) = true → wordB (n.val : Int) = true := by decide +kernel

theorem tw_pos {p : Int → Bool} {a : UInt8} {l : List UInt8} (h : p (bi a) = true) : 0 < (tw p (a :: l)).length := by
  rw [tw_cons_pos h]; simp

theorem strL_pos : ∀ (k : Nat) (l : List UInt8) (out : List Int) (n : Nat), (strL k l out n).2.2 = 0 → n < (strL k l out n).2.1 ∧ (strL k l out n).1.kind = 3
  | 0, l, out, n, h => by simp [strL] at h
  | k + 1, [], out, n, h => by simp [strL] at h
  | k + 1, a :: r, out, n, h => by
    simp only [strL] at h ⊢
    split
    · rename_i h1; rw [if_pos h1] at h; simp at h
    · rename_i h1
      rw [if_neg h1] at h
      split
      · exact ⟨Nat.lt_succ_self n, rfl⟩
      · rename_i h2
        rw [if_neg h2] at h
        split
        · rename_i h3
          rw [if_pos h3] at h
          split
          · rename_i h4
            rw [if_pos h4] at h
            have := strL_pos k _ _ _ h
            omega
          · rename_i h4
            rw [if_neg h4] at h
            exact (h4 h).elim
        · rename_i h3
          rw [if_neg h3] at h
          have := strL_pos k _ _ _ h
          omega

/-- A token that is none of the end has a byte at least. -/
theorem cutC_pos (a : UInt8) (r : List UInt8) (h : (cutC a r).2.2 = 0) : 0 < (cutC a r).2.1 ∧ (cutC a r).1.kind ≠ 8 := by
  revert h
  unfold cutC
  split
  · rename_i h1
    have hn : nameB (bi a) = true := by
      refine name_first ⟨a.toNat, a.toNat_lt⟩ ?_
      rw [← h1]
      congr 1
      exact byte_dec a 35
    have := tw_pos (l := r) hn
    intro _
    unfold nameLx
    split
    · split
      · rename_i h2 h3; rename_i h; unfold nameLx at h; rw [if_pos h2, if_pos h3] at h; simp at h
      · exact ⟨Nat.succ_pos _, (by decide : (5 : Int) ≠ 8)⟩
    · exact ⟨this, (by decide : (1 : Int) ≠ 8)⟩
  split
  · rename_i h1
    have := tw_pos (l := r) (p := wordB) (digit_word ⟨a.toNat, a.toNat_lt⟩ h1)
    intro h
    unfold numLx at h ⊢
    split
    · exact ⟨this, (by decide : (2 : Int) ≠ 8)⟩
    · rename_i h2; rw [if_neg h2] at h; exact (h2 h).elim
  split
  · intro h
    have := strL_pos _ _ _ _ h
    exact ⟨by omega, fun h8 => by rw [this.2] at h8; exact absurd h8 (by decide)⟩
  split
  · intro _; exact ⟨Nat.succ_pos _, (by decide : (6 : Int) ≠ 8)⟩
  split
  · rename_i h1; intro _; exact ⟨h1, (by decide : (7 : Int) ≠ 8)⟩
  split
  · rename_i h1; intro _; exact ⟨h1, (by decide : (4 : Int) ≠ 8)⟩
  · intro h; simp at h
end Go.Ab
