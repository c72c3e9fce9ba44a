/- Package token: Read. -/
import Derived.Test.YticjnehdhageoaaAbR7
namespace Go.Ab
open Go.Proofs
set_option linter.unusedSectionVars false
set_option maxRecDepth 100000
variable [Glob]

theorem strGo_range (s : ByteArray) : ∀ (k : Nat) (i : Int) (zs : List Int), 0 ≤ i → (strGo s k i zs).2.2 = 0 → 0 ≤ (strGo s k i zs).2.1 ∧ (strGo s k i zs).2.1 ≤ s.size
  | 0, i, zs, _, h => by simp [strGo] at h
  | k + 1, i, zs, hi, h => by
    simp only [strGo] at h ⊢
    split
    · rename_i h1; rw [if_pos h1] at h; simp at h
    · rename_i h1
      rw [if_neg h1] at h
      have hlt := end_lt (by simpa using h1)
      split
      · simp only; omega
      · rename_i h2
        rw [if_neg h2] at h
        split
        · rename_i h3
          rw [if_pos h3] at h
          split
          · rename_i h4
            rw [if_pos h4] at h
            have hn := escV_n _ h4
            exact strGo_range s k _ _ (by omega) h
          · rename_i h4
            rw [if_neg h4] at h
            exact (h4 h).elim
        · rename_i h3
          rw [if_neg h3] at h
          exact strGo_range s k _ _ (by omega) h

theorem cutV_range (s : ByteArray) (h : (cutV s).2.2 = 0) : 0 ≤ (cutV s).2.1 ∧ (cutV s).2.1 ≤ s.size := by
  revert h
  unfold cutV
  split
  · intro _; simp only; omega
  rename_i h0
  have hpos := size_pos h0
  split
  · unfold nameV
    have := leadN_le nameB s
    split
    · intro _; simp only; omega
    · rename_i h1
      split
      · intro h; simp at h
      · intro _
        simp at h1
        simp only
        omega
  split
  · unfold numV
    have := leadN_le wordB s
    split
    · intro _; simp only; omega
    · rename_i h1
      intro h
      exact (h1 h).elim
  split
  · intro h
    unfold cutStr at h ⊢
    exact strGo_range s _ _ _ (by omega) h
  split
  · rename_i h1
    have hle := leadN_le wordB (s.extract 1 s.size)
    have hsz : (s.extract 1 s.size).size = s.size - 1 := by rw [ByteArray.size_extract]; omega
    intro _
    simp only
    omega
  split
  · have := wordV_range s hpos
    intro _; simp only; omega
  split
  · have := signV_range s hpos
    intro _; simp only; omega
  · intro h; simp at h

def nextV (r : RdV) : TokV × Int × RdV :=
  if (sepAll r).1 = 0 then
    if (cutV (sepAll r).2.rest).2.2 = 0 then
      ({ (cutV (sepAll r).2.rest).1 with file := (sepAll r).2.file, line := (sepAll r).2.line, column := (sepAll r).2.column }, 0, passV (sepAll r).2 (cutV (sepAll r).2.rest).2.1)
    else ({}, (cutV (sepAll r).2.rest).2.2, (sepAll r).2)
  else ({}, (sepAll r).1, (sepAll r).2)

theorem sepGo_ok : ∀ (k : Nat) (r : RdV), r.ok → (sepGo k r).2.ok ∧ (sepGo k r).2.rest.size ≤ r.rest.size
  | 0, r, h => ⟨h, Nat.le_refl _⟩
  | k + 1, r, h => by
    simp only [sepGo]
    split
    · exact ⟨h, Nat.le_refl _⟩
    · have hr := sepV_range r.rest
      have := sepGo_ok k _ (passV_ok h hr.1 hr.2)
      have hs := passV_size hr.1 hr.2
      exact ⟨this.1, by omega⟩

theorem sepAll_ok {r : RdV} (h : r.ok) : (sepAll r).2.ok ∧ (sepAll r).2.rest.size ≤ r.rest.size := sepGo_ok _ r h

def T49 : Table := ext T48 26 (saysRd fun r => (some r.ok, .tup [(nextV r).1.av, .c (.int .i64 (nextV r).2.1)], (nextV r).2.2))

theorem t49 : TSound Try.prog T49 := by
  refine extRd t48 26 (fn := Try.f26) rfl rfl (by decide) _ [0, 2, 3, 4, 5, 6, 7, 11, 24] fun r hr => ?_
  have hso := sepAll_ok hr
  conv => whnf
  refine ⟨hr, ?_⟩
  conv => whnf
  refine cond_intro (fun h => ?_) (fun h => ?_)
  · have h' : ¬ (sepAll r).1 = 0 := by simpa using h
    conv => whnf
    refine ends_eq ⟨?_, ?_⟩
    · show _ = SV.tup [(nextV r).1.av, .c (.int .i64 (nextV r).2.1)]
      simp only [nextV, if_neg h']
      rfl
    · show _ = [rdO (nextV r).2.2]
      simp only [nextV, if_neg h']
  have h' : (sepAll r).1 = 0 := by simpa using h
  conv => whnf
  refine ⟨hso.1.1, ?_⟩
  conv => whnf
  refine cond_intro (fun h2 => ?_) (fun h2 => ?_)
  · have h2' : ¬ (cutV (sepAll r).2.rest).2.2 = 0 := by simpa using h2
    conv => whnf
    refine ends_eq ⟨?_, ?_⟩
    · show _ = SV.tup [(nextV r).1.av, .c (.int .i64 (nextV r).2.1)]
      simp only [nextV, if_pos h', if_neg h2']
      rfl
    · show _ = [rdO (nextV r).2.2]
      simp only [nextV, if_pos h', if_neg h2']
  have h2' : (cutV (sepAll r).2.rest).2.2 = 0 := by simpa using h2
  have hrg := cutV_range _ h2'
  conv => whnf
  refine ⟨⟨hso.1, hrg.1, hrg.2⟩, ?_⟩
  conv => whnf
  refine ends_eq ⟨?_, ?_⟩
  · show _ = SV.tup [(nextV r).1.av, .c (.int .i64 (nextV r).2.1)]
    simp only [nextV, if_pos h', if_pos h2']
    rfl
  · show _ = [rdO (nextV r).2.2]
    simp only [nextV, if_pos h', if_pos h2']
end Go.Ab
