/- The reference of package source: how deep a body is matters only to bodies; the parts of a property. -/
import Derived.Test.YtkgcgbpclpmleaaGreatTY31toY35
namespace Go.Ab
open Go.Proofs
set_option linter.unusedSectionVars false
set_option maxRecDepth 100000
variable [Glob]
def Sr.wb (b : Nat) (s : Sr) : Sr := { s with bod := b }
def deaf (f : Sr → Int × Sr) : Prop := ∀ b r, f (r.wb b) = ((f r).1, (f r).2.wb b)
theorem mustS_wb (s : ByteArray) : deaf (mustS s) := fun b r => by
 unfold mustS
 show (if sgnI r.tok s = true then _ else _) = _
 split <;> rfl
theorem tW9 (k : Int) (v : ByteArray → Bool) (b : Nat) (r : Sr) : takeS k v (r.wb b) = ((takeS k v r).1, (takeS k v r).2.wb b) := by
 unfold takeS
 show (if r.tok.1 = k then (if v r.tok.2.1 = true then _ else _) else _) = _
 split
 ·split <;> rfl
 ·rfl
theorem nmS_wb (nm : Nm) (b : Nat) (r : Sr) : nmS nm (r.wb b) = ((nmS nm r).1, (nmS nm r).2.wb b) := by
 cases nm <;> simp only [nmS, tW9, mustS_wb _ b r]
theorem celS_wb (b : Nat) (r : Sr) : celS (r.wb b) = ((celS r).1, (celS r).2.wb b) := by
 unfold celS
 rw [tW9]
 show (if r.tok.1 = 6 then _ else _) = _
 split
 ·rfl
 ·simp only
  show (if (exprV true r.toks r.at_).2.2 = 0 then _ else _) = _
  split <;> rfl
theorem numsE_wb (b : Nat) : ∀ (k : Nat) (r : Sr) (out : List Int), numsE k (r.wb b) out = ((numsE k r out).1, (numsE k r out).2.1, (numsE k r out).2.2.wb b) := by
 intro k
 induction k with
 | zero => intro r out; rfl
 | succ k ih =>
  intro r out
  unfold numsE
  rw [mustS_wb _ b r]
  show (if r.tok.1 = 2 then (if 255 < r.tok.2.2.1 then _ else numsE k (r.adv.wb b) _) else _) = _
  rw [ih]
  split
  ·split <;> rfl
  ·rfl
theorem celsE_wb (b : Nat) : ∀ (k : Nat) (r : Sr) (out : List celC.den), celsE k (r.wb b) out = ((celsE k r out).1, (celsE k r out).2.1, (celsE k r out).2.2.wb b) := by
 intro k
 induction k with
 | zero => intro r out; rfl
 | succ k ih =>
  intro r out
  unfold celsE
  rw [celS_wb b r]
  show (if sgnI r.tok ⟨#[62]⟩ = true then _ else if (celS r).1.2 = 0 then celsE k ((celS r).2.wb b) _ else _) = _
  rw [ih]
  split
  ·rfl
  ·split <;> rfl
theorem prtE_wb (b : Nat) (r : Sr) : prtE (r.wb b) = ((prtE r).1, (prtE r).2.1, (prtE r).2.2.wb b) := by
 unfold prtE
 rw [tW9, tW9]
 show (if r.tok.1 = 3 then _ else if r.tok.1 = 6 then _ else if sgnI r.tok ⟨#[91]⟩ = true then ((3, [], bytesOf (numsE r.toks.length (r.adv.wb b) []).1), (numsE r.toks.length (r.adv.wb b) []).2) else if sgnI r.tok ⟨#[60]⟩ = true then ((1, (celsE r.toks.length (r.adv.wb b) []).1, e0), (celsE r.toks.length (r.adv.wb b) []).2) else _) = _
 rw [numsE_wb, celsE_wb]
 split
 ·rfl
 ·split
  ·rfl
  ·split
   ·rfl
   ·split <;> rfl
def prtsE : Nat → Sr → List prtC.den → List prtC.den × (Int × Sr)
 | 0, r, out => (out, 6, r)
 | k + 1, r, out =>
  if (prtE r).2.1 = 0 then (if sgnI (prtE r).2.2.tok ⟨#[44]⟩ = true then prtsE k (prtE r).2.2.adv (out ++ [(prtE r).1]) else (out ++ [(prtE r).1], (prtE r).2))
  else (out ++ [(prtE r).1], (prtE r).2)
theorem prtsE_same : ∀ (k : Nat) (r : Sr) (out : List prtC.den), (prtsE k r out).2 = ((prtsS k r out).1.2, (prtsS k r out).2) ∧ ((prtsS k r out).1.2 = 0 → (prtsS k r out).1.1 = (prtsE k r out).1) := by
 intro k
 induction k with
 | zero => intro r out; exact ⟨rfl, fun h => by cases h⟩
 | succ k ih =>
  intro r out
  obtain ⟨a, b⟩ := prtE_same r
  unfold prtsE prtsS
  rw [a]
  dsimp only
  by_cases h : (prtS r).1.2 = 0
  ·rw [if_pos h, if_pos h, ← b h]
   by_cases h2 : sgnI (prtS r).2.tok ⟨#[44]⟩ = true
   ·rw [if_pos h2, if_pos h2]
    exact ih _ _
   ·rw [if_neg h2, if_neg h2]
    exact ⟨by rw [h], fun _ => rfl⟩
  ·rw [if_neg h, if_neg h]
   exact ⟨rfl, fun h2 => absurd h2 h⟩
def prpE (r : Sr) : Int × Sr :=
 if (takeS 1 prpB r).1.2 = 0 then
  (if sgnI (takeS 1 prpB r).2.tok ⟨#[61]⟩ = true then
   (if (prtsE r.toks.length (takeS 1 prpB r).2.adv []).2.1 = 0 then mustS ⟨#[59]⟩ ((prtsE r.toks.length (takeS 1 prpB r).2.adv []).2.2.add (dfn 3 e0 (takeS 1 prpB r).1.1 (prtsE r.toks.length (takeS 1 prpB r).2.adv []).1 r.tok)) else (prtsE r.toks.length (takeS 1 prpB r).2.adv []).2)
  else mustS ⟨#[59]⟩ ((takeS 1 prpB r).2.add (dfn 3 e0 (takeS 1 prpB r).1.1 [] r.tok)))
 else ((takeS 1 prpB r).1.2, (takeS 1 prpB r).2)
theorem takeS_toks (k : Int) (v : ByteArray → Bool) (r : Sr) : (takeS k v r).2.toks = r.toks := by
 unfold takeS
 split
 ·split <;> rfl
 ·rfl
theorem prpE_same (r : Sr) : prpS r = prpE r := by
 have e : prpS r = if (takeS 1 prpB r).1.2 = 0 then (if (if sgnI (takeS 1 prpB r).2.tok ⟨#[61]⟩ = true then prtsS (takeS 1 prpB r).2.toks.length (takeS 1 prpB r).2.adv [] else (([], 0), (takeS 1 prpB r).2)).1.2 = 0 then mustS ⟨#[59]⟩ ((if sgnI (takeS 1 prpB r).2.tok ⟨#[61]⟩ = true then prtsS (takeS 1 prpB r).2.toks.length (takeS 1 prpB r).2.adv [] else (([], 0), (takeS 1 prpB r).2)).2.add (dfn 3 e0 (takeS 1 prpB r).1.1 (if sgnI (takeS 1 prpB r).2.tok ⟨#[61]⟩ = true then prtsS (takeS 1 prpB r).2.toks.length (takeS 1 prpB r).2.adv [] else (([], 0), (takeS 1 prpB r).2)).1.1 r.tok)) else ((if sgnI (takeS 1 prpB r).2.tok ⟨#[61]⟩ = true then prtsS (takeS 1 prpB r).2.toks.length (takeS 1 prpB r).2.adv [] else (([], 0), (takeS 1 prpB r).2)).1.2, (if sgnI (takeS 1 prpB r).2.tok ⟨#[61]⟩ = true then prtsS (takeS 1 prpB r).2.toks.length (takeS 1 prpB r).2.adv [] else (([], 0), (takeS 1 prpB r).2)).2)) else ((takeS 1 prpB r).1.2, (takeS 1 prpB r).2) := rfl
 rw [e]
 unfold prpE
 by_cases h : (takeS 1 prpB r).1.2 = 0
 ·rw [if_pos h, if_pos h]
  by_cases h2 : sgnI (takeS 1 prpB r).2.tok ⟨#[61]⟩ = true
  ·rw [if_pos h2, if_pos h2, takeS_toks]
   obtain ⟨a, b⟩ := prtsE_same r.toks.length (takeS 1 prpB r).2.adv []
   rw [a]
   by_cases h3 : (prtsS r.toks.length (takeS 1 prpB r).2.adv []).1.2 = 0
   ·rw [if_pos h3, if_pos h3, b h3]
   ·rw [if_neg h3, if_neg h3]
  ·rw [if_neg h2, if_neg h2]
   simp only [if_true]
 ·rw [if_neg h, if_neg h]
end Go.Ab
