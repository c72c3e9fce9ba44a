/- The reference of package source: how deep a body is matters only to bodies; the parts of a property. -/
import Derived.Test.YtpeeeiaihjilnaaGreatTY31toY35
namespace Go.Ab
open Go.Proofs
set_option linter.unusedSectionVars false
set_option maxRecDepth 100000
variable [Glob]
def Sr.wb (b : Nat) (s : Sr) : Sr := { s with bod := b }
def deaf (f : Sr → Int × Sr) : Prop := ∀ b r, f (r.wb b) = ((f r).1, (f r).2.wb b)
theorem mustS_wb (s : ByteArray) : deaf (mustS s) := fun b r => by
 unfold mustS
 show (if sgnI r.tok s = true then _ else _) = _
 split <;> rfl
theorem tW9 (k : Int) (v : ByteArray → Bool) (b : Nat) (r : Sr) : takeS k v (r.wb b) = ((takeS k v r).1, (takeS k v r).2.wb b) := by
 unfold takeS
 show (if r.tok.1 = k then (if v r.tok.2.1 = true then _ else _) else _) = _
 split
 ·split <;> rfl
 ·rfl
theorem nmS_wb (nm : Nm) (b : Nat) (r : Sr) : nmS nm (r.wb b) = ((nmS nm r).1, (nmS nm r).2.wb b) := by
 cases nm <;> simp only [nmS, tW9, mustS_wb _ b r]
theorem celS_wb (b : Nat) (r : Sr) : celS (r.wb b) = ((celS r).1, (celS r).2.wb b) := by
 unfold celS
 rw [tW9]
 show (if r.tok.1 = 6 then _ else _) = _
 split
 ·rfl
 ·simp only
  show (if (exprV true r.toks r.at_).2.2 = 0 then _ else _) = _
  split <;> rfl
theorem numsE_wb (b : Nat) : ∀ (k : Nat) (r : Sr) (out : List Int), numsE k (r.wb b) out = ((numsE k r out).1, (numsE k r out).2.1, (numsE k r out).2.2.wb b) := by
 intro k
 induction k with
 | zero => intro r out; rfl
 | succ k ih =>
  intro r out
  unfold numsE
  rw [mustS_wb _ b r]
  show (if r.tok.1 = 2 then (if 255 < r.tok.2.2.1 then _ else numsE k (r.adv.wb b) _) else _) = _
  rw [ih]
  split
  ·split <;> rfl
  ·rfl
theorem celsE_wb (b : Nat) : ∀ (k : Nat) (r : Sr) (out : List celC.den), celsE k (r.wb b) out = ((celsE k r out).1, (celsE k r out).2.1, (celsE k r out).2.2.wb b) := by
 intro k
 induction k with
 | zero => intro r out; rfl
 | succ k ih =>
  intro r out
  unfold celsE
  rw [celS_wb b r]
  show (if sgnI r.tok ⟨#[62]⟩ = true then _ else if (celS r).1.2 = 0 then celsE k ((celS r).2.wb b) _ else _) = _
  rw [ih]
  split
  ·rfl
  ·split <;> rfl
theorem prtE_wb (b : Nat) (r : Sr) : prtE (r.wb b) = ((prtE r).1, (prtE r).2.1, (prtE r).2.2.wb b) := by
 unfold prtE
 rw [tW9, tW9]
 show (if r.tok.1 = 3 then _ else if r.tok.1 = 6 then _ else if sgnI r.tok ⟨#[91]⟩ = true then ((3, [], bytesOf (numsE r.toks.length (r.adv.wb b) []).1), (numsE r.toks.length (r.adv.wb b) []).2) else if sgnI r.tok ⟨#[60]⟩ = true then ((1, (celsE r.toks.length (r.adv.wb b) []).1, e0), (celsE r.toks.length (r.adv.wb b) []).2) else _) = _
 rw [numsE_wb, celsE_wb]
 split
 ·rfl
 ·split
  ·rfl
  ·split
   ·rfl
   ·split <;> rfl
def prtsE : Nat → Sr → List prtC.den → List prtC.den × (Int × Sr)
 | 0, r, out => (out, 6, r)
 | k + 1, r, out =>
  if (prtE r).2.1 = 0 then (if sgnI (prtE r).2.2.tok ⟨#[44]⟩ = true then prtsE k (prtE r).2.2.adv (out ++ [(prtE r).1]) else (out ++ [(prtE r).1], (prtE r).2))
  else (out ++ [(prtE r).1], (prtE r).2)
theorem prtsE_same : ∀ (k : Nat) (r : Sr) (out : List prtC.den), (prtsE k r out).2 = ((prtsS k r out).1.2, (prtsS k r out).2) ∧ ((prtsS k r out).1.2 = 0 → (prtsS k r out).1.1 = (prtsE k r out).1) := by
 intro k
 induction k with
 | zero => intro r out; exact ⟨rfl, fun h => by cases h⟩
 | succ k ih =>
  intro r out
  obtain ⟨a, b⟩ := prtE_same r
  unfold prtsE prtsS
  rw [a]
  dsimp only
  by_cases h : (prtS r).1.2 = 0
  ·rw [if_pos h, if_pos h, ← b h]
   by_cases h2 : sgnI (prtS r).2.tok ⟨#[44]⟩ = true
   ·rw [if_pos h2, if_pos h2]
    exact ih _ _
   ·rw [if_neg h2, if_neg h2]
    exact ⟨by rw [h], fun _ => rfl⟩
  ·rw [if_neg h, if_neg h]
   exact ⟨rfl, fun h2 => absurd h2 h⟩
def prpE (r : Sr) : Int × Sr :=
 if (takeS 1 prpB r).1.2 = 0 then
  (if sgnI (takeS 1 prpB r).2.tok ⟨#[61]⟩ = true then
   (if (prtsE r.toks.length (takeS 1 prpB r).2.adv []).2.1 = 0 then mustS ⟨#[59]⟩ ((prtsE r.toks.length (takeS 1 prpB r).2.adv []).2.2.add (dfn 3 e0 (takeS 1 prpB r).1.1 (prtsE r.toks.length (takeS 1 prpB r).2.adv []).1 r.tok)) else (prtsE r.toks.length (takeS 1 prpB r).2.adv []).2)
  else mustS ⟨#[59]⟩ ((takeS 1 prpB r).2.add (dfn 3 e0 (takeS 1 prpB r).1.1 [] r.tok)))
 else ((takeS 1 prpB r).1.2, (takeS 1 prpB r).2)
theorem takeS_toks (k : Int) (v : ByteArray → Bool) (r : Sr) : (takeS k v r).2.toks = r.toks := by
 unfold takeS
 split
 ·split <;> rfl
 ·rfl
theorem prpE_same (r : Sr) : prpS r = prpE r := by
 have e : prpS r = if (takeS 1 prpB r).1.2 = 0 then (if (if sgnI (takeS 1 prpB r).2.tok ⟨#[61]⟩ = true then prtsS (takeS 1 prpB r).2.toks.length (takeS 1 prpB r).2.adv [] else (([], 0), (takeS 1 prpB r).2)).1.2 = 0 then mustS ⟨#[59]⟩ ((if sgnI (takeS 1 prpB r).2.tok ⟨#[61]⟩ = true then prtsS (takeS 1 prpB r).2.toks.length (takeS 1 prpB r).2.adv [] else (([], 0), (takeS 1 prpB r).2)).2.add (dfn 3 e0 (takeS 1 prpB r).1.1 (if sgnI (takeS 1 prpB r).2.tok ⟨#[61]⟩ = true then prtsS (takeS 1 prpB r).2.toks.length (takeS 1 prpB r).2.adv [] else (([], 0), (takeS 1 prpB r).2)).1.1 r.tok)) else ((if sgnI (takeS 1 prpB r).2.tok ⟨#[61]⟩ = true then prtsS (takeS 1 prpB r).2.toks.length (takeS 1 prpB r).2.adv [] else (([], 0), (takeS 1 prpB r).2)).1.2, (if sgnI (takeS 1 prpB r).2.tok ⟨#[61]⟩ = true then prtsS (takeS 1 prpB r).2.toks.length (takeS 1 prpB r).2.adv [] else (([], 0), (takeS 1 prpB r).2)).2)) else ((takeS 1 prpB r).1.2, (takeS 1 prpB r).2) := rfl
 rw [e]
 unfold prpE
 by_cases h : (takeS 1 prpB r).1.2 = 0
 ·rw [if_pos h, if_pos h]
  by_cases h2 : sgnI (takeS 1 prpB r).2.tok ⟨#[61]⟩ = true
  ·rw [if_pos h2, if_pos h2, takeS_toks]
   obtain ⟨a, b⟩ := prtsE_same r.toks.length (takeS 1 prpB r).2.adv []
   rw [a]
   by_cases h3 : (prtsS r.toks.length (takeS 1 prpB r).2.adv []).1.2 = 0
   ·rw [if_pos h3, if_pos h3, b h3]
   ·rw [if_neg h3, if_neg h3]
  ·rw [if_neg h2, if_neg h2]
   simp only [if_true]
 ·rw [if_neg h, if_neg h]
def CT.fit : (t : CT) → t.den → Prop
 | .list e, zs => (zs : List e.den).length ≤ 9223372036854775807 ∧ ∀ z ∈ (zs : List e.den), e.fit z
 | .pair a b, z => a.fit z.1 ∧ b.fit z.2
 | _, _ => True
theorem fit_at {e : CT} {l : List e.den} (h : (CT.list e).fit l) {i : Nat} (hi : i < l.length) : e.fit l[i] := h.2 _ (List.getElem_mem hi)
theorem eq_pref {α : Type} {a b : List α} (hl : a.length = b.length) (h : ∀ i : Nat, i < a.length → a[i]? = b[i]?) : a = b := by
 apply List.ext_getElem?
 intro i
 rcases Nat.lt_or_ge i a.length with h1 | h1
 ·exact h i h1
 ·rw [List.getElem?_eq_none (by omega), List.getElem?_eq_none (by omega)]
theorem ne_at {α : Type} {a b : List α} {i : Nat} (ha : i < a.length) (hb : i < b.length) (h : ¬ a[i] = b[i]) : ¬ a = b := fun hab => h (by subst hab; rfl)
def celsB (a b : List celC.den) : Bool := decide (a = b)
def prtB (a b : prtC.den) : Bool := decide (a.1 = b.1) && decide (a.2.2 = b.2.2) && celsB a.2.1 b.2.1
theorem prtB_iff {a b : prtC.den} : prtB a b = true ↔ a = b := by
 obtain ⟨a1, a2, a3⟩ := a
 obtain ⟨b1, b2, b3⟩ := b
 unfold prtB celsB
 simp only [Bool.and_eq_true, decide_eq_true_eq]
 constructor
 ·rintro ⟨⟨rfl, rfl⟩, rfl⟩; rfl
 ·intro h
  cases h
  exact ⟨⟨rfl, rfl⟩, rfl⟩
instance : DecidableEq prtC.den := fun a b => decidable_of_iff _ (prtB_iff (a := a) (b := b))
def prtsB (a b : List prtC.den) : Bool := decide (a = b)
def defB (a b : defC.den) : Bool := (decide (a.2.2.2.2.1 = b.2.2.2.2.1) && (decide (a.2.2.2.2.2.1 = b.2.2.2.2.2.1) && decide (a.2.2.2.2.2.2 = b.2.2.2.2.2.2))) && decide (a.1 = b.1) && decide (a.2.1 = b.2.1) && decide (a.2.2.1 = b.2.2.1) && prtsB a.2.2.2.1 b.2.2.2.1
theorem defB_iff {a b : defC.den} : defB a b = true ↔ a = b := by
 obtain ⟨a1, a2, a3, a4, a5, a6, a7⟩ := a
 obtain ⟨b1, b2, b3, b4, b5, b6, b7⟩ := b
 unfold defB prtsB
 simp only [Bool.and_eq_true, decide_eq_true_eq]
 constructor
 ·rintro ⟨⟨⟨⟨⟨rfl, rfl, rfl⟩, rfl⟩, rfl⟩, rfl⟩, rfl⟩; rfl
 ·intro h
  cases h
  exact ⟨⟨⟨⟨⟨rfl, rfl, rfl⟩, rfl⟩, rfl⟩, rfl⟩, rfl⟩
instance : DecidableEq defC.den := fun a b => decidable_of_iff _ (defB_iff (a := a) (b := b))
def defsB (a b : List defC.den) : Bool := decide (a = b)
abbrev prtA1 (p : prtC.den) : AV := .agg [.int .i64 p.1, .p (.l celC p.2.1), .str p.2.2]
abbrev defA1 (d : defC.den) : AV := .agg [.int .i64 d.1, .str d.2.1, .str d.2.2.1, .p (.l prtC d.2.2.2.1), .int .i64 d.2.2.2.2.1, .int .i64 d.2.2.2.2.2.1, .int .i64 d.2.2.2.2.2.2]
def saysCC (g : List celC.den → List celC.den → Option Prop × SV) : Says := fun args H => match args, H with
 | [.c (.p (.l (.pair (.int .i64) .str) a)), .c (.p (.l (.pair (.int .i64) .str) b))], [] => some ((g a b).1, (g a b).2, [])
 | _, _ => none
def saysPP (g : prtC.den → prtC.den → Option Prop × SV) : Says := fun args H => match args, H with
 | [.agg [.p (.v (.int .i64 k)), .p (.l (.pair (.int .i64) .str) a), .p (.v (.string t))], .agg [.p (.v (.int .i64 k')), .p (.l (.pair (.int .i64) .str) b), .p (.v (.string t'))]], [] => some ((g (k, a, t) (k', b, t')).1, (g (k, a, t) (k', b, t')).2, [])
 | _, _ => none
def saysPL (f : FuncId) (g : List prtC.den → List prtC.den → Option Prop × SV) : Says := fun args H => match args, H with
 | [.c (.p (.l (.pair (.int .i64) (.pair (.list (.pair (.int .i64) .str)) .str)) a)), .c (.p (.l (.pair (.int .i64) (.pair (.list (.pair (.int .i64) .str)) .str)) b)), .c (.p (.v (.func (.func f') x y)))], [] => match Nat.beq f' f, x.toList, y.toList with
  | true, [], [] => some ((g a b).1, (g a b).2, [])
  | _, _, _ => none
 | _, _ => none
def saysDD (g : defC.den → defC.den → Option Prop × SV) : Says := fun args H => match args, H with
 | [.agg [.p (.v (.int .i64 k)), .p (.v (.string l)), .p (.v (.string m)), .p (.l (.pair (.int .i64) (.pair (.list (.pair (.int .i64) .str)) .str)) a), .p (.v (.int .i64 x)), .p (.v (.int .i64 y)), .p (.v (.int .i64 z))], .agg [.p (.v (.int .i64 k')), .p (.v (.string l')), .p (.v (.string m')), .p (.l (.pair (.int .i64) (.pair (.list (.pair (.int .i64) .str)) .str)) a'), .p (.v (.int .i64 x')), .p (.v (.int .i64 y')), .p (.v (.int .i64 z'))]], [] =>
  some ((g (k, l, m, a, x, y, z) (k', l', m', a', x', y', z')).1, (g (k, l, m, a, x, y, z) (k', l', m', a', x', y', z')).2, [])
 | _, _ => none
def saysDs (g : List defC.den → List defC.den → Option Prop × SV) : Says := fun args H => match args, H with
 | [.c (.p (.l (.pair (.int .i64) (.pair .str (.pair .str (.pair (.list (.pair (.int .i64) (.pair (.list (.pair (.int .i64) .str)) .str))) (.pair (.int .i64) (.pair (.int .i64) (.int .i64))))))) a)), .c (.p (.l (.pair (.int .i64) (.pair .str (.pair .str (.pair (.list (.pair (.int .i64) (.pair (.list (.pair (.int .i64) .str)) .str))) (.pair (.int .i64) (.pair (.int .i64) (.int .i64))))))) b))], [] => some ((g a b).1, (g a b).2, [])
 | _, _ => none
def saysDL (f : FuncId) (g : List defC.den → List defC.den → Option Prop × SV) : Says := fun args H => match args, H with
 | [.c (.p (.l (.pair (.int .i64) (.pair .str (.pair .str (.pair (.list (.pair (.int .i64) (.pair (.list (.pair (.int .i64) .str)) .str))) (.pair (.int .i64) (.pair (.int .i64) (.int .i64))))))) a)), .c (.p (.l (.pair (.int .i64) (.pair .str (.pair .str (.pair (.list (.pair (.int .i64) (.pair (.list (.pair (.int .i64) .str)) .str))) (.pair (.int .i64) (.pair (.int .i64) (.int .i64))))))) b)), .c (.p (.v (.func (.func f') x y)))], [] => match Nat.beq f' f, x.toList, y.toList with
  | true, [], [] => some ((g a b).1, (g a b).2, [])
  | _, _, _ => none
 | _, _ => none
theorem extD {α : Type} {P : Program} {T : Table} (hT : TSound P T) (f : FuncId) {fn : Func} (hf : P.funcs[f]? = some fn) (hname : (fn.name == "runtime.NumGoroutine") = false) (says : Says) (ea : α → α → List AV) (g : α → α → Option Prop × SV) (hs0 : ∀ args H p r H', says args H = some (p, r, H') → ∃ a b, args = ea a b ∧ H = [] ∧ p = (g a b).1 ∧ r = (g a b).2 ∧ H' = []) (hn : ∀ a b, (ea a b).length ≤ fn.ntmps) (ks : List Nat)
  (h : ∀ a b, holdsO (g a b).1 → runF ⟨P, T⟩ fn ks [] (ea a b) [] fun r' H'' => Ends r' H'' (g a b).2 []) : TSound P (ext T f says) :=
 ext_run hT hf hname ks fun args H p r H' hs hp => by
  obtain ⟨a, b, rfl, rfl, rfl, rfl, rfl⟩ := hs0 _ _ _ _ _ hs
  exact ⟨hn a b, [], rfl, fun k hk => absurd hk (Nat.not_lt_zero k), h _ _ hp⟩
theorem cc_out (g : List celC.den → List celC.den → Option Prop × SV) : ∀ args H p r H', saysCC g args H = some (p, r, H') → ∃ a b, args = [.c (.p (.l celC a)), .c (.p (.l celC b))] ∧ H = [] ∧ p = (g a b).1 ∧ r = (g a b).2 ∧ H' = [] := fun args H p r H' h => by
 unfold saysCC at h
 split at h
 ·rename_i a b; cases h; exact ⟨a, b, rfl, rfl, rfl, rfl, rfl⟩
 ·cases h
theorem pp_out (g : prtC.den → prtC.den → Option Prop × SV) : ∀ args H p r H', saysPP g args H = some (p, r, H') → ∃ a b, args = [prtA1 a, prtA1 b] ∧ H = [] ∧ p = (g a b).1 ∧ r = (g a b).2 ∧ H' = [] := fun args H p r H' h => by
 unfold saysPP at h
 split at h
 ·rename_i k a t k' b t'; cases h; exact ⟨(k, a, t), (k', b, t'), rfl, rfl, rfl, rfl, rfl⟩
 ·cases h
theorem fn_eq {f f' : FuncId} {x y : Array Value} (h : Nat.beq f' f = true) (hx : x.toList = []) (hy : y.toList = []) : (AV.c (.p (.v (.func (.func f') x y)))) = .c (.p (.v (.func (.func f) #[] #[]))) := by
 have h1 : f' = f := Nat.eq_of_beq_eq_true h
 have h2 : x = #[] := by simpa using hx
 have h3 : y = #[] := by simpa using hy
 rw [h1, h2, h3]
theorem pl_out (f : FuncId) (g : List prtC.den → List prtC.den → Option Prop × SV) : ∀ args H p r H', saysPL f g args H = some (p, r, H') → ∃ a b, args = [.c (.p (.l prtC a)), .c (.p (.l prtC b)), .c (.p (.v (.func (.func f) #[] #[])))] ∧ H = [] ∧ p = (g a b).1 ∧ r = (g a b).2 ∧ H' = [] := fun args H p r H' h => by
 unfold saysPL at h
 split at h
 ·rename_i a b f' x y
  split at h
  ·rename_i h1 h2 h3; cases h; exact ⟨a, b, by rw [fn_eq h1 h2 h3], rfl, rfl, rfl, rfl⟩
  ·cases h
 ·cases h
theorem dd_out (g : defC.den → defC.den → Option Prop × SV) : ∀ args H p r H', saysDD g args H = some (p, r, H') → ∃ a b, args = [defA1 a, defA1 b] ∧ H = [] ∧ p = (g a b).1 ∧ r = (g a b).2 ∧ H' = [] := fun args H p r H' h => by
 unfold saysDD at h
 split at h
 ·rename_i k l m a x y z k' l' m' a' x' y' z'; cases h; exact ⟨(k, l, m, a, x, y, z), (k', l', m', a', x', y', z'), rfl, rfl, rfl, rfl, rfl⟩
 ·cases h
theorem ds_out (g : List defC.den → List defC.den → Option Prop × SV) : ∀ args H p r H', saysDs g args H = some (p, r, H') → ∃ a b, args = [.c (.p (.l defC a)), .c (.p (.l defC b))] ∧ H = [] ∧ p = (g a b).1 ∧ r = (g a b).2 ∧ H' = [] := fun args H p r H' h => by
 unfold saysDs at h
 split at h
 ·rename_i a b; cases h; exact ⟨a, b, rfl, rfl, rfl, rfl, rfl⟩
 ·cases h
theorem dl_out (f : FuncId) (g : List defC.den → List defC.den → Option Prop × SV) : ∀ args H p r H', saysDL f g args H = some (p, r, H') → ∃ a b, args = [.c (.p (.l defC a)), .c (.p (.l defC b)), .c (.p (.v (.func (.func f) #[] #[])))] ∧ H = [] ∧ p = (g a b).1 ∧ r = (g a b).2 ∧ H' = [] := fun args H p r H' h => by
 unfold saysDL at h
 split at h
 ·rename_i a b f' x y
  split at h
  ·rename_i h1 h2 h3; cases h; exact ⟨a, b, by rw [fn_eq h1 h2 h3], rfl, rfl, rfl, rfl⟩
  ·cases h
 ·cases h
theorem len_ne {α : Type} {a b : List α} (h : (!decide ((a.length : Int) = (b.length : Int))) = true) : ¬ a.length = b.length := by
 simp at h
 omega
theorem len_eq {α : Type} {a b : List α} (h : (!decide ((a.length : Int) = (b.length : Int))) = false) : a.length = b.length := by
 simp at h
 omega
section
variable {T : Table} (hT : TSound Tryz.prog T)
abbrev Q1 (T : Table) : Table := ext T 64 (saysCC fun a b => (some ((CT.list celC).fit a), .bool (celsB a b)))
include hT in
theorem q1 : TSound Tryz.prog (Q1 T) := by
 refine extD hT 64 (fn := Tryz.f64) rfl rfl _ _ _ (cc_out _) (fun _ _ => Nat.le_of_ble_eq_true rfl) [0, 1, 4, 5, 10, 12, 13, 14, 24] fun a b hs => ?_
 have hl : (a : List celC.den).length ≤ 9223372036854775807 := hs.1
 conv => whnf
 refine cI9 (fun h => ?_) (fun h => ?_)
 ·have h1 := len_ne h
  conv => whnf
  refine eE9 ⟨?_, rfl⟩
  rw [celsB, decide_eq_false (fun h => h1 (by rw [h]))]
 have h1 := len_eq h
 conv => whnf
 refine lI9 (σ := Nat) (fun j => [(0, XV.s (.a (.c (.p (.l celC a))))), (1, XV.s (.a (.c (.p (.l celC b))))), (4, XV.s .none), (5, XV.s .none), (10, XV.s .none), (12, XV.s (.int .i64 a.length)), (13, XV.s (.int .i64 j)), (14, XV.s .none), (24, XV.s .none)]) (fun _ => [])
  (fun j => j ≤ a.length ∧ ∀ i : Nat, i < j → a[i]? = b[i]?) (fun j => a.length - j) 0 ?_ rfl ⟨Nat.zero_le _, fun i hi => absurd hi (Nat.not_lt_zero i)⟩ fun j hI => ?_
 ·repeat (first | exact LeL.nil | refine LeL.drop ?_ | refine LeL.same ?_)
 obtain ⟨hj, hsame⟩ := hI
 conv => whnf
 refine cI9 (fun g1 => ?_) (fun g1 => ?_)
 ·have hlt : j < a.length := by have : (j : Int) < a.length := of_decide_eq_true g1
                                omega
  have hin : 0 ≤ (j : Int) ∧ (j : Int) < (a.length : Nat) := by omega
  have hin2 : 0 ≤ (j : Int) ∧ (j : Int) < (b.length : Nat) := by omega
  have eqg : eqGood Tryz.prog 56 := ⟨by decide +kernel, by decide +kernel⟩
  repeat ((conv => whnf); refine ⟨by first | exact hin | exact hin2 | exact eqg | exact rfl, ?_⟩)
  conv => whnf
  have ex : a.getD ((j : Int)).toNat celC.dflt = a[j] := getD_get hlt
  have ey : b.getD ((j : Int)).toNat celC.dflt = b[j] := getD_get (by omega)
  refine cI9 (fun g2 => ?_) (fun g2 => ?_)
  ·have hne : ¬ a = b := fun hab => by
    subst hab
    simp at g2
   conv => whnf
   refine eE9 ⟨?_, rfl⟩
   rw [celsB, decide_eq_false hne]
  ·have heq : a[j] = b[j]'(by omega) := by
    rw [ex, ey] at g2
    generalize a[j] = x at g2
    generalize b[j]'(by omega) = y at g2
    obtain ⟨x1, x2⟩ := x
    obtain ⟨y1, y2⟩ := y
    simp only [Bool.not_eq_false', Bool.and_eq_true, decide_eq_true_eq] at g2
    obtain ⟨e1, e2⟩ := g2
    rw [e1, e2]
   repeat ((conv => whnf); refine ⟨by (unfold inI64; omega), ?_⟩)
   conv => whnf
   refine hI9 (j + 1) ?_ rfl ⟨hlt, fun i hi => ?_⟩ ?_
   ·repeat (first | exact LeL.nil | refine LeL.drop ?_ | refine LeL.same ?_)
   ·rcases Nat.lt_succ_iff_lt_or_eq.1 hi with h4 | rfl
    ·exact hsame i h4
    ·rw [List.getElem?_eq_getElem hlt, List.getElem?_eq_getElem (by omega), heq]
   ·show a.length - (j + 1) < a.length - j
    omega
 ·have hja : j = a.length := by have : ¬ (j : Int) < a.length := of_decide_eq_false g1
                                omega
  subst hja
  conv => whnf
  refine eE9 ⟨?_, rfl⟩
  rw [celsB, decide_eq_true (eq_pref h1 hsame)]
abbrev Q2 (T : Table) : Table := ext (Q1 T) 38 (saysPP fun a b => (some (prtC.fit a), .bool (prtB a b)))
include hT in
theorem q2 : TSound Tryz.prog (Q2 T) := by
 refine extD (q1 hT) 38 (fn := Tryz.f38) rfl rfl _ _ _ (pp_out _) (fun _ _ => Nat.le_of_ble_eq_true rfl) [0, 1, 2, 3, 4] fun a b hs => ?_
 obtain ⟨k, a, t⟩ := a
 obtain ⟨k', b, t'⟩ := b
 have hf : (CT.list celC).fit a := hs.2.1
 repeat ((conv => whnf); refine ⟨by exact fun _ => hf, ?_⟩)
 conv => whnf
 exact eE9 ⟨rfl, rfl⟩
abbrev Q3 (T : Table) : Table := ext (Q2 T) 37 (saysPL 38 fun a b => (some ((CT.list prtC).fit a), .bool (prtsB a b)))
include hT in
theorem q3 : TSound Tryz.prog (Q3 T) := by
 refine extD (q2 hT) 37 (fn := Tryz.f37) rfl rfl _ _ _ (pl_out _ _) (fun _ _ => Nat.le_of_ble_eq_true rfl) [0, 1, 2, 6, 7, 8, 9, 14, 15, 16, 17, 18, 30] fun a b hs => ?_
 have hf : (CT.list prtC).fit a := hs
 have hl : (a : List prtC.den).length ≤ 9223372036854775807 := hf.1
 conv => whnf
 refine cI9 (fun h => ?_) (fun h => ?_)
 ·have h1 := len_ne h
  conv => whnf
  refine eE9 ⟨?_, rfl⟩
  rw [prtsB, decide_eq_false (fun h => h1 (by rw [h]))]
 have h1 := len_eq h
 conv => whnf
 refine lI9 (σ := Nat) (fun j => [(0, XV.s (.a (.c (.p (.l prtC a))))), (1, XV.s (.a (.c (.p (.l prtC b))))), (2, XV.s (.fn 38)), (6, XV.s .none), (7, XV.s .none), (8, XV.s .none), (9, XV.s .none), (14, XV.s .none), (15, XV.s (.a (.c (.p (.l prtC a))))), (16, XV.s (.int .i64 a.length)), (17, XV.s (.int .i64 j)), (18, XV.s .none), (30, XV.s .none)]) (fun _ => [])
  (fun j => j ≤ a.length ∧ ∀ i : Nat, i < j → a[i]? = b[i]?) (fun j => a.length - j) 0 ?_ rfl ⟨Nat.zero_le _, fun i hi => absurd hi (Nat.not_lt_zero i)⟩ fun j hI => ?_
 ·repeat (first | exact LeL.nil | refine LeL.drop ?_ | refine LeL.same ?_)
 obtain ⟨hj, hsame⟩ := hI
 conv => whnf
 refine cI9 (fun g1 => ?_) (fun g1 => ?_)
 ·have hlt : j < a.length := by have : (j : Int) < a.length := of_decide_eq_true g1
                                omega
  have hin : 0 ≤ (j : Int) ∧ (j : Int) < (a.length : Nat) := by omega
  have hin2 : 0 ≤ (j : Int) ∧ (j : Int) < (b.length : Nat) := by omega
  have ex : a.getD ((j : Int)).toNat prtC.dflt = a[j] := getD_get hlt
  have ey : b.getD ((j : Int)).toNat prtC.dflt = b[j] := getD_get (by omega)
  have hfe : prtC.fit (a.getD ((j : Int)).toNat prtC.dflt) := by rw [ex]; exact fit_at hf hlt
  repeat ((conv => whnf); refine ⟨by first | exact hin | exact hin2 | exact hfe, ?_⟩)
  conv => whnf
  refine cI9 (fun g2 => ?_) (fun g2 => ?_)
  ·have hne : ¬ a = b := ne_at hlt (by omega) fun hab => by
    have g3 : (!prtB (a.getD ((j : Int)).toNat prtC.dflt) (b.getD ((j : Int)).toNat prtC.dflt)) = true := g2
    rw [ex, ey, prtB_iff.2 hab] at g3
    cases g3
   conv => whnf
   refine eE9 ⟨?_, rfl⟩
   rw [prtsB, decide_eq_false hne]
  ·have heq : a[j] = b[j]'(by omega) := by
    have g3 : (!prtB (a.getD ((j : Int)).toNat prtC.dflt) (b.getD ((j : Int)).toNat prtC.dflt)) = false := g2
    rw [ex, ey] at g3
    exact prtB_iff.1 (by simpa using g3)
   repeat ((conv => whnf); refine ⟨by (unfold inI64; omega), ?_⟩)
   conv => whnf
   refine kI9 (j + 1) [] rfl (fun k hk => absurd hk (Nat.not_lt_zero k)) rfl ?_ ⟨hlt, fun i hi => ?_⟩ ?_
   ·repeat (first | exact KeepL.nil | refine KeepL.drop ?_ | refine KeepL.ren rfl ?_)
   ·rcases Nat.lt_succ_iff_lt_or_eq.1 hi with h4 | rfl
    ·exact hsame i h4
    ·rw [List.getElem?_eq_getElem hlt, List.getElem?_eq_getElem (by omega), heq]
   ·show a.length - (j + 1) < a.length - j
    omega
 ·have hja : j = a.length := by have : ¬ (j : Int) < a.length := of_decide_eq_false g1
                                omega
  subst hja
  conv => whnf
  refine eE9 ⟨?_, rfl⟩
  rw [prtsB, decide_eq_true (eq_pref h1 hsame)]
abbrev Q4 (T : Table) : Table := ext (Q3 T) 36 (saysDD fun a b => (some (defC.fit a), .bool (defB a b)))
include hT in
theorem q4 : TSound Tryz.prog (Q4 T) := by
 refine extD (q3 hT) 36 (fn := Tryz.f36) rfl rfl _ _ _ (dd_out _) (fun _ _ => Nat.le_of_ble_eq_true rfl) [0, 1, 2, 3, 4] fun a b hs => ?_
 obtain ⟨k, l, m, a, x, y, z⟩ := a
 obtain ⟨k', l', m', a', x', y', z'⟩ := b
 have hf : (CT.list prtC).fit a := hs.2.2.2.1
 have eqg : eqGood Tryz.prog 32 := ⟨by decide +kernel, by decide +kernel⟩
 repeat ((conv => whnf); refine ⟨by first | exact fun _ => hf | exact eqg, ?_⟩)
 conv => whnf
 exact eE9 ⟨rfl, rfl⟩
abbrev Q5 (T : Table) : Table := ext (Q4 T) 35 (saysDL 36 fun a b => (some ((CT.list defC).fit a), .bool (defsB a b)))
include hT in
theorem q5 : TSound Tryz.prog (Q5 T) := by
 refine extD (q4 hT) 35 (fn := Tryz.f35) rfl rfl _ _ _ (dl_out _ _) (fun _ _ => Nat.le_of_ble_eq_true rfl) [0, 1, 2, 6, 7, 8, 9, 14, 15, 16, 17, 18, 30] fun a b hs => ?_
 have hf : (CT.list defC).fit a := hs
 have hl : (a : List defC.den).length ≤ 9223372036854775807 := hf.1
 conv => whnf
 refine cI9 (fun h => ?_) (fun h => ?_)
 ·have h1 := len_ne h
  conv => whnf
  refine eE9 ⟨?_, rfl⟩
  rw [defsB, decide_eq_false (fun h => h1 (by rw [h]))]
 have h1 := len_eq h
 conv => whnf
 refine lI9 (σ := Nat) (fun j => [(0, XV.s (.a (.c (.p (.l defC a))))), (1, XV.s (.a (.c (.p (.l defC b))))), (2, XV.s (.fn 36)), (6, XV.s .none), (7, XV.s .none), (8, XV.s .none), (9, XV.s .none), (14, XV.s .none), (15, XV.s (.a (.c (.p (.l defC a))))), (16, XV.s (.int .i64 a.length)), (17, XV.s (.int .i64 j)), (18, XV.s .none), (30, XV.s .none)]) (fun _ => [])
  (fun j => j ≤ a.length ∧ ∀ i : Nat, i < j → a[i]? = b[i]?) (fun j => a.length - j) 0 ?_ rfl ⟨Nat.zero_le _, fun i hi => absurd hi (Nat.not_lt_zero i)⟩ fun j hI => ?_
 ·repeat (first | exact LeL.nil | refine LeL.drop ?_ | refine LeL.same ?_)
 obtain ⟨hj, hsame⟩ := hI
 conv => whnf
 refine cI9 (fun g1 => ?_) (fun g1 => ?_)
 ·have hlt : j < a.length := by have : (j : Int) < a.length := of_decide_eq_true g1
                                omega
  have hin : 0 ≤ (j : Int) ∧ (j : Int) < (a.length : Nat) := by omega
  have hin2 : 0 ≤ (j : Int) ∧ (j : Int) < (b.length : Nat) := by omega
  have ex : a.getD ((j : Int)).toNat defC.dflt = a[j] := getD_get hlt
  have ey : b.getD ((j : Int)).toNat defC.dflt = b[j] := getD_get (by omega)
  have hfe : defC.fit (a.getD ((j : Int)).toNat defC.dflt) := by rw [ex]; exact fit_at hf hlt
  repeat ((conv => whnf); refine ⟨by first | exact hin | exact hin2 | exact hfe, ?_⟩)
  conv => whnf
  refine cI9 (fun g2 => ?_) (fun g2 => ?_)
  ·have hne : ¬ a = b := ne_at hlt (by omega) fun hab => by
    have g3 : (!defB (a.getD ((j : Int)).toNat defC.dflt) (b.getD ((j : Int)).toNat defC.dflt)) = true := g2
    rw [ex, ey, defB_iff.2 hab] at g3
    cases g3
   conv => whnf
   refine eE9 ⟨?_, rfl⟩
   rw [defsB, decide_eq_false hne]
  ·have heq : a[j] = b[j]'(by omega) := by
    have g3 : (!defB (a.getD ((j : Int)).toNat defC.dflt) (b.getD ((j : Int)).toNat defC.dflt)) = false := g2
    rw [ex, ey] at g3
    exact defB_iff.1 (by simpa using g3)
   repeat ((conv => whnf); refine ⟨by (unfold inI64; omega), ?_⟩)
   conv => whnf
   refine kI9 (j + 1) [] rfl (fun k hk => absurd hk (Nat.not_lt_zero k)) rfl ?_ ⟨hlt, fun i hi => ?_⟩ ?_
   ·repeat (first | exact KeepL.nil | refine KeepL.drop ?_ | refine KeepL.ren rfl ?_)
   ·rcases Nat.lt_succ_iff_lt_or_eq.1 hi with h4 | rfl
    ·exact hsame i h4
    ·rw [List.getElem?_eq_getElem hlt, List.getElem?_eq_getElem (by omega), heq]
   ·show a.length - (j + 1) < a.length - j
    omega
 ·have hja : j = a.length := by have : ¬ (j : Int) < a.length := of_decide_eq_false g1
                                omega
  subst hja
  conv => whnf
  refine eE9 ⟨?_, rfl⟩
  rw [defsB, decide_eq_true (eq_pref h1 hsame)]
abbrev Q6 (T : Table) : Table := ext (Q5 T) 15 (saysDs fun a b => (some ((CT.list defC).fit a), .bool (defsB a b)))
include hT in
theorem q6 : TSound Tryz.prog (Q6 T) := by
 refine extD (q5 hT) 15 (fn := Tryz.f15) rfl rfl _ _ _ (ds_out _) (fun _ _ => Nat.le_of_ble_eq_true rfl) [0, 1, 4] fun a b hs => ?_
 have hf : (CT.list defC).fit a := hs
 repeat ((conv => whnf); refine ⟨by exact hf, ?_⟩)
 conv => whnf
 exact eE9 ⟨rfl, rfl⟩
end
theorem or_f {a b : Bool} (h : (a || b) = false) : a = false ∧ b = false := Bool.or_eq_false_iff.1 h
theorem nd_f {p : Prop} [Decidable p] (h : (!decide p) = false) : p := by simpa using h
section
variable {T : Table} (hT : TSound Tryz.prog T)
abbrev Q7 (T : Table) : Table := ext (Q6 T) 34 (saysPP fun a b => (some (prtC.fit a), .bool (prtB a b)))
include hT in
theorem q7 : TSound Tryz.prog (Q7 T) := by
 refine extD (q6 hT) 34 (fn := Tryz.f34) rfl rfl _ _ _ (pp_out _) (fun _ _ => Nat.le_of_ble_eq_true rfl) [0, 1, 2, 3, 4, 5, 26, 29, 30, 31, 43] fun p p' hs => ?_
 obtain ⟨k, a, t⟩ := p
 obtain ⟨k', b, t'⟩ := p'
 have hf : (CT.list celC).fit a := hs.2.1
 have hl : (a : List celC.den).length ≤ 9223372036854775807 := hf.1
 have hB : prtB (k, a, t) (k', b, t') = (decide (k = k') && decide (t = t') && decide (a = b)) := rfl
 rw [hB]
 conv => whnf
 refine cI9 (fun h0 => ?_) (fun h0 => ?_)
 ·have h1 : ¬ (k = k' ∧ t = t' ∧ a = b) := fun ⟨e1, e2, e3⟩ => by
   subst e1 e2 e3
   have h2 : (!decide (k = k) || !decide (t = t) || !decide ((a.length : Int) = (a.length : Int))) = true := h0
   simp at h2
  conv => whnf
  refine eE9 ⟨congrArg SV.bool ?_, rfl⟩
  symm
  rw [Bool.and_eq_false_iff, Bool.and_eq_false_iff]
  by_cases e1 : k = k'
  ·by_cases e2 : t = t'
   ·exact .inr (decide_eq_false fun e3 => h1 ⟨e1, e2, e3⟩)
   ·exact .inl (.inr (decide_eq_false e2))
  ·exact .inl (.inl (decide_eq_false e1))
 have h2 : (!decide (k = k') || !decide (t = t') || !decide ((a.length : Int) = (b.length : Int))) = false := h0
 have e1 : k = k' := nd_f (or_f (or_f h2).1).1
 have e2 : t = t' := nd_f (or_f (or_f h2).1).2
 have h1 : a.length = b.length := len_eq (or_f h2).2
 subst e1 e2
 rw [decide_eq_true (rfl : k = k), decide_eq_true (rfl : t = t)]
 conv => whnf
 refine lI9 (σ := Nat) (fun j => [(0, XV.s .none), (1, XV.s .none), (2, XV.s (.a (.c (.ptr 0 0)))), (3, XV.s (.a (.c (.ptr 1 0)))), (4, XV.s .none), (5, XV.s .none), (26, XV.s .none), (29, XV.s (.int .i64 a.length)), (30, XV.s (.int .i64 j)), (31, XV.s .none), (43, XV.s .none)]) (fun _ => [.row [.int .i64 k, .p (.l celC a), .str t], .row [.int .i64 k, .p (.l celC b), .str t]])
  (fun j => j ≤ a.length ∧ ∀ i : Nat, i < j → a[i]? = b[i]?) (fun j => a.length - j) 0 ?_ rfl ⟨Nat.zero_le _, fun i hi => absurd hi (Nat.not_lt_zero i)⟩ fun j hI => ?_
 ·repeat (first | exact LeL.nil | refine LeL.drop ?_ | refine LeL.same ?_)
 obtain ⟨hj, hsame⟩ := hI
 conv => whnf
 refine cI9 (fun g1 => ?_) (fun g1 => ?_)
 ·have hlt : j < a.length := by have : (j : Int) < a.length := of_decide_eq_true g1
                                omega
  have hin : 0 ≤ (j : Int) ∧ (j : Int) < (a.length : Nat) := by omega
  have hin2 : 0 ≤ (j : Int) ∧ (j : Int) < (b.length : Nat) := by omega
  have eqg : eqGood Tryz.prog 56 := ⟨by decide +kernel, by decide +kernel⟩
  repeat ((conv => whnf); refine ⟨by first | exact hin | exact hin2 | exact eqg | exact rfl, ?_⟩)
  conv => whnf
  have ex : a.getD ((j : Int)).toNat celC.dflt = a[j] := getD_get hlt
  have ey : b.getD ((j : Int)).toNat celC.dflt = b[j] := getD_get (by omega)
  refine cI9 (fun g2 => ?_) (fun g2 => ?_)
  ·have hne : ¬ a = b := fun hab => by
    subst hab
    simp at g2
   conv => whnf
   refine eE9 ⟨congrArg SV.bool ?_, rfl⟩
   rw [decide_eq_false hne]
   rfl
  ·have heq : a[j] = b[j]'(by omega) := by
    rw [ex, ey] at g2
    generalize a[j] = x at g2
    generalize b[j]'(by omega) = y at g2
    obtain ⟨x1, x2⟩ := x
    obtain ⟨y1, y2⟩ := y
    simp only [Bool.not_eq_false', Bool.and_eq_true, decide_eq_true_eq] at g2
    obtain ⟨e1, e2⟩ := g2
    rw [e1, e2]
   repeat ((conv => whnf); refine ⟨by (unfold inI64; omega), ?_⟩)
   conv => whnf
   refine hI9 (j + 1) ?_ rfl ⟨hlt, fun i hi => ?_⟩ ?_
   ·repeat (first | exact LeL.nil | refine LeL.drop ?_ | refine LeL.same ?_)
   ·rcases Nat.lt_succ_iff_lt_or_eq.1 hi with h4 | rfl
    ·exact hsame i h4
    ·rw [List.getElem?_eq_getElem hlt, List.getElem?_eq_getElem (by omega), heq]
   ·show a.length - (j + 1) < a.length - j
    omega
 ·have hja : j = a.length := by have : ¬ (j : Int) < a.length := of_decide_eq_false g1
                                omega
  subst hja
  conv => whnf
  refine eE9 ⟨congrArg SV.bool ?_, rfl⟩
  rw [decide_eq_true (eq_pref h1 hsame)]
  rfl
abbrev Q8 (T : Table) : Table := ext (Q7 T) 14 (saysDs fun a b => (some ((CT.list defC).fit a), .bool (defsB a b)))
set_option maxHeartbeats 1000000 in
include hT in
theorem q8 : TSound Tryz.prog (Q8 T) := by
 refine extD (q7 hT) 14 (fn := Tryz.f14) rfl rfl _ _ _ (ds_out _) (fun _ _ => Nat.le_of_ble_eq_true rfl) [0, 1, 4, 5, 6, 7, 8, 13, 15, 16, 17, 61, 64, 65, 66, 79] fun a b hs => ?_
 have hf : (CT.list defC).fit a := hs
 have hl : (a : List defC.den).length ≤ 9223372036854775807 := hf.1
 conv => whnf
 refine cI9 (fun h => ?_) (fun h => ?_)
 ·have h1 := len_ne h
  conv => whnf
  refine eE9 ⟨?_, rfl⟩
  rw [defsB, decide_eq_false (fun h => h1 (by rw [h]))]
 have h1 := len_eq h
 conv => whnf
 refine lI9 (σ := Nat) (fun j => [(0, XV.s (.a (.c (.p (.l defC a))))), (1, XV.s (.a (.c (.p (.l defC b))))), (4, XV.s .none), (5, XV.s .none), (6, XV.s .none), (7, XV.s .none), (8, XV.s .none), (13, XV.s .none), (15, XV.s (.int .i64 a.length)), (16, XV.s (.int .i64 j)), (17, XV.s .none), (61, XV.s .none), (64, XV.s .none), (65, XV.s .none), (66, XV.s .none), (79, XV.s .none)]) (fun _ => [])
  (fun j => j ≤ a.length ∧ ∀ i : Nat, i < j → a[i]? = b[i]?) (fun j => a.length - j) 0 ?_ rfl ⟨Nat.zero_le _, fun i hi => absurd hi (Nat.not_lt_zero i)⟩ fun j hI => ?_
 ·repeat (first | exact LeL.nil | refine LeL.drop ?_ | refine LeL.same ?_)
 obtain ⟨hj, hsame⟩ := hI
 conv => whnf
 refine cI9 (fun g1 => ?_) (fun g1 => ?_)
 ·have hlt : j < a.length := by have : (j : Int) < a.length := of_decide_eq_true g1
                                omega
  have hin : 0 ≤ (j : Int) ∧ (j : Int) < (a.length : Nat) := by omega
  have hin2 : 0 ≤ (j : Int) ∧ (j : Int) < (b.length : Nat) := by omega
  have ex : a.getD ((j : Int)).toNat defC.dflt = a[j] := getD_get hlt
  have ey : b.getD ((j : Int)).toNat defC.dflt = b[j] := getD_get (by omega)
  have hfe : defC.fit (a.getD ((j : Int)).toNat defC.dflt) := by rw [ex]; exact fit_at hf hlt
  have nx : a.getD ((j : Int)).toNat defC.dflt = b.getD ((j : Int)).toNat defC.dflt → ∀ i : Nat, i < j + 1 → a[i]? = b[i]? := fun heq i hi => by
   rcases Nat.lt_succ_iff_lt_or_eq.1 hi with h4 | rfl
   ·exact hsame i h4
   ·rw [List.getElem?_eq_getElem hlt, List.getElem?_eq_getElem (by omega), ← ex, ← ey, heq]
  have no : ¬ a.getD ((j : Int)).toNat defC.dflt = b.getD ((j : Int)).toNat defC.dflt → ¬ a = b := fun hne => ne_at hlt (by omega) fun hab => hne (by rw [ex, ey, hab])
  have eqg : eqGood Tryz.prog 32 := ⟨by decide +kernel, by decide +kernel⟩
  repeat ((conv => whnf); refine ⟨by first | exact hin | exact hin2 | exact fun _ => eqg | (repeat ((conv => whnf); refine ⟨by ((conv => whnf); first | exact ⟨rfl, rfl, rfl⟩ | exact ⟨rfl, rfl⟩ | exact ⟨by assumption, rfl, rfl, rfl⟩), ?_⟩)); ((conv => whnf); exact trivial) | exact rfl, ?_⟩)
  conv => whnf
  generalize a.getD ((j : Int)).toNat defC.dflt = x at *
  generalize b.getD ((j : Int)).toNat defC.dflt = y at *
  refine cI9 (fun g2 => ?_) (fun g2 => ?_)
  ·have g3 : (!decide (x.1 = y.1) || !decide (x.2.1 = y.2.1) || !decide (x.2.2.1 = y.2.2.1) || !(decide (x.2.2.2.2.1 = y.2.2.2.2.1) && (decide (x.2.2.2.2.2.1 = y.2.2.2.2.2.1) && decide (x.2.2.2.2.2.2 = y.2.2.2.2.2.2))) || !decide ((x.2.2.2.1.length : Int) = (y.2.2.2.1.length : Int))) = true := g2
   have hne : ¬ a = b := no fun hxy => by
    subst hxy
    simp at g3
   conv => whnf
   refine eE9 ⟨?_, rfl⟩
   rw [defsB, decide_eq_false hne]
  have g3 : (!decide (x.1 = y.1) || !decide (x.2.1 = y.2.1) || !decide (x.2.2.1 = y.2.2.1) || !(decide (x.2.2.2.2.1 = y.2.2.2.2.1) && (decide (x.2.2.2.2.2.1 = y.2.2.2.2.2.1) && decide (x.2.2.2.2.2.2 = y.2.2.2.2.2.2))) || !decide ((x.2.2.2.1.length : Int) = (y.2.2.2.1.length : Int))) = false := g2
  have g4 : x.1 = y.1 ∧ x.2.1 = y.2.1 ∧ x.2.2.1 = y.2.2.1 ∧ x.2.2.2.2 = y.2.2.2.2 := by
   have h4 := or_f (or_f g3).1
   have h5 := or_f (or_f h4.1).1
   refine ⟨nd_f h5.1, nd_f h5.2, nd_f (or_f h4.1).2, ?_⟩
   have h6 := h4.2
   simp only [Bool.not_eq_false', Bool.and_eq_true, decide_eq_true_eq] at h6
   exact Prod.ext h6.1 (Prod.ext h6.2.1 h6.2.2)
  have h2 : x.2.2.2.1.length = y.2.2.2.1.length := len_eq (or_f g3).2
  have hpf : (CT.list prtC).fit x.2.2.2.1 := hfe.2.2.2.1
  have hpl : x.2.2.2.1.length ≤ 9223372036854775807 := hpf.1
  conv => whnf
  refine lI9 (σ := Nat) (fun i => [(0, XV.s (.a (.c (.p (.l defC a))))), (1, XV.s (.a (.c (.p (.l defC b))))), (4, XV.s .none), (5, XV.s .none), (6, XV.s (.a (.c (.ptr 0 0)))), (7, XV.s (.a (.c (.ptr 1 0)))), (8, XV.s .none), (13, XV.s .none), (15, XV.s (.int .i64 a.length)), (16, XV.s (.int .i64 j)), (17, XV.s .none), (61, XV.s .none), (64, XV.s (.int .i64 x.2.2.2.1.length)), (65, XV.s (.int .i64 i)), (66, XV.s .none), (79, XV.s .none)]) (fun _ => [.row [.int .i64 x.1, .str x.2.1, .str x.2.2.1, .p (.l prtC x.2.2.2.1), .int .i64 x.2.2.2.2.1, .int .i64 x.2.2.2.2.2.1, .int .i64 x.2.2.2.2.2.2], .row [.int .i64 y.1, .str y.2.1, .str y.2.2.1, .p (.l prtC y.2.2.2.1), .int .i64 y.2.2.2.2.1, .int .i64 y.2.2.2.2.2.1, .int .i64 y.2.2.2.2.2.2]])
   (fun i => i ≤ x.2.2.2.1.length ∧ ∀ k : Nat, k < i → x.2.2.2.1[k]? = y.2.2.2.1[k]?) (fun i => x.2.2.2.1.length - i) 0 ?_ rfl ⟨Nat.zero_le _, fun i hi => absurd hi (Nat.not_lt_zero i)⟩ fun i hI2 => ?_
  ·repeat (first | exact LeL.nil | refine LeL.drop ?_ | refine LeL.same ?_)
  obtain ⟨hi, hsame2⟩ := hI2
  conv => whnf
  refine cI9 (fun g5 => ?_) (fun g5 => ?_)
  ·have hlt2 : i < x.2.2.2.1.length := by have : (i : Int) < x.2.2.2.1.length := of_decide_eq_true g5
                                          omega
   have hin3 : 0 ≤ (i : Int) ∧ (i : Int) < (x.2.2.2.1.length : Nat) := by omega
   have hin4 : 0 ≤ (i : Int) ∧ (i : Int) < (y.2.2.2.1.length : Nat) := by omega
   have ex2 : x.2.2.2.1.getD ((i : Int)).toNat prtC.dflt = x.2.2.2.1[i] := getD_get hlt2
   have ey2 : y.2.2.2.1.getD ((i : Int)).toNat prtC.dflt = y.2.2.2.1[i] := getD_get (by omega)
   have hfp : prtC.fit (x.2.2.2.1.getD ((i : Int)).toNat prtC.dflt) := by rw [ex2]; exact fit_at hpf hlt2
   repeat ((conv => whnf); refine ⟨by first | exact hin3 | exact hin4 | exact hfp | exact rfl, ?_⟩)
   conv => whnf
   refine cI9 (fun g6 => ?_) (fun g6 => ?_)
   ·have g7 : (!prtB (x.2.2.2.1.getD ((i : Int)).toNat prtC.dflt) (y.2.2.2.1.getD ((i : Int)).toNat prtC.dflt)) = true := g6
    have hne : ¬ a = b := no fun hxy => by
     subst hxy
     rw [prtB_iff.2 rfl] at g7
     cases g7
    conv => whnf
    refine eE9 ⟨?_, rfl⟩
    rw [defsB, decide_eq_false hne]
   ·have g7 : (!prtB (x.2.2.2.1.getD ((i : Int)).toNat prtC.dflt) (y.2.2.2.1.getD ((i : Int)).toNat prtC.dflt)) = false := g6
    have heq : x.2.2.2.1[i] = y.2.2.2.1[i]'(by omega) := by
     rw [ex2, ey2] at g7
     exact prtB_iff.1 (by simpa using g7)
    repeat ((conv => whnf); refine ⟨by (unfold inI64; omega), ?_⟩)
    conv => whnf
    refine hI9 (i + 1) ?_ rfl ⟨hlt2, fun k hk => ?_⟩ ?_
    ·repeat (first | exact LeL.nil | refine LeL.drop ?_ | refine LeL.same ?_)
    ·rcases Nat.lt_succ_iff_lt_or_eq.1 hk with h4 | rfl
     ·exact hsame2 k h4
     ·rw [List.getElem?_eq_getElem hlt2, List.getElem?_eq_getElem (by omega), heq]
    ·show x.2.2.2.1.length - (i + 1) < x.2.2.2.1.length - i
     omega
  ·have hii : i = x.2.2.2.1.length := by have : ¬ (i : Int) < x.2.2.2.1.length := of_decide_eq_false g5
                                         omega
   subst hii
   have hxy : x = y := Prod.ext g4.1 (Prod.ext g4.2.1 (Prod.ext g4.2.2.1 (Prod.ext (eq_pref h2 hsame2) g4.2.2.2)))
   repeat ((conv => whnf); refine ⟨by (unfold inI64; omega), ?_⟩)
   conv => whnf
   refine kI9 (j + 1) [] rfl (fun k hk => absurd hk (Nat.not_lt_zero k)) rfl ?_ ⟨hlt, nx hxy⟩ ?_
   ·repeat (first | exact KeepL.nil | refine KeepL.drop ?_ | refine KeepL.ren rfl ?_)
   ·show a.length - (j + 1) < a.length - j
    omega
 ·have hja : j = a.length := by have : ¬ (j : Int) < a.length := of_decide_eq_false g1
                                omega
  subst hja
  conv => whnf
  refine eE9 ⟨?_, rfl⟩
  rw [defsB, decide_eq_true (eq_pref h1 hsame)]
end
end Go.Ab
