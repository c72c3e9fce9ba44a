/- Expressions: what is read with waiting signs is what is read by descent. -/
import Derived.Test.YtkgcgbpclpmleaaGreatTOtoP
namespace Go.Ab
set_option linter.unusedSectionVars false
abbrev Tk : Type := Int × ByteArray × Int
abbrev Frm : Type := ByteArray × Int
def sLp : ByteArray := ⟨#[40]⟩
def sRp : ByteArray := ⟨#[41]⟩
def sQ : ByteArray := ⟨#[63]⟩
def sCol : ByteArray := ⟨#[58]⟩
def sMin : ByteArray := ⟨#[45]⟩
def sTil : ByteArray := ⟨#[126]⟩
def sBang : ByteArray := ⟨#[33]⟩
def sgn : List Tk → ByteArray
 | t :: _ => match decide (t.1 = 4) with | true => t.2.1 | false => ⟨#[]⟩
 | [] => ⟨#[]⟩
def rowL : List (List ByteArray) := [[⟨#[42]⟩, ⟨#[47]⟩, ⟨#[37]⟩], [⟨#[43]⟩, ⟨#[45]⟩], [⟨#[60, 60]⟩, ⟨#[62, 62]⟩], [⟨#[60]⟩, ⟨#[62]⟩, ⟨#[60, 61]⟩, ⟨#[62, 61]⟩], [⟨#[61, 61]⟩, ⟨#[33, 61]⟩], [⟨#[38]⟩], [⟨#[94]⟩], [⟨#[124]⟩], [⟨#[38, 38]⟩], [⟨#[124, 124]⟩]]
def frontV (s : ByteArray) : Bool := [sMin, sTil, sBang].contains s
def rowGo (s : ByteArray) : List (List ByteArray) → Nat → Nat
 | [], _ => 0
 | r :: rs, i => if r.contains s then i else rowGo s rs (i + 1)
def betw (s : ByteArray) : Nat := if s = ⟨#[]⟩ then 0 else if s = sQ then 11 else rowGo s rowL 1
structure Fl where
 deep : Bool
 oor : Bool
 div : Bool
def divs (s : ByteArray) : Bool := decide (s = ⟨#[47]⟩) || decide (s = ⟨#[37]⟩)
def w32 (n : Int) : Int := IntKind.u32.wrap n
def tr (b : Bool) : Int := match b with | true => 1 | false => 0
def calcV (r : Nat) (s : ByteArray) (a b : Int) : Int :=
 match r with
 | 0 => if s = sMin then w32 (a - b) else if s = sTil then bitsA .xor .u32 4294967295 b else tr (decide (a = b))
 | 1 => if s = ⟨#[42]⟩ then w32 (a * b) else if s = ⟨#[47]⟩ then w32 (a.tdiv b) else a.tmod b
 | 2 => if s = ⟨#[43]⟩ then w32 (a + b) else w32 (a - b)
 | 3 => if s = ⟨#[60, 60]⟩ then w32 (a * 2 ^ min b.toNat 32) else a.fdiv (2 ^ min b.toNat 32)
 | 4 => if s = ⟨#[60]⟩ then tr (decide (a < b)) else if s = ⟨#[62]⟩ then tr (decide (b < a)) else if s = ⟨#[60, 61]⟩ then tr (decide (a ≤ b)) else tr (decide (b ≤ a))
 | 5 => if s = ⟨#[61, 61]⟩ then tr (decide (a = b)) else tr (!decide (a = b))
 | 6 => bitsA .and .u32 a b
 | 7 => bitsA .xor .u32 a b
 | 8 => bitsA .or .u32 a b
 | 9 => tr (!decide (a = 0) && !decide (b = 0))
 | _ => tr (!decide (a = 0) || !decide (b = 0))
def by0 (s : ByteArray) (b : Int) : Bool := decide (b = 0) && divs s
def calcD (r : Nat) (s : ByteArray) (a b : Int) : Int := calcV r s a (if by0 s b then 1 else b)
def Fl.dv (f : Fl) (s : ByteArray) (b : Int) : Fl := { f with div := f.div || by0 s b }
def Fl.num (f : Fl) (d : Nat) (n : Int) : Fl := { f with deep := f.deep || decide (8 < d), oor := f.oor || (decide (n < 0) || decide (4294967295 < n)) }
abbrev RdR : Type := Option (Int × List Tk × Fl)
mutual
def opd : Nat → Nat → List Tk → Fl → RdR
 | 0, _, _, _ => none
 | _ + 1, _, [], _ => none
 | n + 1, d, t :: ts, f =>
  if t.1 = 2 then some (w32 t.2.2, ts, f.num d t.2.2)
  else if sgn (t :: ts) = sLp then
   match whl n (d + 1) ts f with
   | some (x, ts', f') => if sgn ts' = sRp then some (x, ts'.drop 1, f') else none
   | none => none
  else if frontV (sgn (t :: ts)) then
   match opd n d ts f with
   | some (x, ts', f') => some (calcD 0 (sgn (t :: ts)) 0 x, ts', f'.dv (sgn (t :: ts)) x)
   | none => none
  else none
def rws : Nat → Nat → Nat → Int → List Tk → Fl → RdR
 | 0, _, _, _, _, _ => none
 | n + 1, m, d, x, ts, f =>
  if betw (sgn ts) = 0 ∨ m ≤ betw (sgn ts) then some (x, ts, f)
  else match opd n d (ts.drop 1) f with
   | some (y, ts', f') => match rws n (betw (sgn ts)) d y ts' f' with
    | some (y', ts'', f'') => rws n m d (calcD (betw (sgn ts)) (sgn ts) x y') ts'' (f''.dv (sgn ts) y')
    | none => none
   | none => none
def whl : Nat → Nat → List Tk → Fl → RdR
 | 0, _, _, _ => none
 | n + 1, d, ts, f => match opd n d ts f with
  | some (x, ts1, f1) => match rws n 11 d x ts1 f1 with
   | some (c, ts2, f2) => if sgn ts2 = sQ then
     match whl n d (ts2.drop 1) f2 with
     | some (a, ts3, f3) => if sgn ts3 = sCol then
       match whl n d (ts3.drop 1) f3 with
       | some (b, ts4, f4) => some (if c ≠ 0 then a else b, ts4, f4)
       | none => none
      else none
     | none => none
    else some (c, ts2, f2)
   | none => none
  | none => none
end
structure St where
 ts : List Tk
 ws : List Frm
 vs : List Int
 f : Fl
def depth : List Frm → Nat
 | [] => 0
 | w :: ws => (if w.1 = sLp then 1 else 0) + depth ws
def red (w : Frm) (vs : List Int) (f : Fl) : List Int × Fl :=
 if w.2 = 11 then match vs with
  | c :: b :: a :: r => ((if a ≠ 0 then b else c) :: r, f)
  | _ => (vs, f)
 else match vs with
  | b :: a :: r => (calcD w.2.toNat w.1 a b :: r, f.dv w.1 b)
  | _ => (vs, f)
def fin (k : Nat) : List Frm → List Int → Fl → List Frm × List Int × Fl
 | [], vs, f => ([], vs, f)
 | w :: ws, vs, f => if w.2 ≤ (k : Int) then fin k ws (red w vs f).1 (red w vs f).2 else (w :: ws, vs, f)
def opC : List Tk → List Frm → List Int → Fl → Option St
 | [], _, _, _ => none
 | t :: ts, ws, vs, f =>
  if t.1 = 2 then some ⟨ts, ws, w32 t.2.2 :: vs, f.num (depth ws) t.2.2⟩
  else if sgn (t :: ts) = sLp then opC ts ((sLp, 12) :: ws) vs f
  else if frontV (sgn (t :: ts)) then opC ts ((sgn (t :: ts), 0) :: ws) (0 :: vs) f
  else none
def endC (s : ByteArray) (ts : List Tk) (ws : List Frm) (vs : List Int) (f : Fl) : Option St :=
 match ws with
 | [] => some ⟨ts, [], vs, f⟩
 | w :: ws => if w.1 = sLp ∧ s = sRp then some ⟨ts.drop 1, ws, vs, f⟩
  else if w.1 = sQ ∧ s = sCol then opC (ts.drop 1) ((s, 11) :: ws) vs f
  else none
def folC (st : St) : Option St :=
 if betw (sgn st.ts) = 0 then endC (sgn st.ts) st.ts (fin 11 st.ws st.vs st.f).1 (fin 11 st.ws st.vs st.f).2.1 (fin 11 st.ws st.vs st.f).2.2
 else if betw (sgn st.ts) = 11 then opC (st.ts.drop 1) ((sgn st.ts, 12) :: (fin 10 st.ws st.vs st.f).1) (fin 10 st.ws st.vs st.f).2.1 (fin 10 st.ws st.vs st.f).2.2
 else opC (st.ts.drop 1) ((sgn st.ts, (betw (sgn st.ts) : Int)) :: (fin (betw (sgn st.ts)) st.ws st.vs st.f).1) (fin (betw (sgn st.ts)) st.ws st.vs st.f).2.1 (fin (betw (sgn st.ts)) st.ws st.vs st.f).2.2
def doneC (pm : Bool) (st : St) : Bool := st.ws.isEmpty && (pm || decide (betw (sgn st.ts) = 0))
def mu (st : St) : Nat := 2 * st.ts.length + (if st.ws.isEmpty then 0 else 1)
def runN (pm : Bool) : Nat → St → Option St
 | 0, st => if doneC pm st then some st else none
 | n + 1, st => if doneC pm st then some st else match folC st with
  | none => none
  | some st' => runN pm n st'
theorem opC_len : ∀ (ts : List Tk) (ws : List Frm) (vs : List Int) (f : Fl) (st : St), opC ts ws vs f = some st → st.ts.length < ts.length := by
 intro ts
 induction ts with
 | nil => intro ws vs f st h; cases h
 | cons t ts ih =>
  intro ws vs f st h
  unfold opC at h
  split at h
  ·cases h; simp
  split at h
  ·have := ih _ _ _ _ h; simp; omega
  split at h
  ·have := ih _ _ _ _ h; simp; omega
  ·cases h
theorem sgn_cons {ts : List Tk} (h : sgn ts ≠ ⟨#[]⟩) : (ts.drop 1).length + 1 = ts.length := by
 cases ts with
 | nil => exact absurd rfl h
 | cons t ts => simp
theorem betw_ne {s : ByteArray} (h : betw s ≠ 0) : s ≠ ⟨#[]⟩ := fun e => by subst e; exact h rfl
theorem fol_mu (pm : Bool) (st st' : St) (h : folC st = some st') (hd : doneC pm st = false) : mu st' < mu st := by
 unfold folC at h
 have key : ∀ ts ws vs f, sgn st.ts ≠ ⟨#[]⟩ → opC (st.ts.drop 1) ws vs f = some st' → ts = st.ts → mu st' < mu st := by
  intro ts ws vs f hs h _
  have h1 := opC_len _ _ _ _ _ h
  have h2 := sgn_cons hs
  unfold mu
  split <;> split <;> omega
 split at h
 ·rename_i hk
  unfold endC at h
  split at h
  ·rename_i he
   cases h
   unfold doneC at hd
   rw [hk] at hd
   unfold mu
   simp at hd ⊢
   cases hw : st.ws with
   | nil => exact absurd hw hd
   | cons => simp
  ·split at h
   ·rename_i hs
    cases h
    have h2 := sgn_cons (ts := st.ts) (by rw [hs.2]; decide)
    unfold mu
    dsimp only
    split <;> split <;> omega
   ·split at h
    ·rename_i hs
     exact key _ _ _ _ (by rw [hs.2]; decide) h rfl
    ·cases h
 ·rename_i hk
  split at h
  ·exact key _ _ _ _ (betw_ne hk) h rfl
  ·exact key _ _ _ _ (betw_ne hk) h rfl
theorem run_fuel (pm : Bool) : ∀ (n m : Nat) (st : St), mu st ≤ n → mu st ≤ m → runN pm n st = runN pm m st := by
 have zero : ∀ st : St, mu st = 0 → doneC pm st = true := by
  intro st h
  unfold mu at h
  have h1 : st.ts = [] := List.eq_nil_of_length_eq_zero (by omega)
  have h2 : st.ws.isEmpty = true := by
   cases hw : st.ws.isEmpty with
   | true => rfl
   | false => rw [hw] at h; simp at h
  unfold doneC
  rw [h1, h2]
  simp [sgn, betw]
 intro n
 induction n with
 | zero =>
  intro m st h1 h2
  have hz := zero st (by omega)
  cases m <;> simp [runN, hz]
 | succ n ih =>
  intro m st h1 h2
  cases m with
  | zero =>
   have hz := zero st (by omega)
   simp [runN, hz]
  | succ m =>
   simp only [runN]
   cases hd : doneC pm st with
   | true => rfl
   | false =>
    cases hf : folC st with
    | none => rfl
    | some st' =>
     have := fol_mu pm st st' hf hd
     simpa using ih m st' (by omega) (by omega)
def run (pm : Bool) (st : St) : Option St := runN pm (mu st) st
theorem run_done {pm : Bool} {st : St} (h : doneC pm st = true) : run pm st = some st := by
 unfold run
 cases mu st <;> simp [runN, h]
theorem run_step {pm : Bool} {st : St} (h : doneC pm st = false) : run pm st = (folC st).bind (run pm) := by
 unfold run
 cases hm : mu st with
 | zero =>
  have := run_fuel pm 0 1 st (by omega) (by omega)
  rw [this]
  simp only [runN, h]
  cases hf : folC st with
  | none => rfl
  | some st' => have := fol_mu pm st st' hf h; omega
 | succ n =>
  simp only [runN, h]
  cases hf : folC st with
  | none => rfl
  | some st' =>
   have := fol_mu pm st st' hf h
   simpa using run_fuel pm _ _ st' (by omega) (nR9 _)
def opRun (pm : Bool) (ts : List Tk) (ws : List Frm) (vs : List Int) (f : Fl) : Option St := (opC ts ws vs f).bind (run pm)
def Pops (w : Frm) (ts : List Tk) : Prop := betw (sgn ts) = 0 ∨ w.2 ≤ 10 ∧ betw (sgn ts) = 11 ∨ w.2 ≤ (betw (sgn ts) : Int) ∧ betw (sgn ts) ≤ 10
theorem pop {pm : Bool} {w : Frm} {ts : List Tk} {ws : List Frm} {vs : List Int} {f : Fl} (hp : ws ≠ [] ∨ pm = false) (hw : w.2 ≤ 11) (h : Pops w ts) :
  run pm ⟨ts, w :: ws, vs, f⟩ = run pm ⟨ts, ws, (red w vs f).1, (red w vs f).2⟩ := by
 rw [run_step (by simp [doneC])]
 cases hd : doneC pm ⟨ts, ws, (red w vs f).1, (red w vs f).2⟩ with
 | true =>
  unfold doneC at hd
  simp at hd
  obtain ⟨he, hd⟩ := hd
  subst he
  rcases hp with hp | hp
  ·exact absurd rfl hp
  subst hp
  simp at hd
  have : folC ⟨ts, [w], vs, f⟩ = some ⟨ts, [], (red w vs f).1, (red w vs f).2⟩ := by
   simp [folC, hd, fin, hw, endC]
  rw [this]
  rfl
 | false =>
  rw [run_step hd]
  congr 1
  rcases h with h | ⟨h1, h2⟩ | ⟨h1, h2⟩
  ·simp [folC, h, fin, hw]
  ·simp [folC, h2, fin, h1]
  ·by_cases hk : betw (sgn ts) = 0
   ·simp [folC, hk, fin, hw]
   ·have : ¬ betw (sgn ts) = 11 := by omega
    simp [folC, hk, this, fin, h1]
theorem rowGo_le (s : ByteArray) : ∀ (l : List (List ByteArray)) (i : Nat), rowGo s l i = 0 ∨ (i ≤ rowGo s l i ∧ rowGo s l i < i + l.length) := by
 intro l
 induction l with
 | nil => intro i; exact .inl rfl
 | cons r rs ih =>
  intro i
  unfold rowGo
  split
  ·right; simp
  ·rcases ih (i + 1) with h | h
   ·exact .inl h
   ·right; simp; omega
theorem betw_le (s : ByteArray) : betw s ≤ 11 := by
 unfold betw
 split
 ·omega
 split
 ·omega
 rcases rowGo_le s rowL 1 with h | h
 ·omega
 ·have : rowL.length = 10 := rfl
  omega
theorem betw_q {s : ByteArray} : betw s = 11 ↔ s = sQ := by
 constructor
 ·intro h
  unfold betw at h
  split at h
  ·cases h
  split at h
  ·assumption
  rcases rowGo_le s rowL 1 with h1 | h1
  ·omega
  ·have : rowL.length = 10 := rfl
   omega
 ·rintro rfl; decide
def lim : List Frm → Nat
 | [] => 11
 | w :: _ => if w.2 ≤ 10 then w.2.toNat else 11
theorem lim_lt {w : Frm} {ws : List Frm} {k : Nat} (_h0 : 0 ≤ w.2) (h : k < lim (w :: ws)) (hk : k ≤ 10) : ¬ w.2 ≤ (k : Int) := by
 have : lim (w :: ws) = if w.2 ≤ 10 then w.2.toNat else 11 := rfl
 rw [this] at h
 split at h <;> omega
theorem not_done {pm : Bool} {st : St} (h : st.ws ≠ [] ∨ pm = false) (hk : betw (sgn st.ts) ≠ 0) : doneC pm st = false := by
 unfold doneC
 rcases h with h | h
 ·cases hw : st.ws with
  | nil => exact absurd hw h
  | cons => rfl
 ·simp [h, hk]
def okW (w : Frm) : Prop := 0 ≤ w.2 ∧ w.2 ≤ 12
structure K1 (pm : Bool) (n : Nat) : Prop where
 op : ∀ (ts : List Tk) (ws : List Frm) (vs : List Int) (f : Fl), 3 * ts.length < n → (∀ w ∈ ws, okW w) → (ws ≠ [] ∨ pm = false ∨ frontV (sgn ts) = false) →
  opRun pm ts ws vs f = (opd n (depth ws) ts f).bind fun r => run pm ⟨r.2.1, ws, r.1 :: vs, r.2.2⟩
 opl : ∀ (d : Nat) (ts : List Tk) (f : Fl) r, opd n d ts f = some r → r.2.1.length < ts.length
 rw : ∀ (ts : List Tk) (ws : List Frm) (x : Int) (vs : List Int) (f : Fl), 3 * ts.length < n → (∀ w ∈ ws, okW w) → (ws ≠ [] ∨ pm = false) →
  run pm ⟨ts, ws, x :: vs, f⟩ = (rws n (lim ws) (depth ws) x ts f).bind fun r => run pm ⟨r.2.1, ws, r.1 :: vs, r.2.2⟩
 rwl : ∀ (m d : Nat) (x : Int) (ts : List Tk) (f : Fl) r, rws n m d x ts f = some r → r.2.1.length ≤ ts.length ∧ (betw (sgn r.2.1) = 0 ∨ m ≤ betw (sgn r.2.1))
 wh : ∀ (ts : List Tk) (ws : List Frm) (vs : List Int) (f : Fl), 3 * ts.length + 1 < n → (∀ w ∈ ws, okW w) → lim ws = 11 → (ws ≠ [] ∨ pm = false) →
  opRun pm ts ws vs f = (whl n (depth ws) ts f).bind fun r => run pm ⟨r.2.1, ws, r.1 :: vs, r.2.2⟩
 whll : ∀ (d : Nat) (ts : List Tk) (f : Fl) r, whl n d ts f = some r → r.2.1.length < ts.length ∧ betw (sgn r.2.1) = 0
theorem front_ne {s : ByteArray} (h : frontV s = true) : s ≠ sLp ∧ s ≠ ⟨#[]⟩ ∧ s ≠ sQ := by
 refine ⟨?_, ?_, ?_⟩ <;> · rintro rfl; revert h; decide
theorem lp_ne : betw sLp = 0 ∧ frontV sLp = false := by decide
theorem k1 (pm : Bool) : ∀ n, K1 pm n := by
 intro n
 induction n with
 | zero =>
  refine ⟨fun _ _ _ _ h => by omega, fun _ _ _ _ h => ?_, fun _ _ _ _ _ h => by omega, fun _ _ _ _ _ _ h => ?_, fun _ _ _ _ h => by omega, fun _ _ _ _ h => ?_⟩
  ·simp [opd] at h
  ·simp [rws] at h
  ·simp [whl] at h
 | succ n ih =>
  refine ⟨?_, ?_, ?_, ?_, ?_, ?_⟩
  ·intro ts ws vs f hl hok hpm
   cases ts with
   | nil => simp [opRun, opC, opd]
   | cons t ts =>
    simp at hl
    unfold opRun opC opd
    by_cases h2 : t.1 = 2
    ·simp only [h2, if_true]; rfl
    simp only [h2, if_false]
    by_cases h3 : sgn (t :: ts) = sLp
    ·simp only [h3, if_true]
     have := ih.wh ts ((sLp, 12) :: ws) vs f (by omega) (by intro w hw; rcases List.mem_cons.1 hw with rfl | hw; exact ⟨by decide, by decide⟩; exact hok w hw) rfl (.inl (by simp))
     unfold opRun at this
     rw [this]
     have hdep : depth ((sLp, 12) :: ws) = depth ws + 1 := by simp [depth]; omega
     rw [hdep]
     cases hw : whl n (depth ws + 1) ts f with
     | none => rfl
     | some r =>
      obtain ⟨x, ts', f'⟩ := r
      have h5 := (ih.whll _ _ _ _ hw).2
      dsimp only at h5
      simp only [Option.bind]
      rw [run_step (by simp [doneC])]
      simp only [folC, h5, fin, endC]
      by_cases h6 : sgn ts' = sRp
      ·simp [h6]
      ·have : ¬ sLp = sQ := by decide
       simp [h6, this]
    simp only [h3, if_false]
    by_cases h4 : frontV (sgn (t :: ts)) = true
    ·simp only [h4, if_true]
     have hw' : ws ≠ [] ∨ pm = false := by
      rcases hpm with h | h | h
      ·exact .inl h
      ·exact .inr h
      ·rw [h] at h4; cases h4
     have := ih.op ts ((sgn (t :: ts), 0) :: ws) (0 :: vs) f (by omega) (by intro w hw; rcases List.mem_cons.1 hw with rfl | hw; exact ⟨by simp, by simp⟩; exact hok w hw) (.inl (by simp))
     unfold opRun at this
     rw [this]
     have hdep : depth ((sgn (t :: ts), 0) :: ws) = depth ws := by simp [depth, (front_ne h4).1]
     rw [hdep]
     cases hw : opd n (depth ws) ts f with
     | none => rfl
     | some r =>
      obtain ⟨x, ts', f'⟩ := r
      simp only [Option.bind]
      rw [pop hw' (by simp) ?_]
      ·rfl
      ·have := betw_le (sgn ts')
       unfold Pops
       simp
       omega
    ·simp only [h4]; rfl
  ·intro d ts f r h
   cases ts with
   | nil => simp [opd] at h
   | cons t ts =>
    unfold opd at h
    split at h
    ·cases h; simp
    split at h
    ·split at h
     ·rename_i hw
      split at h
      ·cases h
       have := (ih.whll _ _ _ _ hw).1
       simp at this ⊢
       omega
      ·cases h
     ·cases h
    split at h
    ·split at h
     ·rename_i hw
      cases h
      have := ih.opl _ _ _ _ hw
      simp at this ⊢
      omega
     ·cases h
    ·cases h
  ·intro ts ws x vs f hl hok hpm
   unfold rws
   by_cases hk : betw (sgn ts) = 0 ∨ lim ws ≤ betw (sgn ts)
   ·simp only [hk, if_true]; rfl
   simp only [hk, if_false]
   have hk1 : betw (sgn ts) ≠ 0 := fun e => hk (.inl e)
   have hk2 : betw (sgn ts) < lim ws := Nat.lt_of_not_le fun e => hk (.inr e)
   have hl11 : lim ws ≤ 11 := by
    unfold lim
    split
    ·omega
    ·split <;> omega
   have hfin : fin (betw (sgn ts)) ws (x :: vs) f = (ws, x :: vs, f) := by
    cases ws with
    | nil => rfl
    | cons w ws =>
     have h0 := (hok w (by simp)).1
     have : ¬ w.2 ≤ (betw (sgn ts) : Int) := lim_lt h0 hk2 (by omega)
     simp [fin, this]
   have hlen := sgn_cons (betw_ne hk1)
   rw [run_step (not_done hpm hk1)]
   have hfol : folC ⟨ts, ws, x :: vs, f⟩ = opC (ts.drop 1) ((sgn ts, (betw (sgn ts) : Int)) :: ws) (x :: vs) f := by
    have : ¬ betw (sgn ts) = 11 := by omega
    simp [folC, hk1, this, hfin]
   rw [hfol]
   have hok' : ∀ w ∈ (sgn ts, (betw (sgn ts) : Int)) :: ws, okW w := by
    intro w hw
    rcases List.mem_cons.1 hw with rfl | hw
    ·exact ⟨by simp, by simp; omega⟩
    ·exact hok w hw
   have h1 := ih.op (ts.drop 1) ((sgn ts, (betw (sgn ts) : Int)) :: ws) (x :: vs) f (by omega) hok' (.inl (by simp))
   unfold opRun at h1
   rw [h1]
   have hne : sgn ts ≠ sLp := fun e => by rw [e] at hk1; exact hk1 lp_ne.1
   have hdep : depth ((sgn ts, (betw (sgn ts) : Int)) :: ws) = depth ws := by simp [depth, hne]
   rw [hdep]
   cases ho : opd n (depth ws) (ts.drop 1) f with
   | none => rfl
   | some r =>
    obtain ⟨y, ts', f'⟩ := r
    have hl' := ih.opl _ _ _ _ ho
    simp only [Option.bind]
    dsimp only at hl'
    have h2 := ih.rw ts' ((sgn ts, (betw (sgn ts) : Int)) :: ws) y (x :: vs) f' (by omega) hok' (.inl (by simp))
    rw [h2, hdep]
    have hlim : lim ((sgn ts, (betw (sgn ts) : Int)) :: ws) = betw (sgn ts) := by
     unfold lim
     simp
     omega
    rw [hlim]
    cases hr : rws n (betw (sgn ts)) (depth ws) y ts' f' with
    | none => rfl
    | some r =>
     obtain ⟨y', ts'', f''⟩ := r
     have hl2 := ih.rwl _ _ _ _ _ _ hr
     simp only [Option.bind]
     dsimp only at hl2
     rw [pop hpm (by simp; omega) ?_]
     ·have : red (sgn ts, (betw (sgn ts) : Int)) (y' :: x :: vs) f'' = (calcD (betw (sgn ts)) (sgn ts) x y' :: vs, f''.dv (sgn ts) y') := by
       have : ¬ ((betw (sgn ts) : Int)) = 11 := by omega
       simp [red, this]
      rw [this]
      exact ih.rw ts'' ws _ vs _ (by omega) hok hpm
     ·have := betw_le (sgn ts'')
      unfold Pops
      simp
      omega
  ·intro m d x ts f r h
   unfold rws at h
   split at h
   ·rename_i hk
    cases h
    exact ⟨nR9 _, hk⟩
   ·rename_i hk
    have hk1 : betw (sgn ts) ≠ 0 := fun e => hk (.inl e)
    have hlen := sgn_cons (betw_ne hk1)
    split at h
    ·rename_i ho
     split at h
     ·rename_i hr
      have h1 := ih.opl _ _ _ _ ho
      have h2 := (ih.rwl _ _ _ _ _ _ hr).1
      have h3 := ih.rwl _ _ _ _ _ _ h
      simp at h1 h2
      exact ⟨by omega, h3.2⟩
     ·cases h
    ·cases h
  ·intro ts ws vs f hl hok hlim hpm
   have hpm' : ws ≠ [] ∨ pm = false ∨ frontV (sgn ts) = false := hpm.elim .inl fun h => .inr (.inl h)
   rw [whl]
   have h1 := ih.op ts ws vs f (by omega) hok hpm'
   rw [h1]
   cases ho : opd n (depth ws) ts f with
   | none => rfl
   | some r =>
    obtain ⟨x, ts1, f1⟩ := r
    have hl1 := ih.opl _ _ _ _ ho
    simp only [Option.bind]
    dsimp only at hl1
    have h2 := ih.rw ts1 ws x vs f1 (by omega) hok hpm
    rw [h2, hlim]
    cases hr : rws n 11 (depth ws) x ts1 f1 with
    | none => rfl
    | some r =>
     obtain ⟨c, ts2, f2⟩ := r
     have hl2 := ih.rwl _ _ _ _ _ _ hr
     simp only [Option.bind]
     dsimp only at hl2
     by_cases hq : sgn ts2 = sQ
     ·simp only [hq, if_true]
      have hlen := sgn_cons (ts := ts2) (by rw [hq]; decide)
      have hb : betw (sgn ts2) = 11 := by rw [hq]; decide
      rw [run_step (not_done hpm (by dsimp only; omega))]
      have hfin : fin 10 ws (c :: vs) f2 = (ws, c :: vs, f2) := by
       cases ws with
       | nil => rfl
       | cons w ws =>
        have : ¬ w.2 ≤ 10 := by
         intro hw
         have := (hok w (by simp)).1
         unfold lim at hlim
         simp [hw] at hlim
         omega
        simp [fin, this]
      have hfol : folC ⟨ts2, ws, c :: vs, f2⟩ = opC (ts2.drop 1) ((sQ, 12) :: ws) (c :: vs) f2 := by
       have hb' : betw sQ = 11 := by decide
       simp [folC, hb', hfin, hq]
      rw [hfol]
      have hok2 : ∀ w ∈ (sQ, (12 : Int)) :: ws, okW w := by
       intro w hw
       rcases List.mem_cons.1 hw with rfl | hw
       ·exact ⟨by decide, by decide⟩
       ·exact hok w hw
      have hd2 : depth ((sQ, 12) :: ws) = depth ws := by
       have : ¬ sQ = sLp := by decide
       simp [depth, this]
      have h3 := ih.wh (ts2.drop 1) ((sQ, 12) :: ws) (c :: vs) f2 (by omega) hok2 rfl (.inl (by simp))
      unfold opRun at h3
      rw [h3, hd2]
      cases ha : whl n (depth ws) (ts2.drop 1) f2 with
      | none => rfl
      | some r =>
       obtain ⟨a, ts3, f3⟩ := r
       have hl3 := ih.whll _ _ _ _ ha
       simp only [Option.bind]
       dsimp only at hl3
       rw [run_step (by simp [doneC])]
       by_cases hc : sgn ts3 = sCol
       ·have hfol3 : folC ⟨ts3, (sQ, 12) :: ws, a :: c :: vs, f3⟩ = opC (ts3.drop 1) ((sCol, 11) :: ws) (a :: c :: vs) f3 := by
         have : ¬ sQ = sLp := by decide
         have hb' : betw sCol = 0 := by decide
         simp [folC, hb', fin, endC, hc, this]
        rw [hfol3]
        have hlen3 := sgn_cons (ts := ts3) (by rw [hc]; decide)
        simp only [hc, if_true]
        have hok3 : ∀ w ∈ (sCol, (11 : Int)) :: ws, okW w := by
         intro w hw
         rcases List.mem_cons.1 hw with rfl | hw
         ·exact ⟨by decide, by decide⟩
         ·exact hok w hw
        have hd3 : depth ((sCol, 11) :: ws) = depth ws := by
         have : ¬ sCol = sLp := by decide
         simp [depth, this]
        have h4 := ih.wh (ts3.drop 1) ((sCol, 11) :: ws) (a :: c :: vs) f3 (by omega) hok3 rfl (.inl (by simp))
        unfold opRun at h4
        rw [h4, hd3]
        cases hb4 : whl n (depth ws) (ts3.drop 1) f3 with
        | none => rfl
        | some r =>
         obtain ⟨b, ts4, f4⟩ := r
         have hl4 := ih.whll _ _ _ _ hb4
         simp only [Option.bind]
         dsimp only at hl4
         rw [pop hpm (by simp) (.inl hl4.2)]
         simp [red]
       ·have hfol3 : folC ⟨ts3, (sQ, 12) :: ws, a :: c :: vs, f3⟩ = none := by
         have : ¬ sQ = sLp := by decide
         simp [folC, hl3.2, fin, endC, hc, this]
        rw [hfol3]
        simp [hc]
     ·simp [hq]
  ·intro d ts f r h
   rw [whl] at h
   cases ho : opd n d ts f with
   | none => simp [ho] at h
   | some r =>
    obtain ⟨x, ts1, f1⟩ := r
    simp only [ho] at h
    have h1 := ih.opl _ _ _ _ ho
    cases hr : rws n 11 d x ts1 f1 with
    | none => simp [hr] at h
    | some r =>
     obtain ⟨c, ts2, f2⟩ := r
     simp only [hr] at h
     have h2 := ih.rwl _ _ _ _ _ _ hr
     dsimp only at h1 h2
     by_cases hq : sgn ts2 = sQ
     ·simp only [hq, if_true] at h
      have hlen := sgn_cons (ts := ts2) (by rw [hq]; decide)
      cases ha : whl n d (ts2.drop 1) f2 with
      | none => rw [ha] at h; cases h
      | some r =>
       obtain ⟨a, ts3, f3⟩ := r
       simp only [ha] at h
       have h3 := ih.whll _ _ _ _ ha
       dsimp only at h3
       by_cases hc : sgn ts3 = sCol
       ·simp only [hc, if_true] at h
        have hlen3 := sgn_cons (ts := ts3) (by rw [hc]; decide)
        cases hb : whl n d (ts3.drop 1) f3 with
        | none => rw [hb] at h; cases h
        | some r =>
         obtain ⟨b, ts4, f4⟩ := r
         simp only [hb] at h
         have h4 := ih.whll _ _ _ _ hb
         cases h
         dsimp only at h4 ⊢
         exact ⟨by omega, h4.2⟩
       ·simp [hc] at h
     ·simp only [hq, if_false] at h
      cases h
      dsimp only
      refine ⟨by omega, ?_⟩
      rcases h2.2 with h3 | h3
      ·exact h3
      ·have := betw_le (sgn ts2)
       exact absurd (betw_q.1 (by omega)) hq
end Go.Ab
