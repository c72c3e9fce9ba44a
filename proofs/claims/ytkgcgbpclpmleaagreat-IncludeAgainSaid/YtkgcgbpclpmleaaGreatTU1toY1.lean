/- The parser of expressions that the reference has, as a function, and that it reads what is read by descent. -/
import Derived.Test.YtkgcgbpclpmleaaGreatTV6toV2d
import Derived.Test.YtkgcgbpclpmleaaGreatTV4
import Derived.Test.YtkgcgbpclpmleaaGreatTX8toX10
namespace Go.Ab
set_option linter.unusedSectionVars false
structure Pr where
 toks : List tkC.den
 at_ : Nat
 sy : Bool
 f : Fl
def Pr.tok (p : Pr) : tkC.den := p.toks.getD p.at_ tkC.dflt
def Pr.ts (p : Pr) : List Tk := (p.toks.drop p.at_).map tkOf
def Pr.sg (p : Pr) : ByteArray := sgn p.ts
def Pr.adv (p : Pr) : Pr := { p with at_ := p.at_ + 1 }
def Pr.bad (p : Pr) : Pr := { p with sy := true }
def takeP (s : ByteArray) (p : Pr) : Pr := if p.sg = s then p.adv else p.bad
def rankV (s : ByteArray) : Nat := if betw s = 0 ∨ betw s = 11 then 0 else 11 - betw s
def applyV (s : ByteArray) (a b : Int) : Int := if by0 s b = true then 0 else calcV (betw s) s a b
def Pr.dv (p : Pr) (s : ByteArray) (b : Int) : Pr := { p with f := p.f.dv s b }
def rLoopF (row : Nat → Pr → Int × Pr) (least : Nat) : Nat → Int → Pr → Int × Pr
 | 0, x, p => (x, p)
 | m + 1, x, p => if p.sy = true then (x, p) else if rankV p.sg = 0 ∨ rankV p.sg < least then (x, p) else
   rLoopF row least m (applyV p.sg x (row (rankV p.sg + 1) p.adv).1) ((row (rankV p.sg + 1) p.adv).2.dv p.sg (row (rankV p.sg + 1) p.adv).1)
def rOF (o : Pr → Int × Pr) (w : Pr → Int × Pr) (d : Nat) (p : Pr) : Int × Pr :=
 if frontV p.sg = true then (calcV 0 p.sg 0 (o p.adv).1, (o p.adv).2)
 else if p.sg = sLp then ((w p.adv).1, takeP sRp (w p.adv).2)
 else if p.at_ < p.toks.length ∧ p.tok.1 = 2 then (w32 p.tok.2.2.1, { p.adv with f := p.f.num d p.tok.2.2.1 })
 else (0, p.bad)
def rWF (row : Pr → Int × Pr) (w : Pr → Int × Pr) (p : Pr) : Int × Pr :=
 if (row p).2.sy = true ∨ (row p).2.sg ≠ sQ then row p
 else if (w (row p).2.adv).2.sy = true then (0, (w (row p).2.adv).2)
 else if (takeP sCol (w (row p).2.adv).2).sy = true then (0, takeP sCol (w (row p).2.adv).2)
 else (if (row p).1 ≠ 0 then (w (row p).2.adv).1 else (w (takeP sCol (w (row p).2.adv).2)).1, (w (takeP sCol (w (row p).2.adv).2)).2)
mutual
def prO : Nat → Nat → Pr → Int × Pr
 | 0, _, p => (0, p.bad)
 | n + 1, d, p => rOF (fun q => prO n d q) (fun q => prW n (d + 1) q) d p
def prR : Nat → Nat → Nat → Pr → Int × Pr
 | 0, _, _, p => (0, p.bad)
 | n + 1, least, d, p => rLoopF (fun k q => prR n k d q) least p.toks.length (prO n d p).1 (prO n d p).2
def prW : Nat → Nat → Pr → Int × Pr
 | 0, _, p => (0, p.bad)
 | n + 1, d, p => rWF (fun q => prR n 1 d q) (fun q => prW n d q) p
end
structure Pres (p q : Pr) : Prop where
 toks : q.toks = p.toks
 le : p.at_ ≤ q.at_
 lt : q.at_ ≤ p.toks.length
 dv : p.f.div = true → q.f.div = true
theorem Pres.trans {p q r : Pr} (h : Pres p q) (k : Pres q r) : Pres p r :=
 ⟨k.toks.trans h.toks, Nat.le_trans h.le k.le, by have := k.lt; rw [h.toks] at this; exact this, fun x => k.dv (h.dv x)⟩
theorem Pres.refl {p : Pr} (h : p.at_ ≤ p.toks.length) : Pres p p := ⟨rfl, nR9 _, h, id⟩
def Rel (r : Int × Pr) (o : RdR) : Prop := match o with
 | some (x, ts, f) => r.2.sy = false ∧ r.2.ts = ts ∧ r.2.f = f ∧ (f.div = false → r.1 = x)
 | none => r.2.sy = true
theorem pts_len (p : Pr) : p.ts.length = p.toks.length - p.at_ := by unfold Pr.ts; simp
theorem pts_at (p : Pr) (h : p.at_ < p.toks.length) : p.ts = tkOf p.tok :: p.adv.ts := by
 unfold Pr.ts Pr.tok Pr.adv
 rw [List.drop_eq_getElem_cons h, List.map_cons]
 simp [h]
theorem pts_drop (p : Pr) : p.ts.drop 1 = p.adv.ts := by
 unfold Pr.ts Pr.adv
 rw [← List.map_drop, List.drop_drop]
theorem pts_end (p : Pr) (h : ¬ p.at_ < p.toks.length) : p.ts = [] := by
 unfold Pr.ts
 rw [List.drop_eq_nil_of_le (by omega)]
 rfl
theorem psg_lt {p : Pr} (h : p.sg ≠ ⟨#[]⟩) : p.at_ < p.toks.length := by
 refine Decidable.byContradiction fun hn => h ?_
 unfold Pr.sg
 rw [pts_end p hn]
 rfl
theorem adv_pres {p : Pr} (h : p.at_ < p.toks.length) : Pres p p.adv := ⟨rfl, Nat.le_succ _, h, id⟩
theorem bad_pres {p : Pr} (h : p.at_ ≤ p.toks.length) : Pres p p.bad := ⟨rfl, nR9 _, h, id⟩
theorem take_pres {p : Pr} {s : ByteArray} (h : p.at_ ≤ p.toks.length) (hs : s ≠ ⟨#[]⟩) : Pres p (takeP s p) := by
 unfold takeP
 split
 ·rename_i he
  exact adv_pres (psg_lt (by rw [he]; exact hs))
 ·exact bad_pres h
theorem rank_ne {s : ByteArray} (h : rankV s ≠ 0) : betw s ≠ 0 ∧ betw s ≤ 10 ∧ rankV s = 11 - betw s := by
 have := betw_le s
 unfold rankV at h ⊢
 split at h
 ·exact absurd rfl h
 ·rename_i hn
  rw [if_neg hn]
  omega
theorem rank_stop (s : ByteArray) {least : Nat} (h1 : 1 ≤ least) : (rankV s = 0 ∨ rankV s < least) ↔ (betw s = 0 ∨ 12 - least ≤ betw s) := by
 have := betw_le s
 unfold rankV
 split <;> omega
theorem dv_div {f : Fl} {s : ByteArray} {b : Int} : (f.dv s b).div = (f.div || by0 s b) := rfl
structure RowOk (row : Nat → Pr → Int × Pr) (N d len : Nat) : Prop where
 pres : ∀ k p, 1 ≤ k → p.toks.length = len → p.sy = false → p.at_ ≤ len → 3 * (len - p.at_) + 2 ≤ N → Pres p (row k p).2
 rel : ∀ k p, 1 ≤ k → p.toks.length = len → p.sy = false → p.at_ ≤ len → 3 * (len - p.at_) + 2 ≤ N → ∀ a b, 3 * (len - p.at_) + 1 ≤ a → 3 * (len - p.at_) + 1 ≤ b →
  Rel (row k p) (match opd a d p.ts p.f with | some (x, ts, f) => rws b (12 - k) d x ts f | none => none)
theorem loop_pres {row : Nat → Pr → Int × Pr} {N d len least : Nat} (hr : RowOk row N d len) : ∀ (m : Nat) (x : Int) (p : Pr), p.toks.length = len → p.at_ ≤ len → 3 * (len - p.at_) ≤ N + 1 → Pres p (rLoopF row least m x p).2 := by
 intro m
 induction m with
 | zero => intro x p hl ha _; exact Pres.refl (by omega)
 | succ m ih =>
  intro x p hl ha hN
  unfold rLoopF
  split
  ·exact Pres.refl (by omega)
  ·split
   ·exact Pres.refl (by omega)
   ·rename_i hs hk
    have hs' : p.sy = false := by simpa using hs
    have hk0 : rankV p.sg ≠ 0 := fun h => hk (.inl h)
    have hlt := psg_lt (betw_ne (rank_ne hk0).1)
    have h2 := adv_pres hlt
    have hat : p.adv.at_ = p.at_ + 1 := rfl
    have h3 := hr.pres (rankV p.sg + 1) p.adv (by omega) hl hs' (by omega) (by omega)
    have h4 : Pres (row (rankV p.sg + 1) p.adv).2 ((row (rankV p.sg + 1) p.adv).2.dv p.sg (row (rankV p.sg + 1) p.adv).1) := by
     refine ⟨rfl, nR9 _, ?_, fun h => ?_⟩
     ·have := h3.lt; rw [h3.toks]; exact this
     ·show ((row (rankV p.sg + 1) p.adv).2.f.dv _ _).div = true
      rw [dv_div, h]; rfl
    have h5 := (h2.trans h3).trans h4
    refine h5.trans (ih _ _ ?_ ?_ ?_)
    ·rw [h5.toks]; exact hl
    ·have := h5.lt; omega
    ·have := h3.le
     have h6 : ((row (rankV p.sg + 1) p.adv).2.dv p.sg (row (rankV p.sg + 1) p.adv).1).at_ = (row (rankV p.sg + 1) p.adv).2.at_ := rfl
     omega
theorem loop_rel {row : Nat → Pr → Int × Pr} {N d len least : Nat} (hr : RowOk row N d len) (h1 : 1 ≤ least) : ∀ (m : Nat) (x x' : Int) (p : Pr), p.toks.length = len → p.at_ ≤ len → p.sy = false → 3 * (len - p.at_) ≤ N + 1 → len - p.at_ ≤ m → (p.f.div = false → x = x') →
  ∀ b, 3 * (len - p.at_) + 1 ≤ b → Rel (rLoopF row least m x p) (rws b (12 - least) d x' p.ts p.f) := by
 intro m
 induction m with
 | zero =>
  intro x x' p hl ha hs hN hm hx b hb
  obtain ⟨b, rfl⟩ : ∃ c, b = c + 1 := ⟨b - 1, by omega⟩
  have he := pts_end p (by omega)
  unfold rLoopF rws
  rw [if_pos (by rw [he]; exact .inl rfl)]
  exact ⟨hs, rfl, rfl, hx⟩
 | succ m ih =>
  intro x x' p hl ha hs hN hm hx b hb
  obtain ⟨b, rfl⟩ : ∃ c, b = c + 1 := ⟨b - 1, by omega⟩
  unfold rLoopF rws
  rw [if_neg (by rw [hs]; decide)]
  by_cases hk : rankV p.sg = 0 ∨ rankV p.sg < least
  ·rw [if_pos hk, if_pos (show betw (sgn p.ts) = 0 ∨ 12 - least ≤ betw (sgn p.ts) from (rank_stop p.sg h1).1 hk)]
   exact ⟨hs, rfl, rfl, hx⟩
  ·rw [if_neg hk, if_neg (show ¬ (betw (sgn p.ts) = 0 ∨ 12 - least ≤ betw (sgn p.ts)) from fun h => hk ((rank_stop p.sg h1).2 h))]
   have hk0 : rankV p.sg ≠ 0 := fun h => hk (.inl h)
   obtain ⟨k0, k10, kr⟩ := rank_ne hk0
   have hlt := psg_lt (betw_ne k0)
   have h2 := adv_pres hlt
   have hat : p.adv.at_ = p.at_ + 1 := rfl
   have h3 := hr.pres (rankV p.sg + 1) p.adv (by omega) hl hs (by omega) (by omega)
   have h4 := hr.rel (rankV p.sg + 1) p.adv (by omega) hl hs (by omega) (by omega) b b (by omega) (by omega)
   rw [pts_drop]
   have e12 : 12 - (rankV p.sg + 1) = betw (sgn p.ts) := by rw [kr]; show _ = betw p.sg; omega
   rw [e12] at h4
   have hf : p.adv.f = p.f := rfl
   rw [hf] at h4
   generalize hR : row (rankV p.sg + 1) p.adv = R at h3 h4 ⊢
   have bad : ∀ q : Int × Pr, q.2.sy = true → (rLoopF row least m (applyV p.sg x q.1) (q.2.dv p.sg q.1)).2.sy = true := by
    intro q hq
    cases m with
    | zero => exact hq
    | succ m => unfold rLoopF; rw [if_pos (show (q.2.dv p.sg q.1).sy = true from hq)]; exact hq
   cases ho : opd b d p.adv.ts p.f with
   | none =>
    rw [ho] at h4
    exact bad R h4
   | some r =>
    obtain ⟨y, ts', f'⟩ := r
    rw [ho] at h4
    dsimp only at h4 ⊢
    cases hw : rws b (betw (sgn p.ts)) d y ts' f' with
    | none =>
     rw [hw] at h4
     exact bad R h4
    | some r =>
     obtain ⟨y', ts'', f''⟩ := r
     rw [hw] at h4
     obtain ⟨g1, g2, g3, g4⟩ := h4
     dsimp only
     have hle := h3.le
     have htk := h3.toks
     have hlt2 := h3.lt
     have ht : (R.2.dv p.sg R.1).ts = ts'' := g2
     have hF : (R.2.dv p.sg R.1).f = f''.dv (sgn p.ts) y' := by
      show R.2.f.dv p.sg R.1 = _
      rw [g3]
      cases hd : f''.div with
      | false => rw [g4 hd]; rfl
      | true =>
       unfold Fl.dv
       rw [hd, Bool.true_or, Bool.true_or]
     have := ih (applyV p.sg x R.1) (calcD (betw (sgn p.ts)) (sgn p.ts) x' y') (R.2.dv p.sg R.1) (by show R.2.toks.length = len; rw [htk]; exact hl) (by show R.2.at_ ≤ len; have : p.adv.toks.length = len := hl; omega) g1
      (by show 3 * (len - R.2.at_) ≤ N + 1; omega) (by show len - R.2.at_ ≤ m; omega) ?_ b (by show 3 * (len - R.2.at_) + 1 ≤ b; omega)
     ·rw [ht, hF] at this
      exact this
     ·intro hd
      rw [hF, dv_div] at hd
      have hd1 : f''.div = false := by cases h : f''.div <;> simp_all
      have hd2 : by0 (sgn p.ts) y' = false := by cases h : by0 (sgn p.ts) y' <;> simp_all
      have hd0 : p.f.div = false := by
       cases h : p.f.div with
       | false => rfl
       | true =>
        have := h3.dv h
        rw [g3, hd1] at this
        cases this
      rw [g4 hd1]
      have hd3 : by0 p.sg y' = false := hd2
      unfold applyV calcD
      rw [hd2, hd3, hx hd0]
      simp only [Bool.false_eq_true, if_false]
      rfl
structure ROk (n : Nat) : Prop where
 o1 : ∀ d p, p.sy = false → p.at_ ≤ p.toks.length → 3 * (p.toks.length - p.at_) + 1 ≤ n → Pres p (prO n d p).2 ∧ ((prO n d p).2.sy = false → p.at_ < (prO n d p).2.at_)
 o2 : ∀ d p, p.sy = false → p.at_ ≤ p.toks.length → 3 * (p.toks.length - p.at_) + 1 ≤ n → ∀ a, 3 * (p.toks.length - p.at_) + 1 ≤ a → Rel (prO n d p) (opd a d p.ts p.f)
 r : ∀ d len, RowOk (fun k q => prR n k d q) n d len
 w1 : ∀ d p, p.sy = false → p.at_ ≤ p.toks.length → 3 * (p.toks.length - p.at_) + 3 ≤ n → Pres p (prW n d p).2
 w2 : ∀ d p, p.sy = false → p.at_ ≤ p.toks.length → 3 * (p.toks.length - p.at_) + 3 ≤ n → ∀ a, 3 * (p.toks.length - p.at_) + 2 ≤ a → Rel (prW n d p) (whl a d p.ts p.f)
theorem opd_nil (a d : Nat) (f : Fl) : opd a d [] f = none := by cases a <;> simp [opd]
theorem bad_rel {x : Int} {p : Pr} : Rel (x, p.bad) none := rfl
theorem prO_succ (n d : Nat) (p : Pr) : prO (n + 1) d p = rOF (fun q => prO n d q) (fun q => prW n (d + 1) q) d p := by rw [prO]
theorem prR_succ (n l d : Nat) (p : Pr) : prR (n + 1) l d p = rLoopF (fun k q => prR n k d q) l p.toks.length (prO n d p).1 (prO n d p).2 := by rw [prR]
theorem prW_succ (n d : Nat) (p : Pr) : prW (n + 1) d p = rWF (fun q => prR n 1 d q) (fun q => prW n d q) p := by rw [prW]
theorem dv_front {f : Fl} {s : ByteArray} (h : frontV s = true) (b : Int) : f.dv s b = f := by
 have : by0 s b = false := by
  unfold by0 divs
  have h1 : ¬ s = ⟨#[47]⟩ := by rintro rfl; revert h; decide
  have h2 : ¬ s = ⟨#[37]⟩ := by rintro rfl; revert h; decide
  rw [dF9 h1, dF9 h2]
  simp
 unfold Fl.dv
 rw [this, Bool.or_false]
theorem calcD_front {s : ByteArray} (h : frontV s = true) (a b : Int) : calcD 0 s a b = calcV 0 s a b := by
 have : by0 s b = false := by
  unfold by0 divs
  have h1 : ¬ s = ⟨#[47]⟩ := by rintro rfl; revert h; decide
  have h2 : ¬ s = ⟨#[37]⟩ := by rintro rfl; revert h; decide
  rw [dF9 h1, dF9 h2]
  simp
 unfold calcD
 rw [this]
 rfl
theorem sgn_tok {p : Pr} (h : p.at_ < p.toks.length) : p.sg = match decide (p.tok.1 = 4) with | true => p.tok.2.1 | false => ⟨#[]⟩ := by
 unfold Pr.sg
 rw [pts_at p h]
 rfl
theorem rWF_stop {row w : Pr → Int × Pr} {p : Pr} (h : (row p).2.sy = true ∨ (row p).2.sg ≠ sQ) : rWF row w p = row p := by
 unfold rWF
 rw [if_pos h]
theorem rWF_a {row w : Pr → Int × Pr} {p : Pr} {A : Int × Pr} (h : (row p).2.sy = false) (h2 : (row p).2.sg = sQ) (hA : w (row p).2.adv = A) (h3 : A.2.sy = true) : rWF row w p = (0, A.2) := by
 unfold rWF
 rw [if_neg (by rw [h, h2]; simp), hA, if_pos h3]
theorem rWF_c {row w : Pr → Int × Pr} {p : Pr} {A : Int × Pr} {B : Pr} (h : (row p).2.sy = false) (h2 : (row p).2.sg = sQ) (hA : w (row p).2.adv = A) (h3 : A.2.sy = false) (hB : takeP sCol A.2 = B) (h4 : B.sy = true) : rWF row w p = (0, B) := by
 unfold rWF
 rw [if_neg (by rw [h, h2]; simp), hA, if_neg (by rw [h3]; decide), hB, if_pos h4]
theorem rWF_ok {row w : Pr → Int × Pr} {p : Pr} {A : Int × Pr} {B : Pr} (h : (row p).2.sy = false) (h2 : (row p).2.sg = sQ) (hA : w (row p).2.adv = A) (h3 : A.2.sy = false) (hB : takeP sCol A.2 = B) (h4 : B.sy = false) : rWF row w p = (if (row p).1 ≠ 0 then A.1 else (w B).1, (w B).2) := by
 unfold rWF
 rw [if_neg (by rw [h, h2]; simp), hA, if_neg (by rw [h3]; decide), hB, if_neg (by rw [h4]; decide)]
theorem rok : ∀ n, ROk n := by
 intro n
 induction n with
 | zero => exact ⟨fun d p _ _ h => absurd h (by omega), fun d p _ _ h => absurd h (by omega), fun d len => ⟨fun k p _ _ _ _ h => absurd h (by omega), fun k p _ _ _ _ h => absurd h (by omega)⟩, fun d p _ _ h => absurd h (by omega), fun d p _ _ h => absurd h (by omega)⟩
 | succ n ih =>
  refine ⟨?_, ?_, ?_, ?_, ?_⟩
  ·intro d p hs ha hn
   rw [prO_succ]
   unfold rOF
   by_cases hf : frontV p.sg = true
   ·rw [if_pos hf]
    have hlt := psg_lt (front_ne hf).2.1
    have hat : p.adv.at_ = p.at_ + 1 := rfl
    have htl : p.adv.toks = p.toks := rfl
    have h2 := adv_pres hlt
    have h3 := (ih.o1 d p.adv hs (by rw [htl]; omega) (by rw [htl]; omega)).1
    exact ⟨h2.trans h3, fun _ => by have := h3.le; show p.at_ < (prO n d p.adv).2.at_; omega⟩
   ·rw [if_neg hf]
    by_cases hp : p.sg = sLp
    ·rw [if_pos hp]
     have hlt := psg_lt (p := p) (by rw [hp]; decide)
     have hat : p.adv.at_ = p.at_ + 1 := rfl
     have htl : p.adv.toks = p.toks := rfl
     have h2 := adv_pres hlt
     have h3 := ih.w1 (d + 1) p.adv hs (by rw [htl]; omega) (by rw [htl]; omega)
     have h4 := take_pres (p := (prW n (d + 1) p.adv).2) (s := sRp) (by rw [h3.toks]; exact h3.lt) (by decide)
     exact ⟨(h2.trans h3).trans h4, fun _ => by have := h3.le; have := h4.le; show p.at_ < (takeP sRp (prW n (d + 1) p.adv).2).at_; omega⟩
    ·rw [if_neg hp]
     by_cases hk : p.at_ < p.toks.length ∧ p.tok.1 = 2
     ·rw [if_pos hk]
      exact ⟨⟨rfl, Nat.le_succ _, hk.1, fun h => h⟩, fun _ => nS9 _⟩
     ·rw [if_neg hk]
      exact ⟨bad_pres ha, fun h => by cases h⟩
  ·intro d p hs ha hn a hna
   obtain ⟨a, rfl⟩ : ∃ c, a = c + 1 := ⟨a - 1, by omega⟩
   rw [prO_succ]
   unfold rOF
   by_cases hlt : p.at_ < p.toks.length
   ·have hsg := sgn_tok hlt
    have hat : p.adv.at_ = p.at_ + 1 := rfl
    have htl : p.adv.toks = p.toks := rfl
    have h2 := adv_pres hlt
    have hts := pts_at p hlt
    have hsgn : sgn (tkOf p.tok :: p.adv.ts) = p.sg := by rw [← hts]; rfl
    rw [hts]
    unfold opd
    rw [hsgn]
    have hk1 : (tkOf p.tok).1 = p.tok.1 := rfl
    rw [hk1]
    by_cases hk : p.tok.1 = 2
    ·have hsg0 : p.sg = ⟨#[]⟩ := by rw [hsg, hk]; rfl
     rw [hsg0, if_neg (by decide), if_neg (by decide), if_pos ⟨hlt, hk⟩, if_pos hk]
     exact ⟨hs, rfl, rfl, fun _ => rfl⟩
    ·rw [if_neg hk]
     by_cases hp : p.sg = sLp
     ·rw [if_pos hp, hp, if_neg (by decide), if_pos rfl]
      have h3 := ih.w1 (d + 1) p.adv hs (by rw [htl]; omega) (by rw [htl]; omega)
      have h4 := ih.w2 (d + 1) p.adv hs (by rw [htl]; omega) (by rw [htl]; omega) a (by rw [htl]; omega)
      rw [show p.adv.f = p.f from rfl] at h4
      cases hw : whl a (d + 1) p.adv.ts p.f with
      | none =>
       rw [hw] at h4
       show (takeP sRp (prW n (d + 1) p.adv).2).sy = true
       have h5 : (prW n (d + 1) p.adv).2.sy = true := h4
       unfold takeP
       split
       ·exact h5
       ·rfl
      | some r =>
       obtain ⟨x, ts', f'⟩ := r
       rw [hw] at h4
       obtain ⟨g1, g2, g3, g4⟩ := h4
       dsimp only
       by_cases hr : sgn ts' = sRp
       ·rw [if_pos hr]
        have e : takeP sRp (prW n (d + 1) p.adv).2 = (prW n (d + 1) p.adv).2.adv := by
         unfold takeP
         rw [if_pos (show (prW n (d + 1) p.adv).2.sg = sRp by unfold Pr.sg; rw [g2]; exact hr)]
        refine ⟨?_, ?_, ?_, g4⟩
        ·show (takeP sRp (prW n (d + 1) p.adv).2).sy = false
         rw [e]; exact g1
        ·show (takeP sRp (prW n (d + 1) p.adv).2).ts = _
         rw [e, ← pts_drop, g2]
        ·show (takeP sRp (prW n (d + 1) p.adv).2).f = _
         rw [e]; exact g3
       ·rw [if_neg hr]
        show (takeP sRp (prW n (d + 1) p.adv).2).sy = true
        unfold takeP
        rw [if_neg (show ¬ (prW n (d + 1) p.adv).2.sg = sRp by unfold Pr.sg; rw [g2]; exact hr)]
        rfl
     ·rw [if_neg hp, if_neg hp]
      by_cases hf : frontV p.sg = true
      ·rw [if_pos hf, if_pos hf]
       have h4 := ih.o2 d p.adv hs (by rw [htl]; omega) (by rw [htl]; omega) a (by rw [htl]; omega)
       rw [show p.adv.f = p.f from rfl] at h4
       cases hw : opd a d p.adv.ts p.f with
       | none => rw [hw] at h4; exact h4
       | some r =>
        obtain ⟨x, ts', f'⟩ := r
        rw [hw] at h4
        obtain ⟨g1, g2, g3, g4⟩ := h4
        refine ⟨g1, g2, by rw [dv_front hf]; exact g3, fun hd => ?_⟩
        rw [dv_front hf] at hd
        rw [calcD_front hf, ← g4 hd]
      ·rw [if_neg hf, if_neg hf, if_neg (fun h => hk h.2)]
       exact bad_rel
   ·have he := pts_end p hlt
    have hsg0 : p.sg = ⟨#[]⟩ := by unfold Pr.sg; rw [he]; rfl
    rw [he, opd_nil, hsg0, if_neg (by decide), if_neg (by decide), if_neg (fun h => hlt h.1)]
    exact bad_rel
  ·intro d len
   have hrow := ih.r d len
   refine ⟨fun k p h1 hl hs ha hn => ?_, fun k p h1 hl hs ha hn a b hna hnb => ?_⟩
   ·show Pres p (prR (n + 1) k d p).2
    rw [prR_succ]
    subst hl
    obtain ⟨h3, h3b⟩ := ih.o1 d p hs ha (by omega)
    cases hsy : (prO n d p).2.sy with
    | true =>
     have e : ∀ m x, rLoopF (fun k q => prR n k d q) k m x (prO n d p).2 = (x, (prO n d p).2) := fun m x => by
      cases m with
      | zero => rfl
      | succ m => unfold rLoopF; rw [if_pos hsy]
     rw [e]
     exact h3
    | false =>
     have := h3b hsy
     exact h3.trans (loop_pres hrow _ _ _ (by rw [h3.toks]) h3.lt (by omega))
   ·show Rel (prR (n + 1) k d p) _
    rw [prR_succ]
    subst hl
    obtain ⟨h3, h3b⟩ := ih.o1 d p hs ha (by omega)
    have h4 := ih.o2 d p hs ha (by omega) a hna
    cases ho : opd a d p.ts p.f with
    | none =>
     rw [ho] at h4
     have hsy : (prO n d p).2.sy = true := h4
     have e : ∀ m x, rLoopF (fun k q => prR n k d q) k m x (prO n d p).2 = (x, (prO n d p).2) := fun m x => by
      cases m with
      | zero => rfl
      | succ m => unfold rLoopF; rw [if_pos hsy]
     rw [e]
     exact hsy
    | some r =>
     obtain ⟨x, ts', f'⟩ := r
     rw [ho] at h4
     obtain ⟨g1, g2, g3, g4⟩ := h4
     have := h3b g1
     have hk := loop_rel hrow h1 p.toks.length (prO n d p).1 x (prO n d p).2 (by rw [h3.toks]) h3.lt g1 (by omega) (by omega) (by rw [g3]; exact g4) b (by omega)
     rw [g2, g3] at hk
     exact hk
  ·intro d p hs ha hn
   rw [prW_succ]
   unfold rWF
   dsimp only
   have h1 := (ih.r d p.toks.length).pres 1 p (nR9 _) rfl hs ha (by omega)
   have h1' : Pres p (prR n 1 d p).2 := h1
   split
   ·exact h1'
   ·rename_i hc
    have hq : (prR n 1 d p).2.sg = sQ := Decidable.byContradiction fun h => hc (.inr h)
    have hs2 : (prR n 1 d p).2.sy = false := by
     cases h : (prR n 1 d p).2.sy with
     | false => rfl
     | true => exact absurd (.inl h) hc
    have hlt := psg_lt (p := (prR n 1 d p).2) (by rw [hq]; decide)
    have h2 := adv_pres hlt
    have hat : (prR n 1 d p).2.adv.at_ = (prR n 1 d p).2.at_ + 1 := rfl
    have htl : (prR n 1 d p).2.adv.toks = p.toks := h1'.toks
    have hle := h1'.le
    rw [h1'.toks] at hlt
    have h3 := ih.w1 d (prR n 1 d p).2.adv hs2 (by rw [htl]; omega) (by rw [htl]; omega)
    split
    ·exact (h1'.trans h2).trans h3
    ·rename_i hs3
     have hle3 := h3.le
     have hlt3 := h3.lt
     have h4 := take_pres (p := (prW n d (prR n 1 d p).2.adv).2) (s := sCol) (by rw [h3.toks]; exact h3.lt) (by decide)
     split
     ·exact ((h1'.trans h2).trans h3).trans h4
     ·rename_i hs4
      have hle4 := h4.le
      have h03 := (h1'.trans h2).trans h3
      have h04 := h03.trans h4
      have hlt4 := h04.lt
      have h5 := ih.w1 d (takeP sCol (prW n d (prR n 1 d p).2.adv).2) (by simpa using hs4) (by rw [h04.toks]; omega) (by rw [h04.toks]; omega)
      exact h04.trans h5
  ·intro d p hs ha hn a hna
   obtain ⟨a, rfl⟩ : ∃ c, a = c + 1 := ⟨a - 1, by omega⟩
   rw [prW_succ]
   unfold whl
   have h1' : Pres p (prR n 1 d p).2 := (ih.r d p.toks.length).pres 1 p (nR9 _) rfl hs ha (by omega)
   have hr : Rel (prR n 1 d p) (match opd a d p.ts p.f with | some (x, ts, f) => rws a (12 - 1) d x ts f | none => none) :=
    (ih.r d p.toks.length).rel 1 p (nR9 _) rfl hs ha (by omega) a a (by omega) (by omega)
   cases ho : opd a d p.ts p.f with
   | none =>
    rw [ho] at hr
    have hsy : (prR n 1 d p).2.sy = true := hr
    rw [rWF_stop (.inl hsy)]
    exact hsy
   | some r =>
    obtain ⟨x, ts1, f1⟩ := r
    rw [ho] at hr
    dsimp only at hr ⊢
    rw [show 12 - 1 = 11 from rfl] at hr
    cases hw : rws a 11 d x ts1 f1 with
    | none =>
     rw [hw] at hr
     have hsy : (prR n 1 d p).2.sy = true := hr
     rw [rWF_stop (.inl hsy)]
     exact hsy
    | some r =>
     obtain ⟨c, ts2, f2⟩ := r
     rw [hw] at hr
     obtain ⟨g1, g2, g3, g4⟩ := hr
     dsimp only
     have hsg : (prR n 1 d p).2.sg = sgn ts2 := by unfold Pr.sg; rw [g2]
     by_cases hq : sgn ts2 = sQ
     ·rw [if_pos hq]
      have hq' : (prR n 1 d p).2.sg = sQ := hsg.trans hq
      have hlt := psg_lt (p := (prR n 1 d p).2) (by rw [hsg, hq]; decide)
      have h2 := adv_pres hlt
      have hat : (prR n 1 d p).2.adv.at_ = (prR n 1 d p).2.at_ + 1 := rfl
      have htl : (prR n 1 d p).2.adv.toks = p.toks := h1'.toks
      have hle := h1'.le
      rw [h1'.toks] at hlt
      have h3 := ih.w1 d (prR n 1 d p).2.adv g1 (by rw [htl]; omega) (by rw [htl]; omega)
      have k3 := ih.w2 d (prR n 1 d p).2.adv g1 (by rw [htl]; omega) (by rw [htl]; omega) a (by rw [htl]; omega)
      rw [← pts_drop, g2, show (prR n 1 d p).2.adv.f = (prR n 1 d p).2.f from rfl, g3] at k3
      have h03 := (h1'.trans h2).trans h3
      obtain ⟨A, hA⟩ : ∃ A, prW n d (prR n 1 d p).2.adv = A := ⟨_, rfl⟩
      rw [hA] at h3 k3 h03
      cases hw3 : whl a d (ts2.drop 1) f2 with
      | none =>
       rw [hw3] at k3
       have hsy : A.2.sy = true := k3
       rw [rWF_a (row := fun q => prR n 1 d q) (w := fun q => prW n d q) g1 hq' hA hsy]
       exact hsy
      | some r =>
       obtain ⟨x3, ts3, f3⟩ := r
       rw [hw3] at k3
       obtain ⟨e1, e2, e3, e4⟩ := k3
       dsimp only
       have hle3 := h3.le
       have hlt3 := h3.lt
       by_cases hc : sgn ts3 = sCol
       ·have et : takeP sCol A.2 = A.2.adv := by
         unfold takeP
         rw [if_pos (show A.2.sg = sCol by unfold Pr.sg; rw [e2]; exact hc)]
        rw [if_pos hc, rWF_ok (row := fun q => prR n 1 d q) (w := fun q => prW n d q) g1 hq' hA e1 et e1]
        have hlt4 := psg_lt (p := A.2) (by unfold Pr.sg; rw [e2, hc]; decide)
        have h4 := adv_pres hlt4
        have h04 := h03.trans h4
        have hat4 : A.2.adv.at_ = A.2.at_ + 1 := rfl
        have hlt04 := h04.lt
        have h5 := ih.w1 d A.2.adv e1 (by rw [h04.toks]; omega) (by rw [h04.toks]; omega)
        have k5 := ih.w2 d A.2.adv e1 (by rw [h04.toks]; omega) (by rw [h04.toks]; omega) a (by rw [h04.toks]; omega)
        rw [← pts_drop, e2, show A.2.adv.f = A.2.f from rfl, e3] at k5
        cases hw5 : whl a d (ts3.drop 1) f3 with
        | none => rw [hw5] at k5; exact k5
        | some r =>
         obtain ⟨x5, ts5, f5⟩ := r
         rw [hw5] at k5
         obtain ⟨i1, i2, i3, i4⟩ := k5
         refine ⟨i1, i2, i3, fun hd => ?_⟩
         have d3 : f3.div = false := by
          cases h : f3.div with
          | false => rfl
          | true =>
           have := h5.dv (show A.2.adv.f.div = true by show A.2.f.div = true; rw [e3]; exact h)
           rw [i3, hd] at this
           cases this
         have d2 : f2.div = false := by
          cases h : f2.div with
          | false => rfl
          | true =>
           have := h3.dv (show (prR n 1 d p).2.adv.f.div = true by show (prR n 1 d p).2.f.div = true; rw [g3]; exact h)
           rw [e3, d3] at this
           cases this
         dsimp only
         rw [g4 d2, e4 d3, i4 hd]
       ·have et : takeP sCol A.2 = A.2.bad := by
         unfold takeP
         rw [if_neg (show ¬ A.2.sg = sCol by unfold Pr.sg; rw [e2]; exact hc)]
        rw [if_neg hc, rWF_c (row := fun q => prR n 1 d q) (w := fun q => prW n d q) g1 hq' hA e1 et rfl]
        exact bad_rel
     ·rw [rWF_stop (row := fun q => prR n 1 d q) (.inr (by rw [hsg]; exact hq)), if_neg hq]
      exact ⟨g1, g2, g3, g4⟩
def pr0 (toks : List tkC.den) (a : Nat) : Pr := ⟨toks, a, false, fl0⟩
def doneP (r : Int × Pr) : Int × Int × Int := if r.2.sy = true then (0, 0, 6) else if faultF r.2.f = 0 then (r.1, (r.2.at_ : Int), 0) else (0, 0, faultF r.2.f)
def refV (N : Nat) (pm : Bool) (toks : List tkC.den) (a : Int) : Int × Int × Int :=
 if a < 0 ∨ (toks.length : Int) ≤ a then (0, 0, 2)
 else match pm with
  | false => doneP (prW N 0 (pr0 toks a.toNat))
  | true => if (pr0 toks a.toNat).tok.1 ≠ 2 ∧ (pr0 toks a.toNat).sg ≠ sLp then (0, 0, 6) else doneP (prO N 0 (pr0 toks a.toNat))
theorem fault_div {f : Fl} (h : faultF f = 0) : f.div = false := by
 obtain ⟨a, b, c⟩ := f
 revert h
 cases a <;> cases b <;> cases c <;> decide
def outV (toks : List tkC.den) (o : RdR) : Int × Int × Int := match o with
 | none => (0, 0, 6)
 | some (x, ts, f) => if faultF f = 0 then (x, (toks.length : Int) - ts.length, 0) else (0, 0, faultF f)
theorem done_rel {toks : List tkC.den} {p : Pr} {r : Int × Pr} {o : RdR} (hp : Pres p r.2) (ht : p.toks = toks) (h : Rel r o) : doneP r = outV toks o := by
 unfold doneP outV
 cases o with
 | none => rw [if_pos (show r.2.sy = true from h)]
 | some q =>
  obtain ⟨x, ts, f⟩ := q
  obtain ⟨h1, h2, h3, h4⟩ := h
  rw [if_neg (by rw [h1]; decide), h3]
  dsimp only
  by_cases hf : faultF f = 0
  ·rw [if_pos hf, if_pos hf, h4 (fault_div hf)]
   have hl := pts_len r.2
   rw [h2, hp.toks, ht] at hl
   have := hp.lt
   rw [ht] at this
   rw [show (r.2.at_ : Int) = (toks.length : Int) - ts.length by omega]
  ·rw [if_neg hf, if_neg hf]
theorem ref_expr {N : Nat} (hN : 20000 ≤ N) (pm : Bool) (toks : List tkC.den) (a : Int) (hl : toks.length ≤ 6001) : refV N pm toks a = exprV pm toks a := by
 unfold refV exprV
 by_cases ha : a < 0 ∨ (toks.length : Int) ≤ a
 ·rw [if_pos ha, if_pos ha]
 ·rw [if_neg ha, if_neg ha]
  have h0 : (pr0 toks a.toNat).at_ ≤ (pr0 toks a.toNat).toks.length := by show a.toNat ≤ toks.length; omega
  have hlt : (pr0 toks a.toNat).at_ < (pr0 toks a.toNat).toks.length := by show a.toNat < toks.length; omega
  have hn : 3 * ((pr0 toks a.toNat).toks.length - (pr0 toks a.toNat).at_) + 3 ≤ N := by show 3 * (toks.length - a.toNat) + 3 ≤ N; omega
  have hts : (pr0 toks a.toNat).ts = (toks.drop a.toNat).map tkOf := rfl
  have hln : (pr0 toks a.toNat).ts.length = (pr0 toks a.toNat).toks.length - (pr0 toks a.toNat).at_ := pts_len _
  cases pm with
  | false =>
   dsimp only
   unfold descV
   dsimp only
   rw [← hts]
   exact done_rel ((rok N).w1 0 _ rfl h0 hn) rfl ((rok N).w2 0 (pr0 toks a.toNat) rfl h0 hn (3 * (pr0 toks a.toNat).ts.length + 2) (by rw [hln]; omega))
  | true =>
   dsimp only
   unfold descV
   dsimp only
   rw [← hts]
   have hsg := sgn_tok hlt
   have e : sgn (pr0 toks a.toNat).ts = (pr0 toks a.toNat).sg := rfl
   rw [e]
   by_cases hk : (pr0 toks a.toNat).tok.1 ≠ 2 ∧ (pr0 toks a.toNat).sg ≠ sLp
   ·rw [if_pos hk]
    by_cases hf : frontV (pr0 toks a.toNat).sg = true
    ·rw [if_pos hf]
    ·rw [if_neg hf, pts_at _ hlt]
     unfold opd
     have e2 : sgn (tkOf (pr0 toks a.toNat).tok :: (pr0 toks a.toNat).adv.ts) = (pr0 toks a.toNat).sg := by rw [← pts_at _ hlt]; rfl
     rw [e2, if_neg (show ¬ (tkOf (pr0 toks a.toNat).tok).1 = 2 from hk.1), if_neg hk.2, if_neg hf]
   ·rw [if_neg hk]
    have hf : ¬ frontV (pr0 toks a.toNat).sg = true := by
     intro hf
     refine hk ⟨fun h2 => ?_, (front_ne hf).1⟩
     refine (front_ne hf).2.1 ?_
     rw [hsg, h2]
     rfl
    rw [if_neg hf]
    exact done_rel ((rok N).o1 0 _ rfl h0 (by omega)).1 rfl ((rok N).o2 0 (pr0 toks a.toNat) rfl h0 (by omega) (3 * (pr0 toks a.toNat).ts.length + 2) (by rw [hln]; omega))
def rowsR : List (List ByteArray) := [[⟨#[124, 124]⟩], [⟨#[38, 38]⟩], [⟨#[124]⟩], [⟨#[94]⟩], [⟨#[38]⟩], [⟨#[61, 61]⟩, ⟨#[33, 61]⟩], [⟨#[60]⟩, ⟨#[62]⟩, ⟨#[60, 61]⟩, ⟨#[62, 61]⟩], [⟨#[60, 60]⟩, ⟨#[62, 62]⟩], [⟨#[43]⟩, ⟨#[45]⟩], [⟨#[42]⟩, ⟨#[47]⟩, ⟨#[37]⟩]]
def inRow (s : ByteArray) : List ByteArray → Bool
 | [] => false
 | x :: r => if x = s then true else inRow s r
def rkGo (s : ByteArray) : List (List ByteArray) → Nat → Nat
 | [], _ => 0
 | r :: rs, i => if inRow s r = true then i + 1 else rkGo s rs (i + 1)
theorem rank_go (s : ByteArray) : rkGo s rowsR 0 = rankV s := by
 by_cases h1 : s = ⟨#[124, 124]⟩
 ·subst h1; decide
 by_cases h2 : s = ⟨#[38, 38]⟩
 ·subst h2; decide
 by_cases h3 : s = ⟨#[124]⟩
 ·subst h3; decide
 by_cases h4 : s = ⟨#[94]⟩
 ·subst h4; decide
 by_cases h5 : s = ⟨#[38]⟩
 ·subst h5; decide
 by_cases h6 : s = ⟨#[61, 61]⟩
 ·subst h6; decide
 by_cases h7 : s = ⟨#[33, 61]⟩
 ·subst h7; decide
 by_cases h8 : s = ⟨#[60]⟩
 ·subst h8; decide
 by_cases h9 : s = ⟨#[62]⟩
 ·subst h9; decide
 by_cases h10 : s = ⟨#[60, 61]⟩
 ·subst h10; decide
 by_cases h11 : s = ⟨#[62, 61]⟩
 ·subst h11; decide
 by_cases h12 : s = ⟨#[60, 60]⟩
 ·subst h12; decide
 by_cases h13 : s = ⟨#[62, 62]⟩
 ·subst h13; decide
 by_cases h14 : s = ⟨#[43]⟩
 ·subst h14; decide
 by_cases h15 : s = ⟨#[45]⟩
 ·subst h15; decide
 by_cases h16 : s = ⟨#[42]⟩
 ·subst h16; decide
 by_cases h17 : s = ⟨#[47]⟩
 ·subst h17; decide
 by_cases h18 : s = ⟨#[37]⟩
 ·subst h18; decide
 by_cases h0 : s = ⟨#[]⟩
 ·subst h0; decide
 by_cases hq : s = sQ
 ·subst hq; decide
 have e : rkGo s rowsR 0 = 0 := by
  simp only [rowsR, rkGo, inRow]
  simp only [if_neg (Ne.symm h1), if_neg (Ne.symm h2), if_neg (Ne.symm h3), if_neg (Ne.symm h4), if_neg (Ne.symm h5), if_neg (Ne.symm h6), if_neg (Ne.symm h7), if_neg (Ne.symm h8), if_neg (Ne.symm h9), if_neg (Ne.symm h10), if_neg (Ne.symm h11), if_neg (Ne.symm h12), if_neg (Ne.symm h13), if_neg (Ne.symm h14), if_neg (Ne.symm h15), if_neg (Ne.symm h16), if_neg (Ne.symm h17), if_neg (Ne.symm h18), Bool.false_eq_true, if_false]
 have e2 : betw s = 0 := by
  unfold betw
  rw [if_neg h0, if_neg hq]
  simp only [rowL, rowGo, List.contains_cons, List.contains_nil, ba_beq, dF9 h1, dF9 h2, dF9 h3, dF9 h4, dF9 h5, dF9 h6, dF9 h7, dF9 h8, dF9 h9, dF9 h10, dF9 h11, dF9 h12, dF9 h13, dF9 h14, dF9 h15, dF9 h16, dF9 h17, dF9 h18, Bool.or_false, Bool.false_eq_true, if_false]
 rw [e]
 unfold rankV
 rw [e2]
 rfl
theorem rank_last {s : ByteArray} (h : rankV s ≠ 0) (h1 : s ≠ ⟨#[124, 124]⟩) (h2 : s ≠ ⟨#[38, 38]⟩) (h3 : s ≠ ⟨#[124]⟩) (h4 : s ≠ ⟨#[94]⟩) (h5 : s ≠ ⟨#[38]⟩) (h6 : s ≠ ⟨#[61, 61]⟩) (h7 : s ≠ ⟨#[33, 61]⟩) (h8 : s ≠ ⟨#[60]⟩) (h9 : s ≠ ⟨#[62]⟩) (h10 : s ≠ ⟨#[60, 61]⟩) (h11 : s ≠ ⟨#[62, 61]⟩) (h12 : s ≠ ⟨#[60, 60]⟩) (h13 : s ≠ ⟨#[62, 62]⟩)
  (h14 : s ≠ ⟨#[43]⟩) (h15 : s ≠ ⟨#[45]⟩) (h16 : s ≠ ⟨#[42]⟩) : s = ⟨#[47]⟩ ∨ s = ⟨#[37]⟩ := by
 refine Decidable.byContradiction fun hn => h ?_
 have h17 : s ≠ ⟨#[47]⟩ := fun e => hn (.inl e)
 have h18 : s ≠ ⟨#[37]⟩ := fun e => hn (.inr e)
 rw [← rank_go]
 simp only [rowsR, rkGo, inRow]
 simp only [if_neg (Ne.symm h1), if_neg (Ne.symm h2), if_neg (Ne.symm h3), if_neg (Ne.symm h4), if_neg (Ne.symm h5), if_neg (Ne.symm h6), if_neg (Ne.symm h7), if_neg (Ne.symm h8), if_neg (Ne.symm h9), if_neg (Ne.symm h10), if_neg (Ne.symm h11), if_neg (Ne.symm h12), if_neg (Ne.symm h13), if_neg (Ne.symm h14), if_neg (Ne.symm h15), if_neg (Ne.symm h16), if_neg (Ne.symm h17), if_neg (Ne.symm h18), Bool.false_eq_true, if_false]
theorem apply_nd {s : ByteArray} (h : divs s = false) (a b : Int) : applyV s a b = calcV (betw s) s a b := by
 unfold applyV by0
 rw [h, Bool.and_false, if_neg (by decide)]
theorem apply_nn (s : ByteArray) {a b : Int} (ha : u32r a) (hb : u32r b) : u32r (applyV s a b) := by
 unfold applyV
 split
 ·exact ⟨by decide, by decide⟩
 ·exact calc_nn _ _ _ _ ha hb
theorem rloop_nn {row : Nat → Pr → Int × Pr} (hr : ∀ k p, u32r (row k p).1) (least : Nat) : ∀ (m : Nat) (x : Int) (p : Pr), u32r x → u32r (rLoopF row least m x p).1 := by
 intro m
 induction m with
 | zero => intro x p h; exact h
 | succ m ih =>
  intro x p h
  unfold rLoopF
  split
  ·exact h
  ·split
   ·exact h
   ·exact ih _ _ (apply_nn _ h (hr _ _))
theorem r_nn : ∀ n, (∀ d p, u32r (prO n d p).1) ∧ (∀ k d p, u32r (prR n k d p).1) ∧ (∀ d p, u32r (prW n d p).1) := by
 intro n
 have z : u32r 0 := ⟨by decide, by decide⟩
 induction n with
 | zero =>
  refine ⟨fun d p => ?_, fun k d p => ?_, fun d p => ?_⟩
  ·rw [prO]; exact z
  ·rw [prR]; exact z
  ·rw [prW]; exact z
 | succ n ih =>
  refine ⟨fun d p => ?_, fun k d p => ?_, fun d p => ?_⟩
  ·rw [prO_succ]
   unfold rOF
   split
   ·exact calc_nn 0 p.sg 0 (prO n d p.adv).1 z (ih.1 _ _)
   ·split
    ·exact ih.2.2 _ _
    ·split
     ·exact wrap_nn _
     ·exact z
  ·rw [prR_succ]
   exact rloop_nn (fun k p => ih.2.1 k d p) _ _ _ _ (ih.1 _ _)
  ·rw [prW_succ]
   unfold rWF
   dsimp only
   split
   ·exact ih.2.1 _ _ _
   ·split
    ·exact z
    ·split
     ·exact z
     ·split
      ·exact ih.2.2 _ _
      ·exact ih.2.2 _ _
end Go.Ab
namespace Go.Ab
open Go.Proofs
set_option linter.unusedSectionVars false
set_option maxRecDepth 100000
variable [Glob]
abbrev prC (p : Pr) : List AC := [.p (.l tkC p.toks), .int .i64 p.at_, .bool p.sy, .bool p.f.deep, .bool p.f.oor, .bool p.f.div]
abbrev prH (p : Pr) : List AO := [.row (prC p)]
def prOf (H : List AO) : Option Pr :=
 match H with
 | [.row [.p (.l c0 toks), .p (.v (.int .i64 a)), .p (.v (.bool s)), .p (.v (.bool d)), .p (.v (.bool o)), .p (.v (.bool z))]] =>
  match castD (e := tkC) (e' := c0) toks with | some toks => some ⟨toks, a.toNat, s, ⟨d, o, z⟩⟩ | none => none
 | _ => none
def saysP {α : Type} (da : List AV → Option α) (ea : α → List AV) (pre : Pr → α → Prop) (g : Pr → α → SV × Pr) : Says := fun args H => match args with
 | .c (.ptr 0 0) :: al => match da al, prOf H with
  | some a, some r => some (some (al = ea a ∧ H = prH r ∧ pre r a), (g r a).1, prH (g r a).2)
  | _, _ => none
 | _ => none
def looksP {α : Type} (da : List AV → Option α) (ea : α → List AV) (pre : Pr → α → Prop) (g : Pr → α → SV) : List AV → List AO → Option (Option Prop × SV) := fun args H => match args with
 | .c (.ptr 0 0) :: al => match da al, prOf H with
  | some a, some r => some (some (al = ea a ∧ H = prH r ∧ pre r a), g r a)
  | _, _ => none
 | _ => none
theorem id1p : ∀ k, k < 1 → [0][k]? = some k := fun k hk => by
 have : k = 0 := by omega
 subst this; rfl
theorem extP {α : Type} {P : Program} {T : Table} (hT : TSound P T) (f : FuncId) {fn : Func} (hf : P.funcs[f]? = some fn) (hname : NG9 fn) (da : List AV → Option α) (ea : α → List AV) (pre : Pr → α → Prop) (g : Pr → α → SV × Pr) (hn : ∀ a, (ea a).length + 1 ≤ fn.ntmps) (ks : List Nat)
  (h : ∀ r a, pre r a → runF ⟨P, T⟩ fn ks [0] (.c (.ptr 0 0) :: ea a) (prH r) fun r' H'' => Ends r' H'' (g r a).1 (prH (g r a).2)) : TSound P (ext T f (saysP da ea pre g)) :=
 ext_run hT hf hname ks fun args H p r H' hs hp => by
  unfold saysP at hs
  split at hs
  ·split at hs
   ·cases hs
    obtain ⟨rfl, rfl, hpre⟩ := hp
    exact ⟨hn _, [0], rfl, id1p, h _ _ hpre⟩
   ·cases hs
  ·cases hs
theorem extLP {α : Type} {P : Program} {T : Table} (hT : TSound P T) (f : FuncId) {fn : Func} (hf : P.funcs[f]? = some fn) (hname : NG9 fn) (da : List AV → Option α) (ea : α → List AV) (pre : Pr → α → Prop) (g : Pr → α → SV) (hn : ∀ a, (ea a).length + 1 ≤ fn.ntmps) (ks : List Nat)
  (h : ∀ r a, pre r a → runF ⟨P, T⟩ fn ks [0] (.c (.ptr 0 0) :: ea a) (prH r) fun r' H'' => Ends r' H'' (g r a) (prH r)) : TSound P (ext T f (looks (looksP da ea pre g))) :=
 ext_look hT hf hname ks fun args H p r hs hp => by
  unfold looksP at hs
  split at hs
  ·split at hs
   ·cases hs
    obtain ⟨rfl, rfl, hpre⟩ := hp
    exact ⟨hn _, [0], rfl, id1p, h _ _ hpre⟩
   ·cases hs
  ·cases hs
theorem pr_no {p : Pr} (h : ¬ p.at_ < p.toks.length) : p.sg = ⟨#[]⟩ := by
 unfold Pr.sg
 rw [pts_end p h]
 rfl
theorem pr_in {p : Pr} (h : p.at_ < p.toks.length) (hk : p.tok.1 = 4) : p.sg = p.tok.2.1 := by
 rw [sgn_tok h, hk]
 rfl
theorem pr_not {p : Pr} (h : p.at_ < p.toks.length) (hk : ¬ p.tok.1 = 4) : p.sg = ⟨#[]⟩ := by
 rw [sgn_tok h, dF9 hk]
section
variable {T : Table} (hT : TS9 T)
abbrev P1 (T : Table) : Table := ext T 94 (looks (looksP da0 ea0 (fun _ _ => True) fun r _ => .str r.sg))
include hT in
theorem p1 : TS9 (P1 T) := by
 refine extLP hT 94 (fn := Tryz.f94) rfl rfl da0 ea0 _ _ (fun _ => nB9 rfl) [0, 2, 26] fun r _ _ => ?_
 repeat ((conv => whnf); refine ⟨by first | (intro hg; first | (unfold inI64; omega) | omega | exact ⟨by omega, by omega⟩ | (simp [lit] at hg; unfold inI64; omega) | (simp [lit] at hg; omega) | (simp [lit] at hg; exact ⟨by omega, by omega⟩)) | exact rfl, ?_⟩)
 conv => whnf
 refine cI9 ?_ ?_<;>intro h
 ·have h' : r.at_ < r.toks.length ∧ r.tok.1 = 4 := by
   have h2 : (decide ((r.at_ : Int) < (r.toks.length : Nat)) && decide (r.tok.1 = 4)) = true := h
   simpa using h2
  repeat ((conv => whnf); refine ⟨by first | omega | exact rfl, ?_⟩)
  conv => whnf
  exact eE9 ⟨congrArg SV.str (pr_in h'.1 h'.2).symm, rfl⟩
 ·have h' : ¬ (r.at_ < r.toks.length ∧ r.tok.1 = 4) := by
   have h2 : (decide ((r.at_ : Int) < (r.toks.length : Nat)) && decide (r.tok.1 = 4)) = false := h
   simpa using h2
  conv => whnf
  refine eE9 ⟨congrArg SV.str ?_, rfl⟩
  by_cases ha : r.at_ < r.toks.length
  ·rw [pr_not ha fun hk => h' ⟨ha, hk⟩]
  ·rw [pr_no ha]
abbrev P2 (T : Table) : Table := ext (P1 T) 116 (saysP daS eaS (fun r _ => r.at_ ≤ 1000000) fun r s => (.tup [], takeP s r))
include hT in
theorem p2 : TS9 (P2 T) := by
 refine extP (p1 hT) 116 (fn := Tryz.f116) rfl rfl daS eaS _ _ (fun _ => nB9 rfl) [0, 1, 7] fun r s hs => ?_
 have ha : r.at_ ≤ 1000000 := hs
 unfold takeP
 repeat ((conv => whnf); refine ⟨⟨rfl, rfl, trivial⟩, ?_⟩)
 conv => whnf
 refine cI9 ?_ ?_<;>intro h
 ·have h1 : ¬ r.sg = s := by
   have h2 : (!decide (r.sg = s)) = true := h
   simpa using h2
  rw [if_neg h1]
  conv => whnf
  exact eR9
 ·have h1 : r.sg = s := by
   have h2 : (!decide (r.sg = s)) = false := h
   simpa using h2
  rw [if_pos h1]
  repeat ((conv => whnf); refine ⟨by (unfold inI64; omega), ?_⟩)
  conv => whnf
  exact eR9
abbrev P3 (T : Table) : Table := ext (P2 T) 114 saysTr
include hT in
theorem p3 : TS9 (P3 T) := by
 refine ext_run (p2 hT) (f := 114) (fn := Tryz.f114) rfl rfl [0, 2, 3] fun args H p r H' hs hp => ?_
 unfold saysTr at hs
 split at hs
 ·cases hs
  refine ⟨by show 1 ≤ _; decide, [], rfl, nK9, ?_⟩
  conv => whnf
  refine cI9 ?_ ?_<;>intro h <;> subst h <;> conv => whnf
  ·exact eR9
  ·exact eR9
 ·cases hs
end
end Go.Ab
