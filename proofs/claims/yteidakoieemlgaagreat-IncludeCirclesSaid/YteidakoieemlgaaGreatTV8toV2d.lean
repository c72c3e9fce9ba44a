/- Package expression: what follows an operand, and whole expressions. -/
import Derived.Test.YteidakoieemlgaaGreatTV6toV2c
namespace Go.Ab
open Go.Proofs
set_option linter.unusedSectionVars false
set_option maxRecDepth 100000
variable [Glob]

def endPre (r : Xr) (s : ByteArray) : Prop := okP r 1 ∧ s = signX r
def X35 : Table := ext X34 184 (saysX daS eaS endPre fun r s => (.bool (endX s r).1, (endX s r).2))

theorem x35 : TSound Tryz.prog X35 := by
  refine extX x34 184 (fn := Tryz.f184) rfl rfl daS eaS _ _ (fun _ => Nat.le_of_ble_eq_true rfl) [0, 1, 4, 5, 11, 15, 36] fun r s hs => ?_
  obtain ⟨h1, rfl⟩ := hs
  have b := h1.bounds
  generalize hsg : signX r = s
  repeat ((conv => whnf); refine ⟨by first | (unfold inI64; omega) | omega | exact ⟨by omega, by omega⟩ | (intro hg; first | (unfold inI64; omega) | omega | exact ⟨by omega, by omega⟩ | (simp [lit] at hg; unfold inI64; omega) | (simp [lit] at hg; omega) | (simp [lit] at hg; exact ⟨by omega, by omega⟩)) | (show (_ : Nat) + 1 ≤ 1000000000000; omega) | exact rfl | (unfold inI64; dsimp only; omega) | (dsimp only; omega) | (intro hg; simp [lit] at hg; first | (unfold inI64; dsimp only; omega) | (dsimp only; omega)) | decide +kernel, ?_⟩)
  conv => whnf
  refine cond_intro (fun h => ?_) (fun h => ?_)
  · have h0 : r.wl = 0 := by have : (r.wl : Int) = 0 := of_decide_eq_true h
                             omega
    repeat ((conv => whnf); refine ⟨by first | (unfold inI64; omega) | omega | exact ⟨by omega, by omega⟩ | (intro hg; first | (unfold inI64; omega) | omega | exact ⟨by omega, by omega⟩ | (simp [lit] at hg; unfold inI64; omega) | (simp [lit] at hg; omega) | (simp [lit] at hg; exact ⟨by omega, by omega⟩)) | (show (_ : Nat) + 1 ≤ 1000000000000; omega) | exact rfl | (unfold inI64; dsimp only; omega) | (dsimp only; omega) | (intro hg; simp [lit] at hg; first | (unfold inI64; dsimp only; omega) | (dsimp only; omega)) | decide +kernel, ?_⟩)
    conv => whnf
    unfold endX
    rw [if_pos h0]
    exact ends_eq ⟨rfl, rfl⟩
  have h0 : r.wl ≠ 0 := by have : ¬ (r.wl : Int) = 0 := of_decide_eq_false h
                           omega
  unfold endX
  rw [if_neg h0]
  repeat ((conv => whnf); refine ⟨by first | exact ⟨rfl, rfl, (show r.wl ≤ 1000000 by omega), (show r.wl ≤ r.wz.length by omega), h0⟩ | (unfold inI64; omega) | omega | exact ⟨by omega, by omega⟩ | (intro hg; first | (unfold inI64; omega) | omega | exact ⟨by omega, by omega⟩ | (simp [lit] at hg; unfold inI64; omega) | (simp [lit] at hg; omega) | (simp [lit] at hg; exact ⟨by omega, by omega⟩)) | (show (_ : Nat) + 1 ≤ 1000000000000; omega) | exact rfl | (unfold inI64; dsimp only; omega) | (dsimp only; omega) | (intro hg; simp [lit] at hg; first | (unfold inI64; dsimp only; omega) | (dsimp only; omega)) | decide +kernel, ?_⟩)
  conv => whnf
  refine cond_intro (fun h2 => ?_) (fun h2 => ?_)
  · have h3 : (topX r).1 = sLp ∧ s = sRp := by
      have := Bool.and_eq_true_iff.1 h2
      exact ⟨of_decide_eq_true this.1, of_decide_eq_true this.2⟩
    rw [if_pos h3]
    repeat ((conv => whnf); refine ⟨by first | (show inI64 (r.br - 1); unfold inI64; omega) | (show inI64 ((r.at_ : Int) + 1); unfold inI64; omega) | (unfold inI64; omega) | omega | exact ⟨by omega, by omega⟩ | (intro hg; first | (unfold inI64; omega) | omega | exact ⟨by omega, by omega⟩ | (simp [lit] at hg; unfold inI64; omega) | (simp [lit] at hg; omega) | (simp [lit] at hg; exact ⟨by omega, by omega⟩)) | (show (_ : Nat) + 1 ≤ 1000000000000; omega) | exact rfl | (unfold inI64; dsimp only; omega) | (dsimp only; omega) | (intro hg; simp [lit] at hg; first | (unfold inI64; dsimp only; omega) | (dsimp only; omega)) | decide +kernel, ?_⟩)
    conv => whnf
    exact ends_eq ⟨rfl, rfl⟩
  have h3 : ¬ ((topX r).1 = sLp ∧ s = sRp) := by
    rintro ⟨h4, h5⟩
    have : (decide ((topX r).1 = sLp) && decide (s = sRp)) = false := h2
    rw [decide_eq_true h4, decide_eq_true h5] at this
    cases this
  rw [if_neg h3]
  repeat ((conv => whnf); refine ⟨by first | (unfold inI64; omega) | omega | exact ⟨by omega, by omega⟩ | (intro hg; first | (unfold inI64; omega) | omega | exact ⟨by omega, by omega⟩ | (simp [lit] at hg; unfold inI64; omega) | (simp [lit] at hg; omega) | (simp [lit] at hg; exact ⟨by omega, by omega⟩)) | (show (_ : Nat) + 1 ≤ 1000000000000; omega) | exact rfl | (unfold inI64; dsimp only; omega) | (dsimp only; omega) | (intro hg; simp [lit] at hg; first | (unfold inI64; dsimp only; omega) | (dsimp only; omega)) | decide +kernel, ?_⟩)
  conv => whnf
  refine cond_intro (fun h4 => ?_) (fun h4 => ?_)
  · have h5 : (topX r).1 = sQ ∧ s = sCol := by
      have := Bool.and_eq_true_iff.1 h4
      exact ⟨of_decide_eq_true this.1, of_decide_eq_true this.2⟩
    rw [if_pos h5]
    have h6 := end_col h1 h0 h5.1 (hsg.trans h5.2)
    rw [h5.2]
    repeat ((conv => whnf); refine ⟨by first | exact ⟨rfl, rfl, (show r.wl - 1 ≤ 1000000 by omega), (show r.at_ ≤ 1000000 by omega), (show r.wl - 1 ≤ r.wz.length by omega)⟩ | exact ⟨rfl, rfl, h6⟩ | (unfold inI64; omega) | omega | exact ⟨by omega, by omega⟩ | (intro hg; first | (unfold inI64; omega) | omega | exact ⟨by omega, by omega⟩ | (simp [lit] at hg; unfold inI64; omega) | (simp [lit] at hg; omega) | (simp [lit] at hg; exact ⟨by omega, by omega⟩)) | (show (_ : Nat) + 1 ≤ 1000000000000; omega) | exact rfl | (unfold inI64; dsimp only; omega) | (dsimp only; omega) | (intro hg; simp [lit] at hg; first | (unfold inI64; dsimp only; omega) | (dsimp only; omega)) | decide +kernel, ?_⟩)
    conv => whnf
    exact ends_eq ⟨rfl, rfl⟩
  have h5 : ¬ ((topX r).1 = sQ ∧ s = sCol) := by
    rintro ⟨h6, h7⟩
    have : (decide ((topX r).1 = sQ) && decide (s = sCol)) = false := h4
    rw [decide_eq_true h6, decide_eq_true h7] at this
    cases this
  rw [if_neg h5]
  repeat ((conv => whnf); refine ⟨by first | (unfold inI64; omega) | omega | exact ⟨by omega, by omega⟩ | (intro hg; first | (unfold inI64; omega) | omega | exact ⟨by omega, by omega⟩ | (simp [lit] at hg; unfold inI64; omega) | (simp [lit] at hg; omega) | (simp [lit] at hg; exact ⟨by omega, by omega⟩)) | (show (_ : Nat) + 1 ≤ 1000000000000; omega) | exact rfl | (unfold inI64; dsimp only; omega) | (dsimp only; omega) | (intro hg; simp [lit] at hg; first | (unfold inI64; dsimp only; omega) | (dsimp only; omega)) | decide +kernel, ?_⟩)
  conv => whnf
  exact ends_eq ⟨rfl, rfl⟩

def X36 : Table := ext X35 178 (saysX da0 ea0 (fun r _ => okP r 1) fun r _ => (.bool (folX r).1, (folX r).2))

theorem x36 : TSound Tryz.prog X36 := by
  refine extX x35 178 (fn := Tryz.f178) rfl rfl da0 ea0 _ _ (fun _ => Nat.le_of_ble_eq_true rfl) [0, 2, 3, 4, 10, 18, 25] fun r _ h1 => ?_
  have hsm := h1.small
  have hle := betw_le (signX r)
  unfold folX
  repeat ((conv => whnf); refine ⟨by first | exact ⟨rfl, rfl, hsm⟩ | exact ⟨rfl, rfl, trivial⟩ | (unfold inI64; omega) | omega | exact ⟨by omega, by omega⟩ | (intro hg; first | (unfold inI64; omega) | omega | exact ⟨by omega, by omega⟩ | (simp [lit] at hg; unfold inI64; omega) | (simp [lit] at hg; omega) | (simp [lit] at hg; exact ⟨by omega, by omega⟩)) | (show (_ : Nat) + 1 ≤ 1000000000000; omega) | exact rfl | (unfold inI64; dsimp only; omega) | (dsimp only; omega) | (intro hg; simp [lit] at hg; first | (unfold inI64; dsimp only; omega) | (dsimp only; omega)) | decide +kernel, ?_⟩)
  conv => whnf
  refine cond_intro (fun h => ?_) (fun h => ?_)
  · have h0 : betw (signX r) = 0 := by have : ((betw (signX r) : Nat) : Int) = 0 := of_decide_eq_true h
                                       omega
    rw [if_pos h0]
    obtain ⟨f1, f2, f3, f4⟩ := finP h1 (k := 11) (by omega)
    repeat ((conv => whnf); refine ⟨by first | exact ⟨rfl, rfl, h1, by decide, by decide⟩ | exact ⟨rfl, rfl, f1, f2.symm⟩ | (unfold inI64; omega) | omega | exact ⟨by omega, by omega⟩ | (intro hg; first | (unfold inI64; omega) | omega | exact ⟨by omega, by omega⟩ | (simp [lit] at hg; unfold inI64; omega) | (simp [lit] at hg; omega) | (simp [lit] at hg; exact ⟨by omega, by omega⟩)) | (show (_ : Nat) + 1 ≤ 1000000000000; omega) | exact rfl | (unfold inI64; dsimp only; omega) | (dsimp only; omega) | (intro hg; simp [lit] at hg; first | (unfold inI64; dsimp only; omega) | (dsimp only; omega)) | decide +kernel, ?_⟩)
    conv => whnf
    exact ends_eq ⟨rfl, rfl⟩
  have h0 : betw (signX r) ≠ 0 := by have : ¬ ((betw (signX r) : Nat) : Int) = 0 := of_decide_eq_false h
                                     omega
  rw [if_neg h0]
  repeat ((conv => whnf); refine ⟨by first | (unfold inI64; omega) | omega | exact ⟨by omega, by omega⟩ | (intro hg; first | (unfold inI64; omega) | omega | exact ⟨by omega, by omega⟩ | (simp [lit] at hg; unfold inI64; omega) | (simp [lit] at hg; omega) | (simp [lit] at hg; exact ⟨by omega, by omega⟩)) | (show (_ : Nat) + 1 ≤ 1000000000000; omega) | exact rfl | (unfold inI64; dsimp only; omega) | (dsimp only; omega) | (intro hg; simp [lit] at hg; first | (unfold inI64; dsimp only; omega) | (dsimp only; omega)) | decide +kernel, ?_⟩)
  conv => whnf
  refine cond_intro (fun h2 => ?_) (fun h2 => ?_)
  · have h3 : betw (signX r) = 11 := by have : ((betw (signX r) : Nat) : Int) = 11 := of_decide_eq_true h2
                                        omega
    rw [if_pos h3]
    obtain ⟨f1, f2, f3, f4⟩ := finP h1 (k := 10) (by omega)
    have b := f1.bounds
    have h4 := fol_q h1 h3
    repeat ((conv => whnf); refine ⟨by first | exact ⟨rfl, rfl, h1, by decide, by decide⟩ | exact ⟨rfl, rfl, (show (finX 10 r.wl r).wl ≤ 1000000 by omega), (show (finX 10 r.wl r).at_ ≤ 1000000 by omega), (show (finX 10 r.wl r).wl ≤ (finX 10 r.wl r).wz.length by omega)⟩ | exact ⟨rfl, rfl, h4⟩ | (unfold inI64; omega) | omega | exact ⟨by omega, by omega⟩ | (intro hg; first | (unfold inI64; omega) | omega | exact ⟨by omega, by omega⟩ | (simp [lit] at hg; unfold inI64; omega) | (simp [lit] at hg; omega) | (simp [lit] at hg; exact ⟨by omega, by omega⟩)) | (show (_ : Nat) + 1 ≤ 1000000000000; omega) | exact rfl | (unfold inI64; dsimp only; omega) | (dsimp only; omega) | (intro hg; simp [lit] at hg; first | (unfold inI64; dsimp only; omega) | (dsimp only; omega)) | decide +kernel, ?_⟩)
    conv => whnf
    exact ends_eq ⟨rfl, rfl⟩
  · have h3 : betw (signX r) ≠ 11 := by have : ¬ ((betw (signX r) : Nat) : Int) = 11 := of_decide_eq_false h2
                                        omega
    rw [if_neg h3]
    obtain ⟨f1, f2, f3, f4⟩ := finP h1 (k := betw (signX r)) (by omega)
    have b := f1.bounds
    have h4 := fol_k h1 h0 h3
    repeat ((conv => whnf); refine ⟨by first | exact ⟨rfl, rfl, h1, (show (0 : Int) ≤ ((betw (signX r) : Nat) : Int) by omega), (show ((betw (signX r) : Nat) : Int) ≤ 11 by omega)⟩ | exact ⟨rfl, rfl, (show (finX (betw (signX r)) r.wl r).wl ≤ 1000000 by omega), (show (finX (betw (signX r)) r.wl r).at_ ≤ 1000000 by omega), (show (finX (betw (signX r)) r.wl r).wl ≤ (finX (betw (signX r)) r.wl r).wz.length by omega)⟩ | exact ⟨rfl, rfl, h4⟩ | (unfold inI64; omega) | omega | exact ⟨by omega, by omega⟩ | (intro hg; first | (unfold inI64; omega) | omega | exact ⟨by omega, by omega⟩ | (simp [lit] at hg; unfold inI64; omega) | (simp [lit] at hg; omega) | (simp [lit] at hg; exact ⟨by omega, by omega⟩)) | (show (_ : Nat) + 1 ≤ 1000000000000; omega) | exact rfl | (unfold inI64; dsimp only; omega) | (dsimp only; omega) | (intro hg; simp [lit] at hg; first | (unfold inI64; dsimp only; omega) | (dsimp only; omega)) | decide +kernel, ?_⟩)
    conv => whnf
    exact ends_eq ⟨rfl, rfl⟩
end Go.Ab

/- Expressions: what is read, by descent. -/
namespace Go.Ab
set_option linter.unusedSectionVars false

def fl0 : Fl := ⟨false, false, false⟩
def faultF (f : Fl) : Int := match f.deep with | true => 3 | false => match f.oor with | true => 2 | false => match f.div with | true => 22 | false => 0

/-- What was read: value, tokens that are left, and the errors that were met. -/
def descV (pm : Bool) (ts : List Tk) : RdR :=
  match pm with
  | true => if frontV (sgn ts) = true then none else opd (3 * ts.length + 2) 0 ts fl0
  | false => whl (3 * ts.length + 2) 0 ts fl0

def exprV (pm : Bool) (toks : List tkC.den) (a : Int) : Int × Int × Int :=
  if a < 0 ∨ (toks.length : Int) ≤ a then (0, 0, 2)
  else match descV pm ((toks.drop a.toNat).map tkOf) with
    | none => (0, 0, 6)
    | some (x, ts, f) => if faultF f = 0 then (x, (toks.length : Int) - ts.length, 0) else (0, 0, faultF f)

def xr0 (toks : List tkC.den) (a : Nat) : Xr := ⟨toks, a, [], 0, 0, [], 0, 0, 0, false, false, false⟩

theorem xr0_ok {toks : List tkC.den} {a : Nat} (h : a ≤ toks.length) (hl : toks.length ≤ 1000000) : okP (xr0 toks a) 0 :=
  ⟨⟨Nat.le_refl _, Nat.le_refl _, h, rfl, Nat.zero_le _, Nat.zero_le _, rfl, fun w hw => (by cases hw)⟩, fun x hx => (by cases hx), hl⟩

def exprR (pm : Bool) (r : Xr) : Bool × Xr := if (opX' r).1 = true then loopX' pm (opX' r).2 else (false, (opX' r).2)
def firstR (pm : Bool) (r : Xr) : Bool × Xr := match pm with
  | true => if frontV (signX r) = true then (false, r) else exprR true r
  | false => exprR false r

/-- The same by the reader's steps. -/
def readR (pm : Bool) (toks : List tkC.den) (a : Int) : Int × Int × Int :=
  if a < 0 ∨ (toks.length : Int) ≤ a then (0, 0, 2)
  else if (firstR pm (xr0 toks a.toNat)).1 = false then (0, 0, 6)
  else if faultF (firstR pm (xr0 toks a.toNat)).2.fl = 0 then ((firstR pm (xr0 toks a.toNat)).2.vz.getD 0 0, (firstR pm (xr0 toks a.toNat)).2.at_, 0)
  else (0, 0, faultF (firstR pm (xr0 toks a.toNat)).2.fl)

theorem NN.expr {pm : Bool} {r : Xr} (h : NN r) : NN (exprR pm r).2 := by
  unfold exprR
  split
  · exact NN.loop _ _ _ (NN.op _ _ h)
  · exact NN.op _ _ h

theorem loopX_ok {pm : Bool} {r : Xr} (h : okX r 1) : Match (loopX' pm r) (run pm r.st) r.toks := loop_ok pm _ r h (Nat.le_refl _)

theorem exprR_ok (pm : Bool) (toks : List tkC.den) (a : Nat) (ha : a ≤ toks.length) (hl : toks.length ≤ 1000000) : Match (exprR pm (xr0 toks a)) (opRun pm ((toks.drop a).map tkOf) [] [] fl0) toks := by
  have h0 := xr0_ok ha hl
  obtain ⟨m1, m2⟩ := op_ok' h0.ok (toks := toks) rfl
  have e : opC (xr0 toks a).ts (xr0 toks a).W (xr0 toks a).V (xr0 toks a).fl = opC ((toks.drop a).map tkOf) [] [] fl0 := rfl
  rw [e] at m1 m2
  unfold exprR opRun
  cases hc : opC ((toks.drop a).map tkOf) [] [] fl0 with
  | none =>
    rw [hc] at m1
    have : (opX' (xr0 toks a)).1 = false := m1
    simp only [this, Bool.false_eq_true, if_false]
    exact ⟨rfl, fun st h => by simp at h⟩
  | some st =>
    rw [hc] at m1
    have h1 : (opX' (xr0 toks a)).1 = true := m1
    simp only [h1, if_true]
    obtain ⟨e1, e2, e3⟩ := m2 st hc
    have := loopX_ok (pm := pm) e2
    rw [e1, e3] at this
    exact this

theorem descV_run (pm : Bool) (ts : List Tk) (hpm : pm = true → frontV (sgn ts) = false) : opRun pm ts [] [] fl0 = (descV pm ts).bind fun r => run pm ⟨r.2.1, [], [r.1], r.2.2⟩ := by
  have k := k1 pm (3 * ts.length + 2)
  cases pm with
  | true =>
    have hf := hpm rfl
    have := k.op ts [] [] fl0 (by omega) (fun w hw => by cases hw) (.inr (.inr hf))
    unfold descV
    simp only [hf, Bool.false_eq_true, if_false]
    exact this
  | false =>
    have := k.wh ts [] [] fl0 (by omega) (fun w hw => by cases hw) rfl (.inr rfl)
    unfold descV
    exact this

theorem descV_done {pm : Bool} {ts : List Tk} {r : Int × List Tk × Fl} (h : descV pm ts = some r) : run pm ⟨r.2.1, [], [r.1], r.2.2⟩ = some ⟨r.2.1, [], [r.1], r.2.2⟩ := by
  refine run_done ?_
  cases pm with
  | true => rfl
  | false =>
    have := ((k1 false _).whll _ _ _ _ h).2
    unfold doneC
    simp [this]

theorem read_desc (pm : Bool) (toks : List tkC.den) (a : Int) (hl : toks.length ≤ 1000000) : readR pm toks a = exprV pm toks a := by
  unfold readR exprV
  by_cases ha : a < 0 ∨ (toks.length : Int) ≤ a
  · rw [if_pos ha, if_pos ha]
  rw [if_neg ha, if_neg ha]
  have ha1 : a.toNat ≤ toks.length := by omega
  have hsg : signX (xr0 toks a.toNat) = sgn ((toks.drop a.toNat).map tkOf) := rfl
  by_cases hf : pm = true ∧ frontV (sgn ((toks.drop a.toNat).map tkOf)) = true
  · obtain ⟨rfl, hf⟩ := hf
    have e1 : firstR true (xr0 toks a.toNat) = (false, xr0 toks a.toNat) := by
      unfold firstR
      simp only [hsg, hf, if_true]
    have e2 : descV true ((toks.drop a.toNat).map tkOf) = none := by
      unfold descV
      simp only [hf, if_true]
    rw [e1, e2]
    rfl
  have e1 : firstR pm (xr0 toks a.toNat) = exprR pm (xr0 toks a.toNat) := by
    unfold firstR
    cases pm with
    | true =>
      have : ¬ frontV (signX (xr0 toks a.toNat)) = true := fun h => hf ⟨rfl, h⟩
      show (if _ then _ else _) = _
      rw [if_neg this]
    | false => rfl
  have e2 := descV_run pm ((toks.drop a.toNat).map tkOf) fun hpm => by
    cases hx : frontV (sgn ((toks.drop a.toNat).map tkOf)) with
    | false => rfl
    | true => exact absurd ⟨hpm, hx⟩ hf
  obtain ⟨m1, m2⟩ := exprR_ok pm toks a.toNat ha1 hl
  rw [e1]
  rw [e2] at m1 m2
  cases hd : descV pm ((toks.drop a.toNat).map tkOf) with
  | none =>
    rw [hd] at m1
    have : (exprR pm (xr0 toks a.toNat)).1 = false := m1
    rw [if_pos this]
  | some r =>
    obtain ⟨x, ts, f⟩ := r
    rw [hd] at m1 m2
    have hr := descV_done hd
    simp only [Option.bind] at m1 m2
    rw [hr] at m1 m2
    have h1 : (exprR pm (xr0 toks a.toNat)).1 = true := m1
    obtain ⟨g1, g2, g3⟩ := m2 _ rfl
    rw [if_neg (by rw [h1]; decide)]
    generalize (exprR pm (xr0 toks a.toNat)).2 = q at g1 g2 g3 ⊢
    have gf : q.fl = f := congrArg St.f g1
    have gt : q.ts = ts := congrArg St.ts g1
    have gV : q.V = [x] := congrArg St.vs g1
    have gW : q.W = [] := congrArg St.ws g1
    rw [gf]
    have gat : (q.at_ : Int) = (toks.length : Int) - ts.length := by
      have h1 := ts_len q
      rw [gt, g3] at h1
      have h2 := g2.hat
      rw [g3] at h2
      omega
    have gx : q.vz.getD 0 0 = x := by
      have h1 := g2.hn
      rw [gW] at h1
      have h2 : q.vl = 1 := by simpa [needW] using h1
      have h3 := g2.hv
      unfold Xr.V at gV
      rw [h2, rev_take (n := 0) (by omega)] at gV
      simpa using gV
    rw [gat, gx]

/-! What is read are numbers and signs. -/
def Took (ts ts' : List Tk) : Prop := ∃ p, ts = p ++ ts' ∧ ∀ t ∈ p, t.1 = 2 ∨ t.1 = 4

theorem Took.refl (ts : List Tk) : Took ts ts := ⟨[], rfl, fun t h => by cases h⟩
theorem Took.trans {a b c : List Tk} (h : Took a b) (k : Took b c) : Took a c := by
  obtain ⟨p, rfl, hp⟩ := h
  obtain ⟨q, rfl, hq⟩ := k
  refine ⟨p ++ q, by simp, fun t ht => ?_⟩
  rcases List.mem_append.1 ht with h | h
  · exact hp t h
  · exact hq t h
theorem Took.one {t : Tk} {ts : List Tk} (h : t.1 = 2 ∨ t.1 = 4) : Took (t :: ts) ts := ⟨[t], rfl, fun x hx => by rw [List.mem_singleton.1 hx]; exact h⟩
theorem took_sign {ts : List Tk} (h : sgn ts ≠ ⟨#[]⟩) : Took ts (ts.drop 1) := by
  cases ts with
  | nil => exact absurd rfl h
  | cons t ts =>
    refine Took.one (.inr ?_)
    by_cases h4 : t.1 = 4
    · exact h4
    · exact absurd (by simp [sgn, h4]) h

theorem took : ∀ n : Nat, (∀ d ts f r, opd n d ts f = some r → Took ts r.2.1) ∧ (∀ m d x ts f r, rws n m d x ts f = some r → Took ts r.2.1) ∧ (∀ d ts f r, whl n d ts f = some r → Took ts r.2.1) := by
  intro n
  induction n with
  | zero => exact ⟨fun d ts f r h => by simp [opd] at h, fun m d x ts f r h => by simp [rws] at h, fun d ts f r h => by simp [whl] at h⟩
  | succ n ih =>
    obtain ⟨i1, i2, i3⟩ := ih
    refine ⟨fun d ts f r h => ?_, fun m d x ts f r h => ?_, fun d ts f r h => ?_⟩
    · cases ts with
      | nil => simp [opd] at h
      | cons t ts =>
        unfold opd at h
        split at h
        · rename_i h2
          cases h
          exact Took.one (.inl h2)
        split at h
        · rename_i hs
          have h0 := took_sign (ts := t :: ts) (by rw [hs]; decide)
          split at h
          · rename_i hw
            split at h
            · rename_i hr
              cases h
              exact (h0.trans (i3 _ _ _ _ hw)).trans (took_sign (by rw [hr]; decide))
            · cases h
          · cases h
        split at h
        · rename_i hs
          have h0 := took_sign (ts := t :: ts) (front_ne hs).2.1
          split at h
          · rename_i hw
            cases h
            have hh := i1 _ _ _ _ hw
            exact h0.trans hh
          · cases h
        · cases h
    · unfold rws at h
      split at h
      · cases h
        exact Took.refl _
      · rename_i hk
        have h0 := took_sign (ts := ts) (betw_ne fun e => hk (.inl e))
        split at h
        · rename_i ho
          split at h
          · rename_i hr
            exact ((h0.trans (i1 _ _ _ _ ho)).trans (i2 _ _ _ _ _ _ hr)).trans (i2 _ _ _ _ _ _ h)
          · cases h
        · cases h
    · rw [whl] at h
      cases ho : opd n d ts f with
      | none => simp [ho] at h
      | some r1 =>
        obtain ⟨x, ts1, f1⟩ := r1
        simp only [ho] at h
        have h1 := i1 _ _ _ _ ho
        cases hr : rws n 11 d x ts1 f1 with
        | none => simp [hr] at h
        | some r2 =>
          obtain ⟨c, ts2, f2⟩ := r2
          simp only [hr] at h
          have h2 := h1.trans (i2 _ _ _ _ _ _ hr)
          by_cases hq : sgn ts2 = sQ
          · simp only [hq, if_true] at h
            have h3 := h2.trans (took_sign (ts := ts2) (by rw [hq]; decide))
            cases ha : whl n d (ts2.drop 1) f2 with
            | none => rw [ha] at h; cases h
            | some r3 =>
              obtain ⟨a, ts3, f3⟩ := r3
              simp only [ha] at h
              have h4 := h3.trans (i3 _ _ _ _ ha)
              by_cases hc : sgn ts3 = sCol
              · simp only [hc, if_true] at h
                have h5 := h4.trans (took_sign (ts := ts3) (by rw [hc]; decide))
                cases hb : whl n d (ts3.drop 1) f3 with
                | none => rw [hb] at h; cases h
                | some r4 =>
                  obtain ⟨b, ts4, f4⟩ := r4
                  simp only [hb] at h
                  cases h
                  have hh := i3 _ _ _ _ hb
                  exact h5.trans hh
              · simp [hc] at h
          · simp only [hq, if_false] at h
            cases h
            exact h2

theorem descV_took {pm : Bool} {ts : List Tk} {r : Int × List Tk × Fl} (h : descV pm ts = some r) : Took ts r.2.1 := by
  unfold descV at h
  split at h
  · split at h
    · cases h
    · exact (took _).1 _ _ _ _ h
  · exact (took _).2.2 _ _ _ _ h

/-- What is no number and no sign is not read. -/
theorem took_last {ts ts' : List Tk} {e : Tk} (h : Took (ts ++ [e]) ts') (he : e.1 ≠ 2 ∧ e.1 ≠ 4) : ts' ≠ [] := by
  rintro rfl
  obtain ⟨p, hp, hq⟩ := h
  rw [List.append_nil] at hp
  subst hp
  rcases hq e (by simp) with h | h
  · exact he.1 h
  · exact he.2 h
end Go.Ab
