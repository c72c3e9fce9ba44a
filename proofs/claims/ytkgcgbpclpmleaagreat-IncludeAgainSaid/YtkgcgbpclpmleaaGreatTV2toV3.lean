/- The reader of expressions, step by step, as data. -/
import Derived.Test.YtkgcgbpclpmleaaGreatTV1
import Derived.Test.YtkgcgbpclpmleaaGreatTR6toG3
namespace Go.Ab
set_option linter.unusedSectionVars false
abbrev tkC : CT := .pair (.int .i64) (.pair .str (.pair (.int .i64) (.pair (.int .i64) (.pair (.int .i64) (.int .i64)))))
structure Xr where
 toks : List tkC.den
 at_ : Nat
 vz : List Int
 vl : Nat
 vv : Nat
 wz : List Frm
 wl : Nat
 wv : Nat
 br : Int
 deep : Bool
 oor : Bool
 div : Bool
def tkOf (t : tkC.den) : Tk := (t.1, t.2.1, t.2.2.1)
def Xr.ts (r : Xr) : List Tk := (r.toks.drop r.at_).map tkOf
def Xr.W (r : Xr) : List Frm := (r.wz.take r.wl).reverse
def Xr.V (r : Xr) : List Int := (r.vz.take r.vl).reverse
def Xr.fl (r : Xr) : Fl := ⟨r.deep, r.oor, r.div⟩
def Xr.st (r : Xr) : St := ⟨r.ts, r.W, r.V, r.fl⟩
def signX (r : Xr) : ByteArray := sgn r.ts
def pushX (r : Xr) (x : Int) : Xr := { r with vz := r.vz.take r.vl ++ [x], vl := r.vl + 1, vv := r.vv + 1 }
def waitX (r : Xr) (s : ByteArray) (k : Int) : Xr := { r with wz := r.wz.take r.wl ++ [(s, k)], wl := r.wl + 1, wv := r.wv + 1, at_ := r.at_ + 1 }
def numX (r : Xr) (n : Int) : Xr := { pushX r (w32 n) with deep := r.deep || decide (8 < r.br), oor := r.oor || (decide (n < 0) || decide (4294967295 < n)), at_ := r.at_ + 1 }
def topX (r : Xr) : Frm := r.wz.getD (r.wl - 1) (⟨#[]⟩, 0)
def takeX (r : Xr) : Xr := { r with wl := r.wl - 1 }
def chosen (r : Xr) : Int := if r.vz.getD (r.vl - 3) 0 ≠ 0 then r.vz.getD (r.vl - 2) 0 else r.vz.getD (r.vl - 1) 0
def chooseX (r : Xr) : Xr := { r with vz := r.vz.take (r.vl - 3) ++ [chosen r], vl := r.vl - 3 + 1, vv := r.vv + 1 }
def compX (r : Xr) (p : Frm) : Xr := { r with vz := r.vz.take (r.vl - 2) ++ [calcD p.2.toNat p.1 (r.vz.getD (r.vl - 2) 0) (r.vz.getD (r.vl - 1) 0)], vl := r.vl - 2 + 1, vv := r.vv + 1, div := r.div || by0 p.1 (r.vz.getD (r.vl - 1) 0) }
def redX (r : Xr) (p : Frm) : Xr := if p.2 = 11 then chooseX r else compX r p
def finX (k : Nat) : Nat → Xr → Xr
 | 0, r => r
 | n + 1, r => if (topX r).2 ≤ (k : Int) then finX k n (redX (takeX r) (topX r)) else r
def opX : Nat → Xr → Bool × Xr
 | 0, r => (false, r)
 | n + 1, r => if (r.toks.getD r.at_ tkC.dflt).1 = 2 then (true, numX r (r.toks.getD r.at_ tkC.dflt).2.2.1)
  else if signX r = sLp then opX n (waitX { r with br := r.br + 1 } (signX r) 12)
  else if frontV (signX r) = true then opX n (waitX (pushX r 0) (signX r) 0)
  else (false, r)
def opX' (r : Xr) : Bool × Xr := opX (r.toks.length - r.at_) r
def endX (s : ByteArray) (r : Xr) : Bool × Xr :=
 if r.wl = 0 then (true, r)
 else if (topX r).1 = sLp ∧ s = sRp then (true, { takeX r with br := r.br - 1, at_ := r.at_ + 1 })
 else if (topX r).1 = sQ ∧ s = sCol then opX' (waitX (takeX r) s 11)
 else (false, takeX r)
def folX (r : Xr) : Bool × Xr :=
 if betw (signX r) = 0 then endX (signX r) (finX 11 r.wl r)
 else if betw (signX r) = 11 then opX' (waitX (finX 10 r.wl r) (signX r) 12)
 else opX' (waitX (finX (betw (signX r)) r.wl r) (signX r) (betw (signX r)))
def loopX (pm : Bool) : Nat → Xr → Bool × Xr
 | 0, r => (true, r)
 | n + 1, r => if doneC pm r.st = true then (true, r) else match folX r with
  | (true, r') => loopX pm n r'
  | (false, r') => (false, r')
def needF (w : Frm) : Nat := if w.2 = 12 then (if w.1 = sLp then 0 else 1) else if w.2 = 11 then 2 else 1
def needW : List Frm → Nat
 | [] => 0
 | w :: ws => needF w + needW ws
def okF (w : Frm) : Prop := (w.2 = 0 ∧ frontV w.1 = true) ∨ (1 ≤ w.2 ∧ w.2 ≤ 10 ∧ (betw w.1 : Int) = w.2) ∨ (w.2 = 11 ∧ w.1 = sCol) ∨ (w.2 = 12 ∧ (w.1 = sLp ∨ w.1 = sQ))
structure okX (r : Xr) (x : Nat) : Prop where
 hv : r.vl ≤ r.vz.length
 hw : r.wl ≤ r.wz.length
 hat : r.at_ ≤ r.toks.length
 hn : r.vl = needW r.W + x
 hwl : r.wl ≤ r.at_
 hvl : r.vl ≤ r.at_
 hbr : r.br = depth r.W
 hf : ∀ w ∈ r.W, okF w
theorem okF_lp {w : Frm} (h : okF w) (hk : w.2 ≤ 11) : w.1 ≠ sLp := by
 rcases h with ⟨_, h⟩ | ⟨h1, _, h⟩ | ⟨_, h⟩ | h
 ·exact (front_ne h).1
 ·intro e; rw [e, lp_ne.1] at h; simp at h; omega
 ·rw [h]; decide
 ·omega
theorem V_push (r : Xr) (x : Int) (h : r.vl ≤ r.vz.length) : (pushX r x).V = x :: r.V := by
 unfold Xr.V pushX
 simp [List.take_append, Nat.min_eq_left h, List.take_take]
theorem W_wait (r : Xr) (s : ByteArray) (k : Int) (h : r.wl ≤ r.wz.length) : (waitX r s k).W = (s, k) :: r.W := by
 unfold Xr.W waitX
 simp [List.take_append, Nat.min_eq_left h, List.take_take]
theorem ts_at (r : Xr) (h : r.at_ < r.toks.length) : r.ts = tkOf (r.toks.getD r.at_ tkC.dflt) :: (r.toks.drop (r.at_ + 1)).map tkOf := by
 unfold Xr.ts
 rw [List.drop_eq_getElem_cons h, List.map_cons]
 simp only [List.getD_eq_getElem?_getD, List.getElem?_eq_getElem h, Option.getD_some]
theorem ts_drop (r : Xr) : r.ts.drop 1 = (r.toks.drop (r.at_ + 1)).map tkOf := by
 unfold Xr.ts
 rw [← List.map_drop, List.drop_drop]
theorem ts_len (r : Xr) : r.ts.length = r.toks.length - r.at_ := by
 unfold Xr.ts
 simp
theorem W_top (r : Xr) (h0 : r.wl ≠ 0) (h : r.wl ≤ r.wz.length) : r.W = topX r :: (takeX r).W := by
 unfold Xr.W takeX topX
 obtain ⟨n, hn⟩ : ∃ n, r.wl = n + 1 := ⟨r.wl - 1, by omega⟩
 rw [hn]
 have hlt : n < r.wz.length := by omega
 rw [List.take_add_one]
 simp [hlt]
theorem W_nil (r : Xr) (h : r.wl = 0) : r.W = [] := by unfold Xr.W; simp [h]
theorem W_len (r : Xr) (h : r.wl ≤ r.wz.length) : r.W.length = r.wl := by
 unfold Xr.W; simp; omega
theorem rev_take {l : List Int} {n : Nat} (h : n < l.length) : (l.take (n + 1)).reverse = l.getD n 0 :: (l.take n).reverse := by
 rw [List.take_add_one]
 simp [h]
theorem red_V (r : Xr) (p : Frm) (_hp : okF p) (h11 : p.2 ≤ 11) (hv : r.vl ≤ r.vz.length) (hn : needF p + 1 ≤ r.vl) : (redX r p).V = (red p r.V r.fl).1 ∧ (redX r p).fl = (red p r.V r.fl).2 ∧
  (redX r p).vl + needF p = r.vl ∧ (redX r p).vl ≤ (redX r p).vz.length ∧ (redX r p).wz = r.wz ∧ (redX r p).wl = r.wl ∧ (redX r p).at_ = r.at_ ∧ (redX r p).toks = r.toks ∧ (redX r p).br = r.br := by
 by_cases hk : p.2 = 11
 ·have hneed : needF p = 2 := by simp [needF, hk]
  obtain ⟨n, hvl⟩ : ∃ n, r.vl = n + 1 + 1 + 1 := ⟨r.vl - 3, by omega⟩
  have hV : r.V = r.vz.getD (n + 2) 0 :: r.vz.getD (n + 1) 0 :: r.vz.getD n 0 :: (r.vz.take n).reverse := by
   unfold Xr.V
   rw [hvl, rev_take (by omega), rev_take (by omega), rev_take (by omega)]
  have e : redX r p = chooseX r := by simp [redX, hk]
  have hc : chosen r = if r.vz.getD n 0 ≠ 0 then r.vz.getD (n + 1) 0 else r.vz.getD (n + 2) 0 := by
   unfold chosen
   rw [hvl, show n + 1 + 1 + 1 - 3 = n from by omega, show n + 1 + 1 + 1 - 2 = n + 1 from by omega, show n + 1 + 1 + 1 - 1 = n + 2 from by omega]
  rw [e, hV]
  refine ⟨?_, ?_, ?_, ?_, rfl, rfl, rfl, rfl, rfl⟩
  ·have : (chooseX r).V = (pushX { r with vl := n } (chosen r)).V := by
    unfold Xr.V chooseX pushX
    simp [hvl]
   rw [this, V_push _ _ (by dsimp only; omega)]
   simp only [red, hk, if_true]
   rw [hc]
   rfl
  ·simp [red, hk]; rfl
  ·show r.vl - 3 + 1 + needF p = r.vl; omega
  ·show r.vl - 3 + 1 ≤ (r.vz.take (r.vl - 3) ++ [chosen r]).length
   simp; omega
 ·have hneed : needF p = 1 := by
   have : ¬ p.2 = 12 := by omega
   simp [needF, hk, this]
  obtain ⟨n, hvl⟩ : ∃ n, r.vl = n + 1 + 1 := ⟨r.vl - 2, by omega⟩
  have hV : r.V = r.vz.getD (n + 1) 0 :: r.vz.getD n 0 :: (r.vz.take n).reverse := by
   unfold Xr.V
   rw [hvl, rev_take (by omega), rev_take (by omega)]
  have e : redX r p = compX r p := by simp [redX, hk]
  rw [e, hV]
  refine ⟨?_, ?_, ?_, ?_, rfl, rfl, rfl, rfl, rfl⟩
  ·have : (compX r p).V = (pushX { r with vl := n } (calcD p.2.toNat p.1 (r.vz.getD n 0) (r.vz.getD (n + 1) 0))).V := by
    unfold Xr.V compX pushX
    simp [hvl]
   rw [this, V_push _ _ (by dsimp only; omega)]
   simp only [red, hk, if_false]
   rfl
  ·simp only [red, hk, if_false]
   unfold Xr.fl compX Fl.dv
   simp [hvl]
  ·show r.vl - 2 + 1 + needF p = r.vl; omega
  ·show r.vl - 2 + 1 ≤ (r.vz.take (r.vl - 2) ++ [_]).length
   simp; omega
theorem fin_ok (k : Nat) (hk : k ≤ 11) : ∀ (n : Nat) (r : Xr), okX r 1 → r.wl = n → okX (finX k n r) 1 ∧ ((finX k n r).W, (finX k n r).V, (finX k n r).fl) = fin k r.W r.V r.fl ∧ (finX k n r).toks = r.toks ∧ (finX k n r).at_ = r.at_ := by
 intro n
 induction n with
 | zero =>
  intro r h hn
  refine ⟨h, ?_, rfl, rfl⟩
  have : r.W = [] := W_nil r hn
  simp only [finX]
  rw [this]
  rfl
 | succ n ih =>
  intro r h hn
  have hW := W_top r (by omega) h.hw
  have hF : okF (topX r) := h.hf _ (by rw [hW]; simp)
  simp only [finX]
  by_cases hc : (topX r).2 ≤ (k : Int)
  ·rw [if_pos hc]
   have h11 : (topX r).2 ≤ 11 := by omega
   have hneed : r.vl = needF (topX r) + needW (takeX r).W + 1 := by
    have := h.hn
    rw [hW] at this
    simpa [needW] using this
   obtain ⟨e1, e2, e3, e4, e5, e6, e7, e8, e9⟩ := red_V (takeX r) (topX r) hF h11 (by exact h.hv) (by show _ ≤ r.vl; omega)
   have eW : (redX (takeX r) (topX r)).W = (takeX r).W := by unfold Xr.W; rw [e5, e6]
   have hd : depth r.W = depth (takeX r).W := by
    rw [hW]
    simp [depth, okF_lp hF h11]
   have hok : okX (redX (takeX r) (topX r)) 1 := by
    refine ⟨e4, by rw [e5, e6]; show r.wl - 1 ≤ r.wz.length; have := h.hw; omega, by rw [e7, e8]; exact h.hat, ?_, ?_, ?_, ?_, ?_⟩
    ·rw [eW]
     have : (takeX r).vl = r.vl := rfl
     omega
    ·rw [e6, e7]; show r.wl - 1 ≤ r.at_; have := h.hwl; omega
    ·rw [e7]; show _ ≤ r.at_
     have : (takeX r).vl = r.vl := rfl
     have := h.hvl
     omega
    ·rw [e9, eW]; show r.br = _; rw [h.hbr, hd]
    ·rw [eW]; intro w hw; exact h.hf w (by rw [hW]; exact List.mem_cons_of_mem _ hw)
   obtain ⟨i1, i2, i3, i4⟩ := ih _ hok (by rw [e6]; show r.wl - 1 = n; omega)
   refine ⟨i1, ?_, i3.trans e8, i4.trans e7⟩
   rw [i2, hW, eW, e1, e2]
   simp only [fin, hc, if_true]
   rfl
  ·rw [if_neg hc]
   refine ⟨h, ?_, rfl, rfl⟩
   rw [hW]
   simp only [fin, hc, if_false]
theorem push_ok {r : Xr} (h : okX r 0) (ha : r.at_ < r.toks.length) {s : ByteArray} (hs : frontV s = true) : okX (waitX (pushX r 0) s 0) 0 ∧ (waitX (pushX r 0) s 0).W = (s, 0) :: r.W ∧ (waitX (pushX r 0) s 0).V = 0 :: r.V := by
 have hW : (waitX (pushX r 0) s 0).W = (s, 0) :: r.W := W_wait (pushX r 0) s 0 h.hw
 have hV : (waitX (pushX r 0) s 0).V = 0 :: r.V := V_push r 0 h.hv
 refine ⟨⟨?_, ?_, ha, ?_, ?_, ?_, ?_, ?_⟩, hW, hV⟩
 ·show r.vl + 1 ≤ (r.vz.take r.vl ++ [0]).length
  have := h.hv
  simp; omega
 ·show r.wl + 1 ≤ (r.wz.take r.wl ++ [(s, 0)]).length
  have := h.hw
  simp; omega
 ·rw [hW]
  show r.vl + 1 = _
  rw [h.hn]
  simp [needW, needF]; omega
 ·show r.wl + 1 ≤ r.at_ + 1
  have := h.hwl; omega
 ·show r.vl + 1 ≤ r.at_ + 1
  have := h.hvl; omega
 ·rw [hW]
  show r.br = _
  rw [h.hbr]
  simp [depth, (front_ne hs).1]
 ·rw [hW]
  intro w hw
  rcases List.mem_cons.1 hw with rfl | hw
  ·exact .inl ⟨rfl, hs⟩
  ·exact h.hf w hw
theorem wait_ok {r : Xr} {s : ByteArray} {k : Int} {x : Nat} (h : okX r (x + needF (s, k))) (ha : r.at_ < r.toks.length) {b : Int} (hb : b = depth ((s, k) :: r.W)) (hF : okF (s, k)) : okX (waitX { r with br := b } s k) x ∧ (waitX { r with br := b } s k).W = (s, k) :: r.W := by
 have hW : (waitX { r with br := b } s k).W = (s, k) :: r.W := W_wait { r with br := b } s k h.hw
 refine ⟨⟨h.hv, ?_, ha, ?_, ?_, ?_, ?_, ?_⟩, hW⟩
 ·show r.wl + 1 ≤ (r.wz.take r.wl ++ [(s, k)]).length
  have := h.hw
  simp; omega
 ·rw [hW]
  show r.vl = _
  rw [h.hn]
  simp [needW]; omega
 ·show r.wl + 1 ≤ r.at_ + 1
  have := h.hwl; omega
 ·show r.vl ≤ r.at_ + 1
  have := h.hvl; omega
 ·rw [hW]; exact hb
 ·rw [hW]
  intro w hw
  rcases List.mem_cons.1 hw with rfl | hw
  ·exact hF
  ·exact h.hf w hw
def Match (b : Bool × Xr) (o : Option St) (toks : List tkC.den) : Prop :=
 b.1 = o.isSome ∧ ∀ st, o = some st → b.2.st = st ∧ okX b.2 1 ∧ b.2.toks = toks
theorem op_ok : ∀ (n : Nat) (r : Xr), okX r 0 → n = r.toks.length - r.at_ → Match (opX n r) (opC r.ts r.W r.V r.fl) r.toks := by
 intro n
 induction n with
 | zero =>
  intro r h hn
  have : r.ts = [] := List.eq_nil_of_length_eq_zero (by rw [ts_len]; omega)
  rw [this]
  exact ⟨rfl, fun st h => by simp [opC] at h⟩
 | succ n ih =>
  intro r h hn
  have ha : r.at_ < r.toks.length := by omega
  have hts := ts_at r ha
  have hsg : sgn r.ts = signX r := rfl
  have hdr := ts_drop r
  rw [hts] at hsg
  rw [hts]
  unfold opX opC
  rw [hsg]
  have e1 : (tkOf (r.toks.getD r.at_ tkC.dflt)).1 = (r.toks.getD r.at_ tkC.dflt).1 := rfl
  rw [e1]
  by_cases h2 : (r.toks.getD r.at_ tkC.dflt).1 = 2
  ·simp only [h2, if_true]
   refine ⟨rfl, fun st hst => ?_⟩
   cases hst
   have hV : (numX r (r.toks.getD r.at_ tkC.dflt).2.2.1).V = w32 (r.toks.getD r.at_ tkC.dflt).2.2.1 :: r.V := V_push r _ h.hv
   refine ⟨?_, ⟨?_, h.hw, ha, ?_, ?_, ?_, h.hbr, h.hf⟩, rfl⟩
   ·unfold Xr.st
    rw [hV]
    have : (numX r (r.toks.getD r.at_ tkC.dflt).2.2.1).fl = r.fl.num (depth r.W) (r.toks.getD r.at_ tkC.dflt).2.2.1 := by
     unfold Xr.fl Fl.num numX pushX
     have : (decide (8 < r.br)) = decide (8 < depth r.W) := by rw [h.hbr]; exact decide_eq_decide.2 (by omega)
     simp [this]
    rw [this]
    rfl
   ·show r.vl + 1 ≤ (r.vz.take r.vl ++ [_]).length
    have := h.hv
    simp; omega
   ·show r.vl + 1 = needW r.W + 1
    have := h.hn
    omega
   ·show r.wl ≤ r.at_ + 1
    have := h.hwl; omega
   ·show r.vl + 1 ≤ r.at_ + 1
    have := h.hvl; omega
  simp only [h2, if_false]
  by_cases h3 : signX r = sLp
  ·simp only [h3, if_true]
   obtain ⟨hok, hW⟩ := wait_ok (s := sLp) (k := 12) (x := 0) (by simpa [needF] using h) ha (b := r.br + 1) (by rw [h.hbr]; simp [depth]; omega) (.inr (.inr (.inr ⟨rfl, .inl rfl⟩)))
   have := ih _ hok (by show n = r.toks.length - (r.at_ + 1); omega)
   rw [hW] at this
   exact this
  simp only [h3, if_false]
  by_cases h4 : frontV (signX r) = true
  ·simp only [h4, if_true]
   obtain ⟨hok, hW, hV⟩ := push_ok h ha h4
   have := ih _ hok (by show n = r.toks.length - (r.at_ + 1); omega)
   rw [hW, hV] at this
   exact this
  ·simp only [h4]
   exact ⟨rfl, fun st h => by simp at h⟩
theorem op_ok' {r : Xr} {toks : List tkC.den} (h : okX r 0) (ht : r.toks = toks) : Match (opX' r) (opC r.ts r.W r.V r.fl) toks := ht ▸ op_ok _ r h rfl
theorem sgn_at {r : Xr} (h : sgn r.ts ≠ ⟨#[]⟩) : r.at_ < r.toks.length := by
 have := sgn_cons h
 rw [ts_len] at this
 omega
theorem end_ok (s : ByteArray) (r : Xr) (h : okX r 1) (hs : s = signX r) : Match (endX s r) (endC s r.ts r.W r.V r.fl) r.toks := by
 unfold endX endC
 by_cases h0 : r.wl = 0
 ·rw [if_pos h0, W_nil r h0]
  refine ⟨rfl, fun st hst => ?_⟩
  cases hst
  refine ⟨?_, h, rfl⟩
  unfold Xr.st
  rw [W_nil r h0]
 have hW := W_top r h0 h.hw
 have hF : okF (topX r) := h.hf _ (by rw [hW]; simp)
 have hneed : r.vl = needF (topX r) + needW (takeX r).W + 1 := by
  have := h.hn
  rw [hW] at this
  simpa [needW] using this
 have hdep : r.br = depth (topX r :: (takeX r).W) := by rw [h.hbr, hW]
 rw [if_neg h0, hW]
 simp only
 have hat : ∀ q, s = q → q ≠ ⟨#[]⟩ → r.at_ < r.toks.length := fun q hq hn => sgn_at (by show signX r ≠ _; rw [← hs, hq]; exact hn)
 by_cases h1 : (topX r).1 = sLp ∧ s = sRp
 ·simp only [h1, and_self, if_true]
  have ha := hat _ h1.2 (by decide)
  have hk : (topX r).2 = 12 := by
   rcases hF with h' | h' | h' | h'
   ·exact absurd h1.1 (front_ne h'.2).1
   ·have := h'.2.2; rw [h1.1, lp_ne.1] at this; simp at this; omega
   ·rw [h'.2] at h1; exact absurd h1.1 (by decide)
   ·exact h'.1
  have hn0 : needF (topX r) = 0 := by simp [needF, hk, h1.1]
  refine ⟨rfl, fun st hst => ?_⟩
  cases hst
  refine ⟨?_, ⟨h.hv, ?_, ha, ?_, ?_, ?_, ?_, ?_⟩, rfl⟩
  ·show (⟨_, _, _, _⟩ : St) = _
   have : ({ takeX r with br := r.br - 1, at_ := r.at_ + 1 } : Xr).ts = r.ts.drop 1 := (ts_drop r).symm
   rw [this]
   rfl
  ·show r.wl - 1 ≤ r.wz.length
   have := h.hw; omega
  ·show r.vl = needW (takeX r).W + 1
   omega
  ·show r.wl - 1 ≤ r.at_ + 1
   have := h.hwl; omega
  ·show r.vl ≤ r.at_ + 1
   have := h.hvl; omega
  ·show r.br - 1 = depth (takeX r).W
   rw [hdep]
   simp [depth, h1.1]; omega
  ·intro w hw
   exact h.hf w (by rw [hW]; exact List.mem_cons_of_mem _ hw)
 simp only [h1, if_false]
 by_cases h2 : (topX r).1 = sQ ∧ s = sCol
 ·simp only [h2, and_self, if_true]
  have ha := hat _ h2.2 (by decide)
  have hk : (topX r).2 = 12 := by
   rcases hF with h' | h' | h' | h'
   ·exact absurd h2.1 (front_ne h'.2).2.2
   ·have := h'.2.2; rw [h2.1] at this; rw [show betw sQ = 11 from by decide] at this; omega
   ·rw [h'.2] at h2; exact absurd h2.1 (by decide)
   ·exact h'.1
  have hn1 : needF (topX r) = 1 := by
   have : ¬ sQ = sLp := by decide
   simp [needF, hk, h2.1, this]
  have htk : okX (takeX r) (0 + needF (sCol, 11)) := by
   refine ⟨h.hv, ?_, h.hat, ?_, ?_, h.hvl, ?_, ?_⟩
   ·show r.wl - 1 ≤ r.wz.length
    have := h.hw; omega
   ·show r.vl = _
    have : needF (sCol, 11) = 2 := by simp [needF]
    omega
   ·show r.wl - 1 ≤ r.at_
    have := h.hwl; omega
   ·show r.br = _
    rw [hdep]
    have : ¬ sQ = sLp := by decide
    simp [depth, h2.1, this]
   ·intro w hw
    exact h.hf w (by rw [hW]; exact List.mem_cons_of_mem _ hw)
  obtain ⟨hok, hW2⟩ := wait_ok (r := takeX r) (s := sCol) (k := 11) (x := 0) htk ha (b := r.br) (by
   have h3 := htk.hbr
   have : ¬ sCol = sLp := by decide
   simp only [depth, this, if_false]
   rw [show r.br = (takeX r).br from rfl, h3]; simp) (.inr (.inr (.inl ⟨rfl, rfl⟩)))
  have := op_ok' hok (toks := r.toks) rfl
  rw [hW2] at this
  have e : (waitX { takeX r with br := r.br } sCol 11).ts = r.ts.drop 1 := (ts_drop r).symm
  rw [e] at this
  exact this
 ·simp only [h2, if_false]
  exact ⟨rfl, fun st h => by simp at h⟩
theorem fol_ok (r : Xr) (h : okX r 1) : Match (folX r) (folC r.st) r.toks := by
 unfold folX folC
 have e0 : sgn r.st.ts = signX r := rfl
 rw [e0]
 by_cases h0 : betw (signX r) = 0
 ·simp only [h0, if_true]
  obtain ⟨i1, i2, i3, i4⟩ := fin_ok 11 (by omega) r.wl r h rfl
  have hts : (finX 11 r.wl r).ts = r.ts := by unfold Xr.ts; rw [i3, i4]
  have := end_ok (signX r) _ i1 (by unfold signX; exact congrArg sgn hts.symm)
  rw [i3] at this
  have e1 : (fin 11 r.st.ws r.st.vs r.st.f) = _ := i2.symm
  rw [e1]
  rw [hts] at this
  exact this
 simp only [h0, if_false]
 have ha : r.at_ < r.toks.length := sgn_at (betw_ne h0)
 by_cases h11 : betw (signX r) = 11
 ·simp only [h11, if_true]
  have hq := betw_q.1 h11
  obtain ⟨i1, i2, i3, i4⟩ := fin_ok 10 (by omega) r.wl r h rfl
  have hts : (finX 10 r.wl r).ts = r.ts := by unfold Xr.ts; rw [i3, i4]
  have e1 : (fin 10 r.st.ws r.st.vs r.st.f) = _ := i2.symm
  rw [e1]
  obtain ⟨hok, hW2⟩ := wait_ok (r := finX 10 r.wl r) (s := signX r) (k := 12) (x := 0) (by
   have : needF (signX r, 12) = 1 := by
    rw [hq]
    have : ¬ sQ = sLp := by decide
    simp [needF, this]
   rw [this]; exact i1) (by rw [i3, i4]; exact ha) (b := (finX 10 r.wl r).br) (by
   have : ¬ sQ = sLp := by decide
   rw [i1.hbr, hq]
   simp [depth, this]) (.inr (.inr (.inr ⟨rfl, .inr hq⟩)))
  have := op_ok' hok (toks := r.toks) i3
  rw [hW2] at this
  have e : (waitX { finX 10 r.wl r with br := (finX 10 r.wl r).br } (signX r) 12).ts = r.ts.drop 1 := by rw [← hts]; exact (ts_drop (finX 10 r.wl r)).symm
  rw [e] at this
  exact this
 ·simp only [h11, if_false]
  have hle := betw_le (signX r)
  obtain ⟨i1, i2, i3, i4⟩ := fin_ok (betw (signX r)) (by omega) r.wl r h rfl
  have hts : (finX (betw (signX r)) r.wl r).ts = r.ts := by unfold Xr.ts; rw [i3, i4]
  have e1 : (fin (betw (signX r)) r.st.ws r.st.vs r.st.f) = _ := i2.symm
  rw [e1]
  have hlp : ¬ signX r = sLp := fun e => h0 (by rw [e]; exact lp_ne.1)
  obtain ⟨hok, hW2⟩ := wait_ok (r := finX (betw (signX r)) r.wl r) (s := signX r) (k := betw (signX r)) (x := 0) (by
   have : needF (signX r, (betw (signX r) : Int)) = 1 := by
    have h12 : ¬ ((betw (signX r) : Int)) = 12 := by omega
    have h13 : ¬ ((betw (signX r) : Int)) = 11 := by omega
    simp [needF, h12, h13]
   rw [this]; exact i1) (by rw [i3, i4]; exact ha) (b := (finX (betw (signX r)) r.wl r).br) (by
   rw [i1.hbr]
   simp [depth, hlp]) (.inr (.inl ⟨by dsimp only; omega, by dsimp only; omega, rfl⟩))
  have := op_ok' hok (toks := r.toks) i3
  rw [hW2] at this
  have e : (waitX { finX (betw (signX r)) r.wl r with br := (finX (betw (signX r)) r.wl r).br } (signX r) (betw (signX r))).ts = r.ts.drop 1 := by rw [← hts]; exact (ts_drop (finX (betw (signX r)) r.wl r)).symm
  rw [e] at this
  exact this
theorem loop_ok (pm : Bool) : ∀ (n : Nat) (r : Xr), okX r 1 → mu r.st ≤ n → Match (loopX pm n r) (run pm r.st) r.toks := by
 intro n
 induction n with
 | zero =>
  intro r h hn
  have hd : doneC pm r.st = true := by
   have h1 : r.ts = [] := List.eq_nil_of_length_eq_zero (by unfold mu at hn; have : r.st.ts = r.ts := rfl; rw [this] at hn; omega)
   have h2 : r.W = [] := by
    unfold mu at hn
    have : r.st.ws = r.W := rfl
    rw [this] at hn
    cases hw : r.W with
    | nil => rfl
    | cons a b => rw [hw] at hn; simp at hn
   unfold doneC Xr.st
   rw [h1, h2]
   simp [sgn, betw]
  rw [run_done hd]
  exact ⟨rfl, fun st hst => by cases hst; exact ⟨rfl, h, rfl⟩⟩
 | succ n ih =>
  intro r h hn
  simp only [loopX]
  cases hd : doneC pm r.st with
  | true =>
   rw [run_done hd]
   exact ⟨rfl, fun st hst => by cases hst; exact ⟨rfl, h, rfl⟩⟩
  | false =>
   rw [run_step hd]
   simp only [Bool.false_eq_true, if_false]
   obtain ⟨m1, m2⟩ := fol_ok r h
   cases hf : folC r.st with
   | none =>
    rw [hf] at m1
    cases hx : folX r with
    | mk b r' =>
     rw [hx] at m1
     cases m1
     exact ⟨rfl, fun st hst => by simp at hst⟩
   | some st' =>
    rw [hf] at m1
    obtain ⟨e1, e2, e3⟩ := m2 st' hf
    cases hx : folX r with
    | mk b r' =>
     rw [hx] at m1 e1 e2 e3
     cases m1
     dsimp only at e1 e2 e3 ⊢
     have hmu := fol_mu pm r.st st' hf hd
     have := ih r' e2 (by rw [e1]; omega)
     rw [e1, e3] at this
     exact this
def u32r (x : Int) : Prop := 0 ≤ x ∧ x < 4294967296
def NN (r : Xr) : Prop := ∀ x ∈ r.vz, u32r x
structure okP (r : Xr) (x : Nat) : Prop where
 ok : okX r x
 nn : NN r
 len : r.toks.length ≤ 1000000
theorem depth_le : ∀ ws : List Frm, depth ws ≤ ws.length := by
 intro ws
 induction ws with
 | nil => exact nR9 _
 | cons w ws ih =>
  simp only [depth, zC9]
  split <;> omega
theorem okP.bounds {r : Xr} {x : Nat} (h : okP r x) : r.at_ ≤ 1000000 ∧ r.vl ≤ 1000000 ∧ r.wl ≤ 1000000 ∧ r.vl ≤ r.vz.length ∧ r.wl ≤ r.wz.length ∧ 0 ≤ r.br ∧ r.br ≤ 1000000 ∧ r.at_ ≤ r.toks.length := by
 have h1 := h.ok.hat
 have h2 := h.len
 have h3 := h.ok.hvl
 have h4 := h.ok.hwl
 have h5 := h.ok.hbr
 have h6 := depth_le r.W
 rw [W_len r h.ok.hw] at h6
 have := h.ok.hv
 have := h.ok.hw
 refine ⟨by omega, by omega, by omega, by omega, by omega, by omega, by omega, h1⟩
theorem wrap_nn (n : Int) : u32r (IntKind.u32.wrap n) := by
 unfold IntKind.wrap u32r
 simp only [IntKind.signed, IntKind.bits]
 simp
 omega
theorem tr_nn (b : Bool) : u32r (tr b) := by cases b <;> exact ⟨by decide, by decide⟩
theorem bits_nn (op : BinOp) (a b : Int) : u32r (bitsA op .u32 a b) := by
 unfold bitsA
 split <;> exact wrap_nn _
theorem calc_nn (k : Nat) (s : ByteArray) (a b : Int) (ha : u32r a) (hb : u32r b) : u32r (calcV k s a b) := by
 unfold calcV w32
 split
 ·split
  ·exact wrap_nn _
  ·split
   ·exact bits_nn _ _ _
   ·exact tr_nn _
 ·split
  ·exact wrap_nn _
  ·split
   ·exact wrap_nn _
   ·refine ⟨Int.tmod_nonneg _ ha.1, ?_⟩
    obtain ⟨a, rfl⟩ : ∃ n : Nat, a = n := ⟨a.toNat, by have := ha.1; omega⟩
    obtain ⟨b, rfl⟩ : ∃ n : Nat, b = n := ⟨b.toNat, by have := hb.1; omega⟩
    have h1 := ha.2
    have h2 : ((a : Int).tmod (b : Int)) = ((a % b : Nat) : Int) := rfl
    have := Nat.mod_le a b
    rw [h2]
    omega
 ·split <;> exact wrap_nn _
 ·split
  ·exact wrap_nn _
  ·have hp : (0 : Int) < 2 ^ min b.toNat 32 := Int.pow_pos (by decide)
   refine ⟨Int.fdiv_nonneg ha.1 (by omega), ?_⟩
   rw [Int.fdiv_eq_ediv_of_nonneg _ (by omega)]
   have := Int.ediv_le_self (2 ^ min b.toNat 32) ha.1
   have := ha.2
   omega
 ·split
  ·exact tr_nn _
  ·split
   ·exact tr_nn _
   ·split <;> exact tr_nn _
 ·split <;> exact tr_nn _
 ·exact bits_nn _ _ _
 ·exact bits_nn _ _ _
 ·exact bits_nn _ _ _
 ·exact tr_nn _
 ·exact tr_nn _
theorem calcD_nn (k : Nat) (s : ByteArray) (a b : Int) (ha : u32r a) (hb : u32r b) : u32r (calcD k s a b) := by
 unfold calcD
 refine calc_nn _ _ _ _ ha ?_
 split
 ·exact ⟨by decide, by decide⟩
 ·exact hb
theorem NN.get {r : Xr} (h : NN r) (i : Nat) : u32r (r.vz.getD i 0) := by
 rw [List.getD_eq_getElem?_getD]
 cases hi : r.vz[i]? with
 | none => exact ⟨by decide, by decide⟩
 | some x => exact h x (List.mem_of_getElem? hi)
theorem NN.push {r : Xr} (h : NN r) {n : Nat} {x : Int} (hx : u32r x) : ∀ y ∈ r.vz.take n ++ [x], u32r y := by
 intro y hy
 rcases List.mem_append.1 hy with hy | hy
 ·exact h y (List.mem_of_mem_take hy)
 ·rw [List.mem_singleton.1 hy]; exact hx
theorem NN.red {r : Xr} (h : NN r) (p : Frm) : NN (redX r p) := by
 unfold redX
 split
 ·refine NN.push h ?_
  unfold chosen
  split <;> exact h.get _
 ·exact NN.push h (calcD_nn _ _ _ _ (h.get _) (h.get _))
theorem fin_step {r : Xr} {k : Nat} (hk : k ≤ 11) (h : okX r 1) (hn : r.wl ≠ 0) (hc : (topX r).2 ≤ (k : Int)) : okX (redX (takeX r) (topX r)) 1 ∧ (redX (takeX r) (topX r)).wl = r.wl - 1 ∧ (redX (takeX r) (topX r)).toks = r.toks ∧ needF (topX r) + 1 ≤ r.vl ∧ okF (topX r) := by
 have hW := W_top r hn h.hw
 have hF : okF (topX r) := h.hf _ (by rw [hW]; simp)
 have h11 : (topX r).2 ≤ 11 := by omega
 have hneed : r.vl = needF (topX r) + needW (takeX r).W + 1 := by
  have := h.hn
  rw [hW] at this
  simpa [needW] using this
 obtain ⟨e1, e2, e3, e4, e5, e6, e7, e8, e9⟩ := red_V (takeX r) (topX r) hF h11 (by exact h.hv) (by show _ ≤ r.vl; omega)
 have eW : (redX (takeX r) (topX r)).W = (takeX r).W := by unfold Xr.W; rw [e5, e6]
 have hd : depth r.W = depth (takeX r).W := by
  rw [hW]
  simp [depth, okF_lp hF h11]
 refine ⟨⟨e4, by rw [e5, e6]; show r.wl - 1 ≤ r.wz.length; have := h.hw; omega, by rw [e7, e8]; exact h.hat, ?_, ?_, ?_, ?_, ?_⟩, e6, e8, by omega, hF⟩
 ·rw [eW]
  have : (takeX r).vl = r.vl := rfl
  omega
 ·rw [e6, e7]; show r.wl - 1 ≤ r.at_; have := h.hwl; omega
 ·rw [e7]; show _ ≤ r.at_
  have : (takeX r).vl = r.vl := rfl
  have := h.hvl
  omega
 ·rw [e9, eW]; show r.br = _; rw [h.hbr, hd]
 ·rw [eW]; intro w hw; exact h.hf w (by rw [hW]; exact List.mem_cons_of_mem _ hw)
theorem fin_stepP {r : Xr} {k : Nat} (hk : k ≤ 11) (h : okP r 1) (hn : r.wl ≠ 0) (hc : (topX r).2 ≤ (k : Int)) : okP (redX (takeX r) (topX r)) 1 := by
 obtain ⟨h1, _, h3, _⟩ := fin_step hk h.ok hn hc
 exact ⟨h1, NN.red (r := takeX r) h.nn _, by rw [h3]; exact h.len⟩
theorem NN.fin (k : Nat) : ∀ (n : Nat) (r : Xr), NN r → NN (finX k n r) := by
 intro n
 induction n with
 | zero => intro r h; exact h
 | succ n ih =>
  intro r h
  simp only [finX]
  split
  ·exact ih _ (NN.red (r := takeX r) h _)
  ·exact h
theorem NN.op : ∀ (n : Nat) (r : Xr), NN r → NN (opX n r).2 := by
 intro n
 induction n with
 | zero => intro r h; exact h
 | succ n ih =>
  intro r h
  simp only [opX]
  split
  ·exact NN.push h (wrap_nn _)
  ·split
   ·exact ih _ h
   ·split
    ·exact ih _ (NN.push (r := r) h ⟨by decide, by decide⟩)
    ·exact h
def ops22 : List Frm := [(⟨#[45]⟩, 0), (⟨#[126]⟩, 0), (⟨#[33]⟩, 0), (⟨#[42]⟩, 1), (⟨#[47]⟩, 1), (⟨#[37]⟩, 1), (⟨#[43]⟩, 2), (⟨#[45]⟩, 2), (⟨#[60, 60]⟩, 3), (⟨#[62, 62]⟩, 3), (⟨#[60]⟩, 4), (⟨#[62]⟩, 4), (⟨#[60, 61]⟩, 4), (⟨#[62, 61]⟩, 4),
 (⟨#[61, 61]⟩, 5), (⟨#[33, 61]⟩, 5), (⟨#[38]⟩, 6), (⟨#[94]⟩, 7), (⟨#[124]⟩, 8), (⟨#[38, 38]⟩, 9), (⟨#[124, 124]⟩, 10)]
theorem ba_beq (a b : ByteArray) : (a == b) = decide (a = b) := by
 obtain ⟨a⟩ := a
 obtain ⟨b⟩ := b
 show (a == b) = _
 rw [Bool.eq_iff_iff]
 simp
theorem ba_has (s : ByteArray) : ∀ l : List ByteArray, l.contains s = true → s ∈ l := by
 intro l
 induction l with
 | nil => intro h; simp at h
 | cons a l ih =>
  intro h
  rw [List.contains_cons, ba_beq] at h
  by_cases e : s = a
  ·rw [e]; simp
  ·simp [e] at h
   exact List.mem_cons_of_mem _ (ih h)
theorem rowGo_mem (s : ByteArray) : ∀ (l : List (List ByteArray)) (i : Nat), 0 < i → rowGo s l i ≠ 0 → ∃ r, l[rowGo s l i - i]? = some r ∧ s ∈ r ∧ i ≤ rowGo s l i := by
 intro l
 induction l with
 | nil => intro i _ h; exact absurd rfl h
 | cons r rs ih =>
  intro i hi h
  unfold rowGo at h ⊢
  by_cases hr : r.contains s = true
  ·rw [if_pos hr]
   exact ⟨r, by simp, ba_has s r hr, nR9 _⟩
  ·rw [if_neg hr] at h ⊢
   obtain ⟨r', h1, h2, h3⟩ := ih (i + 1) (by omega) h
   refine ⟨r', ?_, h2, by omega⟩
   rw [show rowGo s rs (i + 1) - i = (rowGo s rs (i + 1) - (i + 1)) + 1 from by omega]
   exact h1
theorem okF_ops {p : Frm} (h : okF p) (h1 : p.2 ≤ 10) : p ∈ ops22 := by
 obtain ⟨s, k⟩ := p
 dsimp only at h1
 rcases h with ⟨h2, h3⟩ | ⟨h2, h3, h4⟩ | ⟨h2, _⟩ | ⟨h2, _⟩
 ·dsimp only at h2 h3
  subst h2
  have := ba_has s _ h3
  simp only [List.mem_cons, List.not_mem_nil, or_false] at this
  rcases this with rfl | rfl | rfl
  ·exact .head _
  ·exact .tail _ (.head _)
  ·exact .tail _ (.tail _ (.head _))
 ·dsimp only at h2 h3 h4
  have hb : betw s = rowGo s rowL 1 := by
   unfold betw
   split
   ·rename_i e; subst e; rw [show betw ⟨#[]⟩ = 0 from by decide] at h4; simp at h4; omega
   split
   ·rename_i e; subst e; rw [show betw sQ = 11 from by decide] at h4; omega
   rfl
  have hne : rowGo s rowL 1 ≠ 0 := by rw [← hb]; omega
  obtain ⟨r, h5, h6, _⟩ := rowGo_mem s rowL 1 (by omega) hne
  rw [← hb] at h5
  obtain ⟨n, hn⟩ : ∃ n : Nat, betw s = n + 1 := ⟨betw s - 1, by omega⟩
  rw [hn, show n + 1 - 1 = n from by omega] at h5
  have hk : k = (n : Int) + 1 := by omega
  subst hk
  have hn10 : n < 10 := by omega
  clear h4 hb hne hn h1 h2 h3
  have cases10 : n = 0 ∨ n = 1 ∨ n = 2 ∨ n = 3 ∨ n = 4 ∨ n = 5 ∨ n = 6 ∨ n = 7 ∨ n = 8 ∨ n = 9 := by omega
  rcases cases10 with rfl | rfl | rfl | rfl | rfl | rfl | rfl | rfl | rfl | rfl <;> (simp only [rowL, List.getElem?_cons_zero, List.getElem?_cons_succ, Option.some.injEq] at h5; subst h5; simp only [List.mem_cons, List.not_mem_nil, or_false] at h6) <;>
   (first | (rcases h6 with rfl | rfl | rfl | rfl) | (rcases h6 with rfl | rfl | rfl) | (rcases h6 with rfl | rfl) | subst h6) <;> simp [ops22]
 ·omega
 ·omega
end Go.Ab
namespace Go.Ab
open Go.Proofs
set_option linter.unusedSectionVars false
set_option maxRecDepth 100000
variable [Glob]
abbrev frC : CT := .pair .str (.int .i64)
abbrev mpC : CT := .map .str .fn
def rowsM : List mpC.den := [
 [(⟨#[45]⟩, 168), (⟨#[126]⟩, 169), (⟨#[33]⟩, 170)],
 [(⟨#[42]⟩, 171), (⟨#[47]⟩, 172), (⟨#[37]⟩, 173)],
 [(⟨#[43]⟩, 174), (⟨#[45]⟩, 168)],
 [(⟨#[60, 60]⟩, 175), (⟨#[62, 62]⟩, 176)],
 [(⟨#[60]⟩, 177), (⟨#[62]⟩, 178), (⟨#[60, 61]⟩, 179), (⟨#[62, 61]⟩, 180)],
 [(⟨#[61, 61]⟩, 170), (⟨#[33, 61]⟩, 181)],
 [(⟨#[38]⟩, 182)],
 [(⟨#[94]⟩, 183)],
 [(⟨#[124]⟩, 184)],
 [(⟨#[38, 38]⟩, 185)],
 [(⟨#[124, 124]⟩, 186)]]
def saysTr : Says := fun args H => match args, H with
 | [.c (.p (.v (.bool b)))], [] => some (none, .int .u32 (tr b), [])
 | _, _ => none
def saysUU (g : Int → Int → Option Prop × SV) : Says := fun args H => match args, H with
 | [.c (.p (.v (.int .u32 x))), .c (.p (.v (.int .u32 y)))], [] => some ((g x y).1, (g x y).2, [])
 | _, _ => none
theorem extUU {P : Program} {T : Table} (hT : TSound P T) (f : FuncId) {fn : Func} (hf : P.funcs[f]? = some fn) (hname : NG9 fn) (hn : 2 ≤ fn.ntmps) (g : Int → Int → Option Prop × SV) (ks : List Nat)
  (h : ∀ (x y : Int), holdsO (g x y).1 → runF ⟨P, T⟩ fn ks [] [.c (.p (.v (.int .u32 x))), .c (.p (.v (.int .u32 y)))] [] fun r' H'' => Ends r' H'' (g x y).2 []) : TSound P (ext T f (saysUU g)) :=
 ext_run hT hf hname ks fun args H p r H' hs hp => by
  unfold saysUU at hs
  split at hs
  ·cases hs
   exact ⟨hn, [], rfl, nK9, h _ _ hp⟩
  ·cases hs
def X0 : Table := ext T50 188 saysTr
theorem x0 : TS9 X0 := by
 refine ext_run t50 (f := 188) (fn := Tryz.f188) rfl rfl [0, 2, 3] fun args H p r H' hs hp => ?_
 unfold saysTr at hs
 split at hs
 ·cases hs
  refine ⟨by show 1 ≤ _; decide, [], rfl, nK9, ?_⟩
  conv => whnf
  refine cI9 ?_ ?_<;>intro h <;> subst h <;> conv => whnf
  ·exact eR9
  ·exact eR9
 ·cases hs
def X1 : Table := ext X0 168 (saysUU fun a b => (none, .int .u32 (w32 (a - b))))
def X2 : Table := ext X1 169 (saysUU fun _ b => (none, .int .u32 (bitsA .xor .u32 4294967295 b)))
def X3 : Table := ext X2 170 (saysUU fun a b => (none, .int .u32 (tr (decide (a = b)))))
def X4 : Table := ext X3 171 (saysUU fun a b => (none, .int .u32 (w32 (a * b))))
def X5 : Table := ext X4 172 (saysUU fun a b => (some (b ≠ 0), .int .u32 (w32 (a.tdiv b))))
def X6 : Table := ext X5 173 (saysUU fun a b => (some (b ≠ 0), .int .u32 (a.tmod b)))
def X7 : Table := ext X6 174 (saysUU fun a b => (none, .int .u32 (w32 (a + b))))
def X8 : Table := ext X7 175 (saysUU fun a b => (some (0 ≤ b), .int .u32 (w32 (a * 2 ^ min b.toNat 32))))
def X9 : Table := ext X8 176 (saysUU fun a b => (some (0 ≤ b), .int .u32 (a.fdiv (2 ^ min b.toNat 32))))
def X10 : Table := ext X9 177 (saysUU fun a b => (none, .int .u32 (tr (decide (a < b)))))
def X11 : Table := ext X10 178 (saysUU fun a b => (none, .int .u32 (tr (decide (b < a)))))
def X12 : Table := ext X11 179 (saysUU fun a b => (none, .int .u32 (tr (decide (a ≤ b)))))
def X13 : Table := ext X12 180 (saysUU fun a b => (none, .int .u32 (tr (decide (b ≤ a)))))
def X14 : Table := ext X13 181 (saysUU fun a b => (none, .int .u32 (tr (!decide (a = b)))))
def X15 : Table := ext X14 182 (saysUU fun a b => (none, .int .u32 (bitsA .and .u32 a b)))
def X16 : Table := ext X15 183 (saysUU fun a b => (none, .int .u32 (bitsA .xor .u32 a b)))
def X17 : Table := ext X16 184 (saysUU fun a b => (none, .int .u32 (bitsA .or .u32 a b)))
def X18 : Table := ext X17 185 (saysUU fun a b => (none, .int .u32 (tr (!decide (a = 0) && !decide (b = 0)))))
def X19 : Table := ext X18 186 (saysUU fun a b => (none, .int .u32 (tr (!decide (a = 0) || !decide (b = 0)))))
def X20 : Table := ext X19 187 (saysS fun s => (none, .bool (divs s)))
def X21 : Table := ext X20 164 (fun args H => match args, H with | [], [] => some (none, .a (.c (.p (.l mpC rowsM))), []) | _, _ => none)
theorem x1 : TS9 X1 := by
 refine extUU x0 168 (fn := Tryz.f168) rfl rfl (by decide) _ [0, 1, 4] fun a b h => ?_
 conv => whnf
 exact eR9
theorem x2 : TS9 X2 := by
 refine extUU x1 169 (fn := Tryz.f169) rfl rfl (by decide) _ [0, 1, 4] fun a b h => ?_
 conv => whnf
 exact eR9
theorem x3 : TS9 X3 := by
 refine extUU x2 170 (fn := Tryz.f170) rfl rfl (by decide) _ [0, 1, 4] fun a b h => ?_
 conv => whnf
 exact eR9
theorem x4 : TS9 X4 := by
 refine extUU x3 171 (fn := Tryz.f171) rfl rfl (by decide) _ [0, 1, 4] fun a b h => ?_
 conv => whnf
 exact eR9
theorem x5 : TS9 X5 := by
 refine extUU x4 172 (fn := Tryz.f172) rfl rfl (by decide) _ [0, 1, 4] fun a b h => ?_
 conv => whnf
 refine ⟨h, ?_⟩
 conv => whnf
 exact eR9
theorem x6 : TS9 X6 := by
 refine extUU x5 173 (fn := Tryz.f173) rfl rfl (by decide) _ [0, 1, 4] fun a b h => ?_
 conv => whnf
 refine ⟨h, ?_⟩
 conv => whnf
 exact eR9
theorem x7 : TS9 X7 := by
 refine extUU x6 174 (fn := Tryz.f174) rfl rfl (by decide) _ [0, 1, 4] fun a b h => ?_
 conv => whnf
 exact eR9
theorem x8 : TS9 X8 := by
 refine extUU x7 175 (fn := Tryz.f175) rfl rfl (by decide) _ [0, 1, 4] fun a b h => ?_
 conv => whnf
 refine ⟨h, ?_⟩
 conv => whnf
 exact eR9
theorem x9 : TS9 X9 := by
 refine extUU x8 176 (fn := Tryz.f176) rfl rfl (by decide) _ [0, 1, 4] fun a b h => ?_
 conv => whnf
 refine ⟨h, ?_⟩
 conv => whnf
 exact eR9
theorem x10 : TS9 X10 := by
 refine extUU x9 177 (fn := Tryz.f177) rfl rfl (by decide) _ [0, 1, 4] fun a b h => ?_
 conv => whnf
 exact eR9
theorem x11 : TS9 X11 := by
 refine extUU x10 178 (fn := Tryz.f178) rfl rfl (by decide) _ [0, 1, 4] fun a b h => ?_
 conv => whnf
 exact eR9
theorem x12 : TS9 X12 := by
 refine extUU x11 179 (fn := Tryz.f179) rfl rfl (by decide) _ [0, 1, 4] fun a b h => ?_
 conv => whnf
 exact eR9
theorem x13 : TS9 X13 := by
 refine extUU x12 180 (fn := Tryz.f180) rfl rfl (by decide) _ [0, 1, 4] fun a b h => ?_
 conv => whnf
 exact eR9
theorem x14 : TS9 X14 := by
 refine extUU x13 181 (fn := Tryz.f181) rfl rfl (by decide) _ [0, 1, 4] fun a b h => ?_
 conv => whnf
 exact eR9
theorem x15 : TS9 X15 := by
 refine extUU x14 182 (fn := Tryz.f182) rfl rfl (by decide) _ [0, 1, 4] fun a b h => ?_
 conv => whnf
 exact eR9
theorem x16 : TS9 X16 := by
 refine extUU x15 183 (fn := Tryz.f183) rfl rfl (by decide) _ [0, 1, 4] fun a b h => ?_
 conv => whnf
 exact eR9
theorem x17 : TS9 X17 := by
 refine extUU x16 184 (fn := Tryz.f184) rfl rfl (by decide) _ [0, 1, 4] fun a b h => ?_
 conv => whnf
 exact eR9
theorem x18 : TS9 X18 := by
 refine extUU x17 185 (fn := Tryz.f185) rfl rfl (by decide) _ [0, 1, 4] fun a b h => ?_
 conv => whnf
 exact eR9
theorem x19 : TS9 X19 := by
 refine extUU x18 186 (fn := Tryz.f186) rfl rfl (by decide) _ [0, 1, 4] fun a b h => ?_
 conv => whnf
 exact eR9
theorem x20 : TS9 X20 := by
 refine extS x19 187 (fn := Tryz.f187) rfl rfl (by decide) _ [0, 2] fun s h => ?_
 conv => whnf
 exact eR9
theorem x21 : TS9 X21 := by
 refine ext_run x20 (f := 164) (fn := Tryz.f164) rfl rfl [0] fun args H p r H' hs hp => ?_
 split at hs
 ·cases hs
  refine ⟨nZ9 _, [], rfl, nK9, ?_⟩
  conv => whnf
  exact eR9
 ·cases hs
end Go.Ab
