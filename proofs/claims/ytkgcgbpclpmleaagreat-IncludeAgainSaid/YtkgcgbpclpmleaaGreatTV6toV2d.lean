/- Package expression: the reader's loops. -/
import Derived.Test.YtkgcgbpclpmleaaGreatTV5
import Derived.Test.YtkgcgbpclpmleaaGreatTV2toV3
namespace Go.Ab
open Go.Proofs
set_option linter.unusedSectionVars false
set_option maxRecDepth 100000
variable [Glob]
def finPre (r : Xr) (n : Int) : Prop := okP r 1 ∧ 0 ≤ n ∧ n ≤ 11
def X32 : Table := ext X31 162 (saysX daI eaI finPre fun r n => (.tup [], finX n.toNat r.wl r))
theorem x32 : TS9 X32 := by
 refine extX x31 162 (fn := Tryz.f162) rfl rfl daI eaI _ _ (fun _ => nB9 rfl) [0, 1, 4, 5, 25, 32] fun r n hs => ?_
 obtain ⟨h1, h2, h3⟩ := hs
 obtain ⟨n, rfl⟩ : ∃ m : Nat, n = m := ⟨n.toNat, by omega⟩
 have b := h1.bounds
 repeat ((conv => whnf); refine ⟨by omega, ?_⟩)
 conv => whnf
 refine lI9 (σ := Xr × Int) (fun ⟨_, i⟩ => [(0, XV.s (.a (.c (.ptr 0 0)))), (1, XV.s (.int .i64 n)), (4, XV.s (.int .i64 i)), (5, nX9), (25, nX9), (32, nX9)])
  (fun ⟨q, _⟩ => xrH q) (fun ⟨q, i⟩ => okP q 1 ∧ i = q.wl ∧ finX n q.wl q = finX n r.wl r) (fun ⟨q, _⟩ => q.wl) (r, r.wl) ?_ rfl ?_ fun ⟨q, i⟩ hI => ?_
 ·repeat first|exact lN9|refine lD9 ?_|refine lS9 ?_
 ·exact ⟨h1, rfl, rfl⟩
 obtain ⟨h4, rfl, h6⟩ := hI
 have c := h4.bounds
 have e1 : ((q.wl : Int) - 1).toNat = q.wl - 1 := by omega
 repeat ((conv => whnf); refine ⟨by first | (intro hg; simp [lit] at hg; exact ⟨rfl, by omega, by omega⟩) | (unfold inI64; omega) | omega, ?_⟩)
 conv => whnf
 refine cI9 ?_ ?_<;>intro h
 ·have h7 : q.wl ≠ 0 ∧ (topX q).2 ≤ (n : Int) := by
   have h' : (decide ((0 : Int) < q.wl) && decide ((q.wz.getD ((q.wl : Int) - 1).toNat (⟨#[]⟩, 0)).2 ≤ (n : Int))) = true := h
   rw [e1] at h'
   have := bA9.1 h'
   exact ⟨by have := oT9 this.1; omega, oT9 this.2⟩
  have hs1 := fin_step (by omega) h4.ok h7.1 h7.2
  have hs2 := fin_stepP (by omega) h4 h7.1 h7.2
  have e2 : finX n q.wl q = finX n (q.wl - 1) (redX (takeX q) (topX q)) := by
   obtain ⟨m, hm⟩ : ∃ m, q.wl = m + 1 := ⟨q.wl - 1, by omega⟩
   rw [hm]
   simp only [finX, h7.2, if_true]
   rfl
  rw [e2] at h6
  repeat ((conv => whnf); refine ⟨⟨rfl, rfl, (show q.wl ≤ 1000000 by omega), (show q.wl ≤ q.wz.length by omega), h7.1⟩, ?_⟩)
  conv => whnf
  refine cI9 ?_ ?_<;>intro h8
  ·have h9 : (topX q).2 = 11 := oT9 h8
   have e3 : redX (takeX q) (topX q) = chooseX (takeX q) := by simp [redX, h9]
   have hne : needF (topX q) = 2 := by simp [needF, h9]
   rw [e3] at hs1 hs2 h6
   repeat ((conv => whnf); refine ⟨by first | exact ⟨rfl, rfl, by show 3 ≤ q.vl; omega, by show q.vl ≤ _; omega, by show q.vl ≤ q.vz.length; omega⟩ | (unfold inI64; omega), ?_⟩)
   conv => whnf
   refine kI9 (chooseX (takeX q), (q.wl : Int) - 1) [0, 1, 2] rfl id3 rfl ?_ ?_ ?_
   ·repeat first|exact kN9|refine kD9 ?_|refine kR9 rfl ?_
   ·exact ⟨hs2, by rw [hs1.2.1]; omega, by rw [hs1.2.1]; exact h6⟩
   ·show (chooseX (takeX q)).wl < q.wl
    rw [hs1.2.1]; omega
  ·have h9 : ¬ (topX q).2 = 11 := oF9 h8
   have e3 : redX (takeX q) (topX q) = compX (takeX q) (topX q) := by simp [redX, h9]
   have hne : 1 ≤ needF (topX q) := by
    unfold needF
    rw [if_neg (by omega), if_neg h9]
    exact nR9 1
   rw [e3] at hs1 hs2 h6
   have hp : compPre (takeX q) (topX q) := ⟨by show 2 ≤ q.vl; omega, by show q.vl ≤ _; omega, by show q.vl ≤ q.vz.length; omega, h4.nn, okF_ops hs1.2.2.2.2 (by have := h7.2; omega)⟩
   repeat ((conv => whnf); refine ⟨by first | exact ⟨rfl, rfl, hp⟩ | (unfold inI64; omega), ?_⟩)
   conv => whnf
   refine kI9 (compX (takeX q) (topX q), (q.wl : Int) - 1) [0, 1, 2] rfl id3 ?_ ?_ ?_ ?_
   ·rfl
   ·repeat first|exact kN9|refine kD9 ?_|refine kR9 rfl ?_
   ·exact ⟨hs2, by rw [hs1.2.1]; omega, by rw [hs1.2.1]; exact h6⟩
   ·show (compX (takeX q) (topX q)).wl < q.wl
    rw [hs1.2.1]; omega
 ·have h7 : ¬ (q.wl ≠ 0 ∧ (topX q).2 ≤ (n : Int)) := by
   have h' : (decide ((0 : Int) < q.wl) && decide ((q.wz.getD ((q.wl : Int) - 1).toNat (⟨#[]⟩, 0)).2 ≤ (n : Int))) = false := h
   rw [e1] at h'
   rintro ⟨h8, h9⟩
   have h10 : (0 : Int) < q.wl := by omega
   have h11 : (q.wz.getD (q.wl - 1) (⟨#[]⟩, 0)).2 ≤ (n : Int) := h9
   rw [dT9 h10, dT9 h11] at h'
   cases h'
  have e2 : finX n q.wl q = q := by
   cases hm : q.wl with
   | zero => rfl
   | succ m =>
    have : ¬ (topX q).2 ≤ (n : Int) := fun h => h7 ⟨by omega, h⟩
    simp only [finX, this, if_false]
  rw [e2] at h6
  conv => whnf
  refine eE9 ⟨rfl, ?_⟩
  show xrH q = xrH (finX n r.wl r)
  rw [← h6]
def faultV (r : Xr) : Int := match r.deep with | true => 3 | false => match r.oor with | true => 2 | false => match r.div with | true => 22 | false => 0
def X33 : Table := ext X32 153 (looks (looksX da0 ea0 (fun _ _ => True) fun r _ => .int .i64 (faultV r)))
theorem x33 : TS9 X33 := by
 refine extLX x32 153 (fn := Tryz.f153) rfl rfl da0 ea0 _ _ (fun _ => nB9 rfl) [0, 2, 3, 8, 13] fun r _ hs => ?_
 conv => whnf
 refine cI9 ?_ ?_<;>intro h
 ·skip
  conv => whnf
  refine eT9 ?_
  simp only [faultV, show r.deep = true from h]
 conv => whnf
 refine cI9 ?_ ?_<;>intro h2
 ·skip
  conv => whnf
  refine eT9 ?_
  simp only [faultV, show r.deep = false from h, show r.oor = true from h2]
 conv => whnf
 refine cI9 ?_ ?_<;>intro h3
 ·skip
  conv => whnf
  refine eT9 ?_
  simp only [faultV, show r.deep = false from h, show r.oor = false from h2, show r.div = true from h3]
 conv => whnf
 refine eT9 ?_
 simp only [faultV, show r.deep = false from h, show r.oor = false from h2, show r.div = false from h3]
theorem okP.small {r : Xr} {x : Nat} (h : okP r x) : small r := by
 have b := h.bounds
 exact ⟨h.len, by omega, by omega, by omega, by omega, by omega, by omega, by omega⟩
theorem okP.lp {q : Xr} (h : okP q 0) (ha : q.at_ < q.toks.length) : okP (waitX { q with br := q.br + 1 } sLp 12) 0 :=
 ⟨(wait_ok (s := sLp) (k := 12) (x := 0) (by simpa [needF] using h.ok) ha (b := q.br + 1) (by rw [h.ok.hbr]; simp [depth]; omega) (.inr (.inr (.inr ⟨rfl, .inl rfl⟩)))).1, h.nn, h.len⟩
theorem okP.front {q : Xr} (h : okP q 0) (ha : q.at_ < q.toks.length) {s : ByteArray} (hs : frontV s = true) : okP (waitX (pushX q 0) s 0) 0 :=
 ⟨(push_ok h.ok ha hs).1, NN.push (r := q) h.nn ⟨by decide, by decide⟩, h.len⟩
def X34 : Table := ext X33 156 (saysX da0 ea0 (fun r _ => okP r 0) fun r _ => (.bool (opX' r).1, (opX' r).2))
theorem x34 : TS9 X34 := by
 refine extX x33 156 (fn := Tryz.f156) rfl rfl da0 ea0 _ _ (fun _ => nB9 rfl) [0, 2, 3, 4, 14, 27, 35, 48] fun r _ h1 => ?_
 conv => whnf
 refine lI9 (σ := Xr) (fun _ => [(0, XV.s (.a (.c (.ptr 0 0)))), (2, XV.s (.bool false)), (3, nX9), (4, nX9), (14, nX9), (27, nX9), (35, nX9), (48, nX9)])
  (fun q => xrH q) (fun q => okP q 0 ∧ opX (q.toks.length - q.at_) q = opX' r) (fun q => q.toks.length - q.at_) r ?_ rfl ?_ fun q hI => ?_
 ·repeat first|exact lN9|refine lD9 ?_|refine lS9 ?_
 ·exact ⟨h1, rfl⟩
 obtain ⟨h2, h3⟩ := hI
 have b := h2.bounds
 have hsm := h2.small
 repeat ((conv => whnf); refine ⟨rfl, ?_⟩)
 conv => whnf
 refine cI9 ?_ ?_<;>intro h
 ·have ha : q.at_ < q.toks.length := by have : (q.at_ : Int) < q.toks.length := oT9 h
                                        omega
  have hn : q.toks.length - q.at_ = (q.toks.length - (q.at_ + 1)) + 1 := by omega
  rw [hn] at h3
  simp only [opX] at h3
  repeat ((conv => whnf); refine ⟨by first | exact ⟨⟨rfl, rfl, hsm⟩, rfl⟩ | (repeat ((conv => whnf); refine ⟨by ((conv => whnf); first | exact ⟨rfl, rfl, rfl⟩ | exact ⟨⟨⟨rfl, rfl, hsm⟩, rfl⟩, rfl, rfl, rfl⟩), ?_⟩)); ((conv => whnf); exact trivial) | omega | exact rfl, ?_⟩)
  conv => whnf
  refine cI9 ?_ ?_<;>intro h4
  ·have h5 : (q.toks.getD q.at_ tkC.dflt).1 = 2 := oT9 h4
   rw [if_pos h5] at h3
   repeat ((conv => whnf); refine ⟨⟨rfl, rfl, (show q.vl ≤ 1000000 by omega), (show q.vl ≤ q.vz.length by omega), (show q.at_ ≤ 1000000 by omega)⟩, ?_⟩)
   conv => whnf
   rw [← h3]
   exact eR9
  have h5 : ¬ (q.toks.getD q.at_ tkC.dflt).1 = 2 := oF9 h4
  rw [if_neg h5] at h3
  conv => whnf
  refine cI9 ?_ ?_<;>intro h6
  ·have h7 : signX q = sLp := oT9 h6
   rw [if_pos h7, h7] at h3
   repeat ((conv => whnf); refine ⟨by first | exact ⟨rfl, rfl, (show q.wl ≤ 1000000 by omega), (show q.at_ ≤ 1000000 by omega), (show q.wl ≤ q.wz.length by omega)⟩ | (unfold inI64; omega), ?_⟩)
   conv => whnf
   refine kI9 (waitX { q with br := q.br + 1 } sLp 12) [0, 1, 2] rfl id3 ?_ ?_ ?_ ?_
   ·rw [← h7]; rfl
   ·repeat first|exact kN9|refine kD9 ?_|refine kR9 rfl ?_
   ·exact ⟨h2.lp ha, h3⟩
   ·show q.toks.length - (q.at_ + 1) < q.toks.length - q.at_
    omega
  have h7 : ¬ signX q = sLp := oF9 h6
  rw [if_neg h7] at h3
  repeat ((conv => whnf); refine ⟨⟨rfl, rfl, trivial⟩, ?_⟩)
  conv => whnf
  refine cI9 ?_ ?_<;>intro h8
  ·have h9 : frontV (signX q) = true := h8
   rw [if_pos h9] at h3
   repeat ((conv => whnf); refine ⟨by first | exact Nat.zero_lt_one | exact ⟨rfl, rfl, (show q.wl ≤ 1000000 by omega), (show q.at_ ≤ 1000000 by omega), (show q.wl ≤ q.wz.length by omega)⟩ | omega | (show (_ : Nat) + 1 ≤ 1000000000000; omega), ?_⟩)
   conv => whnf
   refine kI9 (waitX (pushX q 0) (signX q) 0) [0, 1, 2] rfl id3 ?_ ?_ ?_ ?_
   ·rfl
   ·repeat first|exact kN9|refine kD9 ?_|refine kR9 rfl ?_
   ·exact ⟨h2.front ha h9, h3⟩
   ·show q.toks.length - (q.at_ + 1) < q.toks.length - q.at_
    omega
  ·have h9 : ¬ frontV (signX q) = true := by rw [show frontV (signX q) = false from h8]; simp
   rw [if_neg h9] at h3
   conv => whnf
   rw [← h3]
   exact eR9
 ·have ha : ¬ q.at_ < q.toks.length := by have : ¬ (q.at_ : Int) < q.toks.length := oF9 h
                                          omega
  rw [show q.toks.length - q.at_ = 0 from by omega] at h3
  simp only [opX] at h3
  conv => whnf
  rw [← h3]
  exact eR9
end Go.Ab
namespace Go.Ab
set_option linter.unusedSectionVars false
theorem finP {r : Xr} (h : okP r 1) {k : Nat} (hk : k ≤ 11) : okP (finX k r.wl r) 1 ∧ signX (finX k r.wl r) = signX r ∧ (finX k r.wl r).toks = r.toks ∧ (finX k r.wl r).at_ = r.at_ := by
 obtain ⟨i1, i2, i3, i4⟩ := fin_ok k hk r.wl r h.ok rfl
 refine ⟨⟨i1, NN.fin k _ r h.nn, by rw [i3]; exact h.len⟩, ?_, i3, i4⟩
 unfold signX Xr.ts
 rw [i3, i4]
theorem fol_q {r : Xr} (h : okP r 1) (h11 : betw (signX r) = 11) : okP (waitX (finX 10 r.wl r) (signX r) 12) 0 := by
 have hq := betw_q.1 h11
 have ha : r.at_ < r.toks.length := sgn_at (betw_ne (by rw [show sgn r.ts = signX r from rfl, h11]; decide))
 obtain ⟨i1, _, i3, i4⟩ := finP h (k := 10) (by omega)
 have hne : ¬ sQ = sLp := by decide
 refine ⟨?_, i1.nn, i1.len⟩
 exact (wait_ok (r := finX 10 r.wl r) (s := signX r) (k := 12) (x := 0) (by
   have : needF (signX r, 12) = 1 := by
    rw [hq]
    simp [needF, hne]
   rw [this]; exact i1.ok) (by rw [i3, i4]; exact ha) (b := (finX 10 r.wl r).br) (by
   rw [i1.ok.hbr, hq]
   simp [depth, hne]) (.inr (.inr (.inr ⟨rfl, .inr hq⟩)))).1
theorem fol_k {r : Xr} (h : okP r 1) (h0 : betw (signX r) ≠ 0) (h11 : betw (signX r) ≠ 11) : okP (waitX (finX (betw (signX r)) r.wl r) (signX r) (betw (signX r))) 0 := by
 have hle := betw_le (signX r)
 have ha : r.at_ < r.toks.length := sgn_at (betw_ne h0)
 obtain ⟨i1, _, i3, i4⟩ := finP h (k := betw (signX r)) (by omega)
 have hlp : ¬ signX r = sLp := fun e => h0 (by rw [e]; exact lp_ne.1)
 refine ⟨?_, i1.nn, i1.len⟩
 exact (wait_ok (r := finX (betw (signX r)) r.wl r) (s := signX r) (k := betw (signX r)) (x := 0) (by
   have : needF (signX r, (betw (signX r) : Int)) = 1 := by
    have h12 : ¬ ((betw (signX r) : Int)) = 12 := by omega
    have h13 : ¬ ((betw (signX r) : Int)) = 11 := by omega
    simp [needF, h12, h13]
   rw [this]; exact i1.ok) (by rw [i3, i4]; exact ha) (b := (finX (betw (signX r)) r.wl r).br) (by
   rw [i1.ok.hbr]
   simp [depth, hlp]) (.inr (.inl ⟨by dsimp only; omega, by dsimp only; omega, rfl⟩))).1
theorem end_col {r : Xr} (h : okP r 1) (h0 : r.wl ≠ 0) (h1 : (topX r).1 = sQ) (h2 : signX r = sCol) : okP (waitX (takeX r) sCol 11) 0 := by
 have hW := W_top r h0 h.ok.hw
 have hF : okF (topX r) := h.ok.hf _ (by rw [hW]; simp)
 have hneed : r.vl = needF (topX r) + needW (takeX r).W + 1 := by
  have := h.ok.hn
  rw [hW] at this
  simpa [needW] using this
 have hdep : r.br = depth (topX r :: (takeX r).W) := by rw [h.ok.hbr, hW]
 have ha : r.at_ < r.toks.length := sgn_at (by rw [show sgn r.ts = signX r from rfl, h2]; decide)
 have hk : (topX r).2 = 12 := by
  rcases hF with h' | h' | h' | h'
  ·exact absurd h1 (front_ne h'.2).2.2
  ·have := h'.2.2; rw [h1] at this; rw [show betw sQ = 11 from by decide] at this; omega
  ·rw [h'.2] at h1; exact absurd h1 (by decide)
  ·exact h'.1
 have hn1 : needF (topX r) = 1 := by
  have : ¬ sQ = sLp := by decide
  simp [needF, hk, h1, this]
 have htk : okX (takeX r) (0 + needF (sCol, 11)) := by
  refine ⟨h.ok.hv, ?_, h.ok.hat, ?_, ?_, h.ok.hvl, ?_, ?_⟩
  ·show r.wl - 1 ≤ r.wz.length
   have := h.ok.hw; omega
  ·show r.vl = _
   have : needF (sCol, 11) = 2 := by simp [needF]
   omega
  ·show r.wl - 1 ≤ r.at_
   have := h.ok.hwl; omega
  ·show r.br = _
   rw [hdep]
   have : ¬ sQ = sLp := by decide
   simp [depth, h1, this]
  ·intro w hw
   exact h.ok.hf w (by rw [hW]; exact List.mem_cons_of_mem _ hw)
 refine ⟨?_, h.nn, h.len⟩
 exact (wait_ok (r := takeX r) (s := sCol) (k := 11) (x := 0) htk ha (b := r.br) (by
   have h3 := htk.hbr
   have : ¬ sCol = sLp := by decide
   simp only [depth, this, if_false]
   rw [show r.br = (takeX r).br from rfl, h3]; simp) (.inr (.inr (.inl ⟨rfl, rfl⟩)))).1
theorem NN.endX {s : ByteArray} {r : Xr} (h : NN r) : NN (endX s r).2 := by
 unfold Go.Ab.endX
 split
 ·exact h
 split
 ·exact h
 split
 ·exact NN.op _ _ h
 ·exact h
theorem NN.fol {r : Xr} (h : NN r) : NN (folX r).2 := by
 unfold folX
 split
 ·exact NN.endX (NN.fin _ _ _ h)
 split
 ·exact NN.op _ _ (NN.fin 10 r.wl r h)
 ·exact NN.op _ _ (NN.fin (betw (signX r)) r.wl r h)
theorem NN.loop (pm : Bool) : ∀ (n : Nat) (r : Xr), NN r → NN (loopX pm n r).2 := by
 intro n
 induction n with
 | zero => intro r h; exact h
 | succ n ih =>
  intro r h
  simp only [loopX]
  split
  ·exact h
  ·have := NN.fol h
   cases hx : folX r with
   | mk b r' =>
    rw [hx] at this
    cases b with
    | true => exact ih _ this
    | false => exact this
theorem folP {r : Xr} (h : okP r 1) (hf : (folX r).1 = true) : okP (folX r).2 1 := by
 obtain ⟨m1, m2⟩ := fol_ok r h.ok
 cases hc : folC r.st with
 | none => rw [hc, hf] at m1; cases m1
 | some st =>
  obtain ⟨_, e2, e3⟩ := m2 st hc
  exact ⟨e2, NN.fol h.nn, by rw [e3]; exact h.len⟩
theorem fol_lt {pm : Bool} {r : Xr} (h : okP r 1) (hf : (folX r).1 = true) (hd : doneC pm r.st = false) : mu (folX r).2.st < mu r.st := by
 obtain ⟨m1, m2⟩ := fol_ok r h.ok
 cases hc : folC r.st with
 | none => rw [hc, hf] at m1; cases m1
 | some st =>
  obtain ⟨e1, _, _⟩ := m2 st hc
  rw [e1]
  exact fol_mu pm _ _ hc hd
theorem opP {r : Xr} (h : okP r 0) (hf : (opX' r).1 = true) : okP (opX' r).2 1 := by
 obtain ⟨m1, m2⟩ := op_ok' h.ok rfl
 cases hc : opC r.ts r.W r.V r.fl with
 | none => rw [hc, hf] at m1; cases m1
 | some st =>
  obtain ⟨_, e2, e3⟩ := m2 st hc
  exact ⟨e2, NN.op _ _ h.nn, by rw [e3]; exact h.len⟩
theorem loop_fuel (pm : Bool) : ∀ (n m : Nat) (r : Xr), okP r 1 → mu r.st ≤ n → mu r.st ≤ m → loopX pm n r = loopX pm m r := by
 have zero : ∀ r : Xr, mu r.st = 0 → doneC pm r.st = true := by
  intro r h
  unfold mu at h
  have h1 : r.st.ts = [] := List.eq_nil_of_length_eq_zero (by omega)
  have h2 : r.st.ws.isEmpty = true := by
   cases hw : r.st.ws.isEmpty with
   | true => rfl
   | false => rw [hw] at h; simp at h
  unfold doneC
  rw [h1, h2]
  simp [sgn, betw]
 intro n
 induction n with
 | zero =>
  intro m r h h1 h2
  have hz := zero r (by omega)
  cases m <;> simp [loopX, hz]
 | succ n ih =>
  intro m r h h1 h2
  cases m with
  | zero =>
   have hz := zero r (by omega)
   simp [loopX, hz]
  | succ m =>
   simp only [loopX]
   cases hd : doneC pm r.st with
   | true => rfl
   | false =>
    simp only [Bool.false_eq_true, if_false]
    cases hx : folX r with
    | mk b r' =>
     cases b with
     | false => rfl
     | true =>
      have h3 := fol_lt (pm := pm) h (by rw [hx]) hd
      have h4 := folP h (by rw [hx])
      rw [hx] at h3 h4
      dsimp only at h3 h4 ⊢
      exact ih m r' h4 (by omega) (by omega)
def loopX' (pm : Bool) (r : Xr) : Bool × Xr := loopX pm (mu r.st) r
theorem loop_done {pm : Bool} {r : Xr} (h : doneC pm r.st = true) : loopX' pm r = (true, r) := by
 unfold loopX'
 cases mu r.st <;> simp [loopX, h]
theorem loop_step {pm : Bool} {r : Xr} (h : okP r 1) (hd : doneC pm r.st = false) : loopX' pm r = if (folX r).1 = true then loopX' pm (folX r).2 else (false, (folX r).2) := by
 have e : loopX' pm r = loopX pm (mu r.st + 1) r := loop_fuel pm _ _ r h (nR9 _) (by omega)
 rw [e]
 simp only [loopX, hd, Bool.false_eq_true, if_false]
 cases hx : folX r with
 | mk b r' =>
  cases b with
  | false => rfl
  | true =>
   have h3 := fol_lt (pm := pm) h (by rw [hx]) hd
   have h4 := folP h (by rw [hx])
   rw [hx] at h3 h4
   dsimp only at h3 h4
   simp only [if_true]
   exact loop_fuel pm _ _ r' h4 (by omega) (nR9 _)
end Go.Ab
namespace Go.Ab
open Go.Proofs
set_option linter.unusedSectionVars false
set_option maxRecDepth 100000
variable [Glob]
def endPre (r : Xr) (s : ByteArray) : Prop := okP r 1 ∧ s = signX r
def X35 : Table := ext X34 163 (saysX daS eaS endPre fun r s => (.bool (endX s r).1, (endX s r).2))
theorem x35 : TS9 X35 := by
 refine extX x34 163 (fn := Tryz.f163) rfl rfl daS eaS _ _ (fun _ => nB9 rfl) [0, 1, 4, 5, 11, 15, 36] fun r s hs => ?_
 obtain ⟨h1, rfl⟩ := hs
 have b := h1.bounds
 generalize hsg : signX r = s
 repeat ((conv => whnf); refine ⟨by omega, ?_⟩)
 conv => whnf
 refine cI9 ?_ ?_<;>intro h
 ·have h0 : r.wl = 0 := by have : (r.wl : Int) = 0 := oT9 h
                           omega
  conv => whnf
  unfold endX
  rw [if_pos h0]
  exact eR9
 have h0 : r.wl ≠ 0 := by have : ¬ (r.wl : Int) = 0 := oF9 h
                          omega
 unfold endX
 rw [if_neg h0]
 repeat ((conv => whnf); refine ⟨⟨rfl, rfl, (show r.wl ≤ 1000000 by omega), (show r.wl ≤ r.wz.length by omega), h0⟩, ?_⟩)
 conv => whnf
 refine cI9 ?_ ?_<;>intro h2
 ·have h3 : (topX r).1 = sLp ∧ s = sRp := by
   have := bA9.1 h2
   exact ⟨oT9 this.1, oT9 this.2⟩
  rw [if_pos h3]
  repeat ((conv => whnf); refine ⟨by first | (show inI64 (r.br - 1); unfold inI64; omega) | (show inI64 ((r.at_ : Int) + 1); unfold inI64; omega), ?_⟩)
  conv => whnf
  exact eR9
 have h3 : ¬ ((topX r).1 = sLp ∧ s = sRp) := by
  rintro ⟨h4, h5⟩
  have : (decide ((topX r).1 = sLp) && decide (s = sRp)) = false := h2
  rw [dT9 h4, dT9 h5] at this
  cases this
 rw [if_neg h3]
 conv => whnf
 refine cI9 ?_ ?_<;>intro h4
 ·have h5 : (topX r).1 = sQ ∧ s = sCol := by
   have := bA9.1 h4
   exact ⟨oT9 this.1, oT9 this.2⟩
  rw [if_pos h5]
  have h6 := end_col h1 h0 h5.1 (hsg.trans h5.2)
  rw [h5.2]
  repeat ((conv => whnf); refine ⟨by first | exact ⟨rfl, rfl, (show r.wl - 1 ≤ 1000000 by omega), (show r.at_ ≤ 1000000 by omega), (show r.wl - 1 ≤ r.wz.length by omega)⟩ | exact ⟨rfl, rfl, h6⟩, ?_⟩)
  conv => whnf
  exact eR9
 have h5 : ¬ ((topX r).1 = sQ ∧ s = sCol) := by
  rintro ⟨h6, h7⟩
  have : (decide ((topX r).1 = sQ) && decide (s = sCol)) = false := h4
  rw [dT9 h6, dT9 h7] at this
  cases this
 rw [if_neg h5]
 conv => whnf
 exact eR9
def X36 : Table := ext X35 157 (saysX da0 ea0 (fun r _ => okP r 1) fun r _ => (.bool (folX r).1, (folX r).2))
theorem x36 : TS9 X36 := by
 refine extX x35 157 (fn := Tryz.f157) rfl rfl da0 ea0 _ _ (fun _ => nB9 rfl) [0, 2, 3, 4, 10, 18, 25] fun r _ h1 => ?_
 have hsm := h1.small
 have hle := betw_le (signX r)
 unfold folX
 repeat ((conv => whnf); refine ⟨by first | exact ⟨rfl, rfl, hsm⟩ | exact ⟨rfl, rfl, trivial⟩, ?_⟩)
 conv => whnf
 refine cI9 ?_ ?_<;>intro h
 ·have h0 : betw (signX r) = 0 := by have : ((betw (signX r) : Nat) : Int) = 0 := oT9 h
                                     omega
  rw [if_pos h0]
  obtain ⟨f1, f2, f3, f4⟩ := finP h1 (k := 11) (by omega)
  repeat ((conv => whnf); refine ⟨by first | exact ⟨rfl, rfl, h1, by decide, by decide⟩ | exact ⟨rfl, rfl, f1, f2.symm⟩, ?_⟩)
  conv => whnf
  exact eR9
 have h0 : betw (signX r) ≠ 0 := by have : ¬ ((betw (signX r) : Nat) : Int) = 0 := oF9 h
                                    omega
 rw [if_neg h0]
 conv => whnf
 refine cI9 ?_ ?_<;>intro h2
 ·have h3 : betw (signX r) = 11 := by have : ((betw (signX r) : Nat) : Int) = 11 := oT9 h2
                                      omega
  rw [if_pos h3]
  obtain ⟨f1, f2, f3, f4⟩ := finP h1 (k := 10) (by omega)
  have b := f1.bounds
  have h4 := fol_q h1 h3
  repeat ((conv => whnf); refine ⟨by first | exact ⟨rfl, rfl, h1, by decide, by decide⟩ | exact ⟨rfl, rfl, (show (finX 10 r.wl r).wl ≤ 1000000 by omega), (show (finX 10 r.wl r).at_ ≤ 1000000 by omega), (show (finX 10 r.wl r).wl ≤ (finX 10 r.wl r).wz.length by omega)⟩ | exact ⟨rfl, rfl, h4⟩, ?_⟩)
  conv => whnf
  exact eR9
 ·have h3 : betw (signX r) ≠ 11 := by have : ¬ ((betw (signX r) : Nat) : Int) = 11 := oF9 h2
                                      omega
  rw [if_neg h3]
  obtain ⟨f1, f2, f3, f4⟩ := finP h1 (k := betw (signX r)) (by omega)
  have b := f1.bounds
  have h4 := fol_k h1 h0 h3
  repeat ((conv => whnf); refine ⟨by first | exact ⟨rfl, rfl, h1, (show (0 : Int) ≤ ((betw (signX r) : Nat) : Int) by omega), (show ((betw (signX r) : Nat) : Int) ≤ 11 by omega)⟩ | exact ⟨rfl, rfl, (show (finX (betw (signX r)) r.wl r).wl ≤ 1000000 by omega), (show (finX (betw (signX r)) r.wl r).at_ ≤ 1000000 by omega), (show (finX (betw (signX r)) r.wl r).wl ≤ (finX (betw (signX r)) r.wl r).wz.length by omega)⟩ | exact ⟨rfl, rfl, h4⟩, ?_⟩)
  conv => whnf
  exact eR9
end Go.Ab
namespace Go.Ab
set_option linter.unusedSectionVars false
def fl0 : Fl := ⟨false, false, false⟩
def faultF (f : Fl) : Int := match f.deep with | true => 3 | false => match f.oor with | true => 2 | false => match f.div with | true => 22 | false => 0
def descV (pm : Bool) (ts : List Tk) : RdR :=
 match pm with
 | true => if frontV (sgn ts) = true then none else opd (3 * ts.length + 2) 0 ts fl0
 | false => whl (3 * ts.length + 2) 0 ts fl0
def exprV (pm : Bool) (toks : List tkC.den) (a : Int) : Int × Int × Int :=
 if a < 0 ∨ (toks.length : Int) ≤ a then (0, 0, 2)
 else match descV pm ((toks.drop a.toNat).map tkOf) with
  | none => (0, 0, 6)
  | some (x, ts, f) => if faultF f = 0 then (x, (toks.length : Int) - ts.length, 0) else (0, 0, faultF f)
def xr0 (toks : List tkC.den) (a : Nat) : Xr := ⟨toks, a, [], 0, 0, [], 0, 0, 0, false, false, false⟩
theorem xr0_ok {toks : List tkC.den} {a : Nat} (h : a ≤ toks.length) (hl : toks.length ≤ 1000000) : okP (xr0 toks a) 0 :=
 ⟨⟨nR9 _, nR9 _, h, rfl, nZ9 _, nZ9 _, rfl, fun w hw => (by cases hw)⟩, fun x hx => (by cases hx), hl⟩
def exprR (pm : Bool) (r : Xr) : Bool × Xr := if (opX' r).1 = true then loopX' pm (opX' r).2 else (false, (opX' r).2)
def firstR (pm : Bool) (r : Xr) : Bool × Xr := match pm with
 | true => if frontV (signX r) = true then (false, r) else exprR true r
 | false => exprR false r
def readR (pm : Bool) (toks : List tkC.den) (a : Int) : Int × Int × Int :=
 if a < 0 ∨ (toks.length : Int) ≤ a then (0, 0, 2)
 else if (firstR pm (xr0 toks a.toNat)).1 = false then (0, 0, 6)
 else if faultF (firstR pm (xr0 toks a.toNat)).2.fl = 0 then ((firstR pm (xr0 toks a.toNat)).2.vz.getD 0 0, (firstR pm (xr0 toks a.toNat)).2.at_, 0)
 else (0, 0, faultF (firstR pm (xr0 toks a.toNat)).2.fl)
theorem NN.expr {pm : Bool} {r : Xr} (h : NN r) : NN (exprR pm r).2 := by
 unfold exprR
 split
 ·exact NN.loop _ _ _ (NN.op _ _ h)
 ·exact NN.op _ _ h
theorem loopX_ok {pm : Bool} {r : Xr} (h : okX r 1) : Match (loopX' pm r) (run pm r.st) r.toks := loop_ok pm _ r h (nR9 _)
theorem exprR_ok (pm : Bool) (toks : List tkC.den) (a : Nat) (ha : a ≤ toks.length) (hl : toks.length ≤ 1000000) : Match (exprR pm (xr0 toks a)) (opRun pm ((toks.drop a).map tkOf) [] [] fl0) toks := by
 have h0 := xr0_ok ha hl
 obtain ⟨m1, m2⟩ := op_ok' h0.ok (toks := toks) rfl
 have e : opC (xr0 toks a).ts (xr0 toks a).W (xr0 toks a).V (xr0 toks a).fl = opC ((toks.drop a).map tkOf) [] [] fl0 := rfl
 rw [e] at m1 m2
 unfold exprR opRun
 cases hc : opC ((toks.drop a).map tkOf) [] [] fl0 with
 | none =>
  rw [hc] at m1
  have : (opX' (xr0 toks a)).1 = false := m1
  simp only [this, Bool.false_eq_true, if_false]
  exact ⟨rfl, fun st h => by simp at h⟩
 | some st =>
  rw [hc] at m1
  have h1 : (opX' (xr0 toks a)).1 = true := m1
  simp only [h1, if_true]
  obtain ⟨e1, e2, e3⟩ := m2 st hc
  have := loopX_ok (pm := pm) e2
  rw [e1, e3] at this
  exact this
theorem descV_run (pm : Bool) (ts : List Tk) (hpm : pm = true → frontV (sgn ts) = false) : opRun pm ts [] [] fl0 = (descV pm ts).bind fun r => run pm ⟨r.2.1, [], [r.1], r.2.2⟩ := by
 have k := k1 pm (3 * ts.length + 2)
 cases pm with
 | true =>
  have hf := hpm rfl
  have := k.op ts [] [] fl0 (by omega) (fun w hw => by cases hw) (.inr (.inr hf))
  unfold descV
  simp only [hf, Bool.false_eq_true, if_false]
  exact this
 | false =>
  have := k.wh ts [] [] fl0 (by omega) (fun w hw => by cases hw) rfl (.inr rfl)
  unfold descV
  exact this
theorem descV_done {pm : Bool} {ts : List Tk} {r : Int × List Tk × Fl} (h : descV pm ts = some r) : run pm ⟨r.2.1, [], [r.1], r.2.2⟩ = some ⟨r.2.1, [], [r.1], r.2.2⟩ := by
 refine run_done ?_
 cases pm with
 | true => rfl
 | false =>
  have := ((k1 false _).whll _ _ _ _ h).2
  unfold doneC
  simp [this]
theorem read_desc (pm : Bool) (toks : List tkC.den) (a : Int) (hl : toks.length ≤ 1000000) : readR pm toks a = exprV pm toks a := by
 unfold readR exprV
 by_cases ha : a < 0 ∨ (toks.length : Int) ≤ a
 ·rw [if_pos ha, if_pos ha]
 rw [if_neg ha, if_neg ha]
 have ha1 : a.toNat ≤ toks.length := by omega
 have hsg : signX (xr0 toks a.toNat) = sgn ((toks.drop a.toNat).map tkOf) := rfl
 by_cases hf : pm = true ∧ frontV (sgn ((toks.drop a.toNat).map tkOf)) = true
 ·obtain ⟨rfl, hf⟩ := hf
  have e1 : firstR true (xr0 toks a.toNat) = (false, xr0 toks a.toNat) := by
   unfold firstR
   simp only [hsg, hf, if_true]
  have e2 : descV true ((toks.drop a.toNat).map tkOf) = none := by
   unfold descV
   simp only [hf, if_true]
  rw [e1, e2]
  rfl
 have e1 : firstR pm (xr0 toks a.toNat) = exprR pm (xr0 toks a.toNat) := by
  unfold firstR
  cases pm with
  | true =>
   have : ¬ frontV (signX (xr0 toks a.toNat)) = true := fun h => hf ⟨rfl, h⟩
   show (if _ then _ else _) = _
   rw [if_neg this]
  | false => rfl
 have e2 := descV_run pm ((toks.drop a.toNat).map tkOf) fun hpm => by
  cases hx : frontV (sgn ((toks.drop a.toNat).map tkOf)) with
  | false => rfl
  | true => exact absurd ⟨hpm, hx⟩ hf
 obtain ⟨m1, m2⟩ := exprR_ok pm toks a.toNat ha1 hl
 rw [e1]
 rw [e2] at m1 m2
 cases hd : descV pm ((toks.drop a.toNat).map tkOf) with
 | none =>
  rw [hd] at m1
  have : (exprR pm (xr0 toks a.toNat)).1 = false := m1
  rw [if_pos this]
 | some r =>
  obtain ⟨x, ts, f⟩ := r
  rw [hd] at m1 m2
  have hr := descV_done hd
  simp only [Option.bind] at m1 m2
  rw [hr] at m1 m2
  have h1 : (exprR pm (xr0 toks a.toNat)).1 = true := m1
  obtain ⟨g1, g2, g3⟩ := m2 _ rfl
  rw [if_neg (by rw [h1]; decide)]
  generalize (exprR pm (xr0 toks a.toNat)).2 = q at g1 g2 g3 ⊢
  have gf : q.fl = f := congrArg St.f g1
  have gt : q.ts = ts := congrArg St.ts g1
  have gV : q.V = [x] := congrArg St.vs g1
  have gW : q.W = [] := congrArg St.ws g1
  rw [gf]
  have gat : (q.at_ : Int) = (toks.length : Int) - ts.length := by
   have h1 := ts_len q
   rw [gt, g3] at h1
   have h2 := g2.hat
   rw [g3] at h2
   omega
  have gx : q.vz.getD 0 0 = x := by
   have h1 := g2.hn
   rw [gW] at h1
   have h2 : q.vl = 1 := by simpa [needW] using h1
   have h3 := g2.hv
   unfold Xr.V at gV
   rw [h2, rev_take (n := 0) (by omega)] at gV
   simpa using gV
  rw [gat, gx]
def Took (ts ts' : List Tk) : Prop := ∃ p, ts = p ++ ts' ∧ ∀ t ∈ p, t.1 = 2 ∨ t.1 = 4
theorem Took.refl (ts : List Tk) : Took ts ts := ⟨[], rfl, fun t h => by cases h⟩
theorem Took.trans {a b c : List Tk} (h : Took a b) (k : Took b c) : Took a c := by
 obtain ⟨p, rfl, hp⟩ := h
 obtain ⟨q, rfl, hq⟩ := k
 refine ⟨p ++ q, by simp, fun t ht => ?_⟩
 rcases List.mem_append.1 ht with h | h
 ·exact hp t h
 ·exact hq t h
theorem Took.one {t : Tk} {ts : List Tk} (h : t.1 = 2 ∨ t.1 = 4) : Took (t :: ts) ts := ⟨[t], rfl, fun x hx => by rw [List.mem_singleton.1 hx]; exact h⟩
theorem took_sign {ts : List Tk} (h : sgn ts ≠ ⟨#[]⟩) : Took ts (ts.drop 1) := by
 cases ts with
 | nil => exact absurd rfl h
 | cons t ts =>
  refine Took.one (.inr ?_)
  by_cases h4 : t.1 = 4
  ·exact h4
  ·exact absurd (by simp [sgn, h4]) h
theorem took : ∀ n : Nat, (∀ d ts f r, opd n d ts f = some r → Took ts r.2.1) ∧ (∀ m d x ts f r, rws n m d x ts f = some r → Took ts r.2.1) ∧ (∀ d ts f r, whl n d ts f = some r → Took ts r.2.1) := by
 intro n
 induction n with
 | zero => exact ⟨fun d ts f r h => by simp [opd] at h, fun m d x ts f r h => by simp [rws] at h, fun d ts f r h => by simp [whl] at h⟩
 | succ n ih =>
  obtain ⟨i1, i2, i3⟩ := ih
  refine ⟨fun d ts f r h => ?_, fun m d x ts f r h => ?_, fun d ts f r h => ?_⟩
  ·cases ts with
   | nil => simp [opd] at h
   | cons t ts =>
    unfold opd at h
    split at h
    ·rename_i h2
     cases h
     exact Took.one (.inl h2)
    split at h
    ·rename_i hs
     have h0 := took_sign (ts := t :: ts) (by rw [hs]; decide)
     split at h
     ·rename_i hw
      split at h
      ·rename_i hr
       cases h
       exact (h0.trans (i3 _ _ _ _ hw)).trans (took_sign (by rw [hr]; decide))
      ·cases h
     ·cases h
    split at h
    ·rename_i hs
     have h0 := took_sign (ts := t :: ts) (front_ne hs).2.1
     split at h
     ·rename_i hw
      cases h
      have hh := i1 _ _ _ _ hw
      exact h0.trans hh
     ·cases h
    ·cases h
  ·unfold rws at h
   split at h
   ·cases h
    exact Took.refl _
   ·rename_i hk
    have h0 := took_sign (ts := ts) (betw_ne fun e => hk (.inl e))
    split at h
    ·rename_i ho
     split at h
     ·rename_i hr
      exact ((h0.trans (i1 _ _ _ _ ho)).trans (i2 _ _ _ _ _ _ hr)).trans (i2 _ _ _ _ _ _ h)
     ·cases h
    ·cases h
  ·rw [whl] at h
   cases ho : opd n d ts f with
   | none => simp [ho] at h
   | some r1 =>
    obtain ⟨x, ts1, f1⟩ := r1
    simp only [ho] at h
    have h1 := i1 _ _ _ _ ho
    cases hr : rws n 11 d x ts1 f1 with
    | none => simp [hr] at h
    | some r2 =>
     obtain ⟨c, ts2, f2⟩ := r2
     simp only [hr] at h
     have h2 := h1.trans (i2 _ _ _ _ _ _ hr)
     by_cases hq : sgn ts2 = sQ
     ·simp only [hq, if_true] at h
      have h3 := h2.trans (took_sign (ts := ts2) (by rw [hq]; decide))
      cases ha : whl n d (ts2.drop 1) f2 with
      | none => rw [ha] at h; cases h
      | some r3 =>
       obtain ⟨a, ts3, f3⟩ := r3
       simp only [ha] at h
       have h4 := h3.trans (i3 _ _ _ _ ha)
       by_cases hc : sgn ts3 = sCol
       ·simp only [hc, if_true] at h
        have h5 := h4.trans (took_sign (ts := ts3) (by rw [hc]; decide))
        cases hb : whl n d (ts3.drop 1) f3 with
        | none => rw [hb] at h; cases h
        | some r4 =>
         obtain ⟨b, ts4, f4⟩ := r4
         simp only [hb] at h
         cases h
         have hh := i3 _ _ _ _ hb
         exact h5.trans hh
       ·simp [hc] at h
     ·simp only [hq, if_false] at h
      cases h
      exact h2
theorem descV_took {pm : Bool} {ts : List Tk} {r : Int × List Tk × Fl} (h : descV pm ts = some r) : Took ts r.2.1 := by
 unfold descV at h
 split at h
 ·split at h
  ·cases h
  ·exact (took _).1 _ _ _ _ h
 ·exact (took _).2.2 _ _ _ _ h
theorem took_last {ts ts' : List Tk} {e : Tk} (h : Took (ts ++ [e]) ts') (he : e.1 ≠ 2 ∧ e.1 ≠ 4) : ts' ≠ [] := by
 rintro rfl
 obtain ⟨p, hp, hq⟩ := h
 rw [List.append_nil] at hp
 subst hp
 rcases hq e (by simp) with h | h
 ·exact he.1 h
 ·exact he.2 h
end Go.Ab
