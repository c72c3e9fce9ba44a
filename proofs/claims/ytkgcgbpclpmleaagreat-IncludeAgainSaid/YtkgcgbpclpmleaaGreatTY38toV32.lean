/- The reference of package source: bodies. -/
import Derived.Test.YtkgcgbpclpmleaaGreatTY37
import Derived.Test.YtkgcgbpclpmleaaGreatTX3toS1
import Derived.Test.YtkgcgbpclpmleaaGreatTS2toX1
namespace Go.Ab
open Go.Proofs
set_option linter.unusedSectionVars false
set_option maxRecDepth 100000
variable [Glob]
section
variable {T : Table} (hT : TS9 T)
set_option maxHeartbeats 2000000 in
theorem eB {k N : Nat} (hM : TS9 (EM k N T)) : TS9 (ext (EM k N T) 36 (sBE (k + 1))) := by
 refine extE hM 36 (fn := Tryz.f36) rfl rfl daI eaI _ _ _ (fun _ => nB9 rfl) [0, 1, 16, 30, 38] fun r d hs hb => ?_
 obtain ⟨hd, hd9, hw, hv⟩ : 0 ≤ d ∧ d ≤ 100 ∧ ErW r ∧ (r.err = 0 → Vld r.s ∧ r.s.toks.length ≤ k + 1 + r.s.at_) := hs
 obtain ⟨s, e, ps⟩ := r
 have hb : s.bod = d.toNat := hb
 have hlt : s.at_ < s.toks.length := hw.lt
 have hlen : s.toks.length ≤ 6001 := hw.len
 by_cases he : e = 0
 ·subst he
  obtain rfl : ps = (0, 0, 0) := hw.p rfl
  obtain ⟨hv, hk⟩ := hv rfl
  have hv : Vld s := hv
  have hk : s.toks.length ≤ k + 1 + s.at_ := hk
  repeat ((conv => whnf); refine ⟨⟨rfl, rfl, hlt⟩, ?_⟩)
  conv => whnf
  refine cI9 ?_ ?_<;>intro h
  ·have h1 : sgnI s.tok ⟨#[123]⟩ = true ∧ 8 < s.bod := by
    have h2 : ((decide ((0 : Int) = 0) && sgnI s.tok ⟨#[123]⟩) && decide (8 < d)) = true := h
    have h3 := bA9.1 h2
    exact ⟨(bA9.1 h3.1).2, by have := oT9 h3.2; omega⟩
   have e3 : bodE (k + 1) ⟨s, 0, 0, 0, 0⟩ = ⟨s, 3, s.tok.2.2.2⟩ := by
    have e4 : bodS (k + 1) s = (3, s) := by
     show bodF _ s = _
     unfold bodF
     rw [if_pos h1.1, if_pos h1.2]
    unfold bodE
    rw [if_pos rfl]
    show erOf (bodS (k + 1) s) = _
    rw [e4]
    rfl
   rw [e3]
   have hf : failE 3 s.z.ok = ⟨s.z, 3, s.tok.2.2.2⟩ := rfl
   repeat ((conv => whnf); refine ⟨by first | exact ⟨rfl, rfl, hlt⟩ | exact ⟨rfl, rfl, hlt, hlen, fun h => absurd (show (3 : Int) = 0 from h) (by decide)⟩, ?_⟩)
   conv => whnf
   refine lI9 (σ := Unit) (fun _ => [(0, XV.s (.a (.c (.ptr 0 0)))), (1, nX9), (16, nX9), (30, nX9), (38, nX9)])
    (fun _ => erH ⟨s, 3, s.tok.2.2.2⟩) (fun _ => True) (fun _ => 0) () ?_ rfl trivial fun _ _ => ?_
   ·repeat first|exact lN9|refine lD9 ?_|refine lS9 ?_
   repeat ((conv => whnf); refine ⟨⟨rfl, rfl, hlt, hlen, fun h => absurd (show (3 : Int) = 0 from h) (by decide)⟩, ?_⟩)
   conv => whnf
   exact eR9
  ·have h1 : ¬ (sgnI s.tok ⟨#[123]⟩ = true ∧ 8 < s.bod) := fun h0 => by
    have h2 : ((decide ((0 : Int) = 0) && sgnI s.tok ⟨#[123]⟩) && decide (8 < d)) = false := h
    rw [h0.1, dT9 (show 8 < d by omega)] at h2
    cases h2
   by_cases h3 : sgnI s.tok ⟨#[123]⟩ = true
   ·have h8 : ¬ 8 < s.bod := fun h0 => h1 ⟨h3, h0⟩
    have ed : bodE (k + 1) ⟨s, 0, 0, 0, 0⟩ = erOf (if (memsF (memF (nodF (bodS k))) s.toks.length { s.adv with bod := s.bod + 1 }).1 = 0 then mustS ⟨#[125]⟩ (({ (memsF (memF (nodF (bodS k))) s.toks.length { s.adv with bod := s.bod + 1 }).2 with bod := (memsF (memF (nodF (bodS k))) s.toks.length { s.adv with bod := s.bod + 1 }).2.bod - 1 } : Sr).add (dfn 2 e0 e0 [] (memsF (memF (nodF (bodS k))) s.toks.length { s.adv with bod := s.bod + 1 }).2.tok)) else memsF (memF (nodF (bodS k))) s.toks.length { s.adv with bod := s.bod + 1 }) := by
     unfold bodE
     rw [if_pos rfl]
     show erOf (bodF _ s) = _
     unfold bodF
     rw [if_pos h3, if_neg h8]
    rw [ed]
    have hm : ∀ q, Vld q → Good q (memF (nodF (bodS k)) q).1 (memF (nodF (bodS k)) q).2 := fun q hq => memF_good (fun q nm h => nodF_good (bodS_good k) h nm) hq
    have g1 := hv.adv (sgnI_kind h3) 0
    have v1 : Vld { s.adv with bod := s.bod + 1 } := ⟨hv.len, g1.adv.lt, hv.lst, hv.fit, by have := hv.dfs; show s.defs.length ≤ 2 * (s.at_ + 1); omega, by show s.bod + 1 ≤ 9; omega⟩
    generalize hX : memsF (memF (nodF (bodS k))) s.toks.length { s.adv with bod := s.bod + 1 } = X
    have et : takeE ⟨#[123]⟩ s.z.ok = s.z.adv.ok := by
     unfold takeE
     rw [if_pos (show s.z.ok.err = 0 from rfl)]
     unfold mustS
     rw [if_pos (show sgnI s.z.ok.s.tok ⟨#[123]⟩ = true from h3)]
     rfl
    have hd8 : d ≤ 99 := by omega
    repeat ((conv => whnf); refine ⟨⟨rfl, rfl, hlt, hlen, fun _ => rfl⟩, ?_⟩)
    conv => whnf
    refine lI9 (σ := Er × Nat) (fun _ => [(0, XV.s (.a (.c (.ptr 0 0)))), (1, XV.s (.a (.c (.int .i64 d)))), (16, nX9), (30, nX9), (38, nX9)])
     (fun ⟨r, _⟩ => erH r) (fun ⟨r, n⟩ => r.s.at_ < r.s.toks.length ∧ r.s.toks = s.toks ∧ (r.err = 0 → r.pos = (0, 0, 0) ∧ Vld r.s ∧ r.s.bod = s.bod + 1 ∧ s.at_ + 1 ≤ r.s.at_ ∧ r.s.toks.length ≤ n + r.s.at_ ∧ memsF (memF (nodF (bodS k))) n r.s = X) ∧ (¬ r.err = 0 → erH r = erH (erOf X) ∧ ¬ X.1 = 0)) (fun ⟨_, n⟩ => n)
     (⟨{ s.adv with bod := s.bod + 1 }, 0, 0, 0, 0⟩, s.toks.length) ?_ ?_ ?_ ?_
    ·repeat first|exact lN9|refine lD9 ?_|refine lS9 ?_
    ·show erH (takeE ⟨#[123]⟩ s.z.ok) = _
     rw [et]
     rfl
    ·exact ⟨v1.lt, rfl, fun _ => ⟨rfl, v1, rfl, nR9 _, Nat.le_add_right _ _, hX⟩, fun h => absurd rfl h⟩
    rintro ⟨⟨q, e, ps⟩, n⟩ ⟨qlt, qt, hg0, hg1⟩
    have qlt : q.at_ < q.toks.length := qlt
    have qle : q.toks.length ≤ 6001 := by rw [show q.toks = s.toks from qt]; exact hlen
    by_cases he : e = 0
    ·subst he
     obtain ⟨hp, hq, qb, qa, hn, hgo⟩ := hg0 rfl
     obtain rfl : ps = (0, 0, 0) := hp
     have qb : q.bod = s.bod + 1 := qb
     have qa : s.at_ + 1 ≤ q.at_ := qa
     have hn : q.toks.length ≤ n + q.at_ := hn
     have hq : Vld q := hq
     have hgo : memsF (memF (nodF (bodS k))) n q = X := hgo
     have qt : q.toks = s.toks := qt
     obtain ⟨n, rfl⟩ : ∃ j, n = j + 1 := ⟨n - 1, by omega⟩
     have hk2 : q.toks.length ≤ k + 1 + q.at_ := by rw [qt]; omega
     simp only [memsF] at hgo
     have qw : q.wb (d.toNat + 1) = q := by
      have : q.bod = d.toNat + 1 := by omega
      rw [← this]
      rfl
     have hin : 0 ≤ (q.at_ : Int) ∧ (q.at_ : Int) < (q.toks.length : Nat) := by omega
     have p0 : ErOk ⟨q.wb (d.toNat + 1), 0, 0, 0, 0⟩ := by rw [qw]; exact ⟨hq, fun _ => rfl⟩
     repeat ((conv => whnf); refine ⟨⟨rfl, rfl, qlt⟩, ?_⟩)
     conv => whnf
     refine cI9 ?_ ?_<;>intro h4
     ·have h5 : ¬ sgnI q.tok ⟨#[125]⟩ = true := fun h => by
       have h6 : (decide ((0 : Int) = 0) && !sgnI q.tok ⟨#[125]⟩) = true := h4
       rw [h] at h6
       exact absurd h6 (by decide)
      rw [if_neg h5] at hgo
      have g3 := hm q hq
      repeat ((conv => whnf); refine ⟨⟨rfl, rfl, hd, hd8, p0, rfl, hk2⟩, ?_⟩)
      conv => whnf
      refine hI9 (erOf (memF (nodF (bodS k)) q), n) ?_ ?_ ?_ ?_
      ·repeat first|exact lN9|refine lD9 ?_|refine lS9 ?_
      ·show erH (erOf (memF (nodF (bodS k)) (q.wb (d.toNat + 1)))) = _
       rw [qw]
      ·have a1 := g3.adv.lt
       have a2 := g3.adv.toks
       by_cases h6 : (memF (nodF (bodS k)) q).1 = 0
       ·rw [erOf_0 h6]
        rw [if_pos h6] at hgo
        rw [h6] at g3
        have g4 := g3.ok rfl
        refine ⟨by show (memF (nodF (bodS k)) q).2.at_ < (memF (nodF (bodS k)) q).2.toks.length; rw [a2]; exact a1, a2.trans qt, fun _ => ⟨rfl, g3.vld hq, g4.2.1.trans qb, ?_, ?_, hgo⟩, fun h => absurd rfl h⟩
        ·have := g4.1
         show s.at_ + 1 ≤ (memF (nodF (bodS k)) q).2.at_
         omega
        ·have := g4.1
         show (memF (nodF (bodS k)) q).2.toks.length ≤ n + (memF (nodF (bodS k)) q).2.at_
         rw [a2]
         omega
       ·rw [erOf_n h6]
        rw [if_neg h6] at hgo
        refine ⟨by show (memF (nodF (bodS k)) q).2.at_ < (memF (nodF (bodS k)) q).2.toks.length; rw [a2]; exact a1, a2.trans qt, fun h => absurd h h6, fun _ => ⟨?_, ?_⟩⟩
        ·rw [← hgo, erOf_n h6]
        ·rw [← hgo]
         exact h6
      ·exact nS9 n
     ·have h5 : sgnI q.tok ⟨#[125]⟩ = true := by
       have h6 : (decide ((0 : Int) = 0) && !sgnI q.tok ⟨#[125]⟩) = false := h4
       simpa using h6
      rw [if_pos h5] at hgo
      rw [← hgo]
      have qf := hq.few
      have pw : ErW (addE (dfn 2 e0 e0 [] q.tok) (Er.wb 0 q.ok)) := (ErW.wb (r := q.ok) ⟨qlt, qle, fun _ => rfl⟩ 0).add _
      repeat ((conv => whnf); refine ⟨by first | exact hin | exact ⟨rfl, rfl, qf, fun _ => rfl⟩ | exact ⟨rfl, rfl, pw.lt, pw.len, pw.p⟩ | exact rfl, ?_⟩)
      conv => whnf
      refine eE9 ⟨rfl, ?_⟩
      show erH (takeE ⟨#[125]⟩ (Er.wb 0 (addE (dfn 2 e0 e0 [] q.tok) (Er.wb 0 q.ok)))) = _
      rw [takeE_wb, erH_wb, addE_wb, takeE_wb, erH_wb]
      simp only [if_true]
      unfold addE takeE
      rw [if_pos (show q.ok.err = 0 from rfl), if_pos (show q.ok.err = 0 from rfl)]
      have em := mustS_wb ⟨#[125]⟩ (q.bod - 1) (q.add (dfn 2 e0 e0 [] q.tok))
      show erH (erOf (mustS ⟨#[125]⟩ (q.add (dfn 2 e0 e0 [] q.tok)))) = erH (erOf (mustS ⟨#[125]⟩ ((q.add (dfn 2 e0 e0 [] q.tok)).wb (q.bod - 1))))
      rw [em]
      exact (erH_of _ _ _).symm
    ·obtain ⟨hr1, hX1⟩ := hg1 he
     rw [if_neg hX1]
     cases e with
     | ofNat m =>
      cases m with
      | zero => exact absurd rfl he
      | succ m =>
       repeat ((conv => whnf); refine ⟨⟨rfl, rfl, qlt, qle, fun h => absurd h he⟩, ?_⟩)
       conv => whnf
       refine eE9 ⟨rfl, ?_⟩
       show erH (takeE ⟨#[125]⟩ ⟨q, Int.ofNat (m + 1), ps⟩) = erH (erOf X)
       rw [← hr1]
       unfold takeE
       rw [if_neg he]
     | negSucc m =>
      repeat ((conv => whnf); refine ⟨⟨rfl, rfl, qlt, qle, fun h => absurd h he⟩, ?_⟩)
      conv => whnf
      refine eE9 ⟨rfl, ?_⟩
      show erH (takeE ⟨#[125]⟩ ⟨q, Int.negSucc m, ps⟩) = erH (erOf X)
      rw [← hr1]
      unfold takeE
      rw [if_neg he]
   ·have e3 : bodE (k + 1) ⟨s, 0, 0, 0, 0⟩ = ⟨s, 6, s.tok.2.2.2⟩ := by
     have e4 : bodS (k + 1) s = (6, s) := by
      show bodF _ s = _
      unfold bodF
      rw [if_neg h3]
     unfold bodE
     rw [if_pos rfl]
     show erOf (bodS (k + 1) s) = _
     rw [e4]
     rfl
    rw [e3]
    have et : takeE ⟨#[123]⟩ s.z.ok = ⟨s.z, 6, s.tok.2.2.2⟩ := by
     unfold takeE
     rw [if_pos (show s.z.ok.err = 0 from rfl)]
     unfold mustS
     rw [if_neg (show ¬ sgnI s.z.ok.s.tok ⟨#[123]⟩ = true from h3)]
     rfl
    repeat ((conv => whnf); refine ⟨⟨rfl, rfl, hlt, hlen, fun _ => rfl⟩, ?_⟩)
    conv => whnf
    refine lI9 (σ := Unit) (fun _ => [(0, XV.s (.a (.c (.ptr 0 0)))), (1, nX9), (16, nX9), (30, nX9), (38, nX9)])
     (fun _ => erH ⟨s, 6, s.tok.2.2.2⟩) (fun _ => True) (fun _ => 0) () ?_ ?_ trivial fun _ _ => ?_
    ·repeat first|exact lN9|refine lD9 ?_|refine lS9 ?_
    ·show erH (takeE ⟨#[123]⟩ s.z.ok) = _
     rw [et]
     rfl
    repeat ((conv => whnf); refine ⟨⟨rfl, rfl, hlt, hlen, fun h => absurd (show (6 : Int) = 0 from h) (by decide)⟩, ?_⟩)
    conv => whnf
    exact eR9
 ·cases e with
  | ofNat n =>
   cases n with
   | zero => exact absurd rfl he
   | succ n =>
    repeat ((conv => whnf); refine ⟨⟨rfl, rfl, hlt, hlen, fun h => absurd h he⟩, ?_⟩)
    conv => whnf
    refine lI9 (σ := Unit) (fun _ => [(0, XV.s (.a (.c (.ptr 0 0)))), (1, nX9), (16, nX9), (30, nX9), (38, nX9)])
     (fun _ => erH ⟨s, Int.ofNat (n + 1), ps⟩) (fun _ => True) (fun _ => 0) () ?_ rfl trivial fun _ _ => ?_
    ·repeat first|exact lN9|refine lD9 ?_|refine lS9 ?_
    repeat ((conv => whnf); refine ⟨⟨rfl, rfl, hlt, hlen, fun h => absurd h he⟩, ?_⟩)
    conv => whnf
    exact eR9
  | negSucc n =>
   repeat ((conv => whnf); refine ⟨⟨rfl, rfl, hlt, hlen, fun h => absurd h he⟩, ?_⟩)
   conv => whnf
   refine lI9 (σ := Unit) (fun _ => [(0, XV.s (.a (.c (.ptr 0 0)))), (1, nX9), (16, nX9), (30, nX9), (38, nX9)])
    (fun _ => erH ⟨s, Int.negSucc n, ps⟩) (fun _ => True) (fun _ => 0) () ?_ rfl trivial fun _ _ => ?_
   ·repeat first|exact lN9|refine lD9 ?_|refine lS9 ?_
   repeat ((conv => whnf); refine ⟨⟨rfl, rfl, hlt, hlen, fun h => absurd h he⟩, ?_⟩)
   conv => whnf
   exact eR9
end
theorem nmS_bod (nm : Nm) (r : Sr) : (nmS nm r).2.bod = r.bod := by
 cases nm with
 | root =>
  show (mustS ⟨#[47]⟩ r).2.bod = _
  unfold mustS
  split <;> rfl
 | ref => exact takeS_bod 6 labB r
 | node => exact takeS_bod 1 namB r
 | prop => exact takeS_bod 1 prpB r
 | str => exact takeS_bod 3 _ r
theorem takeS_fit {r : Sr} (h : Vld r) (k : Int) (v : ByteArray → Bool) : (takeS k v r).1.1.size ≤ 16000 := by
 unfold takeS
 split
 ·split
  ·exact (h.fit _ h.tok).1
  ·exact nZ9 _
 ·exact nZ9 _
theorem nom_pre {k : Nat} {r q : Sr} (nm : Nm) (hv : Vld r) (ha : Adv r q) (hb : q.bod = r.bod) (hk : r.toks.length ≤ k + 1 + r.at_) (D : defC.den) (n : Nat) (hn : r.bod = n) (W : Er) (hW : W = erOf ((nmS nm q).1.2, (nmS nm q).2)) :
  W.s.defs.length ≤ 1000000 ∧ ErW (Er.wb n (addE D (Er.wb 0 W))) ∧ ((Er.wb n (addE D (Er.wb 0 W))).err = 0 → Vld (Er.wb n (addE D (Er.wb 0 W))).s ∧ (Er.wb n (addE D (Er.wb 0 W))).s.toks.length ≤ k + (Er.wb n (addE D (Er.wb 0 W))).s.at_) := by
 subst hW
 have vq := ha.vld hv (by rw [hb]; exact hv.bod)
 have vw : Vld (nmS nm q).2 := (nmS_good vq nm).vld' vq (nmS_bod nm q)
 have hx := erOf_ok (x := ((nmS nm q).1.2, (nmS nm q).2)) vw
 refine ⟨hx.v.few, (hx.w.wb 0).add D |>.wb n, fun h => ?_⟩
 by_cases h1 : (nmS nm q).1.2 = 0
 ·obtain ⟨f1, f2, _, _⟩ := nod_facts (nm := nm) hv ha hb h1 hk D
  have e1 : Er.wb n (addE D (Er.wb 0 (erOf ((nmS nm q).1.2, (nmS nm q).2)))) = ((nmS nm q).2.add D).ok := by
   rw [erOf_0 h1]
   unfold addE
   rw [if_pos (show (Er.wb 0 (nmS nm q).2.ok).err = 0 from rfl)]
   rw [← hn, ← hb, ← nmS_bod nm q]
   rfl
  rw [e1]
  exact ⟨f1, f2⟩
 ·exfalso
  have h2 : (addE D (Er.wb 0 (erOf ((nmS nm q).1.2, (nmS nm q).2)))).err = 0 := h
  rw [addE_wb] at h2
  have h3 : (addE D (erOf ((nmS nm q).1.2, (nmS nm q).2))).err = 0 := h2
  rw [erOf_n h1] at h3
  unfold addE at h3
  rw [if_neg (show ¬ (nmS nm q).1.2 = 0 from h1)] at h3
  exact h1 h3
theorem erOf_z {x : Int × Sr} (h : x.2.bod = 0) : Er.wb 0 (erOf x) = erOf x := by
 obtain ⟨e, q⟩ := x
 rw [← erOf_wb]
 have : q.wb 0 = q := Sr.z_id h
 rw [this]
section
variable {T : Table} (hT : TS9 T)
set_option maxHeartbeats 4000000 in
theorem eT {N : Nat} (hB : TS9 (EB 6001 N T)) : TS9 (ext (EB 6001 N T) 24 (saysE da0 ea0 bo0 (fun r _ => ErOk r ∧ r.err = 0) fun r _ => (.tup [], erOf (topS r.s)))) := by
 refine extE hB 24 (fn := Tryz.f24) rfl rfl da0 ea0 bo0 _ _ (fun _ => nB9 rfl) [0, 2, 3, 26, 38, 54, 71] fun r _ hs hb => ?_
 obtain ⟨hr, he⟩ : ErOk r ∧ r.err = 0 := hs
 obtain ⟨s, e, ps⟩ := r
 have he : e = 0 := he
 subst he
 obtain rfl : ps = (0, 0, 0) := hr.p rfl
 obtain ⟨u, rfl⟩ : ∃ u : Sr, s = u.z := ⟨s, by have hb0 : s.bod = 0 := hb; unfold Sr.z; rw [← hb0]⟩
 have hv : Vld u.z := hr.v
 have hlt := hv.lt
 have hlen := hv.len
 have hi := hv.i64
 have hk : u.z.toks.length ≤ 6001 + 1 + u.z.at_ := by omega
 have hin : 0 ≤ (u.z.at_ : Int) ∧ (u.z.at_ : Int) < (u.z.toks.length : Nat) := by omega
 show runF _ _ _ _ _ _ fun r' H'' => Ends r' H'' (.tup []) (erH (erOf (topS u.z)))
 unfold topS
 repeat ((conv => whnf); refine ⟨by first | exact hin | exact ⟨rfl, rfl, hlt⟩ | (repeat ((conv => whnf); refine ⟨by ((conv => whnf); first | exact ⟨rfl, rfl, rfl⟩ | exact ⟨rfl, rfl⟩ | exact ⟨by assumption, rfl, rfl, rfl⟩), ?_⟩)); ((conv => whnf); exact trivial) | exact rfl, ?_⟩)
 conv => whnf
 refine cI9 ?_ ?_<;>intro h
 ·have h3 : wrdI u.z.tok ⟨#[105, 110, 99, 108, 117, 100, 101]⟩ = true := h
  rw [if_pos h3]
  have va := (hv.adv (wrdI_kind h3) 0).vld hv
  have vw := takeS_vld (k := 3) (by decide) (fun _ => true) va
  have hx := erOf_ok (x := ((takeS 3 (fun _ => true) u.z.adv).1.2, (takeS 3 (fun _ => true) u.z.adv).2)) vw
  have e0' : wordE 3 4 u.z.adv.ok = ((takeS 3 (fun _ => true) u.z.adv).1.1, erOf ((takeS 3 (fun _ => true) u.z.adv).1.2, (takeS 3 (fun _ => true) u.z.adv).2)) := wordE_0 3 4 _
  have hf : (wordE 3 4 u.z.adv.ok).2.s.defs.length ≤ 1000000 := by
   rw [e0']
   exact hx.v.few
  have hw : ErW (addE (dfn 6 e0 (wordE 3 4 u.z.adv.ok).1 [] u.z.tok) (Er.wb 0 (wordE 3 4 u.z.adv.ok).2)) := by
   refine ErW.add (ErW.wb ?_ 0) _
   rw [e0']
   exact hx.w
  repeat ((conv => whnf); refine ⟨by first | exact hi | exact ⟨rfl, rfl, ⟨va, fun _ => rfl⟩, .inr (.inr (.inr rfl))⟩ | exact ⟨rfl, rfl, hf, fun _ => rfl⟩ | exact ⟨rfl, rfl, hw.lt, hw.len, hw.p⟩ | exact Early.one (by decide +kernel) (by (conv => whnf); exact ⟨rfl, rfl, rfl⟩) trivial | exact rfl, ?_⟩)
  conv => whnf
  refine eE9 ⟨rfl, ?_⟩
  show erH (takeE ⟨#[59]⟩ (Er.wb 0 (addE (dfn 6 e0 (wordE 3 4 u.z.adv.ok).1 [] u.z.tok) (Er.wb 0 (wordE 3 4 u.z.adv.ok).2)))) = _
  rw [takeE_wb, erH_wb, addE_wb, takeE_wb, erH_wb, e0', cmd_eq]
  rfl
 have h3 : ¬ wrdI u.z.tok ⟨#[105, 110, 99, 108, 117, 100, 101]⟩ = true := fun h0 => by
  have h4 : wrdI u.z.tok ⟨#[105, 110, 99, 108, 117, 100, 101]⟩ = false := h
  rw [h0] at h4
  cases h4
 rw [if_neg h3]
 repeat ((conv => whnf); refine ⟨⟨rfl, rfl, hlt⟩, ?_⟩)
 conv => whnf
 refine cI9 ?_ ?_<;>intro h2
 ·have h4 : wrdI u.z.tok ⟨#[100, 101, 108, 101, 116, 101, 45, 110, 111, 100, 101]⟩ = true := h2
  rw [if_pos h4]
  have va := (hv.adv (wrdI_kind h4) 0).vld hv
  have vw := takeS_vld (k := 6) (by decide) labB va
  have hx := erOf_ok (x := ((takeS 6 labB u.z.adv).1.2, (takeS 6 labB u.z.adv).2)) vw
  have e0' : wordE 6 3 u.z.adv.ok = ((takeS 6 labB u.z.adv).1.1, erOf ((takeS 6 labB u.z.adv).1.2, (takeS 6 labB u.z.adv).2)) := wordE_0 6 3 _
  have hf : (wordE 6 3 u.z.adv.ok).2.s.defs.length ≤ 1000000 := by
   rw [e0']
   exact hx.v.few
  have hs0 : (wordE 6 3 u.z.adv.ok).1.size ≤ 16000 := by
   rw [e0']
   exact takeS_fit va 6 labB
  have c1 : (⟨#[38]⟩ : ByteArray).size = 1 := rfl
  have c2 : (((⟨#[38]⟩ : ByteArray).size + (wordE 6 3 u.z.adv.ok).1.size : Nat) : Int) ≤ 9223372036854775807 := by omega
  have c3 : (⟨#[38]⟩ ++ (wordE 6 3 u.z.adv.ok).1 : ByteArray).size ≤ 1000000000 := by rw [zA9]; omega
  have hw : ErW (addE (dfn 5 e0 (⟨#[38]⟩ ++ (wordE 6 3 u.z.adv.ok).1) [] u.z.tok) (Er.wb 0 (wordE 6 3 u.z.adv.ok).2)) := by
   refine ErW.add (ErW.wb ?_ 0) _
   rw [e0']
   exact hx.w
  repeat ((conv => whnf); refine ⟨by first | exact hi | exact ⟨rfl, rfl, ⟨va, fun _ => rfl⟩, .inr (.inr (.inl rfl))⟩ | exact ⟨rfl, rfl, hf, fun _ => rfl⟩ | exact ⟨rfl, rfl, hw.lt, hw.len, hw.p⟩ | exact c2 | exact Early.one (by decide +kernel) (by (conv => whnf); exact ⟨rfl, rfl, rfl⟩) trivial | exact rfl, ?_⟩)
  conv => whnf
  refine eE9 ⟨rfl, ?_⟩
  show erH (takeE ⟨#[59]⟩ (Er.wb 0 (addE (dfn 5 e0 (⟨#[38]⟩ ++ (wordE 6 3 u.z.adv.ok).1) [] u.z.tok) (Er.wb 0 (wordE 6 3 u.z.adv.ok).2)))) = _
  rw [takeE_wb, erH_wb, addE_wb, takeE_wb, erH_wb, e0', cmd_eq]
  rfl
 have h4 : ¬ wrdI u.z.tok ⟨#[100, 101, 108, 101, 116, 101, 45, 110, 111, 100, 101]⟩ = true := fun h0 => by
  have h4 : wrdI u.z.tok ⟨#[100, 101, 108, 101, 116, 101, 45, 110, 111, 100, 101]⟩ = false := h2
  rw [h0] at h4
  cases h4
 rw [if_neg h4]
 repeat ((conv => whnf); refine ⟨by first | exact hin | exact rfl, ?_⟩)
 conv => whnf
 refine cI9 ?_ ?_<;>intro h5
 ·have h6 : u.z.tok.1 = 6 := oT9 h5
  rw [if_pos h6, nodF_plain (fun h => by rw [h6] at h; exact absurd h (by decide))]
  have e0' : wordE 6 3 u.z.ok = ((takeS 6 labB u.z).1.1, erOf ((takeS 6 labB u.z).1.2, (takeS 6 labB u.z).2)) := wordE_0 6 3 _
  have hs0 : (wordE 6 3 u.z.ok).1.size ≤ 16000 := by
   rw [e0']
   exact takeS_fit hv 6 labB
  have c1 : (⟨#[38]⟩ : ByteArray).size = 1 := rfl
  have c2 : (((⟨#[38]⟩ : ByteArray).size + (wordE 6 3 u.z.ok).1.size : Nat) : Int) ≤ 9223372036854775807 := by omega
  have c3 : (⟨#[38]⟩ ++ (wordE 6 3 u.z.ok).1 : ByteArray).size ≤ 1000000000 := by rw [zA9]; omega
  obtain ⟨p1, p2, p3⟩ := nom_pre (k := 6001) .ref hv hv.refl rfl hk (dfn 1 e0 (⟨#[38]⟩ ++ (wordE 6 3 u.z.ok).1) [] u.z.tok) 0 rfl (wordE 6 3 u.z.ok).2 (by rw [e0']; rfl)
  have p4 := (p2.body (fun h => (p3 h).1) 6001).wb 0
  have d1 : (0 : Int) ≤ 0 := by decide
  have d2 : (0 : Int) ≤ 100 := by decide
  repeat ((conv => whnf); refine ⟨by first | exact ⟨rfl, rfl, hr, .inr (.inr (.inl rfl))⟩ | exact ⟨rfl, rfl, p1, fun _ => rfl⟩ | exact ⟨rfl, rfl, d1, d2, p2, p3⟩ | exact ⟨rfl, rfl, p4.lt, p4.len, p4.p⟩ | exact c2 | exact Early.one (by decide +kernel) (by (conv => whnf); exact ⟨rfl, rfl, rfl⟩) trivial | exact rfl, ?_⟩)
  conv => whnf
  refine eE9 ⟨rfl, ?_⟩
  show erH (takeE ⟨#[59]⟩ (Er.wb 0 (bodE 6001 (Er.wb 0 (addE (dfn 1 e0 (⟨#[38]⟩ ++ (wordE 6 3 u.z.ok).1) [] u.z.tok) (Er.wb 0 (wordE 6 3 u.z.ok).2)))))) = _
  rw [e0']
  exact nod_eq 6001 0 (dfn 1 e0 (⟨#[38]⟩ ++ (takeS 6 labB u.z).1.1) [] u.z.tok) ((takeS 6 labB u.z).1.2, (takeS 6 labB u.z).2) (takeS_bod 6 labB u.z)
 have h6 : ¬ u.z.tok.1 = 6 := oF9 h5
 rw [if_neg h6]
 repeat ((conv => whnf); refine ⟨by first | exact hin | exact rfl, ?_⟩)
 conv => whnf
 refine cI9 ?_ ?_<;>intro h7
 ·have h8 : u.z.tok.1 = 5 := oT9 h7
  rw [nodF_label h8]
  have gl := takeS_good hv (k := 5) (by decide) labB
  have vl := takeS_vld (k := 5) (by decide) labB hv
  have lb := takeS_bod 5 labB u.z
  have e0' : wordE 5 3 u.z.ok = ((takeS 5 labB u.z).1.1, erOf ((takeS 5 labB u.z).1.2, (takeS 5 labB u.z).2)) := wordE_0 5 3 _
  generalize hL : takeS 5 labB u.z = L at *
  obtain ⟨⟨l, e⟩, q⟩ := L
  have lb : q.bod = 0 := lb
  have ew : takeE ⟨#[47]⟩ (Er.wb 0 (wordE 5 3 u.z.ok).2) = erOf (if e = 0 then mustS ⟨#[47]⟩ q else (e, q)) := by
   rw [e0', erOf_z lb]
   show takeE ⟨#[47]⟩ (erOf (e, q)) = _
   rw [take_erOf]
   show (if e = 0 then _ else _) = _
   split <;> rfl
  have hw : ErW (Er.wb 0 (wordE 5 3 u.z.ok).2) := by
   rw [e0']
   exact (erOf_ok (x := (e, q)) vl).w.wb 0
  have pp : (takeE ⟨#[47]⟩ (Er.wb 0 (wordE 5 3 u.z.ok).2)).s.defs.length ≤ 1000000 ∧ ErW (Er.wb 0 (addE (dfn 1 (wordE 5 3 u.z.ok).1 ⟨#[47]⟩ [] u.z.tok) (Er.wb 0 (takeE ⟨#[47]⟩ (Er.wb 0 (wordE 5 3 u.z.ok).2))))) ∧ ((Er.wb 0 (addE (dfn 1 (wordE 5 3 u.z.ok).1 ⟨#[47]⟩ [] u.z.tok) (Er.wb 0 (takeE ⟨#[47]⟩ (Er.wb 0 (wordE 5 3 u.z.ok).2))))).err = 0 → Vld (Er.wb 0 (addE (dfn 1 (wordE 5 3 u.z.ok).1 ⟨#[47]⟩ [] u.z.tok) (Er.wb 0 (takeE ⟨#[47]⟩ (Er.wb 0 (wordE 5 3 u.z.ok).2))))).s ∧ (Er.wb 0 (addE (dfn 1 (wordE 5 3 u.z.ok).1 ⟨#[47]⟩ [] u.z.tok) (Er.wb 0 (takeE ⟨#[47]⟩ (Er.wb 0 (wordE 5 3 u.z.ok).2))))).s.toks.length ≤ 6001 + (Er.wb 0 (addE (dfn 1 (wordE 5 3 u.z.ok).1 ⟨#[47]⟩ [] u.z.tok) (Er.wb 0 (takeE ⟨#[47]⟩ (Er.wb 0 (wordE 5 3 u.z.ok).2))))).s.at_) := by
   by_cases h0 : e = 0
   ·refine nom_pre (k := 6001) .root hv gl.adv lb hk _ 0 rfl _ ?_
    rw [ew, if_pos h0]
    rfl
   ·rw [ew, if_neg h0]
    have hx := erOf_ok (x := (e, q)) vl
    refine ⟨hx.v.few, ((hx.w.wb 0).add _).wb 0, fun h => ?_⟩
    exfalso
    have h2 : (addE (dfn 1 (wordE 5 3 u.z.ok).1 ⟨#[47]⟩ [] u.z.tok) (Er.wb 0 (erOf (e, q)))).err = 0 := h
    rw [addE_wb] at h2
    have h3 : (addE (dfn 1 (wordE 5 3 u.z.ok).1 ⟨#[47]⟩ [] u.z.tok) (erOf (e, q))).err = 0 := h2
    rw [erOf_n (x := (e, q)) h0] at h3
    unfold addE at h3
    rw [if_neg (show ¬ e = 0 from h0)] at h3
    exact h0 h3
  obtain ⟨p1, p2, p3⟩ := pp
  have p4 := (p2.body (fun h => (p3 h).1) 6001).wb 0
  have d1 : (0 : Int) ≤ 0 := by decide
  have d2 : (0 : Int) ≤ 100 := by decide
  repeat ((conv => whnf); refine ⟨by first | exact ⟨rfl, rfl, hr, .inr (.inr (.inl rfl))⟩ | exact ⟨rfl, rfl, hw.lt, hw.len, hw.p⟩ | exact ⟨rfl, rfl, p1, fun _ => rfl⟩ | exact ⟨rfl, rfl, d1, d2, p2, p3⟩ | exact ⟨rfl, rfl, p4.lt, p4.len, p4.p⟩, ?_⟩)
  conv => whnf
  refine eE9 ⟨rfl, ?_⟩
  show erH (takeE ⟨#[59]⟩ (Er.wb 0 (bodE 6001 (Er.wb 0 (addE (dfn 1 (wordE 5 3 u.z.ok).1 ⟨#[47]⟩ [] u.z.tok) (Er.wb 0 (takeE ⟨#[47]⟩ (Er.wb 0 (wordE 5 3 u.z.ok).2)))))))) = _
  rw [ew, e0']
  by_cases h0 : e = 0
  ·rw [if_pos h0, if_pos (show ((l, e), q).1.2 = 0 from h0)]
   exact nod_eq 6001 0 (dfn 1 l ⟨#[47]⟩ [] u.z.tok) (mustS ⟨#[47]⟩ q) ((nmS_bod .root q).trans lb)
  ·rw [if_neg h0, if_neg (show ¬ ((l, e), q).1.2 = 0 from h0)]
   have := nod_eq 6001 0 (dfn 1 l ⟨#[47]⟩ [] u.z.tok) (e, q) lb
   rw [if_neg (show ¬ (e, q).1 = 0 from h0)] at this
   exact this
 ·have h8 : ¬ u.z.tok.1 = 5 := oF9 h7
  rw [nodF_plain h8]
  have e0' : takeE ⟨#[47]⟩ u.z.ok = erOf (mustS ⟨#[47]⟩ u.z) := if_pos rfl
  obtain ⟨p1, p2, p3⟩ := nom_pre (k := 6001) .root hv hv.refl rfl hk (dfn 1 e0 ⟨#[47]⟩ [] u.z.tok) 0 rfl (takeE ⟨#[47]⟩ u.z.ok) (by rw [e0']; rfl)
  have p4 := (p2.body (fun h => (p3 h).1) 6001).wb 0
  have d1 : (0 : Int) ≤ 0 := by decide
  have d2 : (0 : Int) ≤ 100 := by decide
  repeat ((conv => whnf); refine ⟨by first | exact ⟨rfl, rfl, hlt, hlen, fun _ => rfl⟩ | exact ⟨rfl, rfl, p1, fun _ => rfl⟩ | exact ⟨rfl, rfl, d1, d2, p2, p3⟩ | exact ⟨rfl, rfl, p4.lt, p4.len, p4.p⟩, ?_⟩)
  conv => whnf
  refine eE9 ⟨rfl, ?_⟩
  show erH (takeE ⟨#[59]⟩ (Er.wb 0 (bodE 6001 (Er.wb 0 (addE (dfn 1 e0 ⟨#[47]⟩ [] u.z.tok) (Er.wb 0 (takeE ⟨#[47]⟩ u.z.ok))))))) = _
  rw [e0']
  exact nod_eq 6001 0 (dfn 1 e0 ⟨#[47]⟩ [] u.z.tok) (mustS ⟨#[47]⟩ u.z) (nmS_bod .root u.z)
end
section
variable {T : Table} (hT : TS9 T)
include hT in
theorem eBk {N : Nat} (hN : 20000 ≤ N) : ∀ k, TS9 (EB k N T) := by
 intro k
 induction k with
 | zero =>
  refine extE (e9 hT hN) 36 (fn := Tryz.f36) rfl rfl daI eaI _ _ _ (fun _ => nB9 rfl) [0, 1, 16, 30, 38] fun r d hs hb => ?_
  obtain ⟨hd, hd9, hw, hv⟩ : 0 ≤ d ∧ d ≤ 100 ∧ ErW r ∧ (r.err = 0 → Vld r.s ∧ r.s.toks.length ≤ 0 + r.s.at_) := hs
  obtain ⟨s, e, ps⟩ := r
  have hlt : s.at_ < s.toks.length := hw.lt
  have hlen : s.toks.length ≤ 6001 := hw.len
  by_cases he : e = 0
  ·have h1 : s.toks.length ≤ 0 + s.at_ := (hv he).2
   omega
  ·cases e with
   | ofNat n =>
    cases n with
    | zero => exact absurd rfl he
    | succ n =>
     repeat ((conv => whnf); refine ⟨⟨rfl, rfl, hlt, hlen, fun h => absurd h he⟩, ?_⟩)
     conv => whnf
     refine lI9 (σ := Unit) (fun _ => [(0, XV.s (.a (.c (.ptr 0 0)))), (1, nX9), (16, nX9), (30, nX9), (38, nX9)])
      (fun _ => erH ⟨s, Int.ofNat (n + 1), ps⟩) (fun _ => True) (fun _ => 0) () ?_ rfl trivial fun _ _ => ?_
     ·repeat first|exact lN9|refine lD9 ?_|refine lS9 ?_
     repeat ((conv => whnf); refine ⟨⟨rfl, rfl, hlt, hlen, fun h => absurd h he⟩, ?_⟩)
     conv => whnf
     exact eR9
   | negSucc n =>
    repeat ((conv => whnf); refine ⟨⟨rfl, rfl, hlt, hlen, fun h => absurd h he⟩, ?_⟩)
    conv => whnf
    refine lI9 (σ := Unit) (fun _ => [(0, XV.s (.a (.c (.ptr 0 0)))), (1, nX9), (16, nX9), (30, nX9), (38, nX9)])
     (fun _ => erH ⟨s, Int.negSucc n, ps⟩) (fun _ => True) (fun _ => 0) () ?_ rfl trivial fun _ _ => ?_
    ·repeat first|exact lN9|refine lD9 ?_|refine lS9 ?_
    repeat ((conv => whnf); refine ⟨⟨rfl, rfl, hlt, hlen, fun h => absurd h he⟩, ?_⟩)
    conv => whnf
    exact eR9
 | succ k ih => exact ext_only (eB (eM ih)) (e9 hT hN)
abbrev ET (N : Nat) (T : Table) : Table := ext (EB 6001 N T) 24 (saysE da0 ea0 bo0 (fun r _ => ErOk r ∧ r.err = 0) fun r _ => (.tup [], erOf (topS r.s)))
abbrev ER0 (N : Nat) (T : Table) : Table := ext (ET N T) 23 (saysSI fun s f => (none, (readV s f).sv))
include hT in
theorem er0 {N : Nat} (hN : 20000 ≤ N) : TS9 (ER0 N T) := ext_only t71 (eT (eBk hT hN 6001))
abbrev ER (N : Nat) (T : Table) : Table := ext (ER0 N T) 12 (saysSI fun s f => (none, (srcV s f).sv))
set_option maxHeartbeats 1000000 in
include hT in
theorem er {N : Nat} (hN : 20000 ≤ N) : TS9 (ER N T) := by
 refine extSI (er0 hT hN) 12 (fn := Tryz.f12) rfl rfl (nB9 rfl) _ [0, 1, 4, 5, 6, 7, 8, 9, 10, 19, 36, 40] fun s f hs => ?_
 conv => whnf
 refine cI9 ?_ ?_<;>intro h
 ·have h1 : ¬ (readV s f).err = 0 := by
   have h2 : (!decide ((readV s f).err = 0)) = true := h
   simpa using h2
  repeat ((conv => whnf); refine ⟨rfl, ?_⟩)
  conv => whnf
  refine eO9 (fun G v hv => ?_) rfl
  have := nil_sle defC G v hv
  show RepS G (srcV s f).sv v
  unfold srcV
  rw [if_neg h1]
  exact this
 have h1 : (readV s f).err = 0 := by
  have h2 : (!decide ((readV s f).err = 0)) = false := h
  simpa using h2
 have hv := srV_vld' h1
 generalize hX : topsS (readV s f).toks.length ⟨(readV s f).toks, 0, 0, []⟩ = X
 have hS : srcV s f = if X.1 = 0 then ⟨X.2.defs, 0, 0, 0, 0⟩ else ⟨[], X.2.tok.2.2.2.1, X.2.tok.2.2.2.2.1, X.2.tok.2.2.2.2.2, X.1⟩ := by
  unfold srcV
  rw [if_pos h1, ← hX]
 conv => whnf
 refine loop_weak (σ := Er × Nat) (fun _ => [(0, nX9), (1, nX9), (4, nX9), (5, XV.s (.a (.c (.ptr 0 0)))), (6, nX9), (7, nX9), (8, nX9), (9, nX9), (10, XV.s (.a (.c (.ptr 2 0)))), (19, nX9), (36, nX9), (40, nX9)])
  (fun ⟨r, _⟩ => [.row [.int .i64 0, .int .i64 0, .int .i64 0], .row [.int .i64 (readV s f).file, .int .i64 (readV s f).line, .int .i64 (readV s f).column], .row [.p (.l tkC r.s.toks), .int .i64 r.s.at_, .own 3 defC r.s.defs, .int .i64 r.err, .int .i64 r.pos.1, .int .i64 r.pos.2.1, .int .i64 r.pos.2.2], .tok 39 defC r.s.defs.length true])
  (fun ⟨r, n⟩ => r.s.bod = 0 ∧ (r.err = 0 → r.pos = (0, 0, 0) ∧ Vld r.s ∧ r.s.toks.length ≤ n + r.s.at_ ∧ topsS n r.s = X) ∧ (¬ r.err = 0 → r.err = X.1 ∧ r.pos = X.2.tok.2.2.2)) (fun ⟨_, n⟩ => n)
  (⟨⟨(readV s f).toks, 0, 0, []⟩, 0, 0, 0, 0⟩, (readV s f).toks.length) ?_ ?_ ?_
 ·refine (Weak.cell 2 rfl 2 rfl 39 defC).trans (Weak.le _ ?_)
  repeat first|exact lN9|refine lD9 ?_|refine lS9 ?_
 ·exact ⟨rfl, fun _ => ⟨rfl, hv, Nat.le_add_right _ _, hX⟩, fun h => absurd rfl h⟩
 rintro ⟨⟨q, e, ps⟩, n⟩ ⟨hb, hg0, hg1⟩
 have hb : q.bod = 0 := hb
 obtain ⟨u, rfl⟩ : ∃ u : Sr, q = u.z := ⟨q, (Sr.z_id hb).symm⟩
 by_cases he : e = 0
 ·subst he
  obtain ⟨hp, hq, hl, hgo⟩ := hg0 rfl
  obtain rfl : ps = (0, 0, 0) := hp
  have hq : Vld u.z := hq
  have hgo : topsS n u.z = X := hgo
  have hl : u.z.toks.length ≤ n + u.z.at_ := hl
  have hql := hq.lt
  have hin : 0 ≤ (u.z.at_ : Int) ∧ (u.z.at_ : Int) < (u.z.toks.length : Nat) := by omega
  have pa : ErOk u.z.ok := ⟨hq, fun _ => rfl⟩
  obtain ⟨n, rfl⟩ : ∃ j, n = j + 1 := ⟨n - 1, by omega⟩
  simp only [topsS] at hgo
  repeat ((conv => whnf); refine ⟨fun _ => hin, ?_⟩)
  conv => whnf
  refine cI9 ?_ ?_<;>intro h3
  ·have h4 : ¬ u.z.tok.1 = 8 := by
    have h5 : (decide ((0 : Int) = 0) && !decide (u.z.tok.1 = 8)) = true := h3
    simpa using h5
   rw [if_neg h4] at hgo
   have g := topS_good hq
   repeat ((conv => whnf); refine ⟨⟨rfl, rfl, pa, rfl⟩, ?_⟩)
   conv => whnf
   refine hI9 (Er.wb 0 (erOf (topS u.z)), n) ?_ ?_ ?_ ?_
   ·repeat first|exact lN9|refine lD9 ?_|refine lS9 ?_
   ·rfl
   ·refine ⟨rfl, fun h5 => ?_, fun h5 => ?_⟩
    ·have h6 : (topS u.z).1 = 0 := by
      by_cases h7 : (topS u.z).1 = 0
      ·exact h7
      ·exfalso
       have h8 : (erOf (topS u.z)).err = 0 := h5
       rw [erOf_n h7] at h8
       exact h7 h8
     rw [if_pos h6] at hgo
     rw [h6] at g
     have hb2 : (topS u.z).2.bod = 0 := (g.ok rfl).2.1
     have ew : Er.wb 0 (erOf (topS u.z)) = (topS u.z).2.ok := by
      rw [erOf_z hb2, erOf_0 h6]
     rw [ew]
     refine ⟨rfl, g.vld hq, ?_, hgo⟩
     have h9 := g.adv.toks
     have h10 := (g.ok rfl).1
     show (topS u.z).2.toks.length ≤ n + (topS u.z).2.at_
     rw [h9]
     omega
    ·have h6 : ¬ (topS u.z).1 = 0 := fun h7 => h5 (by
      show (erOf (topS u.z)).err = 0
      rw [erOf_0 h7]
      rfl)
     rw [if_neg h6] at hgo
     show (erOf (topS u.z)).err = X.1 ∧ (erOf (topS u.z)).pos = X.2.tok.2.2.2
     rw [erOf_n h6, ← hgo]
     exact ⟨rfl, rfl⟩
   ·exact nS9 n
  ·have h4 : u.z.tok.1 = 8 := by
    have h5 : (decide ((0 : Int) = 0) && !decide (u.z.tok.1 = 8)) = false := h3
    simpa using h5
   rw [if_pos h4] at hgo
   conv => whnf
   refine eT9 ?_
   show _ = (srcV s f).sv
   rw [hS, ← hgo, if_pos rfl]
   rfl
 ·obtain ⟨hr1, hr2⟩ := hg1 he
  have hr1 : e = X.1 := hr1
  have hr2 : ps = X.2.tok.2.2.2 := hr2
  have fin : ∀ (G : View) (v : Value), RepS G (.tup [.c (.p (.v (.slice none 0 0))), .agg [.int .i64 ps.1, .int .i64 ps.2.1, .int .i64 ps.2.2], .c (.int .i64 e)]) v → RepS G (srcV s f).sv v := fun G v hv => by
   rw [hS, if_neg (by rw [← hr1]; exact he)]
   have := nil_sle defC G v hv
   rw [hr2, hr1] at this
   exact this
  cases e with
  | ofNat c =>
   cases c with
   | zero => exact absurd rfl he
   | succ c =>
    repeat ((conv => whnf); refine ⟨by first | exact fun hg => Bool.noConfusion (show false = true from hg) | (repeat ((conv => whnf); refine ⟨by ((conv => whnf); first | exact ⟨rfl, rfl, rfl⟩ | exact ⟨rfl, rfl⟩ | exact ⟨by assumption, rfl, rfl, rfl⟩), ?_⟩)); ((conv => whnf); exact trivial) | exact rfl, ?_⟩)
    conv => whnf
    exact eO9 fin rfl
  | negSucc c =>
   repeat ((conv => whnf); refine ⟨by first | exact fun hg => Bool.noConfusion (show false = true from hg) | (repeat ((conv => whnf); refine ⟨by ((conv => whnf); first | exact ⟨rfl, rfl, rfl⟩ | exact ⟨rfl, rfl⟩ | exact ⟨by assumption, rfl, rfl, rfl⟩), ?_⟩)); ((conv => whnf); exact trivial) | exact rfl, ?_⟩)
   conv => whnf
   exact eO9 fin rfl
end
end Go.Ab
namespace Go.Ab
set_option linter.unusedSectionVars false
theorem w32_eq (n : Int) : w32 n = n % 4294967296 := by
 unfold w32 IntKind.wrap
 simp only [IntKind.signed, IntKind.bits]
 simp
end Go.Ab
namespace Go.Ab
open Go.Proofs
set_option linter.unusedSectionVars false
set_option maxRecDepth 100000
variable [Glob]
theorem basedL_app (D : List UInt8) (b : Nat) : ∀ (k m : Nat) (out : List UInt8), basedL D b k m out = basedL D b k m [] ++ out := by
 intro k
 induction k with
 | zero => intro m out; rfl
 | succ k ih =>
  intro m out
  simp only [basedL]
  split
  ·rfl
  ·rw [ih (m / b) (D.getD (m % b) 0 :: out), ih (m / b) [D.getD (m % b) 0], List.append_assoc]
   rfl
theorem basedL_fuel (D : List UInt8) (b : Nat) (hb : 2 ≤ b) : ∀ (k m : Nat) (out : List UInt8), m < 2 ^ k → basedL D b (k + 1) m out = basedL D b k m out := by
 intro k
 induction k with
 | zero =>
  intro m out h
  have : m = 0 := by simpa using h
  subst this
  rfl
 | succ k ih =>
  intro m out h
  have e1 : basedL D b (k + 1 + 1) m out = if m = 0 then out else basedL D b (k + 1) (m / b) (D.getD (m % b) 0 :: out) := rfl
  have e2 : basedL D b (k + 1) m out = if m = 0 then out else basedL D b k (m / b) (D.getD (m % b) 0 :: out) := rfl
  rw [e1, e2]
  split
  ·rfl
  ·exact ih _ _ (lt_pow_div hb h)
theorem dec_small {n : Nat} (h : n < 10) : basedV false 10 n = [(digL false).getD n 0] := by
 unfold basedV
 rw [show n / 10 = 0 by omega, show n % 10 = n by omega]
 rfl
theorem dec_big {n : Nat} (h : 10 ≤ n) (hn : n < 18446744073709551616) : basedV false 10 n = basedV false 10 (n / 10) ++ [(digL false).getD (n % 10) 0] := by
 have e : basedV false 10 (n / 10) = basedL (digL false) 10 64 (n / 10 / 10) [(digL false).getD (n / 10 % 10) 0] := rfl
 rw [e, basedL_fuel (digL false) 10 (by decide) 63 (n / 10 / 10) _ (by omega)]
 unfold basedV
 rw [basedL_app]
 congr 1
 rw [basedL, if_neg (by omega)]
theorem dec_len : ∀ (k n : Nat), n < 10 ^ (k + 1) → n < 18446744073709551616 → (basedV false 10 n).length ≤ k + 1 := by
 intro k
 induction k with
 | zero => intro n h _; rw [dec_small (by omega)]; exact nR9 _
 | succ k ih =>
  intro n h h2
  by_cases h3 : n < 10
  ·rw [dec_small h3]; simp
  ·rw [dec_big (by omega) h2, zP9, zC9, zN9]
   have := ih (n / 10) (by rw [Nat.pow_succ] at h; omega) (by omega)
   omega
def In32 (x : Int) : Prop := 0 ≤ x ∧ x ≤ 4294967295
theorem in32_w (x : Int) : In32 (w32 x) := by rw [w32_eq]; unfold In32; omega
theorem in32_tr (b : Bool) : In32 (tr b) := by cases b <;> exact ⟨by decide, by decide⟩
theorem in32_mod {x y : Int} (hx : In32 x) (hy : In32 y) : In32 (x.tmod y) := by
 obtain ⟨a, rfl⟩ : ∃ n : Nat, x = n := ⟨x.toNat, by unfold In32 at hx; omega⟩
 obtain ⟨b, rfl⟩ : ∃ n : Nat, y = n := ⟨y.toNat, by unfold In32 at hy; omega⟩
 have e : (a : Int).tmod b = ((a % b : Nat) : Int) := (Int.ofNat_tmod a b).symm
 have h3 := Nat.mod_le a b
 unfold In32 at *
 rw [e]
 generalize a % b = q at h3
 omega
theorem in32_shr {x : Int} (hx : In32 x) (k : Nat) : In32 (x.fdiv (2 ^ k)) := by
 obtain ⟨a, rfl⟩ : ∃ n : Nat, x = n := ⟨x.toNat, by unfold In32 at hx; omega⟩
 have e : (a : Int).fdiv (2 ^ k) = ((a / 2 ^ k : Nat) : Int) := by
  rw [show ((2 : Int) ^ k) = ((2 ^ k : Nat) : Int) by simp]
  exact (Int.ofNat_fdiv a (2 ^ k)).symm
 have h3 := Nat.div_le_self a (2 ^ k)
 unfold In32 at *
 rw [e]
 generalize a / 2 ^ k = q at h3
 omega
end Go.Ab
