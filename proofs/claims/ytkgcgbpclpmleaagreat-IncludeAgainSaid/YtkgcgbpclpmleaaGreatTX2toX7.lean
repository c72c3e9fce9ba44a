/- Package source: the reader goes on. -/
import Derived.Test.YtkgcgbpclpmleaaGreatTS2toX1
import Derived.Test.YtkgcgbpclpmleaaGreatTX3toS1
namespace Go.Ab
open Go.Proofs
set_option linter.unusedSectionVars false
set_option maxRecDepth 100000
variable [Glob]
structure Vld (r : Sr) : Prop where
 len : r.toks.length ≤ 6001
 lt : r.at_ < r.toks.length
 lst : ∀ i, i + 1 = r.toks.length → (r.toks.getD i tkC.dflt).1 = 8
 fit : ∀ t ∈ r.toks, t.2.1.size ≤ 16000 ∧ 0 ≤ t.2.2.1 ∧ t.2.2.1 ≤ 4294967295
 dfs : r.defs.length ≤ 2 * r.at_
 bod : r.bod ≤ 9
structure Adv (r q : Sr) : Prop where
 toks : q.toks = r.toks
 le : r.at_ ≤ q.at_
 lt : q.at_ < r.toks.length
 dfs : q.defs.length + 2 * r.at_ ≤ r.defs.length + 2 * q.at_
structure Good (r : Sr) (e : Int) (q : Sr) : Prop where
 adv : Adv r q
 ok : e = 0 → r.at_ < q.at_ ∧ q.bod = r.bod ∧ q.defs.length + 2 * r.at_ + 1 ≤ r.defs.length + 2 * q.at_
theorem Vld.tok {r : Sr} (h : Vld r) : r.tok ∈ r.toks := by
 unfold Sr.tok
 rw [List.getD_eq_getElem?_getD, List.getElem?_eq_getElem h.lt]
 exact List.getElem_mem _
theorem Vld.refl {r : Sr} (h : Vld r) : Adv r r := ⟨rfl, nR9 _, h.lt, nR9 _⟩
theorem Vld.stay {r : Sr} (h : Vld r) {e : Int} (he : e ≠ 0) : Good r e r := ⟨h.refl, fun h0 => absurd h0 he⟩
theorem Adv.trans {a b c : Sr} (h : Adv a b) (k : Adv b c) : Adv a c :=
 ⟨k.toks.trans h.toks, Nat.le_trans h.le k.le, by rw [← h.toks]; exact k.lt, by have := h.dfs; have := k.dfs; omega⟩
theorem Adv.vld {r q : Sr} (h : Vld r) (k : Adv r q) (hb : q.bod ≤ 9) : Vld q where
 len := by rw [k.toks]; exact h.len
 lt := by rw [k.toks]; exact k.lt
 lst := by rw [k.toks]; exact h.lst
 fit := by rw [k.toks]; exact h.fit
 dfs := by have := k.dfs; have := h.dfs; omega
 bod := hb
theorem Good.vld {r q : Sr} (h : Vld r) (k : Good r 0 q) : Vld q := k.adv.vld h (by rw [(k.ok rfl).2.1]; exact h.bod)
theorem Adv.then {a b c : Sr} {e : Int} (h : Adv a b) (hb : b.bod = a.bod) (k : Good b e c) : Good a e c :=
 ⟨h.trans k.adv, fun he => ⟨by have := h.le; have := (k.ok he).1; omega, (k.ok he).2.1.trans hb, by have := h.dfs; have := (k.ok he).2.2; omega⟩⟩
theorem Good.trans {a b c : Sr} {e : Int} (h : Good a 0 b) (k : Good b e c) : Good a e c := h.adv.then (h.ok rfl).2.1 k
theorem Vld.adv {r : Sr} (h : Vld r) (hk : r.tok.1 ≠ 8) (e : Int) : Good r e r.adv := by
 have h1 : r.at_ + 1 < r.toks.length := by
  rcases Nat.lt_or_ge (r.at_ + 1) r.toks.length with h1 | h1
  ·exact h1
  ·have h2 := h.lt
   exact absurd (h.lst r.at_ (by omega)) hk
 exact ⟨⟨rfl, Nat.le_succ _, h1, by show r.defs.length + 2 * r.at_ ≤ r.defs.length + 2 * (r.at_ + 1); omega⟩, fun _ => ⟨nS9 _, rfl, by show r.defs.length + 2 * r.at_ + 1 ≤ r.defs.length + 2 * (r.at_ + 1); omega⟩⟩
theorem sgnI_kind {t : tkC.den} {s : ByteArray} (h : sgnI t s = true) : t.1 ≠ 8 := by
 unfold sgnI at h
 have := oT9 (bA9.1 h).1
 intro h8
 rw [this] at h8
 exact absurd h8 (by decide)
theorem wrdI_kind {t : tkC.den} {s : ByteArray} (h : wrdI t s = true) : t.1 ≠ 8 := by
 unfold wrdI at h
 have := oT9 (bA9.1 h).1
 intro h8
 rw [this] at h8
 exact absurd h8 (by decide)
theorem mustS_good {r : Sr} (h : Vld r) (s : ByteArray) : Good r (mustS s r).1 (mustS s r).2 := by
 unfold mustS
 split
 ·exact h.adv (sgnI_kind (by assumption)) _
 ·exact h.stay (e := 6) (by decide)
theorem takeS_good {r : Sr} (h : Vld r) {k : Int} (hk : k ≠ 8) (v : ByteArray → Bool) : Good r (takeS k v r).1.2 (takeS k v r).2 := by
 unfold takeS
 split
 ·split
  ·exact h.adv (by rename_i h1 _; rw [h1]; exact hk) _
  ·exact h.stay (e := 1) (by decide)
 ·exact h.stay (e := 6) (by decide)
theorem nmS_good {r : Sr} (h : Vld r) (nm : Nm) : Good r (nmS nm r).1.2 (nmS nm r).2 := by
 cases nm with
 | root => exact mustS_good h _
 | ref => exact takeS_good h (by decide) _
 | node => exact takeS_good h (by decide) _
 | prop => exact takeS_good h (by decide) _
 | str => exact takeS_good h (by decide) _
theorem Good.add {r q : Sr} (k : Good r 0 q) (d : defC.den) : Adv r (q.add d) :=
 ⟨k.adv.toks, k.adv.le, k.adv.lt, by have := (k.ok rfl).2.2; show (q.defs ++ [d]).length + _ ≤ _; rw [zP9]; simp only [zC9, zN9]; show q.defs.length + (0 + 1) + 2 * r.at_ ≤ r.defs.length + 2 * q.at_; omega⟩
theorem cmdS_good {r : Sr} (h : Vld r) (hk : r.tok.1 ≠ 8) (kind : Int) (nm : Nm) : Good r (cmdS kind nm r).1 (cmdS kind nm r).2 := by
 have h1 := h.adv hk 0
 have v1 := h1.vld h
 have h2 := nmS_good v1 nm
 unfold cmdS
 simp only
 split
 ·rename_i h3
  rw [h3] at h2
  have h4 := h1.trans h2
  have h5 := h4.add (dfn kind e0 (nmS nm r.adv).1.1 [] r.tok)
  exact h5.then (h4.ok rfl).2.1 (mustS_good (h5.vld h (by show (nmS nm r.adv).2.bod ≤ 9; rw [(h4.ok rfl).2.1]; exact h.bod)) _)
 ·exact h1.trans h2
theorem numsS_good : ∀ (k : Nat) {r : Sr}, Vld r → ∀ (out : List Int), Good r (numsS k r out).1.2 (numsS k r out).2 := by
 intro k
 induction k with
 | zero => intro r h out; exact h.stay (e := 6) (by decide)
 | succ k ih =>
  intro r h out
  unfold numsS
  split
  ·exact h.adv (sgnI_kind (by assumption)) _
  ·split
   ·split
    ·exact h.stay (e := 2) (by decide)
    ·have h1 := h.adv (show r.tok.1 ≠ 8 by rename_i h2 _; rw [h2]; decide) 0
     exact h1.trans (ih (h1.vld h) _)
   ·exact h.stay (e := 6) (by decide)
theorem exprV_on {pm : Bool} {toks : List tkC.den} {a : Nat} (hl : ∀ i, i + 1 = toks.length → (toks.getD i tkC.dflt).1 = 8) (ha : a < toks.length) (h : (exprV pm toks a).2.2 = 0) : (a : Int) < (exprV pm toks a).2.1 ∧ (exprV pm toks a).2.1 < toks.length := by
 have hlast : ∃ ys e, toks.drop a = ys ++ [e] ∧ e.1 = 8 := by
  have hne : toks.drop a ≠ [] := by
   intro h0
   have := congrArg List.length h0
   rw [List.length_drop] at this
   simp at this
   omega
  refine ⟨(toks.drop a).dropLast, (toks.drop a).getLast hne, (List.dropLast_concat_getLast hne).symm, ?_⟩
  rw [List.getLast_drop]
  have h8 := hl (toks.length - 1) (by omega)
  rw [List.getD_eq_getElem?_getD, List.getElem?_eq_getElem (by omega)] at h8
  rw [List.getLast_eq_getElem]
  exact h8
 obtain ⟨ys, e, hd, he⟩ := hlast
 unfold exprV at h ⊢
 have h0 : ¬ ((a : Int) < 0 ∨ (toks.length : Int) ≤ a) := by omega
 rw [if_neg h0] at h ⊢
 rw [Int.toNat_natCast, hd] at h ⊢
 have hm : (ys ++ [e]).map tkOf = ys.map tkOf ++ [tkOf e] := by simp
 rw [hm] at h ⊢
 have hlen : (toks.drop a).length = ys.length + 1 := by rw [hd]; simp
 rw [List.length_drop] at hlen
 cases hdv : descV pm (ys.map tkOf ++ [tkOf e]) with
 | none => rw [hdv] at h; cases h
 | some r =>
  obtain ⟨x, ts, fl⟩ := r
  rw [hdv] at h
  dsimp only at h ⊢
  have hk := descV_took hdv
  have hne := took_last hk (show (tkOf e).1 ≠ 2 ∧ (tkOf e).1 ≠ 4 by
   have : (tkOf e).1 = 8 := he
   rw [this]; exact ⟨by decide, by decide⟩)
  obtain ⟨p, hp, _⟩ := hk
  have hl := congrArg List.length hp
  have hl2 : ys.length + 1 = p.length + ts.length := by simpa using hl
  have hpos : 0 < ts.length := by
   cases ts with
   | nil => exact absurd rfl hne
   | cons => simp
  have hlt : ts.length < ys.length + 1 := by
   have hl3 : (ys.map tkOf ++ [tkOf e]).length = ys.length + 1 := by simp
   cases pm with
   | true =>
    unfold descV at hdv
    simp only at hdv
    split at hdv
    ·cases hdv
    ·have := (k1 false (3 * (ys.map tkOf ++ [tkOf e]).length + 2)).opl _ _ _ _ hdv
     simp only at this
     omega
   | false =>
    unfold descV at hdv
    simp only at hdv
    have := ((k1 false (3 * (ys.map tkOf ++ [tkOf e]).length + 2)).whll _ _ _ _ hdv).1
    simp only at this
    omega
  by_cases hf : faultF fl = 0
  ·rw [if_pos hf]
   dsimp only
   omega
  ·rw [if_neg hf] at h
   exact absurd h hf
theorem celS_good {r : Sr} (h : Vld r) : Good r (celS r).1.2 (celS r).2 := by
 unfold celS
 split
 ·exact takeS_good h (by decide) _
 ·simp only
  split
  ·rename_i h1
   have h2 := exprV_on h.lst h.lt h1
   have h3 : r.at_ < (exprV true r.toks (r.at_ : Int)).2.1.toNat ∧ (exprV true r.toks (r.at_ : Int)).2.1.toNat < r.toks.length := by omega
   exact ⟨⟨rfl, by show r.at_ ≤ (exprV true r.toks (r.at_ : Int)).2.1.toNat; omega, h3.2, by show r.defs.length + 2 * r.at_ ≤ r.defs.length + 2 * (exprV true r.toks (r.at_ : Int)).2.1.toNat; omega⟩, fun _ => ⟨h3.1, rfl, by show r.defs.length + 2 * r.at_ + 1 ≤ r.defs.length + 2 * (exprV true r.toks (r.at_ : Int)).2.1.toNat; omega⟩⟩
  ·rename_i h1
   exact h.stay h1
theorem celsS_good : ∀ (k : Nat) {r : Sr}, Vld r → ∀ (out : List celC.den), Good r (celsS k r out).1.2 (celsS k r out).2 := by
 intro k
 induction k with
 | zero => intro r h out; exact h.stay (e := 6) (by decide)
 | succ k ih =>
  intro r h out
  have h1 := celS_good h
  unfold celsS
  split
  ·exact h.adv (sgnI_kind (by assumption)) _
  ·split
   ·rename_i h2
    rw [h2] at h1
    exact h1.trans (ih (h1.vld h) _)
   ·exact h1
theorem prtS_good {r : Sr} (h : Vld r) : Good r (prtS r).1.2 (prtS r).2 := by
 unfold prtS
 split
 ·have h1 := h.adv (sgnI_kind (by assumption)) 0
  exact h1.trans (celsS_good _ (h1.vld h) _)
 ·split
  ·have h1 := h.adv (sgnI_kind (by assumption)) 0
   exact h1.trans (numsS_good _ (h1.vld h) _)
  ·split
   ·exact takeS_good h (by decide) _
   ·exact takeS_good h (by decide) _
theorem prtsS_good : ∀ (k : Nat) {r : Sr}, Vld r → ∀ (out : List prtC.den), Good r (prtsS k r out).1.2 (prtsS k r out).2 := by
 intro k
 induction k with
 | zero => intro r h out; exact h.stay (e := 6) (by decide)
 | succ k ih =>
  intro r h out
  have h1 := prtS_good h
  unfold prtsS
  split
  ·rename_i h2
   rw [h2] at h1
   split
   ·have h3 := (h1.vld h).adv (sgnI_kind (by assumption)) 0
    have h4 := h1.trans h3
    exact h4.trans (ih (h4.vld h) _)
   ·exact h1
  ·exact h1
theorem prpS_good {r : Sr} (h : Vld r) : Good r (prpS r).1 (prpS r).2 := by
 have h1 := nmS_good h .prop
 unfold prpS
 simp only
 split
 ·rename_i h2
  rw [h2] at h1
  have v1 := h1.vld h
  by_cases hs : sgnI (nmS .prop r).2.tok ⟨#[61]⟩ = true
  ·rw [if_pos hs]
   have h3 := v1.adv (sgnI_kind hs) 0
   have h4 := h1.trans (h3.trans (prtsS_good (nmS .prop r).2.toks.length (h3.vld v1) []))
   split
   ·rename_i h5
    rw [h5] at h4
    have h6 := h4.add (dfn 3 e0 (nmS .prop r).1.1 (prtsS (nmS .prop r).2.toks.length (nmS .prop r).2.adv []).1.1 r.tok)
    exact h6.then (h4.ok rfl).2.1 (mustS_good (h6.vld h (by show (prtsS (nmS .prop r).2.toks.length (nmS .prop r).2.adv []).2.bod ≤ 9; rw [(h4.ok rfl).2.1]; exact h.bod)) _)
   ·exact h4
  ·rw [if_neg hs]
   simp only [if_true]
   have h6 := h1.add (dfn 3 e0 (nmS .prop r).1.1 [] r.tok)
   exact h6.then (h1.ok rfl).2.1 (mustS_good (h6.vld h (by show (nmS .prop r).2.bod ≤ 9; rw [(h1.ok rfl).2.1]; exact h.bod)) _)
 ·exact h1
def BodOk (body : Sr → Int × Sr) : Prop := ∀ r, Vld r → Good r (body r).1 (body r).2
theorem nodF_good {body : Sr → Int × Sr} (hb : BodOk body) {r : Sr} (h : Vld r) (nm : Nm) : Good r (nodF body nm r).1 (nodF body nm r).2 := by
 have go : ∀ (l : ByteArray) (q : Sr), Adv r q → q.bod = r.bod → Good r (if (nmS nm q).1.2 = 0 then (if (body ((nmS nm q).2.add (dfn 1 l (nmS nm q).1.1 [] r.tok))).1 = 0 then mustS ⟨#[59]⟩ (body ((nmS nm q).2.add (dfn 1 l (nmS nm q).1.1 [] r.tok))).2 else body ((nmS nm q).2.add (dfn 1 l (nmS nm q).1.1 [] r.tok))) else ((nmS nm q).1.2, (nmS nm q).2)).1
   (if (nmS nm q).1.2 = 0 then (if (body ((nmS nm q).2.add (dfn 1 l (nmS nm q).1.1 [] r.tok))).1 = 0 then mustS ⟨#[59]⟩ (body ((nmS nm q).2.add (dfn 1 l (nmS nm q).1.1 [] r.tok))).2 else body ((nmS nm q).2.add (dfn 1 l (nmS nm q).1.1 [] r.tok))) else ((nmS nm q).1.2, (nmS nm q).2)).2 := by
  intro l q ha hq
  have vq := ha.vld h (by rw [hq]; exact h.bod)
  have h1 := ha.then hq (nmS_good vq nm)
  split
  ·rename_i h2
   rw [h2] at h1
   have h3 := h1.add (dfn 1 l (nmS nm q).1.1 [] r.tok)
   have hbo : ((nmS nm q).2.add (dfn 1 l (nmS nm q).1.1 [] r.tok)).bod = r.bod := (h1.ok rfl).2.1
   have h4 := h3.then hbo (hb _ (h3.vld h (by rw [hbo]; exact h.bod)))
   split
   ·rename_i h5
    rw [h5] at h4
    exact h4.trans (mustS_good (h4.vld h) _)
   ·exact h4
  ·exact h1
 unfold nodF
 simp only
 by_cases h5 : r.tok.1 = 5
 ·rw [if_pos h5]
  have h1 := takeS_good h (k := 5) (by decide) labB
  split
  ·rename_i h2
   rw [h2] at h1
   exact go _ _ h1.adv (h1.ok rfl).2.1
  ·exact h1
 ·rw [if_neg h5]
  simp only [if_true]
  exact go _ _ h.refl rfl
theorem memF_good {node : Nm → Sr → Int × Sr} (hn : ∀ r nm, Vld r → Good r (node nm r).1 (node nm r).2) {r : Sr} (h : Vld r) : Good r (memF node r).1 (memF node r).2 := by
 unfold memF
 split
 ·exact cmdS_good h (wrdI_kind (by assumption)) _ _
 ·split
  ·exact cmdS_good h (wrdI_kind (by assumption)) _ _
  ·split
   ·exact prpS_good h
   ·exact hn _ _ h
theorem memsF_good {mem : Sr → Int × Sr} (hm : ∀ r, Vld r → Good r (mem r).1 (mem r).2) : ∀ (k : Nat) {r : Sr}, Vld r → Adv r (memsF mem k r).2 ∧ ((memsF mem k r).1 = 0 → (memsF mem k r).2.bod = r.bod ∧ sgnI (memsF mem k r).2.tok ⟨#[125]⟩ = true) := by
 intro k
 induction k with
 | zero => intro r h; exact ⟨h.refl, fun h0 => by cases h0⟩
 | succ k ih =>
  intro r h
  have h1 := hm r h
  unfold memsF
  split
  ·rename_i h2
   exact ⟨h.refl, fun _ => ⟨rfl, h2⟩⟩
  ·split
   ·rename_i h2
    rw [h2] at h1
    obtain ⟨h3, h4⟩ := ih (h1.vld h)
    exact ⟨h1.adv.trans h3, fun h5 => ⟨(h4 h5).1.trans (h1.ok rfl).2.1, (h4 h5).2⟩⟩
   ·rename_i h2
    exact ⟨h1.adv, fun h5 => absurd h5 h2⟩
theorem bodF_good {mem : Sr → Int × Sr} (hm : ∀ r, Vld r → Good r (mem r).1 (mem r).2) : BodOk (bodF mem) := by
 intro r h
 unfold bodF
 split
 ·rename_i hs
  split
  ·exact h.stay (e := 3) (by decide)
  ·rename_i hb
   have h1 := h.adv (sgnI_kind hs) 0
   have v1 : Vld { r.adv with bod := r.bod + 1 } := ⟨h.len, h1.adv.lt, h.lst, h.fit, by have := h.dfs; show r.defs.length ≤ 2 * (r.at_ + 1); omega, by show r.bod + 1 ≤ 9; omega⟩
   have a1 : Adv r { r.adv with bod := r.bod + 1 } := ⟨rfl, Nat.le_succ _, h1.adv.lt, by show r.defs.length + 2 * r.at_ ≤ r.defs.length + 2 * (r.at_ + 1); omega⟩
   obtain ⟨h2, h3⟩ := memsF_good hm r.toks.length v1
   simp only
   split
   ·rename_i h4
    obtain ⟨h5, h6⟩ := h3 h4
    generalize memsF mem r.toks.length { r.adv with bod := r.bod + 1 } = x at *
    have hmu : mustS ⟨#[125]⟩ ({ x.2 with bod := x.2.bod - 1 }.add (dfn 2 e0 e0 [] x.2.tok)) = (0, ({ x.2 with bod := x.2.bod - 1 }.add (dfn 2 e0 e0 [] x.2.tok)).adv) := by
     unfold mustS
     rw [if_pos (show sgnI (({ x.2 with bod := x.2.bod - 1 } : Sr).add (dfn 2 e0 e0 [] x.2.tok)).tok ⟨#[125]⟩ = true from h6)]
    rw [hmu]
    have v2 : Vld x.2 := h2.vld v1 (by rw [h5]; exact v1.bod)
    have a2 := (v2.adv (sgnI_kind h6) 0).adv
    have d2 := h2.dfs
    have d3 : x.2.defs.length + 2 * (r.at_ + 1) ≤ r.defs.length + 2 * x.2.at_ := d2
    have l2 : r.at_ + 1 ≤ x.2.at_ := h2.le
    have hd : (x.2.defs ++ [dfn 2 e0 e0 [] x.2.tok]).length = x.2.defs.length + 1 := by simp
    refine ⟨⟨h2.toks, ?_, ?_, ?_⟩, fun _ => ⟨?_, ?_, ?_⟩⟩
    ·show r.at_ ≤ x.2.at_ + 1
     omega
    ·show x.2.at_ + 1 < r.toks.length
     have := a2.lt
     rw [h2.toks] at this
     exact this
    ·show (x.2.defs ++ [dfn 2 e0 e0 [] x.2.tok]).length + 2 * r.at_ ≤ r.defs.length + 2 * (x.2.at_ + 1)
     omega
    ·show r.at_ < x.2.at_ + 1
     omega
    ·show x.2.bod - 1 = r.bod
     rw [h5]
     exact Nat.add_sub_cancel ..
    ·show (x.2.defs ++ [dfn 2 e0 e0 [] x.2.tok]).length + 2 * r.at_ + 1 ≤ r.defs.length + 2 * (x.2.at_ + 1)
     omega
   ·rename_i h4
    exact ⟨a1.trans h2, fun h0 => absurd h0 h4⟩
 ·exact h.stay (e := 6) (by decide)
theorem bodS_good : ∀ k, BodOk (bodS k) := by
 intro k
 induction k with
 | zero => intro r h; exact h.stay (e := 6) (by decide)
 | succ k ih =>
  exact bodF_good fun r h => memF_good (fun r nm h => nodF_good ih h nm) h
theorem topS_good {r : Sr} (h : Vld r) : Good r (topS r).1 (topS r).2 := by
 unfold topS
 split
 ·exact cmdS_good h (wrdI_kind (by assumption)) _ _
 ·split
  ·exact cmdS_good h (wrdI_kind (by assumption)) _ _
  ·split
   ·exact nodF_good (bodS_good _) h _
   ·exact nodF_good (bodS_good _) h _
abbrev srC (r : Sr) : List AC := [.p (.l tkC r.toks), .int .i64 r.at_, .int .i64 r.bod, .own 1 defC r.defs]
abbrev srH (r : Sr) : List AO := [.row (srC r), .tok 39 defC r.defs.length true]
def srOf (H : List AO) : Option Sr :=
 match H with
 | [.row [.p (.l c0 toks), .p (.v (.int .i64 a)), .p (.v (.int .i64 b)), .own _ c1 ds], .tok _ _ _ _] =>
  match castD (e := tkC) (e' := c0) toks, castD (e := defC) (e' := c1) ds with
  | some toks, some ds => some ⟨toks, a.toNat, b.toNat, ds⟩
  | _, _ => none
 | _ => none
def saysR {α : Type} (da : List AV → Option α) (ea : α → List AV) (pre : Sr → α → Prop) (g : Sr → α → SV × Sr) : Says := fun args H => match args with
 | .c (.ptr 0 0) :: al => match da al, srOf H with
  | some a, some r => some (some (al = ea a ∧ H = srH r ∧ pre r a), (g r a).1, srH (g r a).2)
  | _, _ => none
 | _ => none
def looksR {α : Type} (da : List AV → Option α) (ea : α → List AV) (pre : Sr → α → Prop) (g : Sr → α → SV) : List AV → List AO → Option (Option Prop × SV) := fun args H => match args with
 | .c (.ptr 0 0) :: al => match da al, srOf H with
  | some a, some r => some (some (al = ea a ∧ H = srH r ∧ pre r a), g r a)
  | _, _ => none
 | _ => none
theorem id2 : ∀ k, k < 2 → [0, 1][k]? = some k := fun k hk => by
 have : k = 0 ∨ k = 1 := by omega
 rcases this with rfl | rfl <;> rfl
theorem extR {α : Type} {P : Program} {T : Table} (hT : TSound P T) (f : FuncId) {fn : Func} (hf : P.funcs[f]? = some fn) (hname : NG9 fn) (da : List AV → Option α) (ea : α → List AV) (pre : Sr → α → Prop) (g : Sr → α → SV × Sr) (hn : ∀ a, (ea a).length + 1 ≤ fn.ntmps) (ks : List Nat)
  (h : ∀ r a, pre r a → runF ⟨P, T⟩ fn ks [0, 1] (.c (.ptr 0 0) :: ea a) (srH r) fun r' H'' => Ends r' H'' (g r a).1 (srH (g r a).2)) : TSound P (ext T f (saysR da ea pre g)) :=
 ext_run hT hf hname ks fun args H p r H' hs hp => by
  unfold saysR at hs
  split at hs
  ·split at hs
   ·cases hs
    obtain ⟨rfl, rfl, hpre⟩ := hp
    exact ⟨hn _, [0, 1], rfl, id2, h _ _ hpre⟩
   ·cases hs
  ·cases hs
theorem extLR {α : Type} {P : Program} {T : Table} (hT : TSound P T) (f : FuncId) {fn : Func} (hf : P.funcs[f]? = some fn) (hname : NG9 fn) (da : List AV → Option α) (ea : α → List AV) (pre : Sr → α → Prop) (g : Sr → α → SV) (hn : ∀ a, (ea a).length + 1 ≤ fn.ntmps) (ks : List Nat)
  (h : ∀ r a, pre r a → runF ⟨P, T⟩ fn ks [0, 1] (.c (.ptr 0 0) :: ea a) (srH r) fun r' H'' => Ends r' H'' (g r a) (srH r)) : TSound P (ext T f (looks (looksR da ea pre g))) :=
 ext_look hT hf hname ks fun args H p r hs hp => by
  unfold looksR at hs
  split at hs
  ·split at hs
   ·cases hs
    obtain ⟨rfl, rfl, hpre⟩ := hp
    exact ⟨hn _, [0, 1], rfl, id2, h _ _ hpre⟩
   ·cases hs
  ·cases hs
def tokA (t : tkC.den) : SV := .a (.agg [.int .i64 t.1, .str t.2.1, .int .i64 t.2.2.1, .int .i64 t.2.2.2.1, .int .i64 t.2.2.2.2.1, .int .i64 t.2.2.2.2.2])
def Y41 : Table := ext Y40 73 (looks (looksR da0 ea0 (fun r _ => Vld r) fun r _ => tokA r.tok))
theorem y41 : TS9 Y41 := by
 refine extLR y40 73 (fn := Tryz.f73) rfl rfl da0 ea0 _ _ (fun _ => nB9 rfl) [0, 2] fun r _ hs => ?_
 have hl := hs.lt
 have h0 : 0 ≤ (r.at_ : Int) ∧ (r.at_ : Int) < (r.toks.length : Nat) := by omega
 repeat ((conv => whnf); refine ⟨by first | exact h0 | exact rfl, ?_⟩)
 conv => whnf
 exact eR9
def saysTk (g : tkC.den → ByteArray → Bool) : Says := fun args H => match args, H with
 | [.agg [.p (.v (.int .i64 k)), .p (.v (.string x)), .p (.v (.int .i64 v)), .p (.v (.int .i64 f)), .p (.v (.int .i64 l)), .p (.v (.int .i64 c))], .c (.p (.v (.string s)))], [] => some (none, .bool (g (k, x, v, f, l, c) s), [])
 | _, _ => none
def Y42 : Table := ext Y41 112 (saysTk sgnI)
theorem y42 : TS9 Y42 := by
 refine ext_run y41 (f := 112) (fn := Tryz.f112) rfl rfl [0, 1, 2, 4] fun args H p r H' hs hp => ?_
 unfold saysTk at hs
 split at hs
 ·cases hs
  refine ⟨nB9 rfl, [], rfl, nK9, ?_⟩
  conv => whnf
  exact eR9
 ·cases hs
def Y43 : Table := ext Y42 79 (saysTk wrdI)
theorem y43 : TS9 Y43 := by
 refine ext_run y42 (f := 79) (fn := Tryz.f79) rfl rfl [0, 1, 2, 4] fun args H p r H' hs hp => ?_
 unfold saysTk at hs
 split at hs
 ·cases hs
  refine ⟨nB9 rfl, [], rfl, nK9, ?_⟩
  conv => whnf
  exact eR9
 ·cases hs
theorem Vld.i64 {r : Sr} (h : Vld r) : inI64 ((r.at_ : Int) + 1) := by
 have := h.lt; have := h.len; unfold inI64; omega
def Y44 : Table := ext Y43 110 (saysR daS eaS (fun r _ => Vld r) fun r s => (.bool (passS s r).1, (passS s r).2))
theorem y44 : TS9 Y44 := by
 refine extR y43 110 (fn := Tryz.f110) rfl rfl daS eaS _ _ (fun _ => nB9 rfl) [0, 1, 4, 9] fun r s hs => ?_
 have hi := hs.i64
 unfold passS
 repeat ((conv => whnf); refine ⟨⟨rfl, rfl, hs⟩, ?_⟩)
 conv => whnf
 refine cI9 ?_ ?_<;>intro h
 ·have h1 : ¬ sgnI r.tok s = true := by
   have h2 : (!sgnI r.tok s) = true := h
   simpa using h2
  rw [if_neg h1]
  conv => whnf
  exact eR9
 ·have h1 : sgnI r.tok s = true := by
   have h2 : (!sgnI r.tok s) = false := h
   simpa using h2
  rw [if_pos h1]
  repeat ((conv => whnf); refine ⟨hi, ?_⟩)
  conv => whnf
  exact eR9
def Y45 : Table := ext Y44 91 (saysR daS eaS (fun r _ => Vld r) fun r s => (.int .i64 (mustS s r).1, (mustS s r).2))
theorem y45 : TS9 Y45 := by
 refine extR y44 91 (fn := Tryz.f91) rfl rfl daS eaS _ _ (fun _ => nB9 rfl) [0, 1, 4, 8] fun r s hs => ?_
 repeat ((conv => whnf); refine ⟨⟨rfl, rfl, hs⟩, ?_⟩)
 conv => whnf
 have e : passS s r = (decide ((mustS s r).1 = 0), (mustS s r).2) := by
  unfold passS mustS
  split <;> rfl
 refine cI9 ?_ ?_<;>intro h
 ·have h1 : (mustS s r).1 = 6 := by
   have h2 : (!(passS s r).1) = true := h
   unfold passS at h2
   unfold mustS
   split at h2
   ·cases h2
   ·rename_i h3
    rw [if_neg h3]
  conv => whnf
  refine eE9 ⟨?_, ?_⟩
  ·rw [h1]
  ·show srH (passS s r).2 = _
   rw [e]
 ·have h1 : (mustS s r).1 = 0 := by
   have h2 : (!(passS s r).1) = false := h
   unfold passS at h2
   unfold mustS
   split at h2
   ·rename_i h3
    rw [if_pos h3]
   ·cases h2
  conv => whnf
  refine eE9 ⟨?_, ?_⟩
  ·rw [h1]
  ·show srH (passS s r).2 = _
   rw [e]
def Y46 : Table := ext Y45 83 (saysS fun _ => (none, .bool true))
theorem y46 : TS9 Y46 := by
 refine extS y45 83 (fn := Tryz.f83) rfl rfl (by decide) _ [0, 2] fun s _ => ?_
 conv => whnf
 exact eR9
def saysAt : Says := fun args H => match args, H with
 | [.c (.p (.v (.string s))), .c (.p (.v (.string t)))], [] => some (some (t = ⟨#[64]⟩), .bool (atB s), [])
 | _, _ => none
def Y47 : Table := ext Y46 146 saysAt
theorem y47 : TS9 Y47 := by
 refine ext_calls y46 146 (fn := Tryz.f146) rfl rfl rfl fun args H p r H' hs hp => ?_
 unfold saysAt at hs
 split at hs
 ·rename_i s t
  cases hs
  refine ⟨rfl, fun G hS hH cargs ha => ?_⟩
  have hp' : t = ⟨#[64]⟩ := hp
  subst hp'
  cases ha with
  | cons h1 t1 =>
   cases t1 with
   | cons h2 t2 =>
    cases t2
    obtain ⟨_, rfl⟩ := h1
    obtain ⟨_, rfl⟩ := h2
    exact ⟨_, ⟨rfl, rfl⟩, Tryz.strings_Contains_one s 64 _⟩
 ·cases hs
def Y48 : Table := ext Y47 138 (saysS fun s => (some (fits s), .bool (prpB s)))
theorem y48 : TS9 Y48 := by
 refine extS y47 138 (fn := Tryz.f138) rfl rfl (by decide) _ [0, 2, 3, 4, 11, 17] fun s hs => ?_
 have hf : s.size ≤ 1000000000 := hs
 unfold prpB
 repeat ((conv => whnf); refine ⟨fun _ => rfl, ?_⟩)
 conv => whnf
 refine cI9 ?_ ?_<;>intro h
 ·have h1 : (decide (31 < (s.size : Int)) || atB s) = true := h
  have h2 : (if 31 < (s.size : Int) then false else if atB s = true then false else namB (if prefB s ⟨#[35]⟩ = true then ⟨#[95]⟩ ++ trimP s ⟨#[35]⟩ else s)) = false := by
   rcases Bool.or_eq_true_iff.1 h1 with h3 | h3
   ·rw [if_pos (oT9 h3)]
   ·split <;> first | rfl | rw [if_pos h3]
  rw [h2]
  conv => whnf
  exact eR9
 have h1 : (decide (31 < (s.size : Int)) || atB s) = false := h
 obtain ⟨h2, h3⟩ := Bool.or_eq_false_iff.1 h1
 have h2' := oF9 h2
 rw [if_neg h2', if_neg (by rw [h3]; simp)]
 conv => whnf
 have hb1 : (⟨#[95]⟩ : ByteArray).size = 1 := rfl
 have ht : (trimP s ⟨#[35]⟩).size ≤ s.size := by
  unfold trimP
  split
  ·rw [ByteArray.size_extract]; omega
  ·exact nR9 _
 refine cI9 ?_ ?_<;>intro h4
 ·have h5 : prefB s ⟨#[35]⟩ = true := h4
  rw [if_pos h5]
  have hf2 : (⟨#[95]⟩ ++ trimP s ⟨#[35]⟩ : ByteArray).size ≤ 1000000000 := by rw [zA9, hb1]; omega
  repeat ((conv => whnf); refine ⟨by first | exact hf2 | (show (((⟨#[95]⟩ : ByteArray).size + (trimP s ⟨#[35]⟩).size : Nat) : Int) ≤ 9223372036854775807; rw [hb1]; omega), ?_⟩)
  conv => whnf
  exact eR9
 ·have h5 : ¬ prefB s ⟨#[35]⟩ = true := by
   have h6 : prefB s ⟨#[35]⟩ = false := h4
   rw [h6]; simp
  rw [if_neg h5]
  repeat ((conv => whnf); refine ⟨hf, ?_⟩)
  conv => whnf
  exact eR9
def vF (f : FuncId) : ByteArray → Bool := match Nat.beq f 92 with
 | true => labB
 | false => match Nat.beq f 139 with
  | true => namB
  | false => match Nat.beq f 138 with
   | true => prpB
   | false => fun _ => true
def daIF : List AV → Option (Int × FuncId)
 | [.c (.p (.v (.int .i64 k))), .c (.p (.v (.func (.func f) _ _)))] => some (k, f)
 | _ => none
def eaIF (a : Int × FuncId) : List AV := [.c (.int .i64 a.1), .c (.p (.v (.func (.func a.2) #[] #[])))]
def nmSV (p : ByteArray × Int) : SV := .tup [.c (.str p.1), .c (.int .i64 p.2)]
def takPre (r : Sr) (a : Int × FuncId) : Prop := Vld r ∧ a.1 ≠ 8 ∧ (a.2 = 92 ∨ a.2 = 139 ∨ a.2 = 138 ∨ a.2 = 83)
def Y49 : Table := ext Y48 82 (saysR daIF eaIF takPre fun r a => (nmSV (takeS a.1 (vF a.2) r).1, (takeS a.1 (vF a.2) r).2))
theorem y49 : TS9 Y49 := by
 refine extR y48 82 (fn := Tryz.f82) rfl rfl daIF eaIF _ _ (fun _ => nB9 rfl) [0, 1, 2, 6, 7, 8, 11, 16] fun r a hs => ?_
 obtain ⟨k, f⟩ := a
 obtain ⟨hv, hk, hf⟩ := hs
 have hi := hv.i64
 have hfit : fits r.tok.2.1 := by
  have := (hv.fit _ hv.tok).1
  show r.tok.2.1.size ≤ 1000000000
  omega
 unfold takeS
 simp only at hf hk ⊢
 repeat ((conv => whnf); refine ⟨⟨rfl, rfl, hv⟩, ?_⟩)
 conv => whnf
 refine cI9 ?_ ?_<;>intro h
 ·have h1 : ¬ r.tok.1 = k := by
   have h2 : (!decide (r.tok.1 = k)) = true := h
   simpa using h2
  rw [if_neg h1]
  conv => whnf
  exact eR9
 have h1 : r.tok.1 = k := by
  have h2 : (!decide (r.tok.1 = k)) = false := h
  simpa using h2
 rw [if_pos h1]
 rcases hf with rfl | rfl | rfl | rfl
 ·repeat ((conv => whnf); refine ⟨hfit, ?_⟩)
  conv => whnf
  refine cI9 ?_ ?_<;>intro h3
  ·have h4 : labB r.tok.2.1 = false := by
    have h5 : (!labB r.tok.2.1) = true := h3
    simpa using h5
   rw [if_neg (show ¬ vF 92 r.tok.2.1 = true from fun h6 => by have h7 : labB r.tok.2.1 = true := h6; rw [h4] at h7; cases h7)]
   conv => whnf
   exact eR9
  ·have h4 : labB r.tok.2.1 = true := by
    have h5 : (!labB r.tok.2.1) = false := h3
    simpa using h5
   rw [if_pos (show vF 92 r.tok.2.1 = true from h4)]
   repeat ((conv => whnf); refine ⟨hi, ?_⟩)
   conv => whnf
   exact eR9
 ·repeat ((conv => whnf); refine ⟨hfit, ?_⟩)
  conv => whnf
  refine cI9 ?_ ?_<;>intro h3
  ·have h4 : namB r.tok.2.1 = false := by
    have h5 : (!namB r.tok.2.1) = true := h3
    simpa using h5
   rw [if_neg (show ¬ vF 139 r.tok.2.1 = true from fun h6 => by have h7 : namB r.tok.2.1 = true := h6; rw [h4] at h7; cases h7)]
   conv => whnf
   exact eR9
  ·have h4 : namB r.tok.2.1 = true := by
    have h5 : (!namB r.tok.2.1) = false := h3
    simpa using h5
   rw [if_pos (show vF 139 r.tok.2.1 = true from h4)]
   repeat ((conv => whnf); refine ⟨hi, ?_⟩)
   conv => whnf
   exact eR9
 ·repeat ((conv => whnf); refine ⟨hfit, ?_⟩)
  conv => whnf
  refine cI9 ?_ ?_<;>intro h3
  ·have h4 : prpB r.tok.2.1 = false := by
    have h5 : (!prpB r.tok.2.1) = true := h3
    simpa using h5
   rw [if_neg (show ¬ vF 138 r.tok.2.1 = true from fun h6 => by have h7 : prpB r.tok.2.1 = true := h6; rw [h4] at h7; cases h7)]
   conv => whnf
   exact eR9
  ·have h4 : prpB r.tok.2.1 = true := by
    have h5 : (!prpB r.tok.2.1) = false := h3
    simpa using h5
   rw [if_pos (show vF 138 r.tok.2.1 = true from h4)]
   repeat ((conv => whnf); refine ⟨hi, ?_⟩)
   conv => whnf
   exact eR9
 ·repeat ((conv => whnf); refine ⟨hi, ?_⟩)
  conv => whnf
  exact eR9
def nmT (nm : Nm) : Says := saysR da0 ea0 (fun r _ => Vld r) fun r _ => (nmSV (nmS nm r).1, (nmS nm r).2)
def Y50 : Table := ext Y49 128 (nmT .node)
theorem y50 : TS9 Y50 := by
 refine extR y49 128 (fn := Tryz.f128) rfl rfl da0 ea0 _ _ (fun _ => nB9 rfl) [0, 2, 3] fun r a hs => ?_
 repeat ((conv => whnf); refine ⟨⟨rfl, rfl, hs, by decide, .inr (.inl rfl)⟩, ?_⟩)
 conv => whnf
 exact eR9
def Y51 : Table := ext Y50 127 (nmT .prop)
theorem y51 : TS9 Y51 := by
 refine extR y50 127 (fn := Tryz.f127) rfl rfl da0 ea0 _ _ (fun _ => nB9 rfl) [0, 2, 3] fun r a hs => ?_
 repeat ((conv => whnf); refine ⟨⟨rfl, rfl, hs, by decide, .inr (.inr (.inl rfl))⟩, ?_⟩)
 conv => whnf
 exact eR9
theorem takeS_size {r : Sr} (h : Vld r) (k : Int) (v : ByteArray → Bool) : (takeS k v r).1.1.size ≤ 16000 := by
 unfold takeS
 split
 ·split
  ·exact (h.fit _ h.tok).1
  ·exact nZ9 _
 ·exact nZ9 _
def Y52 : Table := ext Y51 84 (nmT .ref)
theorem y52 : TS9 Y52 := by
 refine extR y51 84 (fn := Tryz.f84) rfl rfl da0 ea0 _ _ (fun _ => nB9 rfl) [0, 2, 3, 4, 5] fun r a hs => ?_
 have hz := takeS_size hs 6 labB
 have hb1 : (⟨#[38]⟩ : ByteArray).size = 1 := rfl
 repeat ((conv => whnf); refine ⟨by first | exact ⟨rfl, rfl, hs, by decide, .inl rfl⟩ | (show (((⟨#[38]⟩ : ByteArray).size + (takeS 6 labB r).1.1.size : Nat) : Int) ≤ 9223372036854775807; rw [hb1]; omega), ?_⟩)
 conv => whnf
 exact eR9
def Y53 : Table := ext Y52 86 (nmT .root)
theorem y53 : TS9 Y53 := by
 refine extR y52 86 (fn := Tryz.f86) rfl rfl da0 ea0 _ _ (fun _ => nB9 rfl) [0, 2, 3] fun r a hs => ?_
 repeat ((conv => whnf); refine ⟨⟨rfl, rfl, hs⟩, ?_⟩)
 conv => whnf
 exact eR9
def nmF (f : FuncId) : Nm := match Nat.beq f 128 with
 | true => .node
 | false => match Nat.beq f 127 with
  | true => .prop
  | false => match Nat.beq f 84 with
   | true => .ref
   | false => .root
def isNm (f : FuncId) : Prop := f = 128 ∨ f = 127 ∨ f = 84 ∨ f = 86
def daIC : List AV → Option (Int × FuncId)
 | [.c (.p (.v (.int .i64 k))), .c (.clo _ f _)] => some (k, f)
 | _ => none
def eaIC (a : Int × FuncId) : List AV := [.c (.int .i64 a.1), .c (.clo true a.2 [0])]
def cmdPre (r : Sr) (a : Int × FuncId) : Prop := Vld r ∧ r.tok.1 ≠ 8 ∧ isNm a.2
def Y54 : Table := ext Y53 80 (saysR daIC eaIC cmdPre fun r a => (.int .i64 (cmdS a.1 (nmF a.2) r).1, (cmdS a.1 (nmF a.2) r).2))
theorem Vld.adv_v {r : Sr} (h : Vld r) (hk : r.tok.1 ≠ 8) : Vld r.adv := (h.adv hk 0).vld h
theorem srH_add (x : Sr) (d : defC.den) : [AO.row (srC (x.add d)), .tok 39 defC (x.defs.length + 1) true] = srH (x.add d) := by
 show _ = [AO.row (srC (x.add d)), .tok 39 defC (x.defs ++ [d]).length true]
 rw [zP9]
 rfl
theorem Vld.cap {r : Sr} (h : Vld r) : r.defs.length + 1 ≤ capBound := by
 have := h.dfs
 have := h.lt
 have := h.len
 show _ ≤ 1000000000000
 omega
theorem cmd_add {r : Sr} (h : Vld r) (hk : r.tok.1 ≠ 8) {nm : Nm} (h0 : (nmS nm r.adv).1.2 = 0) (d : defC.den) : Vld ((nmS nm r.adv).2.add d) ∧ (nmS nm r.adv).2.defs.length + 1 ≤ capBound := by
 have h1 := h.adv hk 0
 have v1 := h1.vld h
 have h2 := nmS_good v1 nm
 rw [h0] at h2
 have h4 := h1.trans h2
 have h5 := h4.add d
 exact ⟨h5.vld h (by show (nmS nm r.adv).2.bod ≤ 9; rw [(h4.ok rfl).2.1]; exact h.bod), (h4.vld h).cap⟩
set_option maxHeartbeats 1000000 in
theorem y54 : TS9 Y54 := by
 refine extR y53 80 (fn := Tryz.f80) rfl rfl daIC eaIC _ _ (fun _ => nB9 rfl) [0, 1, 2, 6, 7, 8, 28] fun r a hs => ?_
 obtain ⟨k, f⟩ := a
 obtain ⟨hv, hk, hf⟩ := hs
 have hi := hv.i64
 have hv1 := hv.adv_v hk
 simp only at hf
 rcases hf with rfl | rfl | rfl | rfl
 ·have hg := nmS_good hv1 .node
  unfold cmdS
  repeat ((conv => whnf); refine ⟨by first | exact ⟨rfl, rfl, hv⟩ | exact hi | exact ⟨rfl, rfl, hv1⟩, ?_⟩)
  conv => whnf
  refine cI9 ?_ ?_<;>intro h
  ·have h1 : ¬ (nmS .node r.adv).1.2 = 0 := by
    have h2 : (!decide ((nmS .node r.adv).1.2 = 0)) = true := h
    simpa using h2
   rw [show nmF 128 = .node from rfl, if_neg h1]
   conv => whnf
   exact eR9
  ·have h1 : (nmS .node r.adv).1.2 = 0 := by
    have h2 : (!decide ((nmS .node r.adv).1.2 = 0)) = false := h
    simpa using h2
   rw [show nmF 128 = .node from rfl, if_pos h1]
   obtain ⟨c1, c2⟩ := cmd_add hv hk h1 (dfn k e0 (nmS .node r.adv).1.1 [] r.tok)
   repeat ((conv => whnf); refine ⟨by first | exact c2 | exact ⟨rfl, srH_add _ _, c1⟩ | omega | exact rfl, ?_⟩)
   conv => whnf
   exact eR9
 ·have hg := nmS_good hv1 .prop
  unfold cmdS
  repeat ((conv => whnf); refine ⟨by first | exact ⟨rfl, rfl, hv⟩ | exact hi | exact ⟨rfl, rfl, hv1⟩, ?_⟩)
  conv => whnf
  refine cI9 ?_ ?_<;>intro h
  ·have h1 : ¬ (nmS .prop r.adv).1.2 = 0 := by
    have h2 : (!decide ((nmS .prop r.adv).1.2 = 0)) = true := h
    simpa using h2
   rw [show nmF 127 = .prop from rfl, if_neg h1]
   conv => whnf
   exact eR9
  ·have h1 : (nmS .prop r.adv).1.2 = 0 := by
    have h2 : (!decide ((nmS .prop r.adv).1.2 = 0)) = false := h
    simpa using h2
   rw [show nmF 127 = .prop from rfl, if_pos h1]
   obtain ⟨c1, c2⟩ := cmd_add hv hk h1 (dfn k e0 (nmS .prop r.adv).1.1 [] r.tok)
   repeat ((conv => whnf); refine ⟨by first | exact c2 | exact ⟨rfl, srH_add _ _, c1⟩ | omega | exact rfl, ?_⟩)
   conv => whnf
   exact eR9
 ·have hg := nmS_good hv1 .ref
  unfold cmdS
  repeat ((conv => whnf); refine ⟨by first | exact ⟨rfl, rfl, hv⟩ | exact hi | exact ⟨rfl, rfl, hv1⟩, ?_⟩)
  conv => whnf
  refine cI9 ?_ ?_<;>intro h
  ·have h1 : ¬ (nmS .ref r.adv).1.2 = 0 := by
    have h2 : (!decide ((nmS .ref r.adv).1.2 = 0)) = true := h
    simpa using h2
   rw [show nmF 84 = .ref from rfl, if_neg h1]
   conv => whnf
   exact eR9
  ·have h1 : (nmS .ref r.adv).1.2 = 0 := by
    have h2 : (!decide ((nmS .ref r.adv).1.2 = 0)) = false := h
    simpa using h2
   rw [show nmF 84 = .ref from rfl, if_pos h1]
   obtain ⟨c1, c2⟩ := cmd_add hv hk h1 (dfn k e0 (nmS .ref r.adv).1.1 [] r.tok)
   repeat ((conv => whnf); refine ⟨by first | exact c2 | exact ⟨rfl, srH_add _ _, c1⟩ | omega | exact rfl, ?_⟩)
   conv => whnf
   exact eR9
 ·have hg := nmS_good hv1 .root
  unfold cmdS
  repeat ((conv => whnf); refine ⟨by first | exact ⟨rfl, rfl, hv⟩ | exact hi | exact ⟨rfl, rfl, hv1⟩, ?_⟩)
  conv => whnf
  refine cI9 ?_ ?_<;>intro h
  ·have h1 : ¬ (nmS .root r.adv).1.2 = 0 := by
    have h2 : (!decide ((nmS .root r.adv).1.2 = 0)) = true := h
    simpa using h2
   rw [show nmF 86 = .root from rfl, if_neg h1]
   conv => whnf
   exact eR9
  ·have h1 : (nmS .root r.adv).1.2 = 0 := by
    have h2 : (!decide ((nmS .root r.adv).1.2 = 0)) = false := h
    simpa using h2
   rw [show nmF 86 = .root from rfl, if_pos h1]
   obtain ⟨c1, c2⟩ := cmd_add hv hk h1 (dfn k e0 (nmS .root r.adv).1.1 [] r.tok)
   repeat ((conv => whnf); refine ⟨by first | exact c2 | exact ⟨rfl, srH_add _ _, c1⟩ | omega | exact rfl, ?_⟩)
   conv => whnf
   exact eR9
theorem Vld.tokv {r : Sr} (h : Vld r) : 0 ≤ r.tok.2.2.1 ∧ r.tok.2.2.1 ≤ 4294967295 := (h.fit _ h.tok).2
def Y55 : Table := ext Y54 148 (saysR da0 ea0 (fun r _ => Vld r) fun r _ => (nmSV (numsS r.toks.length r []).1, (numsS r.toks.length r []).2))
theorem id3' : ∀ k, k < 2 → [0, 1, 2][k]? = some k := fun k hk => by
 have : k = 0 ∨ k = 1 := by omega
 rcases this with rfl | rfl <;> rfl
theorem pass_no {s : ByteArray} {q : Sr} (h : (!(passS s q).1) = true) : ¬ sgnI q.tok s = true := by
 unfold passS at h
 split at h
 ·cases h
 ·assumption
theorem pass_yes {s : ByteArray} {q : Sr} (h : (!(passS s q).1) = false) : sgnI q.tok s = true := by
 unfold passS at h
 split at h
 ·assumption
 ·cases h
abbrev tokU (n : Nat) : AO := .tok 5 (.int .u8) n true
theorem y55 : TS9 Y55 := by
 refine extR y54 148 (fn := Tryz.f148) rfl rfl da0 ea0 _ _ (fun _ => nB9 rfl) [0, 2, 3, 4, 5, 8, 17, 21] fun r a hs => ?_
 have hv : Vld r := hs
 have hlt := hv.lt
 conv => whnf
 refine loop_weak (σ := Sr × List Int × Nat) (fun ⟨_, zs, _⟩ => [(0, XV.s (.a (.c (.ptr 0 0)))), (2, nX9), (3, nX9), (4, XV.s (.a (.c (.own 2 (.int .u8) zs)))), (5, nX9), (8, nX9), (17, nX9), (21, nX9)])
  (fun ⟨q, zs, _⟩ => srH q ++ [tokU zs.length])
  (fun ⟨q, zs, k⟩ => Vld q ∧ q.toks = r.toks ∧ q.toks.length ≤ k + q.at_ ∧ zs.length ≤ q.at_ ∧ numsS k q zs = numsS r.toks.length r []) (fun ⟨_, _, k⟩ => k) (r, [], r.toks.length) ?_ ?_ fun ⟨q, zs, k⟩ hI => ?_
 ·refine Weak.own 5 ?_
  repeat first|exact wN9|refine wD9 ?_|refine wS9 ?_|refine wO9 ?_
 ·exact ⟨hv, rfl, Nat.le_add_right _ _, nZ9 _, rfl⟩
 obtain ⟨hq, htk, hk, hz, hgo⟩ := hI
 have hql := hq.lt
 have hqn := hq.len
 have hi := hq.i64
 obtain ⟨k, rfl⟩ : ∃ j, k = j + 1 := ⟨k - 1, by omega⟩
 simp only [numsS] at hgo
 repeat ((conv => whnf); refine ⟨⟨rfl, rfl, hq⟩, ?_⟩)
 conv => whnf
 refine cI9 ?_ ?_<;>intro h
 ·have hp : ¬ sgnI q.tok ⟨#[93]⟩ = true := pass_no h
  have e : passS ⟨#[93]⟩ q = (false, q) := by unfold passS; rw [if_neg hp]
  have v1 : Vld (passS ⟨#[93]⟩ q).2 := by rw [e]; exact hq
  have i1 : inI64 (((passS ⟨#[93]⟩ q).2.at_ : Int) + 1) := by rw [e]; exact hi
  have hcap : zs.length + 1 ≤ capBound := by show _ ≤ 1000000000000; omega
  have ht := hq.tokv
  rw [if_neg hp] at hgo
  repeat ((conv => whnf); refine ⟨⟨rfl, rfl, v1⟩, ?_⟩)
  conv => whnf
  refine cI9 ?_ ?_<;>intro h2
  ·have h3 : ¬ q.tok.1 = 2 := by
    have h4 : (!decide ((passS ⟨#[93]⟩ q).2.tok.1 = 2)) = true := h2
    rw [e] at h4
    simpa using h4
   rw [if_neg h3] at hgo
   rw [← hgo]
   conv => whnf
   refine eE9 ⟨rfl, ?_⟩
   show srH (passS ⟨#[93]⟩ q).2 = srH q
   rw [e]
  have h3 : q.tok.1 = 2 := by
   have h4 : (!decide ((passS ⟨#[93]⟩ q).2.tok.1 = 2)) = false := h2
   rw [e] at h4
   simpa using h4
  rw [if_pos h3] at hgo
  conv => whnf
  refine cI9 ?_ ?_<;>intro h5
  ·have h6 : 255 < q.tok.2.2.1 := by
    have h7 : decide (255 < (passS ⟨#[93]⟩ q).2.tok.2.2.1) = true := h5
    rw [e] at h7
    exact oT9 h7
   rw [if_pos h6] at hgo
   rw [← hgo]
   conv => whnf
   refine eE9 ⟨rfl, ?_⟩
   show srH (passS ⟨#[93]⟩ q).2 = srH q
   rw [e]
  ·have h6 : ¬ 255 < q.tok.2.2.1 := by
    have h7 : decide (255 < (passS ⟨#[93]⟩ q).2.tok.2.2.1) = false := h5
    rw [e] at h7
    exact oF9 h7
   rw [if_neg h6] at hgo
   have g1 := hq.adv (show q.tok.1 ≠ 8 by rw [h3]; decide) 0
   repeat ((conv => whnf); refine ⟨by first | exact hcap | exact i1 | omega, ?_⟩)
   conv => whnf
   refine kI9 ((passS ⟨#[93]⟩ q).2.adv, zs ++ [IntKind.u8.wrap (passS ⟨#[93]⟩ q).2.tok.2.2.1], k) [0, 1, 2] rfl id3' ?_ ?_ ?_ ?_
   ·show _ = some (srH (passS ⟨#[93]⟩ q).2.adv ++ [tokU (zs ++ [IntKind.u8.wrap (passS ⟨#[93]⟩ q).2.tok.2.2.1]).length])
    rw [zP9]
    rfl
   ·repeat first|exact kN9|refine kD9 ?_|refine kR9 rfl ?_
   ·rw [e]
    have g2 := g1.adv.lt
    refine ⟨g1.vld hq, htk, ?_, ?_, hgo⟩
    ·show q.toks.length ≤ k + (q.at_ + 1)
     omega
    ·rw [zP9]
     show zs.length + 1 ≤ q.at_ + 1
     omega
   ·exact nS9 k
 ·have hp : sgnI q.tok ⟨#[93]⟩ = true := pass_yes h
  have e : passS ⟨#[93]⟩ q = (true, q.adv) := by unfold passS; rw [if_pos hp]
  rw [if_pos hp] at hgo
  rw [← hgo]
  conv => whnf
  refine eE9 ⟨rfl, ?_⟩
  show srH (passS ⟨#[93]⟩ q).2 = srH q.adv
  rw [e]
end Go.Ab
