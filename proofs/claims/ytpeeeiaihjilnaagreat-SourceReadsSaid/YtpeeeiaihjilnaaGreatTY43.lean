/- Definitions that are read are no longer than a number can tell. -/
import Derived.Test.YtpeeeiaihjilnaaGreatTY36toY42
namespace Go.Ab
open Go.Proofs
set_option linter.unusedSectionVars false
set_option maxRecDepth 100000
variable [Glob]
structure BF (r : Sr) : Prop where
 len : r.toks.length ≤ 6001
 fit : ∀ d ∈ r.defs, defC.fit d
theorem BF.same {r q : Sr} (h : BF r) (ht : q.toks = r.toks) (hd : q.defs = r.defs) : BF q := ⟨by rw [ht]; exact h.len, by rw [hd]; exact h.fit⟩
theorem BF.add {r : Sr} (h : BF r) {d : defC.den} (hd : defC.fit d) : BF (r.add d) := ⟨h.len, fun x hx => by
 rcases List.mem_append.1 hx with hx | hx
 ·exact h.fit x hx
 ·obtain rfl := List.mem_singleton.1 hx
  exact hd⟩
theorem dfn_fit (kind : Int) (l n : ByteArray) {ps : List prtC.den} (h : (CT.list prtC).fit ps) (t : tkC.den) : defC.fit (dfn kind l n ps t) := ⟨trivial, trivial, trivial, h, trivial, trivial, trivial⟩
theorem nil_fit (e : CT) : (CT.list e).fit ([] : List e.den) := ⟨Nat.zero_le _, fun z hz => by cases hz⟩
theorem mustS_bf (s : ByteArray) {r : Sr} (h : BF r) : BF (mustS s r).2 := by
 unfold mustS
 split
 ·exact h.same rfl rfl
 ·exact h
theorem takeS_bf (k : Int) (v : ByteArray → Bool) {r : Sr} (h : BF r) : BF (takeS k v r).2 := by
 unfold takeS
 split
 ·split
  ·exact h.same rfl rfl
  ·exact h
 ·exact h
theorem nmS_bf (nm : Nm) {r : Sr} (h : BF r) : BF (nmS nm r).2 := by
 cases nm with
 | root => exact mustS_bf _ h
 | ref => exact takeS_bf _ _ h
 | node => exact takeS_bf _ _ h
 | prop => exact takeS_bf _ _ h
 | str => exact takeS_bf _ _ h
theorem cmdS_bf (kind : Int) (nm : Nm) {r : Sr} (h : BF r) : BF (cmdS kind nm r).2 := by
 have h1 := nmS_bf nm (h.same (q := r.adv) rfl rfl)
 unfold cmdS
 simp only
 split
 ·exact mustS_bf _ (h1.add (dfn_fit _ _ _ (nil_fit _) _))
 ·exact h1
theorem numsS_bf : ∀ (k : Nat) {r : Sr} (out : List Int), BF r → BF (numsS k r out).2 := by
 intro k
 induction k with
 | zero => intro r out h; exact h
 | succ k ih =>
  intro r out h
  unfold numsS
  split
  ·exact h.same rfl rfl
  ·split
   ·split
    ·exact h
    ·exact ih _ (h.same rfl rfl)
   ·exact h
theorem celS_bf {r : Sr} (h : BF r) : BF (celS r).2 := by
 unfold celS
 split
 ·exact takeS_bf _ _ h
 ·simp only
  split
  ·exact h.same rfl rfl
  ·exact h
theorem celsS_bf : ∀ (k : Nat) {r : Sr} (out : List celC.den), BF r → BF (celsS k r out).2 ∧ (celsS k r out).1.1.length ≤ out.length + k := by
 intro k
 induction k with
 | zero => intro r out h; exact ⟨h, Nat.zero_le _⟩
 | succ k ih =>
  intro r out h
  unfold celsS
  split
  ·exact ⟨h.same rfl rfl, Nat.le_add_right _ _⟩
  ·split
   ·obtain ⟨a, b⟩ := ih (out ++ [(celS r).1.1]) (celS_bf h)
    refine ⟨a, ?_⟩
    rw [List.length_append] at b
    have : [(celS r).1.1].length = 1 := rfl
    omega
   ·exact ⟨celS_bf h, Nat.zero_le _⟩
theorem cell_fit (z : celC.den) : celC.fit z := ⟨trivial, trivial⟩
theorem prtS_bf {r : Sr} (h : BF r) : BF (prtS r).2 ∧ prtC.fit (prtS r).1.1 := by
 have z : ∀ (k : Int) (t : ByteArray), prtC.fit (k, [], t) := fun _ _ => ⟨trivial, nil_fit _, trivial⟩
 unfold prtS
 split
 ·obtain ⟨a, b⟩ := celsS_bf r.toks.length [] (h.same (q := r.adv) rfl rfl)
  refine ⟨a, trivial, ⟨?_, fun c _ => cell_fit c⟩, trivial⟩
  have := h.len
  have e0 : ([] : List celC.den).length = 0 := rfl
  show (celsS r.toks.length r.adv []).1.1.length ≤ 9223372036854775807
  omega
 ·split
  ·exact ⟨numsS_bf _ _ (h.same rfl rfl), z _ _⟩
  ·split
   ·exact ⟨takeS_bf _ _ h, z _ _⟩
   ·exact ⟨takeS_bf _ _ h, z _ _⟩
theorem prtsS_bf : ∀ (k : Nat) {r : Sr} (out : List prtC.den), BF r → (∀ p ∈ out, prtC.fit p) → BF (prtsS k r out).2 ∧ (prtsS k r out).1.1.length ≤ out.length + k ∧ ∀ p ∈ (prtsS k r out).1.1, prtC.fit p := by
 intro k
 induction k with
 | zero => intro r out h ho; exact ⟨h, Nat.zero_le _, fun p hp => by cases hp⟩
 | succ k ih =>
  intro r out h ho
  obtain ⟨h1, h2⟩ := prtS_bf h
  have hn : (out ++ [(prtS r).1.1]).length = out.length + 1 := by rw [List.length_append]; rfl
  have hm : ∀ p ∈ out ++ [(prtS r).1.1], prtC.fit p := fun p hp => by
   rcases List.mem_append.1 hp with hp | hp
   ·exact ho p hp
   ·obtain rfl := List.mem_singleton.1 hp
    exact h2
  unfold prtsS
  split
  ·split
   ·obtain ⟨a, b, c⟩ := ih (out ++ [(prtS r).1.1]) (h1.same (q := (prtS r).2.adv) rfl rfl) hm
    exact ⟨a, by omega, c⟩
   ·exact ⟨h1, by show (out ++ [(prtS r).1.1]).length ≤ _; omega, hm⟩
  ·exact ⟨h1, Nat.le_add_right _ _, ho⟩
theorem prpS_bf {r : Sr} (h : BF r) : BF (prpS r).2 := by
 have h1 := nmS_bf .prop h
 unfold prpS
 simp only
 split
 ·by_cases hs : sgnI (nmS .prop r).2.tok ⟨#[61]⟩ = true
  ·rw [if_pos hs]
   obtain ⟨a, b, c⟩ := prtsS_bf (nmS .prop r).2.toks.length [] (h1.same (q := (nmS .prop r).2.adv) rfl rfl) (fun p hp => by cases hp)
   split
   ·refine mustS_bf _ (a.add (dfn_fit _ _ _ ⟨?_, c⟩ _))
    have := h1.len
    have e0 : ([] : List prtC.den).length = 0 := rfl
    show (prtsS (nmS .prop r).2.toks.length (nmS .prop r).2.adv []).1.1.length ≤ 9223372036854775807
    omega
   ·exact a
  ·rw [if_neg hs]
   simp only [if_true]
   exact mustS_bf _ (h1.add (dfn_fit _ _ _ (nil_fit _) _))
 ·exact h1
theorem nodF_bf {body : Sr → Int × Sr} (hb : ∀ q, BF q → BF (body q).2) (nm : Nm) {r : Sr} (h : BF r) : BF (nodF body nm r).2 := by
 have go : ∀ (l : ByteArray) (q : Sr), BF q → BF (if (nmS nm q).1.2 = 0 then (if (body ((nmS nm q).2.add (dfn 1 l (nmS nm q).1.1 [] r.tok))).1 = 0 then mustS ⟨#[59]⟩ (body ((nmS nm q).2.add (dfn 1 l (nmS nm q).1.1 [] r.tok))).2 else body ((nmS nm q).2.add (dfn 1 l (nmS nm q).1.1 [] r.tok))) else ((nmS nm q).1.2, (nmS nm q).2)).2 := by
  intro l q hq
  have h1 := nmS_bf nm hq
  have h2 := hb _ (h1.add (dfn_fit 1 l (nmS nm q).1.1 (nil_fit _) r.tok))
  split
  ·split
   ·exact mustS_bf _ h2
   ·exact h2
  ·exact h1
 unfold nodF
 simp only
 by_cases h5 : r.tok.1 = 5
 ·rw [if_pos h5]
  have h1 := takeS_bf 5 labB h
  split
  ·exact go _ _ h1
  ·exact h1
 ·rw [if_neg h5]
  simp only [if_true]
  exact go _ _ h
theorem memF_bf {node : Nm → Sr → Int × Sr} (hn : ∀ r nm, BF r → BF (node nm r).2) {r : Sr} (h : BF r) : BF (memF node r).2 := by
 unfold memF
 split
 ·exact cmdS_bf _ _ h
 ·split
  ·exact cmdS_bf _ _ h
  ·split
   ·exact prpS_bf h
   ·exact hn _ _ h
theorem memsF_bf {mem : Sr → Int × Sr} (hm : ∀ r, BF r → BF (mem r).2) : ∀ (k : Nat) {r : Sr}, BF r → BF (memsF mem k r).2 := by
 intro k
 induction k with
 | zero => intro r h; exact h
 | succ k ih =>
  intro r h
  unfold memsF
  split
  ·exact h
  ·split
   ·exact ih (hm r h)
   ·exact hm r h
theorem bodF_bf {mem : Sr → Int × Sr} (hm : ∀ r, BF r → BF (mem r).2) {r : Sr} (h : BF r) : BF (bodF mem r).2 := by
 unfold bodF
 split
 ·split
  ·exact h
  ·have h1 := memsF_bf hm r.toks.length (h.same (q := { r.adv with bod := r.bod + 1 }) rfl rfl)
   simp only
   split
   ·exact mustS_bf _ (BF.add (⟨h1.len, h1.fit⟩ : BF { (memsF mem r.toks.length { r.adv with bod := r.bod + 1 }).2 with bod := (memsF mem r.toks.length { r.adv with bod := r.bod + 1 }).2.bod - 1 }) (dfn_fit _ _ _ (nil_fit _) _))
   ·exact h1
 ·exact h
theorem bodS_bf : ∀ (k : Nat) {r : Sr}, BF r → BF (bodS k r).2 := by
 intro k
 induction k with
 | zero => intro r h; exact h
 | succ k ih => intro r h; exact bodF_bf (fun r h => memF_bf (fun r nm h => nodF_bf (fun q hq => ih hq) nm h) h) h
theorem topS_bf {r : Sr} (h : BF r) : BF (topS r).2 := by
 unfold topS
 split
 ·exact cmdS_bf _ _ h
 ·split
  ·exact cmdS_bf _ _ h
  ·split
   ·exact nodF_bf (fun q hq => bodS_bf _ hq) _ h
   ·exact nodF_bf (fun q hq => bodS_bf _ hq) _ h
theorem topsS_bf : ∀ (k : Nat) {r : Sr}, BF r → BF (topsS k r).2 := by
 intro k
 induction k with
 | zero => intro r h; exact h
 | succ k ih =>
  intro r h
  unfold topsS
  split
  ·exact h
  ·split
   ·exact ih (topS_bf h)
   ·exact topS_bf h
theorem topsS_adv : ∀ (k : Nat) {r : Sr}, Vld r → Adv r (topsS k r).2 := by
 intro k
 induction k with
 | zero => intro r h; exact h.refl
 | succ k ih =>
  intro r h
  have g := topS_good h
  unfold topsS
  split
  ·exact h.refl
  ·split
   ·rename_i h1
    rw [h1] at g
    exact g.adv.trans (ih (g.vld h))
   ·exact g.adv
theorem srcV_fit (s : ByteArray) (f : Int) : (CT.list defC).fit (srcV s f).defs := by
 unfold srcV
 split
 ·rename_i h0
  simp only
  have v := srV_vld' h0
  have hb := topsS_bf (readV s f).toks.length (r := ⟨(readV s f).toks, 0, 0, []⟩) ⟨v.len, fun d hd => by cases hd⟩
  split
  ·rename_i h1
   refine ⟨?_, hb.fit⟩
   have g := topsS_adv (readV s f).toks.length v
   have g1 := g.dfs
   have g2 := g.lt
   have g3 := v.len
   have e0 : (⟨(readV s f).toks, 0, 0, []⟩ : Sr).defs.length = 0 := rfl
   have e1 : (⟨(readV s f).toks, 0, 0, []⟩ : Sr).toks = (readV s f).toks := rfl
   show (topsS (readV s f).toks.length ⟨(readV s f).toks, 0, 0, []⟩).2.defs.length ≤ 9223372036854775807
   omega
  ·exact nil_fit _
 ·exact nil_fit _
end Go.Ab
