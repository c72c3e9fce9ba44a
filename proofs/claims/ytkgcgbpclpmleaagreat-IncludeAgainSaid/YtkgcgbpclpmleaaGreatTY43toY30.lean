/- Definitions that are read are no longer than a number can tell. -/
import Derived.Test.YtkgcgbpclpmleaaGreatTX13toY42
namespace Go.Ab
open Go.Proofs
set_option linter.unusedSectionVars false
set_option maxRecDepth 100000
variable [Glob]
structure BF (r : Sr) : Prop where
 len : r.toks.length ≤ 6001
 fit : ∀ d ∈ r.defs, defC.fit d
theorem BF.same {r q : Sr} (h : BF r) (ht : q.toks = r.toks) (hd : q.defs = r.defs) : BF q := ⟨by rw [ht]; exact h.len, by rw [hd]; exact h.fit⟩
theorem BF.add {r : Sr} (h : BF r) {d : defC.den} (hd : defC.fit d) : BF (r.add d) := ⟨h.len, fun x hx => by
 rcases List.mem_append.1 hx with hx | hx
 ·exact h.fit x hx
 ·obtain rfl := List.mem_singleton.1 hx
  exact hd⟩
theorem dfn_fit (kind : Int) (l n : ByteArray) {ps : List prtC.den} (h : (CT.list prtC).fit ps) (t : tkC.den) : defC.fit (dfn kind l n ps t) := ⟨trivial, trivial, trivial, h, trivial, trivial, trivial⟩
theorem nil_fit (e : CT) : (CT.list e).fit ([] : List e.den) := ⟨nZ9 _, fun z hz => by cases hz⟩
theorem mustS_bf (s : ByteArray) {r : Sr} (h : BF r) : BF (mustS s r).2 := by
 unfold mustS
 split
 ·exact h.same rfl rfl
 ·exact h
theorem takeS_bf (k : Int) (v : ByteArray → Bool) {r : Sr} (h : BF r) : BF (takeS k v r).2 := by
 unfold takeS
 split
 ·split
  ·exact h.same rfl rfl
  ·exact h
 ·exact h
theorem nmS_bf (nm : Nm) {r : Sr} (h : BF r) : BF (nmS nm r).2 := by
 cases nm with
 | root => exact mustS_bf _ h
 | ref => exact takeS_bf _ _ h
 | node => exact takeS_bf _ _ h
 | prop => exact takeS_bf _ _ h
 | str => exact takeS_bf _ _ h
theorem cmdS_bf (kind : Int) (nm : Nm) {r : Sr} (h : BF r) : BF (cmdS kind nm r).2 := by
 have h1 := nmS_bf nm (h.same (q := r.adv) rfl rfl)
 unfold cmdS
 simp only
 split
 ·exact mustS_bf _ (h1.add (dfn_fit _ _ _ (nil_fit _) _))
 ·exact h1
theorem numsS_bf : ∀ (k : Nat) {r : Sr} (out : List Int), BF r → BF (numsS k r out).2 := by
 intro k
 induction k with
 | zero => intro r out h; exact h
 | succ k ih =>
  intro r out h
  unfold numsS
  split
  ·exact h.same rfl rfl
  ·split
   ·split
    ·exact h
    ·exact ih _ (h.same rfl rfl)
   ·exact h
theorem celS_bf {r : Sr} (h : BF r) : BF (celS r).2 := by
 unfold celS
 split
 ·exact takeS_bf _ _ h
 ·simp only
  split
  ·exact h.same rfl rfl
  ·exact h
theorem celsS_bf : ∀ (k : Nat) {r : Sr} (out : List celC.den), BF r → BF (celsS k r out).2 ∧ (celsS k r out).1.1.length ≤ out.length + k := by
 intro k
 induction k with
 | zero => intro r out h; exact ⟨h, nZ9 _⟩
 | succ k ih =>
  intro r out h
  unfold celsS
  split
  ·exact ⟨h.same rfl rfl, Nat.le_add_right _ _⟩
  ·split
   ·obtain ⟨a, b⟩ := ih (out ++ [(celS r).1.1]) (celS_bf h)
    refine ⟨a, ?_⟩
    rw [zP9] at b
    have : [(celS r).1.1].length = 1 := rfl
    omega
   ·exact ⟨celS_bf h, nZ9 _⟩
theorem cell_fit (z : celC.den) : celC.fit z := ⟨trivial, trivial⟩
theorem prtS_bf {r : Sr} (h : BF r) : BF (prtS r).2 ∧ prtC.fit (prtS r).1.1 := by
 have z : ∀ (k : Int) (t : ByteArray), prtC.fit (k, [], t) := fun _ _ => ⟨trivial, nil_fit _, trivial⟩
 unfold prtS
 split
 ·obtain ⟨a, b⟩ := celsS_bf r.toks.length [] (h.same (q := r.adv) rfl rfl)
  refine ⟨a, trivial, ⟨?_, fun c _ => cell_fit c⟩, trivial⟩
  have := h.len
  have e0 : ([] : List celC.den).length = 0 := rfl
  show (celsS r.toks.length r.adv []).1.1.length ≤ 9223372036854775807
  omega
 ·split
  ·exact ⟨numsS_bf _ _ (h.same rfl rfl), z _ _⟩
  ·split
   ·exact ⟨takeS_bf _ _ h, z _ _⟩
   ·exact ⟨takeS_bf _ _ h, z _ _⟩
theorem prtsS_bf : ∀ (k : Nat) {r : Sr} (out : List prtC.den), BF r → (∀ p ∈ out, prtC.fit p) → BF (prtsS k r out).2 ∧ (prtsS k r out).1.1.length ≤ out.length + k ∧ ∀ p ∈ (prtsS k r out).1.1, prtC.fit p := by
 intro k
 induction k with
 | zero => intro r out h ho; exact ⟨h, nZ9 _, fun p hp => by cases hp⟩
 | succ k ih =>
  intro r out h ho
  obtain ⟨h1, h2⟩ := prtS_bf h
  have hn : (out ++ [(prtS r).1.1]).length = out.length + 1 := by rw [zP9]; rfl
  have hm : ∀ p ∈ out ++ [(prtS r).1.1], prtC.fit p := fun p hp => by
   rcases List.mem_append.1 hp with hp | hp
   ·exact ho p hp
   ·obtain rfl := List.mem_singleton.1 hp
    exact h2
  unfold prtsS
  split
  ·split
   ·obtain ⟨a, b, c⟩ := ih (out ++ [(prtS r).1.1]) (h1.same (q := (prtS r).2.adv) rfl rfl) hm
    exact ⟨a, by omega, c⟩
   ·exact ⟨h1, by show (out ++ [(prtS r).1.1]).length ≤ _; omega, hm⟩
  ·exact ⟨h1, Nat.le_add_right _ _, ho⟩
theorem prpS_bf {r : Sr} (h : BF r) : BF (prpS r).2 := by
 have h1 := nmS_bf .prop h
 unfold prpS
 simp only
 split
 ·by_cases hs : sgnI (nmS .prop r).2.tok ⟨#[61]⟩ = true
  ·rw [if_pos hs]
   obtain ⟨a, b, c⟩ := prtsS_bf (nmS .prop r).2.toks.length [] (h1.same (q := (nmS .prop r).2.adv) rfl rfl) (fun p hp => by cases hp)
   split
   ·refine mustS_bf _ (a.add (dfn_fit _ _ _ ⟨?_, c⟩ _))
    have := h1.len
    have e0 : ([] : List prtC.den).length = 0 := rfl
    show (prtsS (nmS .prop r).2.toks.length (nmS .prop r).2.adv []).1.1.length ≤ 9223372036854775807
    omega
   ·exact a
  ·rw [if_neg hs]
   simp only [if_true]
   exact mustS_bf _ (h1.add (dfn_fit _ _ _ (nil_fit _) _))
 ·exact h1
theorem nodF_bf {body : Sr → Int × Sr} (hb : ∀ q, BF q → BF (body q).2) (nm : Nm) {r : Sr} (h : BF r) : BF (nodF body nm r).2 := by
 have go : ∀ (l : ByteArray) (q : Sr), BF q → BF (if (nmS nm q).1.2 = 0 then (if (body ((nmS nm q).2.add (dfn 1 l (nmS nm q).1.1 [] r.tok))).1 = 0 then mustS ⟨#[59]⟩ (body ((nmS nm q).2.add (dfn 1 l (nmS nm q).1.1 [] r.tok))).2 else body ((nmS nm q).2.add (dfn 1 l (nmS nm q).1.1 [] r.tok))) else ((nmS nm q).1.2, (nmS nm q).2)).2 := by
  intro l q hq
  have h1 := nmS_bf nm hq
  have h2 := hb _ (h1.add (dfn_fit 1 l (nmS nm q).1.1 (nil_fit _) r.tok))
  split
  ·split
   ·exact mustS_bf _ h2
   ·exact h2
  ·exact h1
 unfold nodF
 simp only
 by_cases h5 : r.tok.1 = 5
 ·rw [if_pos h5]
  have h1 := takeS_bf 5 labB h
  split
  ·exact go _ _ h1
  ·exact h1
 ·rw [if_neg h5]
  simp only [if_true]
  exact go _ _ h
theorem memF_bf {node : Nm → Sr → Int × Sr} (hn : ∀ r nm, BF r → BF (node nm r).2) {r : Sr} (h : BF r) : BF (memF node r).2 := by
 unfold memF
 split
 ·exact cmdS_bf _ _ h
 ·split
  ·exact cmdS_bf _ _ h
  ·split
   ·exact prpS_bf h
   ·exact hn _ _ h
theorem memsF_bf {mem : Sr → Int × Sr} (hm : ∀ r, BF r → BF (mem r).2) : ∀ (k : Nat) {r : Sr}, BF r → BF (memsF mem k r).2 := by
 intro k
 induction k with
 | zero => intro r h; exact h
 | succ k ih =>
  intro r h
  unfold memsF
  split
  ·exact h
  ·split
   ·exact ih (hm r h)
   ·exact hm r h
theorem bodF_bf {mem : Sr → Int × Sr} (hm : ∀ r, BF r → BF (mem r).2) {r : Sr} (h : BF r) : BF (bodF mem r).2 := by
 unfold bodF
 split
 ·split
  ·exact h
  ·have h1 := memsF_bf hm r.toks.length (h.same (q := { r.adv with bod := r.bod + 1 }) rfl rfl)
   simp only
   split
   ·exact mustS_bf _ (BF.add (⟨h1.len, h1.fit⟩ : BF { (memsF mem r.toks.length { r.adv with bod := r.bod + 1 }).2 with bod := (memsF mem r.toks.length { r.adv with bod := r.bod + 1 }).2.bod - 1 }) (dfn_fit _ _ _ (nil_fit _) _))
   ·exact h1
 ·exact h
theorem bodS_bf : ∀ (k : Nat) {r : Sr}, BF r → BF (bodS k r).2 := by
 intro k
 induction k with
 | zero => intro r h; exact h
 | succ k ih => intro r h; exact bodF_bf (fun r h => memF_bf (fun r nm h => nodF_bf (fun q hq => ih hq) nm h) h) h
theorem topS_bf {r : Sr} (h : BF r) : BF (topS r).2 := by
 unfold topS
 split
 ·exact cmdS_bf _ _ h
 ·split
  ·exact cmdS_bf _ _ h
  ·split
   ·exact nodF_bf (fun q hq => bodS_bf _ hq) _ h
   ·exact nodF_bf (fun q hq => bodS_bf _ hq) _ h
theorem topsS_bf : ∀ (k : Nat) {r : Sr}, BF r → BF (topsS k r).2 := by
 intro k
 induction k with
 | zero => intro r h; exact h
 | succ k ih =>
  intro r h
  unfold topsS
  split
  ·exact h
  ·split
   ·exact ih (topS_bf h)
   ·exact topS_bf h
theorem topsS_adv : ∀ (k : Nat) {r : Sr}, Vld r → Adv r (topsS k r).2 := by
 intro k
 induction k with
 | zero => intro r h; exact h.refl
 | succ k ih =>
  intro r h
  have g := topS_good h
  unfold topsS
  split
  ·exact h.refl
  ·split
   ·rename_i h1
    rw [h1] at g
    exact g.adv.trans (ih (g.vld h))
   ·exact g.adv
theorem srcV_fit (s : ByteArray) (f : Int) : (CT.list defC).fit (srcV s f).defs := by
 unfold srcV
 split
 ·rename_i h0
  simp only
  have v := srV_vld' h0
  have hb := topsS_bf (readV s f).toks.length (r := ⟨(readV s f).toks, 0, 0, []⟩) ⟨v.len, fun d hd => by cases hd⟩
  split
  ·rename_i h1
   refine ⟨?_, hb.fit⟩
   have g := topsS_adv (readV s f).toks.length v
   have g1 := g.dfs
   have g2 := g.lt
   have g3 := v.len
   have e0 : (⟨(readV s f).toks, 0, 0, []⟩ : Sr).defs.length = 0 := rfl
   have e1 : (⟨(readV s f).toks, 0, 0, []⟩ : Sr).toks = (readV s f).toks := rfl
   show (topsS (readV s f).toks.length ⟨(readV s f).toks, 0, 0, []⟩).2.defs.length ≤ 9223372036854775807
   omega
  ·exact nil_fit _
 ·exact nil_fit _
theorem namB_cons (a : UInt8) (r : List UInt8) : namB (B (a :: r)) = (decide (((r.length + 1 : Nat) : Int) ≤ 31) && firstB ((a.toNat : Nat) : Int) && (nameB ((a.toNat : Nat) : Int) && r.all fun u : UInt8 => nameB ((u.toNat : Nat) : Int))) := by
 unfold namB consB
 rw [lead_all]
 have h1 : decide (B (a :: r) = ⟨#[]⟩) = false := dF9 fun h => by
  have := congrArg ByteArray.size h
  rw [B_size] at this
  have h0 : (⟨#[]⟩ : ByteArray).size = 0 := rfl
  rw [h0] at this
  simp at this
 have h2 : byteAt (B (a :: r)) 0 = ((a.toNat : Nat) : Int) := rfl
 have h3 : ((B (a :: r)).size : Int) = ((r.length + 1 : Nat) : Int) := rfl
 rw [h1, h2, h3]
 have h4 : allB nameB (B (a :: r)) = (nameB ((a.toNat : Nat) : Int) && r.all fun u : UInt8 => nameB ((u.toNat : Nat) : Int)) := by
  unfold allB
  rfl
 rw [h4]
 rfl
def has64 : List UInt8 → Bool
 | [] => false
 | a :: r => if ((a.toNat : Nat) : Int) = 64 then true else has64 r
theorem has64_cons (a : UInt8) (r : List UInt8) : has64 (a :: r) = if ((a.toNat : Nat) : Int) = 64 then true else has64 r := rfl
theorem has64_at (l : List UInt8) : has64 l = atB (B l) := by
 have h : atB (B l) = l.contains 64 := by
  unfold atB
  show decide (0 ≤ Lib.indexByte l 64) = _
  have := idx_mem l 64
  cases hc : l.contains 64 with
  | true => rw [hc] at this; exact dT9 (by rw [this])
  | false => rw [hc] at this; exact dF9 (by rw [this]; simp)
 rw [h]
 induction l with
 | nil => rfl
 | cons a r ih =>
  unfold has64
  rw [List.contains_cons]
  have ih' := ih (by
   unfold atB
   show decide (0 ≤ Lib.indexByte r 64) = _
   have := idx_mem r 64
   cases hc : r.contains 64 with
   | true => rw [hc] at this; exact dT9 (by rw [this])
   | false => rw [hc] at this; exact dF9 (by rw [this]; simp))
  by_cases ha : ((a.toNat : Nat) : Int) = 64
  ·have : a = 64 := by
    apply UInt8.toNat_inj.1
    have h64 : (64 : UInt8).toNat = 64 := rfl
    omega
   rw [if_pos ha, this]
   rfl
  ·have : ((64 : UInt8) == a) = false := by
    refine beq_eq_false_iff_ne.2 fun h => ha ?_
    rw [← h]
    rfl
   rw [if_neg ha, ih', this, Bool.false_or]
def rPrp (s : ByteArray) : Bool :=
 if (s.size : Int) < 1 ∨ 31 < (s.size : Int) then false
 else if has64 s.data.toList = true then false
 else if byteAt s 0 = 35 then (decide ((s.size : Int) = 1) || namB (⟨#[97]⟩ ++ s.extract 1 s.size)) else namB s
theorem prp_same (s : ByteArray) : rPrp s = prpB s := by
 obtain ⟨l, rfl⟩ : ∃ l, s = B l := ⟨s.data.toList, rfl⟩
 unfold rPrp prpB
 rw [show has64 (B l).data.toList = atB (B l) from has64_at l]
 cases l with
 | nil => decide
 | cons a r =>
  have hs : ((B (a :: r)).size : Int) = ((r.length + 1 : Nat) : Int) := rfl
  rw [hs]
  by_cases h1 : 31 < ((r.length + 1 : Nat) : Int)
  ·rw [if_pos (.inr h1), if_pos h1]
  rw [if_neg (by omega), if_neg h1]
  by_cases h2 : atB (B (a :: r)) = true
  ·rw [if_pos h2, if_pos h2]
  rw [if_neg h2, if_neg h2]
  have hb : byteAt (B (a :: r)) 0 = ((a.toNat : Nat) : Int) := rfl
  rw [hb]
  by_cases h3 : ((a.toNat : Nat) : Int) = 35
  ·have ha : a = 35 := by
    apply UInt8.toNat_inj.1
    have h35 : (35 : UInt8).toNat = 35 := rfl
    omega
   subst ha
   have e1 : (B (35 :: r)).extract 1 (B (35 :: r)).size = B r := by
    rw [B_extract, B_size]
    simp
   have hp : prefB (B (35 :: r)) ⟨#[35]⟩ = true := by
    unfold prefB
    have : (B (35 :: r)).extract 0 (⟨#[35]⟩ : ByteArray).size = ⟨#[35]⟩ := by
     show (B (35 :: r)).extract 0 1 = B [35]
     rw [B_extract]
     simp
    rw [this]
    have h1 : (((⟨#[35]⟩ : ByteArray).size : Nat) : Int) ≤ ((B (35 :: r)).size : Nat) := by
     rw [B_size]
     show ((1 : Nat) : Int) ≤ ((r.length + 1 : Nat) : Int)
     omega
    rw [dT9 h1]
    simp
   have ht : trimP (B (35 :: r)) ⟨#[35]⟩ = B r := by
    unfold trimP
    rw [if_pos hp]
    exact e1
   rw [if_pos h3, if_pos hp, ht, e1]
   have f1 : (⟨#[97]⟩ ++ B r : ByteArray) = B (97 :: r) := by show B [97] ++ B r = _; rw [B_append]; rfl
   have f2 : (⟨#[95]⟩ ++ B r : ByteArray) = B (95 :: r) := by show B [95] ++ B r = _; rw [B_append]; rfl
   rw [f1, f2, namB_cons, namB_cons]
   have g1 : firstB (((97 : UInt8).toNat : Nat) : Int) = true := by decide
   have g2 : firstB (((95 : UInt8).toNat : Nat) : Int) = true := by decide
   have g3 : nameB (((97 : UInt8).toNat : Nat) : Int) = true := by decide +kernel
   have g4 : nameB (((95 : UInt8).toNat : Nat) : Int) = true := by decide +kernel
   rw [g1, g2, g3, g4]
   cases r with
   | nil => decide
   | cons b r =>
    rw [dF9 (show ¬ (((b :: r).length + 1 : Nat) : Int) = 1 by simp only [zC9]; omega)]
    rfl
  ·have hp : prefB (B (a :: r)) ⟨#[35]⟩ = false := by
    unfold prefB
    have : ¬ (B (a :: r)).extract 0 (⟨#[35]⟩ : ByteArray).size = ⟨#[35]⟩ := by
     show ¬ (B (a :: r)).extract 0 1 = B [35]
     rw [B_extract]
     intro h
     have h5 : B [a] = B [35] := by simpa using h
     have h6 : byteAt (B [a]) 0 = byteAt (B [35]) 0 := by rw [h5]
     exact h3 h6
    rw [dF9 this]
    simp
   rw [if_neg h3, if_neg (by rw [hp]; simp)]
end Go.Ab
