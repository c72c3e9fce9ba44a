/- The reference of package source: members. -/
import Derived.Test.YtkgcgbpclpmleaaGreatTY36
namespace Go.Ab
open Go.Proofs
set_option linter.unusedSectionVars false
set_option maxRecDepth 100000
variable [Glob]
theorem Early.one {M : Mach} {n : Nat} {ops : List Oper} {i : Nat} {e : Env} {o : Oper} {x : XV} {m : Nat} {Hm : List AO} {r : List (Nat × List AO)} (hb : Nat.testBit ((allMasks ops []).getD i 0) m = false) (h : stepD M n ops i e Hm o fun x' H' f => x' = x ∧ H' = Hm ∧ f = 1) (hr : Early M n ops i e o x r) : Early M n ops i e o x ((m, Hm) :: r) := by
 refine ⟨?_, hr⟩
 show match Nat.testBit ((allMasks ops []).getD i 0) m with
  | true => True
  | false => _
 rw [hb]
 exact h
def Er.wb (b : Nat) (r : Er) : Er := ⟨r.s.wb b, r.err, r.pos⟩
theorem erH_wb (b : Nat) (r : Er) : erH (r.wb b) = erH r := rfl
theorem erOf_wb (b : Nat) (e : Int) (q : Sr) : erOf (e, q.wb b) = (erOf (e, q)).wb b := by
 unfold erOf
 dsimp only
 split <;> rfl
theorem erH_of (b : Nat) (e : Int) (q : Sr) : erH (erOf (e, q.wb b)) = erH (erOf (e, q)) := by rw [erOf_wb]; rfl
theorem takeE_wb (t : ByteArray) (b : Nat) (r : Er) : takeE t (r.wb b) = (takeE t r).wb b := by
 unfold takeE
 show (if r.err = 0 then erOf (mustS t (r.s.wb b)) else _) = _
 rw [mustS_wb t b r.s, erOf_wb]
 split <;> rfl
theorem addE_wb (d : defC.den) (b : Nat) (r : Er) : addE d (r.wb b) = (addE d r).wb b := by
 unfold addE
 show (if r.err = 0 then _ else _) = _
 split <;> rfl
structure ErW (r : Er) : Prop where
 lt : r.s.at_ < r.s.toks.length
 len : r.s.toks.length ≤ 6001
 p : r.err = 0 → r.pos = (0, 0, 0)
theorem ErOk.w {r : Er} (h : ErOk r) : ErW r := ⟨h.v.lt, h.v.len, h.p⟩
theorem erOf_ok {x : Int × Sr} (h : Vld x.2) : ErOk (erOf x) := by
 unfold erOf
 split
 ·exact ⟨h, fun _ => rfl⟩
 ·rename_i h1
  exact ⟨h, fun h2 => absurd h2 h1⟩
theorem ErW.add {r : Er} (h : ErW r) (d : defC.den) : ErW (addE d r) := by
 unfold addE
 split
 ·exact ⟨h.lt, h.len, h.p⟩
 ·exact h
theorem ErW.wb {r : Er} (h : ErW r) (b : Nat) : ErW (r.wb b) := ⟨h.lt, h.len, h.p⟩
theorem Good.vld' {r q : Sr} {e : Int} (h : Vld r) (k : Good r e q) (hb : q.bod = r.bod) : Vld q := k.adv.vld h (by rw [hb]; exact h.bod)
theorem takeS_bod (k : Int) (v : ByteArray → Bool) (r : Sr) : (takeS k v r).2.bod = r.bod := by
 unfold takeS
 split
 ·split <;> rfl
 ·rfl
theorem takeS_vld {k : Int} (hk : k ≠ 8) (v : ByteArray → Bool) {r : Sr} (h : Vld r) : Vld (takeS k v r).2 := (takeS_good h hk v).vld' h (takeS_bod k v r)
theorem Vld.few {r : Sr} (h : Vld r) : r.defs.length ≤ 1000000 := by
 have := h.dfs; have := h.lt; have := h.len; omega
theorem wordE_0 (k how : Int) (q : Sr) : wordE k how q.ok = ((takeS k (vfE how) q).1.1, erOf ((takeS k (vfE how) q).1.2, (takeS k (vfE how) q).2)) := if_pos rfl
theorem cmd_eq (d : defC.den) (x : Int × Sr) : takeE ⟨#[59]⟩ (addE d (erOf x)) = erOf (if x.1 = 0 then mustS ⟨#[59]⟩ (x.2.add d) else x) := by
 by_cases h : x.1 = 0
 ·rw [if_pos h, erOf_0 h]
  unfold addE takeE
  rw [if_pos (show x.2.ok.err = 0 from rfl), if_pos (show x.2.ok.err = 0 from rfl)]
  rfl
 ·rw [if_neg h, erOf_n h]
  unfold addE takeE
  rw [if_neg h, if_neg h]
theorem cmdS_wb (kind : Int) (nm : Nm) : deaf (cmdS kind nm) := fun b r => by
 unfold cmdS
 simp only
 show (if (nmS nm (r.adv.wb b)).1.2 = 0 then mustS ⟨#[59]⟩ ((nmS nm (r.adv.wb b)).2.add (dfn kind e0 (nmS nm (r.adv.wb b)).1.1 [] r.tok)) else ((nmS nm (r.adv.wb b)).1.2, (nmS nm (r.adv.wb b)).2)) = _
 rw [nmS_wb]
 show (if (nmS nm r.adv).1.2 = 0 then mustS ⟨#[59]⟩ (((nmS nm r.adv).2.add (dfn kind e0 (nmS nm r.adv).1.1 [] r.tok)).wb b) else _) = _
 rw [mustS_wb _ b]
 split <;> rfl
theorem prtsE_wb (b : Nat) : ∀ (k : Nat) (r : Sr) (out : List prtC.den), prtsE k (r.wb b) out = ((prtsE k r out).1, (prtsE k r out).2.1, (prtsE k r out).2.2.wb b) := by
 intro k
 induction k with
 | zero => intro r out; rfl
 | succ k ih =>
  intro r out
  unfold prtsE
  rw [prtE_wb b r]
  show (if (prtE r).2.1 = 0 then (if sgnI (prtE r).2.2.tok ⟨#[44]⟩ = true then prtsE k ((prtE r).2.2.adv.wb b) (out ++ [(prtE r).1]) else (out ++ [(prtE r).1], (prtE r).2.1, (prtE r).2.2.wb b)) else (out ++ [(prtE r).1], (prtE r).2.1, (prtE r).2.2.wb b)) = _
  rw [ih]
  split
  ·split <;> rfl
  ·rfl
theorem prtE_good {r : Sr} (h : Vld r) : Good r (prtE r).2.1 (prtE r).2.2 := by
 rw [(prtE_same r).1]
 exact prtS_good h
def pTail (k : Nat) (r : Sr) (zs : List prtC.den) : List prtC.den × (Int × Sr) := if sgnI r.tok ⟨#[44]⟩ = true then prtsE k r.adv zs else (zs, 0, r)
theorem prtsE_step (k : Nat) (r : Sr) (out : List prtC.den) : prtsE (k + 1) r out = if (prtE r).2.1 = 0 then pTail k (prtE r).2.2 (out ++ [(prtE r).1]) else (out ++ [(prtE r).1], (prtE r).2) := by
 unfold pTail
 show (if (prtE r).2.1 = 0 then (if sgnI (prtE r).2.2.tok ⟨#[44]⟩ = true then prtsE k (prtE r).2.2.adv (out ++ [(prtE r).1]) else (out ++ [(prtE r).1], (prtE r).2)) else _) = _
 by_cases h : (prtE r).2.1 = 0
 ·rw [if_pos h, if_pos h]
  have : (prtE r).2 = (0, (prtE r).2.2) := Prod.ext h rfl
  split
  ·rfl
  ·rw [← this]
 ·rw [if_neg h, if_neg h]
theorem prtE_bod {w : Sr} (h : w.bod = 0) : (prtE w).2.2.bod = 0 := by
 have h1 := prtE_wb 0 w
 have h2 : w.wb 0 = w := Sr.z_id h
 rw [h2] at h1
 have h3 : (prtE w).2.2 = (prtE w).2.2.wb 0 := congrArg (fun x => x.2.2) h1
 rw [h3]
 rfl
structure PInv (X : List prtC.den × (Int × Sr)) (r : Er) (zs : List prtC.den) (k : Nat) : Prop where
 v : Vld r.s
 b : r.s.bod = 0
 l : zs.length ≤ r.s.at_ + 1
 ok : r.err = 0 → r.pos = (0, 0, 0) ∧ zs.length ≤ r.s.at_ ∧ r.s.toks.length ≤ k + r.s.at_ ∧ pTail k r.s zs = X
 bad : ¬ r.err = 0 → r = erOf X.2 ∧ zs = X.1
theorem PInv.next {X : List prtC.den × (Int × Sr)} {w : Sr} (hv : Vld w) (hb : w.bod = 0) {zs : List prtC.den} {k : Nat} (hz : zs.length ≤ w.at_) (hk : w.toks.length ≤ k + 1 + w.at_) (h : prtsE (k + 1) w zs = X) : PInv X (erOf (prtE w).2) (zs ++ [(prtE w).1]) k := by
 rw [prtsE_step] at h
 have g := prtE_good hv
 have hb2 := prtE_bod hb
 have hv2 : Vld (prtE w).2.2 := g.vld' hv (by rw [hb2, hb])
 have hle := g.adv.le
 have hl : (zs ++ [(prtE w).1]).length = zs.length + 1 := by rw [zP9]; rfl
 by_cases h0 : (prtE w).2.1 = 0
 ·rw [if_pos h0] at h
  have ha := (g.ok h0).1
  have ht := g.adv.toks
  rw [erOf_0 h0]
  exact ⟨hv2, hb2, by show _ ≤ (prtE w).2.2.at_ + 1; omega, fun _ => ⟨rfl, by show _ ≤ (prtE w).2.2.at_; omega, by show (prtE w).2.2.toks.length ≤ k + (prtE w).2.2.at_; rw [ht]; omega, h⟩, fun h => absurd rfl h⟩
 ·rw [if_neg h0] at h
  have e : erOf (prtE w).2 = ⟨(prtE w).2.2, (prtE w).2.1, (prtE w).2.2.tok.2.2.2⟩ := erOf_n h0
  rw [e]
  refine ⟨hv2, hb2, by show _ ≤ (prtE w).2.2.at_ + 1; omega, fun h => absurd h h0, fun _ => ⟨?_, ?_⟩⟩
  ·rw [← h]
   exact e.symm
  ·rw [← h]
theorem prt_end {X : List prtC.den × (Int × Sr)} (D : defC.den) : takeE ⟨#[59]⟩ (Er.wb 0 (addE D (Er.wb 0 (erOf X.2)))) = Er.wb 0 (erOf (if X.2.1 = 0 then mustS ⟨#[59]⟩ (X.2.2.add D) else X.2)) := by
 rw [takeE_wb, addE_wb, takeE_wb, cmd_eq]
 rfl
theorem id6r : ∀ k, k < 6 → [0, 1, 2, 3, 4, 5][k]? = some k := fun k hk => by
 have : k = 0 ∨ k = 1 ∨ k = 2 ∨ k = 3 ∨ k = 4 ∨ k = 5 := by omega
 rcases this with rfl | rfl | rfl | rfl | rfl | rfl <;> rfl
def bodE (k : Nat) (r : Er) : Er := if r.err = 0 then erOf (bodS k r.s) else r
def sBE (k : Nat) : Says := saysE daI eaI (fun d => d.toNat) (fun r d => 0 ≤ d ∧ d ≤ 100 ∧ ErW r ∧ (r.err = 0 → Vld r.s ∧ r.s.toks.length ≤ k + r.s.at_)) fun r _ => (.tup [], bodE k r)
def sME (k : Nat) : Says := saysE daI eaI (fun d => d.toNat + 1) (fun r d => 0 ≤ d ∧ d ≤ 99 ∧ ErOk r ∧ r.err = 0 ∧ r.s.toks.length ≤ k + 1 + r.s.at_) fun r _ => (.tup [], erOf (memF (nodF (bodS k)) r.s))
theorem nod_eq (k n : Nat) (D : defC.den) (x : Int × Sr) (hn : x.2.bod = n) : erH (takeE ⟨#[59]⟩ (Er.wb 0 (bodE k (Er.wb n (addE D (Er.wb 0 (erOf x))))))) = erH (erOf (if x.1 = 0 then (if (bodS k (x.2.add D)).1 = 0 then mustS ⟨#[59]⟩ (bodS k (x.2.add D)).2 else bodS k (x.2.add D)) else x)) := by
 rw [takeE_wb, erH_wb]
 by_cases h : x.1 = 0
 ·rw [if_pos h, erOf_0 h]
  have e1 : Er.wb n (addE D (Er.wb 0 x.2.ok)) = (x.2.add D).ok := by
   unfold addE
   rw [if_pos (show (Er.wb 0 x.2.ok).err = 0 from rfl), ← hn]
   rfl
  rw [e1]
  unfold bodE
  rw [if_pos (show (x.2.add D).ok.err = 0 from rfl)]
  show erH (takeE _ (erOf (bodS k (x.2.add D)))) = _
  rw [take_erOf]
  split <;> rfl
 ·rw [if_neg h, erOf_n h]
  have e1 : Er.wb n (addE D (Er.wb 0 ⟨x.2, x.1, x.2.tok.2.2.2⟩)) = Er.wb n ⟨x.2, x.1, x.2.tok.2.2.2⟩ := by
   unfold addE
   rw [if_neg (show ¬ (Er.wb 0 ⟨x.2, x.1, x.2.tok.2.2.2⟩).err = 0 from h)]
   rfl
  rw [e1]
  unfold bodE takeE
  rw [if_neg (show ¬ (Er.wb n ⟨x.2, x.1, x.2.tok.2.2.2⟩).err = 0 from h), if_neg (show ¬ (Er.wb n ⟨x.2, x.1, x.2.tok.2.2.2⟩).err = 0 from h)]
  rfl
theorem ErW.body {r : Er} (h : ErW r) (hv : r.err = 0 → Vld r.s) (k : Nat) : ErW (bodE k r) := by
 unfold bodE
 split
 ·rename_i h1
  have g := bodS_good k _ (hv h1)
  have a1 := g.adv.lt
  have a2 := g.adv.toks
  unfold erOf
  split
  ·exact ⟨by show (bodS k r.s).2.at_ < (bodS k r.s).2.toks.length; rw [a2]; exact a1, by show (bodS k r.s).2.toks.length ≤ 6001; rw [a2]; exact h.len, fun _ => rfl⟩
  ·rename_i h2
   exact ⟨by show (bodS k r.s).2.at_ < (bodS k r.s).2.toks.length; rw [a2]; exact a1, by show (bodS k r.s).2.toks.length ≤ 6001; rw [a2]; exact h.len, fun h3 => absurd h3 h2⟩
 ·exact h
theorem labB_ne {l : ByteArray} (h : labB l = true) : ¬ l = ⟨#[]⟩ := fun h0 => by
 subst h0
 exact absurd h (by decide)
theorem nod_pre {k : Nat} {r q : Sr} (hv : Vld r) (ha : Adv r q) (hb : q.bod = r.bod) (hk : r.toks.length ≤ k + 1 + r.at_) (D : defC.den) (n : Nat) (hn : r.bod = n) :
  (wordE 1 1 q.z.ok).2.s.defs.length ≤ 1000000 ∧ ErW (Er.wb n (addE D (Er.wb 0 (wordE 1 1 q.z.ok).2))) ∧ ((Er.wb n (addE D (Er.wb 0 (wordE 1 1 q.z.ok).2))).err = 0 → Vld (Er.wb n (addE D (Er.wb 0 (wordE 1 1 q.z.ok).2))).s ∧ (Er.wb n (addE D (Er.wb 0 (wordE 1 1 q.z.ok).2))).s.toks.length ≤ k + (Er.wb n (addE D (Er.wb 0 (wordE 1 1 q.z.ok).2))).s.at_) := by
 have vq := ha.vld hv (by rw [hb]; exact hv.bod)
 have vw := takeS_vld (k := 1) (by decide) namB vq
 have e : (wordE 1 1 q.z.ok).2 = Er.wb 0 (erOf ((takeS 1 namB q).1.2, (takeS 1 namB q).2)) := by
  rw [wordE_0]
  show erOf ((takeS 1 namB (q.wb 0)).1.2, (takeS 1 namB (q.wb 0)).2) = _
  rw [tW9, erOf_wb]
 rw [e]
 have hx := erOf_ok (x := ((takeS 1 namB q).1.2, (takeS 1 namB q).2)) vw
 refine ⟨hx.v.few, ((hx.w.wb 0).wb 0).add D |>.wb n, fun h => ?_⟩
 by_cases h1 : (takeS 1 namB q).1.2 = 0
 ·obtain ⟨f1, f2, _, _⟩ := nod_facts (nm := .node) hv ha hb h1 hk D
  have e1 : Er.wb n (addE D (Er.wb 0 (Er.wb 0 (erOf ((takeS 1 namB q).1.2, (takeS 1 namB q).2))))) = ((takeS 1 namB q).2.add D).ok := by
   rw [erOf_0 h1]
   unfold addE
   rw [if_pos (show (Er.wb 0 (Er.wb 0 (takeS 1 namB q).2.ok)).err = 0 from rfl)]
   rw [← hn, ← hb, ← takeS_bod 1 namB q]
   rfl
  rw [e1]
  exact ⟨f1, f2⟩
 ·exfalso
  have h2 : (addE D (Er.wb 0 (Er.wb 0 (erOf ((takeS 1 namB q).1.2, (takeS 1 namB q).2))))).err = 0 := h
  rw [addE_wb, addE_wb] at h2
  have h3 : (addE D (erOf ((takeS 1 namB q).1.2, (takeS 1 namB q).2))).err = 0 := h2
  rw [erOf_n h1] at h3
  unfold addE at h3
  rw [if_neg (show ¬ (takeS 1 namB q).1.2 = 0 from h1)] at h3
  exact h1 h3
theorem nod_fin {k : Nat} {r q : Sr} (hb : q.bod = r.bod) (l : ByteArray) (t : tkC.den) (n : Nat) (hn : r.bod = n) : erH (takeE ⟨#[59]⟩ (Er.wb 0 (bodE k (Er.wb n (addE (dfn 1 l (wordE 1 1 q.z.ok).1 [] t) (Er.wb 0 (wordE 1 1 q.z.ok).2)))))) = erH (erOf (nodR (bodS k) l t .node q)) := by
 have e : wordE 1 1 q.z.ok = ((takeS 1 namB q).1.1, Er.wb 0 (erOf ((takeS 1 namB q).1.2, (takeS 1 namB q).2))) := by
  rw [wordE_0]
  show ((takeS 1 namB (q.wb 0)).1.1, erOf ((takeS 1 namB (q.wb 0)).1.2, (takeS 1 namB (q.wb 0)).2)) = _
  rw [tW9, erOf_wb]
 rw [e]
 have := nod_eq k n (dfn 1 l (takeS 1 namB q).1.1 [] t) ((takeS 1 namB q).1.2, (takeS 1 namB q).2) (by rw [← hn, ← hb]; exact takeS_bod 1 namB q)
 exact this
section
variable {T : Table} (hT : TS9 T)
abbrev EB (k : Nat) (N : Nat) (T : Table) : Table := ext (E9 N T) 36 (sBE k)
abbrev EM (k : Nat) (N : Nat) (T : Table) : Table := ext (EB k N T) 55 (sME k)
set_option maxHeartbeats 4000000 in
theorem eM {k N : Nat} (hB : TS9 (EB k N T)) : TS9 (EM k N T) := by
 refine extE hB 55 (fn := Tryz.f55) rfl rfl daI eaI _ _ _ (fun _ => nB9 rfl) [0, 1, 4, 5, 6, 7, 30, 33, 49, 78, 85, 97, 122, 148, 171] fun r d hs hb => ?_
 obtain ⟨hd, hd9, hr, he, hk⟩ : 0 ≤ d ∧ d ≤ 99 ∧ ErOk r ∧ r.err = 0 ∧ r.s.toks.length ≤ k + 1 + r.s.at_ := hs
 obtain ⟨s, e, ps⟩ := r
 have he : e = 0 := he
 subst he
 obtain rfl : ps = (0, 0, 0) := hr.p rfl
 have hb : s.bod = d.toNat + 1 := hb
 have hv : Vld s := hr.v
 have hlt := hv.lt
 have hlen := hv.len
 have hi := hv.i64
 have hin : 0 ≤ (s.at_ : Int) ∧ (s.at_ : Int) < (s.toks.length : Nat) := by omega
 have vz : Vld s.z := ⟨hv.len, hv.lt, hv.lst, hv.fit, hv.dfs, nZ9 _⟩
 show runF _ _ _ _ _ _ fun r' H'' => Ends r' H'' (.tup []) (erH (erOf (memF (nodF (bodS k)) s)))
 unfold memF
 repeat ((conv => whnf); refine ⟨by first | exact hin | (repeat ((conv => whnf); refine ⟨by ((conv => whnf); first | exact ⟨rfl, rfl, rfl⟩ | exact ⟨rfl, rfl⟩ | exact ⟨hin, rfl, rfl, rfl⟩), ?_⟩)); ((conv => whnf); exact trivial) | exact rfl, ?_⟩)
 conv => whnf
 refine cI9 ?_ ?_<;>intro h
 ·have h1 : s.tok.1 = 7 := oT9 h
  repeat ((conv => whnf); refine ⟨⟨rfl, rfl, hlt⟩, ?_⟩)
  conv => whnf
  refine cI9 ?_ ?_<;>intro h2
  ·have h3 : wrdI s.tok ⟨#[100, 101, 108, 101, 116, 101, 45, 112, 114, 111, 112, 101, 114, 116, 121]⟩ = true := h2
   rw [if_pos h3]
   have va := (vz.adv (wrdI_kind h3) 0).vld vz
   have vw := takeS_vld (k := 1) (by decide) prpB va
   have hx := erOf_ok (x := ((takeS 1 prpB s.z.adv).1.2, (takeS 1 prpB s.z.adv).2)) vw
   have hf : (wordE 1 2 s.z.adv.ok).2.s.defs.length ≤ 1000000 := by
    rw [wordE_0]
    exact hx.v.few
   have hw : ErW (addE (dfn 4 e0 (wordE 1 2 s.z.adv.ok).1 [] s.tok) (Er.wb 0 (wordE 1 2 s.z.adv.ok).2)) := by
    refine ErW.add (ErW.wb ?_ 0) _
    rw [wordE_0]
    exact hx.w
   repeat ((conv => whnf); refine ⟨by first | exact hi | exact ⟨rfl, rfl, ⟨va, fun _ => rfl⟩, .inr (.inl rfl)⟩ | exact ⟨rfl, rfl, hf, fun _ => rfl⟩ | exact ⟨rfl, rfl, hw.lt, hw.len, hw.p⟩ | exact Early.one (by decide +kernel) (by (conv => whnf); exact ⟨rfl, rfl, rfl⟩) trivial | exact rfl, ?_⟩)
   conv => whnf
   refine eE9 ⟨rfl, ?_⟩
   show erH (takeE ⟨#[59]⟩ (Er.wb 0 (addE (dfn 4 e0 (wordE 1 2 s.z.adv.ok).1 [] s.tok) (Er.wb 0 (wordE 1 2 s.z.adv.ok).2)))) = _
   rw [takeE_wb, erH_wb, addE_wb, takeE_wb, erH_wb, wordE_0, cmd_eq]
   have e4 := cmdS_wb 4 .prop 0 s
   have e5 : cmdS 4 .prop s.z = (if (takeS 1 prpB s.z.adv).1.2 = 0 then mustS ⟨#[59]⟩ ((takeS 1 prpB s.z.adv).2.add (dfn 4 e0 (takeS 1 prpB s.z.adv).1.1 [] s.tok)) else ((takeS 1 prpB s.z.adv).1.2, (takeS 1 prpB s.z.adv).2)) := rfl
   rw [← erH_of 0 (cmdS 4 .prop s).1 (cmdS 4 .prop s).2, ← e4, show s.wb 0 = s.z from rfl, e5]
   rfl
  have h3 : ¬ wrdI s.tok ⟨#[100, 101, 108, 101, 116, 101, 45, 112, 114, 111, 112, 101, 114, 116, 121]⟩ = true := fun h => by
   have h4 : wrdI s.tok ⟨#[100, 101, 108, 101, 116, 101, 45, 112, 114, 111, 112, 101, 114, 116, 121]⟩ = false := h2
   rw [h] at h4
   cases h4
  rw [if_neg h3]
  repeat ((conv => whnf); refine ⟨⟨rfl, rfl, hlt⟩, ?_⟩)
  conv => whnf
  refine cI9 ?_ ?_<;>intro h4
  ·have h5 : wrdI s.tok ⟨#[100, 101, 108, 101, 116, 101, 45, 110, 111, 100, 101]⟩ = true := h4
   rw [if_pos h5]
   have va := (vz.adv (wrdI_kind h5) 0).vld vz
   have vw := takeS_vld (k := 1) (by decide) namB va
   have hx := erOf_ok (x := ((takeS 1 namB s.z.adv).1.2, (takeS 1 namB s.z.adv).2)) vw
   have hf : (wordE 1 1 s.z.adv.ok).2.s.defs.length ≤ 1000000 := by
    rw [wordE_0]
    exact hx.v.few
   have hw : ErW (addE (dfn 5 e0 (wordE 1 1 s.z.adv.ok).1 [] s.tok) (Er.wb 0 (wordE 1 1 s.z.adv.ok).2)) := by
    refine ErW.add (ErW.wb ?_ 0) _
    rw [wordE_0]
    exact hx.w
   repeat ((conv => whnf); refine ⟨by first | exact hi | exact ⟨rfl, rfl, ⟨va, fun _ => rfl⟩, .inl rfl⟩ | exact ⟨rfl, rfl, hf, fun _ => rfl⟩ | exact ⟨rfl, rfl, hw.lt, hw.len, hw.p⟩ | exact Early.one (by decide +kernel) (by (conv => whnf); exact ⟨rfl, rfl, rfl⟩) trivial | exact rfl, ?_⟩)
   conv => whnf
   refine eE9 ⟨rfl, ?_⟩
   show erH (takeE ⟨#[59]⟩ (Er.wb 0 (addE (dfn 5 e0 (wordE 1 1 s.z.adv.ok).1 [] s.tok) (Er.wb 0 (wordE 1 1 s.z.adv.ok).2)))) = _
   rw [takeE_wb, erH_wb, addE_wb, takeE_wb, erH_wb, wordE_0, cmd_eq]
   have e4 := cmdS_wb 5 .node 0 s
   have e5 : cmdS 5 .node s.z = (if (takeS 1 namB s.z.adv).1.2 = 0 then mustS ⟨#[59]⟩ ((takeS 1 namB s.z.adv).2.add (dfn 5 e0 (takeS 1 namB s.z.adv).1.1 [] s.tok)) else ((takeS 1 namB s.z.adv).1.2, (takeS 1 namB s.z.adv).2)) := rfl
   rw [← erH_of 0 (cmdS 5 .node s).1 (cmdS 5 .node s).2, ← e4, show s.wb 0 = s.z from rfl, e5]
   rfl
  have h5 : ¬ wrdI s.tok ⟨#[100, 101, 108, 101, 116, 101, 45, 110, 111, 100, 101]⟩ = true := fun h => by
   have h6 : wrdI s.tok ⟨#[100, 101, 108, 101, 116, 101, 45, 110, 111, 100, 101]⟩ = false := h4
   rw [h] at h6
   cases h6
  rw [if_neg h5]
  have e6 : ¬ (s.tok.1 = 1 ∧ sgnI s.adv.tok ⟨#[123]⟩ = false) := fun h => by
   rw [h1] at h
   exact absurd h.1 (by decide)
  rw [if_neg e6]
  have hf2 : failE 6 s.z.ok = ⟨s.z, 6, s.tok.2.2.2⟩ := if_pos rfl
  repeat ((conv => whnf); refine ⟨by first | exact ⟨rfl, rfl, hlt⟩ | exact ⟨rfl, rfl, hlt, hlen, fun h => absurd (show (6 : Int) = 0 from h) (by decide)⟩, ?_⟩)
  conv => whnf
  refine eE9 ⟨rfl, ?_⟩
  rw [nodF_plain (fun h => by rw [h1] at h; exact absurd h (by decide))]
  have e7 : nmS .node s = ((e0, 6), s) := by
   show takeS 1 namB s = _
   unfold takeS
   rw [if_neg (by rw [h1]; decide)]
  unfold nodR
  simp only [e7]
  rfl
 have h1 : ¬ s.tok.1 = 7 := oF9 h
 have nw : ∀ w, ¬ wrdI s.tok w = true := fun w hw => h1 (oT9 (bA9.1 hw).1)
 rw [if_neg (nw _), if_neg (nw _)]
 have hdi : inI64 (d + 1) := by unfold inI64; omega
 have hn : s.bod = (d + 1).toNat := by omega
 have hd1 : 0 ≤ d + 1 := by omega
 have hd2 : d + 1 ≤ 100 := by omega
 repeat ((conv => whnf); refine ⟨by first | exact hin | exact rfl, ?_⟩)
 conv => whnf
 refine cI9 ?_ ?_<;>intro h2
 ·have h3 : s.tok.1 = 5 := oT9 h2
  have e6 : ¬ (s.tok.1 = 1 ∧ sgnI s.adv.tok ⟨#[123]⟩ = false) := fun h => by
   rw [h3] at h
   exact absurd h.1 (by decide)
  rw [if_neg e6, nodF_label h3]
  have ev : wordE 5 3 s.z.ok = ((takeS 5 labB s).1.1, Er.wb 0 (erOf ((takeS 5 labB s).1.2, (takeS 5 labB s).2))) := by
   rw [wordE_0]
   show ((takeS 5 labB (s.wb 0)).1.1, erOf ((takeS 5 labB (s.wb 0)).1.2, (takeS 5 labB (s.wb 0)).2)) = _
   rw [tW9, erOf_wb]
  have gl := takeS_good hv (k := 5) (by decide) labB
  repeat ((conv => whnf); refine ⟨⟨rfl, rfl, ⟨vz, fun _ => rfl⟩, .inr (.inr (.inl rfl))⟩, ?_⟩)
  conv => whnf
  refine cI9 ?_ ?_<;>intro h4
  ·have h5 : ¬ (takeS 5 labB s).1.2 = 0 := fun h0 => by
    have h6 : (!decide ((wordE 5 3 s.z.ok).2.err = 0)) = true := h4
    rw [ev, erOf_0 h0] at h6
    cases h6
   rw [if_neg h5]
   conv => whnf
   refine eE9 ⟨rfl, ?_⟩
   show erH (wordE 5 3 s.z.ok).2 = _
   rw [ev]
   rfl
  have h5 : (takeS 5 labB s).1.2 = 0 := by
   have h6 : (!decide ((wordE 5 3 s.z.ok).2.err = 0)) = false := h4
   rw [ev] at h6
   by_cases h0 : (takeS 5 labB s).1.2 = 0
   ·exact h0
   ·rw [erOf_n h0] at h6
    have h7 : (!decide ((takeS 5 labB s).1.2 = 0)) = false := h6
    simpa using h7
  rw [if_pos h5]
  have hlab : ¬ (takeS 5 labB s).1.1 = ⟨#[]⟩ := by
   unfold takeS at h5 ⊢
   rw [if_pos h3] at h5 ⊢
   by_cases hl : labB s.tok.2.1 = true
   ·rw [if_pos hl]
    exact labB_ne hl
   ·rw [if_neg hl] at h5
    cases h5
  rw [erOf_0 h5] at ev
  have hqb : (takeS 5 labB s).2.bod = s.bod := takeS_bod 5 labB s
  have vq : Vld (takeS 5 labB s).2 := takeS_vld (by decide) labB hv
  generalize hq : (takeS 5 labB s).2 = q at *
  generalize hl0 : (takeS 5 labB s).1.1 = lb at *
  have ev2 : (wordE 5 3 s.z.ok).2 = q.z.ok := by rw [ev]; rfl
  have qlt := vq.lt
  have qin : 0 ≤ ((wordE 5 3 s.z.ok).2.s.at_ : Int) ∧ ((wordE 5 3 s.z.ok).2.s.at_ : Int) < ((wordE 5 3 s.z.ok).2.s.toks.length : Nat) := by
   rw [ev2]
   show 0 ≤ (q.at_ : Int) ∧ (q.at_ : Int) < (q.toks.length : Nat)
   omega
  have qlt2 : (wordE 5 3 s.z.ok).2.s.at_ < (wordE 5 3 s.z.ok).2.s.toks.length := by rw [ev2]; exact qlt
  repeat ((conv => whnf); refine ⟨by first | exact qin | exact rfl, ?_⟩)
  conv => whnf
  refine cI9 ?_ ?_<;>intro h6
  ·have h7 : ¬ q.tok.1 = 1 := fun h0 => by
    have h8 : (!decide ((wordE 5 3 s.z.ok).2.s.tok.1 = 1)) = true := h6
    rw [ev2] at h8
    have h9 : (!decide (q.tok.1 = 1)) = true := h8
    rw [h0] at h9
    cases h9
   repeat ((conv => whnf); refine ⟨⟨rfl, rfl, qlt2⟩, ?_⟩)
   conv => whnf
   refine eE9 ⟨rfl, ?_⟩
   show erH (failE 6 (Er.wb 0 (wordE 5 3 s.z.ok).2)) = _
   rw [ev2]
   have e7 : nmS .node q = ((e0, 6), q) := by
    show takeS 1 namB q = _
    unfold takeS
    rw [if_neg h7]
   unfold nodR
   simp only [e7]
   rfl
  have h7 : q.tok.1 = 1 := by
   have h8 : (!decide ((wordE 5 3 s.z.ok).2.s.tok.1 = 1)) = false := h6
   rw [ev2] at h8
   have h9 : (!decide (q.tok.1 = 1)) = false := h8
   simpa using h9
  have qn := (vq.adv (show q.tok.1 ≠ 8 by rw [h7]; decide) 0).adv.lt
  have qi : inI64 (((wordE 5 3 s.z.ok).2.s.at_ : Int) + 1) := by rw [ev2]; exact vq.i64
  have qin2 : 0 ≤ ((wordE 5 3 s.z.ok).2.s.at_ : Int) + 1 ∧ ((wordE 5 3 s.z.ok).2.s.at_ : Int) + 1 < ((wordE 5 3 s.z.ok).2.s.toks.length : Nat) := by
   rw [ev2]
   have qn : q.at_ + 1 < q.toks.length := qn
   show 0 ≤ (q.at_ : Int) + 1 ∧ (q.at_ : Int) + 1 < (q.toks.length : Nat)
   omega
  repeat ((conv => whnf); refine ⟨by first | exact qi | exact qin2 | (repeat ((conv => whnf); refine ⟨by ((conv => whnf); first | exact ⟨rfl, rfl, rfl⟩ | exact ⟨rfl, rfl⟩ | exact ⟨by assumption, rfl, rfl, rfl⟩), ?_⟩)); ((conv => whnf); exact trivial) | exact rfl, ?_⟩)
  conv => whnf
  refine cI9 ?_ ?_<;>intro h8
  ·have hp := nod_pre (k := k) hv gl.adv hqb hk (dfn 1 lb (wordE 1 1 q.z.ok).1 [] s.tok) (d + 1).toNat hn
   have e9 : Er.wb 0 (wordE 5 3 s.z.ok).2 = q.z.ok := by rw [ev2]; rfl
   have e10 : (wordE 5 3 s.z.ok).1 = lb := by rw [ev]
   rw [← e9, ← e10] at hp
   obtain ⟨p1, p2, p3⟩ := hp
   have p0 : ErOk (Er.wb 0 (wordE 5 3 s.z.ok).2) := by
    rw [e9]
    exact ⟨⟨vq.len, vq.lt, vq.lst, vq.fit, vq.dfs, nZ9 _⟩, fun _ => rfl⟩
   have p4 := (p2.body (fun h => (p3 h).1) k).wb 0
   repeat ((conv => whnf); refine ⟨by first | exact ⟨rfl, rfl, p0, .inl rfl⟩ | exact ⟨rfl, rfl, p1, fun _ => rfl⟩ | exact hdi | exact ⟨rfl, rfl, hd1, hd2, p2, p3⟩ | exact ⟨rfl, rfl, p4.lt, p4.len, p4.p⟩ | exact Early.one (by decide +kernel) (by (conv => whnf); exact ⟨rfl, rfl, rfl⟩) trivial | exact rfl, ?_⟩)
   conv => whnf
   refine eE9 ⟨rfl, ?_⟩
   show erH (takeE ⟨#[59]⟩ (Er.wb 0 (bodE k (Er.wb (d + 1).toNat (addE (dfn 1 (wordE 5 3 s.z.ok).1 (wordE 1 1 (Er.wb 0 (wordE 5 3 s.z.ok).2)).1 [] s.tok) (Er.wb 0 (wordE 1 1 (Er.wb 0 (wordE 5 3 s.z.ok).2)).2)))))) = _
   rw [e9, e10]
   exact nod_fin hqb lb s.tok _ hn
  ·exfalso
   have h9 : (!decide ((wordE 5 3 s.z.ok).1 = ⟨#[]⟩) || _) = false := h8
   have h10 : (!decide ((wordE 5 3 s.z.ok).1 = ⟨#[]⟩)) = false := (Bool.or_eq_false_iff.1 h9).1
   rw [ev] at h10
   have h11 : lb = ⟨#[]⟩ := by simpa using h10
   exact hlab h11
 ·have h3 : ¬ s.tok.1 = 5 := oF9 h2
  have ev2 : s.z.ok = s.z.ok := rfl
  repeat ((conv => whnf); refine ⟨by first | exact hin | exact rfl, ?_⟩)
  conv => whnf
  refine cI9 ?_ ?_<;>intro h6
  ·have h7 : ¬ s.tok.1 = 1 := fun h0 => by
    have h8 : (!decide (s.tok.1 = 1)) = true := h6
    rw [h0] at h8
    cases h8
   rw [if_neg (fun h => h7 h.1), nodF_plain h3]
   repeat ((conv => whnf); refine ⟨⟨rfl, rfl, hlt⟩, ?_⟩)
   conv => whnf
   refine eE9 ⟨rfl, ?_⟩
   have e7 : nmS .node s = ((e0, 6), s) := by
    show takeS 1 namB s = _
    unfold takeS
    rw [if_neg h7]
   unfold nodR
   simp only [e7]
   rfl
  have h7 : s.tok.1 = 1 := by
   have h8 : (!decide (s.tok.1 = 1)) = false := h6
   simpa using h8
  have qn : s.at_ + 1 < s.toks.length := (hv.adv (show s.tok.1 ≠ 8 by rw [h7]; decide) 0).adv.lt
  have qin2 : 0 ≤ (s.at_ : Int) + 1 ∧ (s.at_ : Int) + 1 < (s.toks.length : Nat) := by omega
  repeat ((conv => whnf); refine ⟨by first | exact hi | exact qin2 | (repeat ((conv => whnf); refine ⟨by ((conv => whnf); first | exact ⟨rfl, rfl, rfl⟩ | exact ⟨rfl, rfl⟩ | exact ⟨by assumption, rfl, rfl, rfl⟩), ?_⟩)); ((conv => whnf); exact trivial) | exact rfl, ?_⟩)
  conv => whnf
  refine cI9 ?_ ?_<;>intro h8
  ·have h9 : sgnI s.adv.tok ⟨#[123]⟩ = true := h8
   rw [if_neg (fun h => by rw [h9] at h; exact absurd h.2 (by decide)), nodF_plain h3]
   obtain ⟨p1, p2, p3⟩ := nod_pre (k := k) hv hv.refl rfl hk (dfn 1 e0 (wordE 1 1 s.z.ok).1 [] s.tok) (d + 1).toNat hn
   have p4 := (p2.body (fun h => (p3 h).1) k).wb 0
   repeat ((conv => whnf); refine ⟨by first | exact ⟨rfl, rfl, ⟨vz, fun _ => rfl⟩, .inl rfl⟩ | exact ⟨rfl, rfl, p1, fun _ => rfl⟩ | exact hdi | exact ⟨rfl, rfl, hd1, hd2, p2, p3⟩ | exact ⟨rfl, rfl, p4.lt, p4.len, p4.p⟩ | exact Early.one (by decide +kernel) (by (conv => whnf); exact ⟨rfl, rfl, rfl⟩) trivial | exact rfl, ?_⟩)
   conv => whnf
   refine eE9 ⟨rfl, ?_⟩
   exact nod_fin rfl e0 s.tok _ hn
  have h9 : sgnI s.adv.tok ⟨#[123]⟩ = false := h8
  rw [if_pos ⟨h7, h9⟩]
  have ew : wordE 1 2 s.z.ok = ((takeS 1 prpB s).1.1, Er.wb 0 (erOf ((takeS 1 prpB s).1.2, (takeS 1 prpB s).2))) := by
   rw [wordE_0]
   show ((takeS 1 prpB (s.wb 0)).1.1, erOf ((takeS 1 prpB (s.wb 0)).1.2, (takeS 1 prpB (s.wb 0)).2)) = _
   rw [tW9, erOf_wb]
  have vp : Vld (takeS 1 prpB s).2 := takeS_vld (by decide) prpB hv
  have op := erOf_ok (x := ((takeS 1 prpB s).1.2, (takeS 1 prpB s).2)) vp
  have wf : (wordE 1 2 s.z.ok).2.s.defs.length ≤ 1000000 := by
   rw [ew]
   exact op.v.few
  have ww : ErW (addE (dfn 3 e0 (wordE 1 2 s.z.ok).1 [] s.tok) (Er.wb 0 (wordE 1 2 s.z.ok).2)) := by
   refine ErW.add (ErW.wb ?_ 0) _
   rw [ew]
   exact op.w.wb 0
  have fin : erH (takeE ⟨#[59]⟩ (Er.wb 0 (addE (dfn 3 e0 (wordE 1 2 s.z.ok).1 [] s.tok) (Er.wb 0 (wordE 1 2 s.z.ok).2)))) = erH (erOf (if (takeS 1 prpB s).1.2 = 0 then mustS ⟨#[59]⟩ ((takeS 1 prpB s).2.add (dfn 3 e0 (takeS 1 prpB s).1.1 [] s.tok)) else ((takeS 1 prpB s).1.2, (takeS 1 prpB s).2))) := by
   rw [takeE_wb, erH_wb, addE_wb, takeE_wb, erH_wb, ew, addE_wb, takeE_wb, erH_wb, cmd_eq]
  rw [prpE_same]
  unfold prpE
  have wlt : (wordE 1 2 s.z.ok).2.s.at_ < (wordE 1 2 s.z.ok).2.s.toks.length := by
   rw [ew]
   exact op.v.lt
  refine seq_shut fun KA hKA => ?_
  conv => whnf
  rw [hKA]
  show runC _ _ _ (.seq _ _) _ _ _
  refine seq_shut fun KB hKB => ?_
  repeat ((conv => whnf); refine ⟨by first | exact ⟨rfl, rfl, ⟨vz, fun _ => rfl⟩, .inr (.inl rfl)⟩ | (repeat ((conv => whnf); refine ⟨by ((conv => whnf); first | exact ⟨rfl, rfl, rfl⟩ | exact ⟨rfl, rfl⟩ | exact ⟨by assumption, rfl, rfl, rfl⟩), ?_⟩)); ((conv => whnf); exact trivial) | exact Early.one (by decide +kernel) (by (conv => whnf); exact ⟨rfl, rfl, rfl⟩) trivial | exact rfl, ?_⟩)
  conv => whnf
  rw [hKB]
  by_cases hx0 : (takeS 1 prpB s).1.2 = 0
  ·rw [if_pos hx0] at fin ⊢
   have ew0 : wordE 1 2 s.z.ok = ((takeS 1 prpB s).1.1, (takeS 1 prpB s).2.z.ok) := by rw [ew, erOf_0 hx0]; rfl
   generalize hq : (takeS 1 prpB s).2 = q at *
   generalize hnm : (takeS 1 prpB s).1.1 = nm at *
   show runC _ _ _ (.seq _ _) _ (erH (wordE 1 2 s.z.ok).2 ++ [_, _, .row [.int .i64 3, .str e0, .str (wordE 1 2 s.z.ok).1, .p (.v (.slice none 0 0)), .int .i64 s.tok.2.2.2.1, .int .i64 s.tok.2.2.2.2.1, .int .i64 s.tok.2.2.2.2.2]]) _
   rw [ew0]
   have qlt : q.at_ < q.toks.length := vp.lt
   have qlen : q.toks.length ≤ 6001 := vp.len
   have qt : q.toks = s.toks := by rw [← hq]; exact takeS_toks 1 prpB s
   have zq : Vld q.z := ⟨vp.len, vp.lt, vp.lst, vp.fit, vp.dfs, nZ9 _⟩
   have zi := zq.i64
   rw [ew0] at fin wf
   refine seq_shut fun KC hKC => ?_
   repeat ((conv => whnf); refine ⟨⟨rfl, rfl, qlt⟩, ?_⟩)
   conv => whnf
   refine cI9 ?_ ?_<;>intro h10
   ·have h11 : sgnI q.z.tok ⟨#[61]⟩ = true := (bA9.1 (show (decide ((0 : Int) = 0) && sgnI q.z.tok ⟨#[61]⟩) = true from h10)).2
    have va := (zq.adv (sgnI_kind h11) 0).vld zq
    have pa : ErOk q.z.adv.ok := ⟨va, fun _ => rfl⟩
    have hone : ∀ x : prtC.den, ([x] : List prtC.den).length ≤ capBound := fun _ => nB9 rfl
    obtain ⟨k0, hk0⟩ : ∃ k0, s.toks.length = k0 + 1 := ⟨s.toks.length - 1, by omega⟩
    have hX0 := prtsE_wb 0 s.toks.length q.adv []
    have hX1 : prtsE s.toks.length q.z.adv [] = ((prtsE s.toks.length q.adv []).1, (prtsE s.toks.length q.adv []).2.1, (prtsE s.toks.length q.adv []).2.2.wb 0) := hX0
    generalize hX : prtsE s.toks.length q.z.adv [] = X at hX1
    have hfin : ∀ t, erH (takeE ⟨#[59]⟩ (Er.wb 0 (addE (dfn 3 e0 nm X.1 t) (Er.wb 0 (erOf X.2))))) = erH (erOf (if (prtsE s.toks.length q.adv []).2.1 = 0 then mustS ⟨#[59]⟩ ((prtsE s.toks.length q.adv []).2.2.add (dfn 3 e0 nm (prtsE s.toks.length q.adv []).1 t)) else (prtsE s.toks.length q.adv []).2)) := fun t => by
     rw [prt_end, erH_wb, hX1]
     dsimp only
     have := mustS_wb ⟨#[59]⟩ 0 ((prtsE s.toks.length q.adv []).2.2.add (dfn 3 e0 nm (prtsE s.toks.length q.adv []).1 t))
     have h2 : ((prtsE s.toks.length q.adv []).2.2.wb 0).add (dfn 3 e0 nm (prtsE s.toks.length q.adv []).1 t) = ((prtsE s.toks.length q.adv []).2.2.add (dfn 3 e0 nm (prtsE s.toks.length q.adv []).1 t)).wb 0 := rfl
     rw [h2, this]
     split
     ·exact erH_of 0 _ _
     ·exact erH_of 0 _ _
    rw [hk0] at hX
    have inv0 : PInv X (erOf (prtE q.z.adv).2) [(prtE q.z.adv).1] k0 := PInv.next va rfl (nZ9 _) (by show q.toks.length ≤ _; rw [qt]; omega) hX
    repeat ((conv => whnf); refine ⟨by first | exact zi | exact ⟨rfl, rfl, pa, rfl⟩ | exact hone _ | (repeat ((conv => whnf); refine ⟨by ((conv => whnf); first | exact ⟨rfl, rfl, rfl⟩ | exact ⟨rfl, rfl⟩ | exact ⟨by assumption, rfl, rfl, rfl⟩), ?_⟩)); ((conv => whnf); exact trivial) | exact rfl, ?_⟩)
    conv => whnf
    refine lI9 (σ := Er × List prtC.den × Nat) (fun _ => [(0, XV.s (.a (.c (.ptr 0 0)))), (1, nX9), (4, nX9), (5, nX9), (6, nX9), (7, XV.s (.a (.c (.ptr 4 0)))), (30, nX9), (33, nX9), (49, nX9), (78, nX9), (85, nX9), (97, nX9), (122, nX9), (148, nX9), (171, nX9)])
     (fun ⟨r, zs, _⟩ => erH r ++ [.row [.int .i64 s.tok.2.2.2.1, .int .i64 s.tok.2.2.2.2.1, .int .i64 s.tok.2.2.2.2.2], .row [.int .i64 s.adv.tok.1, .str s.adv.tok.2.1, .int .i64 s.adv.tok.2.2.1, .int .i64 s.adv.tok.2.2.2.1, .int .i64 s.adv.tok.2.2.2.2.1, .int .i64 s.adv.tok.2.2.2.2.2], .row [.int .i64 3, .str e0, .str nm, .own 5 prtC zs, .int .i64 s.tok.2.2.2.1, .int .i64 s.tok.2.2.2.2.1, .int .i64 s.tok.2.2.2.2.2], .tok 61 prtC zs.length true])
     (fun ⟨r, zs, k⟩ => PInv X r zs k) (fun ⟨_, _, k⟩ => k) (erOf (prtE q.z.adv).2, [(prtE q.z.adv).1], k0) ?_ ?_ ?_ fun ⟨r, zs, k⟩ hI => ?_
    ·repeat first|exact lN9|refine lD9 ?_|refine lS9 ?_
    ·rfl
    ·exact inv0
    obtain ⟨w, e, ps⟩ := r
    have hI : PInv X ⟨w, e, ps⟩ zs k := hI
    have hwb : w.bod = 0 := hI.b
    obtain ⟨u, rfl⟩ : ∃ u : Sr, w = u.z := ⟨w, (Sr.z_id hwb).symm⟩
    have hv2 : Vld u.z := hI.v
    have ulen : u.z.toks.length ≤ 6001 := hv2.len
    have ult : u.z.at_ < u.z.toks.length := hv2.lt
    have ufew : u.z.defs.length ≤ 1000000 := hv2.few
    have ui := hv2.i64
    by_cases he : e = 0
    ·subst he
     obtain ⟨hps, hz, hk2, hgo⟩ := hI.ok rfl
     obtain rfl : ps = (0, 0, 0) := hps
     have hz : zs.length ≤ u.z.at_ := hz
     have hk2 : u.z.toks.length ≤ k + u.z.at_ := hk2
     have hgo : pTail k u.z zs = X := hgo
     unfold pTail at hgo
     repeat ((conv => whnf); refine ⟨⟨rfl, rfl, ult⟩, ?_⟩)
     conv => whnf
     refine cI9 ?_ ?_<;>intro h12
     ·have h13 : sgnI u.z.tok ⟨#[44]⟩ = true := (bA9.1 (show (decide ((0 : Int) = 0) && sgnI u.z.tok ⟨#[44]⟩) = true from h12)).2
      rw [if_pos h13] at hgo
      have g3 := hv2.adv (sgnI_kind h13) 0
      have va3 := g3.vld hv2
      have alt3 : u.z.at_ + 1 < u.z.toks.length := g3.adv.lt
      obtain ⟨k, rfl⟩ : ∃ j, k = j + 1 := ⟨k - 1, by omega⟩
      have pa3 : ErOk u.z.adv.ok := ⟨va3, fun _ => rfl⟩
      have inv1 := PInv.next va3 rfl (by show zs.length ≤ u.z.at_ + 1; omega) (by show u.z.toks.length ≤ k + 1 + (u.z.at_ + 1); omega) hgo
      have hcap : ∀ x : prtC.den, zs.length + ([x] : List prtC.den).length ≤ capBound := fun _ => by
       show zs.length + 1 ≤ 1000000000000
       omega
      repeat ((conv => whnf); refine ⟨by first | exact ui | exact ⟨rfl, rfl, pa3, rfl⟩ | exact hcap _ | (repeat ((conv => whnf); refine ⟨by ((conv => whnf); first | exact ⟨rfl, rfl, rfl⟩ | exact ⟨rfl, rfl⟩ | exact ⟨by assumption, rfl, rfl, rfl⟩), ?_⟩)); ((conv => whnf); exact trivial) | omega | exact rfl, ?_⟩)
      conv => whnf
      refine kI9 (erOf (prtE u.z.adv).2, zs ++ [(prtE u.z.adv).1], k) [0, 1, 2, 3, 4, 5] rfl id6r ?_ ?_ ?_ ?_
      ·show _ = some (erH (erOf (prtE u.z.adv).2) ++ [.row [.int .i64 s.tok.2.2.2.1, .int .i64 s.tok.2.2.2.2.1, .int .i64 s.tok.2.2.2.2.2], .row [.int .i64 s.adv.tok.1, .str s.adv.tok.2.1, .int .i64 s.adv.tok.2.2.1, .int .i64 s.adv.tok.2.2.2.1, .int .i64 s.adv.tok.2.2.2.2.1, .int .i64 s.adv.tok.2.2.2.2.2], .row [.int .i64 3, .str e0, .str nm, .own 5 prtC (zs ++ [(prtE u.z.adv).1]), .int .i64 s.tok.2.2.2.1, .int .i64 s.tok.2.2.2.2.1, .int .i64 s.tok.2.2.2.2.2], .tok 61 prtC (zs ++ [(prtE u.z.adv).1]).length true])
       rw [zP9]
       rfl
      ·repeat first|exact kN9|refine kD9 ?_|refine kR9 rfl ?_
      ·exact inv1
      ·exact nS9 k
     ·have h13 : ¬ sgnI u.z.tok ⟨#[44]⟩ = true := fun h => by
       have h14 : (decide ((0 : Int) = 0) && sgnI u.z.tok ⟨#[44]⟩) = false := h12
       rw [h] at h14
       cases h14
      rw [if_neg h13] at hgo
      have e9 : zs = X.1 ∧ (⟨u.z, 0, 0, 0, 0⟩ : Er) = erOf X.2 := by
       rw [← hgo]
       exact ⟨rfl, rfl⟩
      have pw : ErW (addE (dfn 3 e0 nm zs s.tok) (Er.wb 0 u.z.ok)) := (ErW.wb (r := u.z.ok) ⟨ult, ulen, fun _ => rfl⟩ 0).add _
      conv => whnf
      rw [hKC]
      repeat ((conv => whnf); refine ⟨by first | exact ⟨rfl, rfl, ufew, fun h => by cases h⟩ | exact ⟨rfl, rfl, pw.lt, pw.len, pw.p⟩, ?_⟩)
      conv => whnf
      refine eE9 ⟨rfl, ?_⟩
      rw [if_pos (show sgnI q.tok ⟨#[61]⟩ = true from h11), ← hfin s.tok, ← e9.1, ← e9.2]
      rfl
    ·obtain ⟨hr1, hz1⟩ := hI.bad he
     have e9 : zs = X.1 ∧ (⟨u.z, e, ps⟩ : Er) = erOf X.2 := ⟨hz1, hr1⟩
     have pw : ErW (addE (dfn 3 e0 nm zs s.tok) (Er.wb 0 ⟨u.z, e, ps⟩)) := (ErW.wb (r := ⟨u.z, e, ps⟩) ⟨ult, ulen, fun h => absurd h he⟩ 0).add _
     cases e with
     | ofNat c =>
      cases c with
      | zero => exact absurd rfl he
      | succ c =>
       conv => whnf
       rw [hKC]
       repeat ((conv => whnf); refine ⟨by first | exact ⟨rfl, rfl, ufew, fun h => by cases h⟩ | exact ⟨rfl, rfl, pw.lt, pw.len, pw.p⟩, ?_⟩)
       conv => whnf
       refine eE9 ⟨rfl, ?_⟩
       rw [if_pos (show sgnI q.tok ⟨#[61]⟩ = true from h11), ← hfin s.tok, ← e9.1, ← e9.2]
       rfl
     | negSucc c =>
      conv => whnf
      rw [hKC]
      repeat ((conv => whnf); refine ⟨by first | exact ⟨rfl, rfl, ufew, fun h => by cases h⟩ | exact ⟨rfl, rfl, pw.lt, pw.len, pw.p⟩, ?_⟩)
      conv => whnf
      refine eE9 ⟨rfl, ?_⟩
      rw [if_pos (show sgnI q.tok ⟨#[61]⟩ = true from h11), ← hfin s.tok, ← e9.1, ← e9.2]
      rfl
   ·have h11 : ¬ sgnI q.z.tok ⟨#[61]⟩ = true := fun h => by
     have h12 : (decide ((0 : Int) = 0) && sgnI q.z.tok ⟨#[61]⟩) = false := h10
     rw [h] at h12
     cases h12
    rw [ew0] at ww
    have wfew := vp.few
    conv => whnf
    rw [hKC]
    repeat ((conv => whnf); refine ⟨by first | exact ⟨rfl, rfl, wfew, fun _ => rfl⟩ | exact ⟨rfl, rfl, ww.lt, ww.len, ww.p⟩, ?_⟩)
    conv => whnf
    refine eE9 ⟨rfl, ?_⟩
    rw [if_neg (show ¬ sgnI q.tok ⟨#[61]⟩ = true from h11), ← fin]
    rfl
  ·rw [if_neg hx0] at fin ⊢
   have he0 : ∃ v p, (wordE 1 2 s.z.ok) = ((takeS 1 prpB s).1.1, ⟨(takeS 1 prpB s).2.z, v, p⟩) ∧ ¬ v = 0 := ⟨(takeS 1 prpB s).1.2, (takeS 1 prpB s).2.tok.2.2.2, by rw [ew, erOf_n hx0]; rfl, hx0⟩
   obtain ⟨v, pv, ew0, hv0⟩ := he0
   rw [ew0] at fin ww wf
   show runC _ _ _ (.seq _ _) _ (erH (wordE 1 2 s.z.ok).2 ++ [_, _, .row [.int .i64 3, .str e0, .str (wordE 1 2 s.z.ok).1, .p (.v (.slice none 0 0)), .int .i64 s.tok.2.2.2.1, .int .i64 s.tok.2.2.2.2.1, .int .i64 s.tok.2.2.2.2.2]]) _
   rw [ew0]
   cases v with
   | ofNat c =>
    cases c with
    | zero => exact absurd rfl hv0
    | succ c =>
     repeat ((conv => whnf); refine ⟨by first | exact ⟨rfl, rfl, wf, fun _ => rfl⟩ | exact ⟨rfl, rfl, ww.lt, ww.len, ww.p⟩, ?_⟩)
     conv => whnf
     exact eE9 ⟨rfl, fin⟩
   | negSucc c =>
    repeat ((conv => whnf); refine ⟨by first | exact ⟨rfl, rfl, wf, fun _ => rfl⟩ | exact ⟨rfl, rfl, ww.lt, ww.len, ww.p⟩, ?_⟩)
    conv => whnf
    exact eE9 ⟨rfl, fin⟩
end
end Go.Ab
