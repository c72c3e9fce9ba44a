/- SourceCells: the text, read. -/
import Derived.Test.YtiommmilodcejaaGreatTX14toX15
import Derived.Test.YtiommmilodcejaaGreatTV24
import Derived.Test.YtiommmilodcejaaGreatTV15toV23
import Derived.Test.YtiommmilodcejaaGreatTX8toX9
import Derived.KernelRfl
namespace Go.Ab
open Go.Proofs
set_option linter.unusedSectionVars false
set_option maxRecDepth 100000
variable [Glob]

/-- What is left of the tokens. -/
def At (r : Sr) (us : List Tk) : Prop := (r.toks.drop r.at_).map tkOf = us

theorem At.lt {r : Sr} {t : Tk} {us : List Tk} (h : At r (t :: us)) : r.at_ < r.toks.length := by
  have h1 := congrArg List.length (show (r.toks.drop r.at_).map tkOf = t :: us from h)
  simp at h1
  omega

theorem At.cons {r : Sr} {t : Tk} {us : List Tk} (h : At r (t :: us)) : tkOf r.tok = t ∧ At r.adv us := by
  have hlt := h.lt
  unfold At at h
  rw [List.drop_eq_getElem_cons hlt, List.map_cons] at h
  obtain ⟨h1, h2⟩ := List.cons.inj h
  refine ⟨?_, h2⟩
  unfold Sr.tok
  rw [List.getD_eq_getElem?_getD, List.getElem?_eq_getElem hlt, Option.getD_some]
  exact h1

theorem At.k {r : Sr} {k : Int} {s : ByteArray} {v : Int} {us : List Tk} (h : At r ((k, s, v) :: us)) : r.tok.1 = k := by
  have := h.cons.1
  exact congrArg (fun t : Tk => t.1) this
theorem At.s {r : Sr} {k : Int} {s : ByteArray} {v : Int} {us : List Tk} (h : At r ((k, s, v) :: us)) : r.tok.2.1 = s := by
  have := h.cons.1
  exact congrArg (fun t : Tk => t.2.1) this
theorem At.v {r : Sr} {k : Int} {s : ByteArray} {v : Int} {us : List Tk} (h : At r ((k, s, v) :: us)) : r.tok.2.2.1 = v := by
  have := h.cons.1
  exact congrArg (fun t : Tk => t.2.2) this

theorem At.sgnI {r : Sr} {k : Int} {s : ByteArray} {v : Int} {us : List Tk} (h : At r ((k, s, v) :: us)) (x : ByteArray) : sgnI r.tok x = (decide (k = 4) && decide (s = x)) := by
  unfold Go.Ab.sgnI
  rw [h.k, h.s]
theorem At.wrdI {r : Sr} {k : Int} {s : ByteArray} {v : Int} {us : List Tk} (h : At r ((k, s, v) :: us)) (x : ByteArray) : wrdI r.tok x = (decide (k = 7) && decide (s = x)) := by
  unfold Go.Ab.wrdI
  rw [h.k, h.s]

theorem At.must {r : Sr} {s : ByteArray} {v : Int} {us : List Tk} (h : At r ((4, s, v) :: us)) : mustS s r = (0, r.adv) := by
  unfold mustS
  rw [if_pos (by rw [h.sgnI]; simp)]
theorem At.take {r : Sr} {k : Int} {s : ByteArray} {v : Int} {us : List Tk} (h : At r ((k, s, v) :: us)) (f : ByteArray → Bool) (hf : f s = true) : takeS k f r = ((s, 0), r.adv) := by
  unfold takeS
  rw [if_pos h.k, h.s, if_pos hf]

/-- A cell that is an operand. -/
theorem At.cel {r : Sr} {t : Tk} {es us : List Tk} {x : Int} {D : Nat} (hD : D ≤ 8) (h : At r (t :: (es ++ us))) (ho : OpdOk D (t :: (es ++ us)) x us) (h6 : t.1 ≠ 6) (hf : frontV (sgn (t :: (es ++ us))) = false) :
    celS r = (((x, e0), 0), { r with at_ := r.at_ + (es.length + 1) }) ∧ At { r with at_ := r.at_ + (es.length + 1) } us := by
  have hlt := h.lt
  have hlen := congrArg List.length (show (r.toks.drop r.at_).map tkOf = t :: (es ++ us) from h)
  simp only [List.length_map, List.length_drop, List.length_cons, List.length_append] at hlen
  have hk : ¬ r.tok.1 = 6 := by
    have := h.cons.1
    rw [show r.tok.1 = t.1 from congrArg (fun t : Tk => t.1) this]
    exact h6
  have hx : exprV true r.toks (r.at_ : Int) = (x, (r.toks.length : Int) - us.length, 0) := by
    unfold exprV
    rw [if_neg (by omega), Int.toNat_natCast, show (r.toks.drop r.at_).map tkOf = t :: (es ++ us) from h]
    unfold descV
    simp only
    rw [if_neg (by rw [hf]; decide), ho _ 0 fl0 (by omega) (by omega)]
    simp only
    rw [if_pos (by rfl)]
  refine ⟨?_, ?_⟩
  · unfold celS
    rw [if_neg hk, hx]
    simp only [if_true]
    have : ((r.toks.length : Int) - us.length).toNat = r.at_ + (es.length + 1) := by omega
    rw [this]
  · show (r.toks.drop (r.at_ + (es.length + 1))).map tkOf = us
    rw [← List.drop_drop, List.map_drop, show (r.toks.drop r.at_).map tkOf = t :: (es ++ us) from h]
    simp

structure Same (r q : Sr) : Prop where
  toks : q.toks = r.toks
  defs : q.defs = r.defs
  bod : q.bod = r.bod
theorem Same.refl (r : Sr) : Same r r := ⟨rfl, rfl, rfl⟩
theorem Same.adv (r : Sr) : Same r r.adv := ⟨rfl, rfl, rfl⟩
theorem Same.trans {a b c : Sr} (h : Same a b) (k : Same b c) : Same a c := ⟨k.toks.trans h.toks, k.defs.trans h.defs, k.bod.trans h.bod⟩

theorem At.add {r : Sr} {us : List Tk} (h : At r us) (d : defC.den) : At (r.add d) us := h

theorem celsS_end {n : Nat} {r : Sr} {v : Int} {us : List Tk} (h : At r ((4, ⟨#[62]⟩, v) :: us)) (out : List celC.den) : celsS (n + 1) r out = ((out, 0), r.adv) := by
  simp only [celsS]
  rw [if_pos (by rw [h.sgnI]; rfl)]

/-- The cells of the text. -/
theorem cells_run {n D : Nat} (hD : D ≤ 8) {r : Sr} {es us : List Tk} {x v : Int} (h : At r (tkSg sLp :: (es ++ (tkNum 5 :: (4, ⟨#[62]⟩, v) :: us)))) (ho : ∀ us, OpdOk D (tkSg sLp :: (es ++ us)) x us) :
    ∃ q, celsS (n + 3) r [] = (([(x, e0), (5, e0)], 0), q) ∧ At q us ∧ Same r q := by
  obtain ⟨e1, h1⟩ := h.cel hD (ho _) (by decide) rfl
  obtain ⟨e2, h2⟩ := At.cel (es := []) (x := 5) hD h1 (oN D (n := 5) (by decide) _) (by decide) rfl
  have n1 : ¬ sgnI r.tok ⟨#[62]⟩ = true := by rw [h.sgnI]; decide
  have n2 : ¬ sgnI ({ r with at_ := r.at_ + (es.length + 1) } : Sr).tok ⟨#[62]⟩ = true := by rw [h1.sgnI]; decide
  refine ⟨_, ?_, (h2.cons).2, ?_⟩
  · have e3 : celsS (n + 3) r [] = celsS (n + 2) { r with at_ := r.at_ + (es.length + 1) } [(x, e0)] := by
      show (if sgnI r.tok ⟨#[62]⟩ = true then _ else if (celS r).1.2 = 0 then celsS (n + 2) (celS r).2 ([] ++ [(celS r).1.1]) else _) = _
      rw [if_neg n1, e1]
      rfl
    rw [e3]
    have e4 : celsS (n + 2) { r with at_ := r.at_ + (es.length + 1) } [(x, e0)] = celsS (n + 1) { r with at_ := r.at_ + (es.length + 1) + (([] : List Tk).length + 1) } [(x, e0), (5, e0)] := by
      show (if sgnI ({ r with at_ := r.at_ + (es.length + 1) } : Sr).tok ⟨#[62]⟩ = true then _ else if (celS { r with at_ := r.at_ + (es.length + 1) }).1.2 = 0 then celsS (n + 1) (celS { r with at_ := r.at_ + (es.length + 1) }).2 ([(x, e0)] ++ [(celS { r with at_ := r.at_ + (es.length + 1) }).1.1]) else _) = _
      rw [if_neg n2, e2]
      rfl
    rw [e4, celsS_end h2]
  · exact ⟨rfl, rfl, rfl⟩

theorem numsS_num {n : Nat} {r : Sr} {x : Int} {s : ByteArray} {us : List Tk} (h : At r ((2, s, x) :: us)) (hx : ¬ 255 < x) (out : List Int) : numsS (n + 1) r out = numsS n r.adv (out ++ [IntKind.u8.wrap x]) := by
  simp only [numsS]
  rw [if_neg (by rw [h.sgnI]; simp), if_pos h.k, h.v, if_neg hx]
theorem numsS_end {n : Nat} {r : Sr} {v : Int} {us : List Tk} (h : At r ((4, ⟨#[93]⟩, v) :: us)) (out : List Int) : numsS (n + 1) r out = ((bytesOf out, 0), r.adv) := by
  simp only [numsS]
  rw [if_pos (by rw [h.sgnI]; rfl)]

abbrev sg (c : UInt8) : Tk := (4, ⟨#[c]⟩, 0)
/-- Behind the cells. -/
def tailT : List Tk := [sg 44, (3, ⟨#[115]⟩, 0), sg 44, sg 91, tkNum 1, tkNum 2, sg 93, sg 44, (6, ⟨#[120, 49]⟩, 0), sg 59, sg 125, sg 59, tkEnd]
def partsP (x : Int) : List prtC.den := [(1, [(x, e0), (5, e0)], e0), (2, [], ⟨#[115]⟩), (3, [], ⟨#[1, 2]⟩), (4, [], ⟨#[120, 49]⟩)]

theorem lab_x1 : labB ⟨#[120, 49]⟩ = true := by decide +kernel
theorem prp_p : prpB ⟨#[112]⟩ = true := by decide +kernel

theorem prts_go {n : Nat} {r : Sr} {p : prtC.den} {q : Sr} {us : List Tk} (h : prtS r = ((p, 0), q)) (hq : At q (sg 44 :: us)) (out : List prtC.den) : prtsS (n + 1) r out = prtsS n q.adv (out ++ [p]) := by
  simp only [prtsS]
  rw [h, if_pos rfl, if_pos (by rw [hq.sgnI]; rfl)]
theorem prts_end {n : Nat} {r : Sr} {p : prtC.den} {q : Sr} {us : List Tk} (h : prtS r = ((p, 0), q)) (hq : At q (sg 59 :: us)) (out : List prtC.den) : prtsS (n + 1) r out = ((out ++ [p], 0), q) := by
  simp only [prtsS]
  rw [h, if_pos rfl, if_neg (by rw [hq.sgnI]; decide)]

theorem parts_run {n D : Nat} (hD : D ≤ 8) {r : Sr} {es : List Tk} {x : Int} (hn : r.toks.length = n + 10) (h : At r (sg 60 :: tkSg sLp :: (es ++ (tkNum 5 :: sg 62 :: tailT)))) (ho : ∀ us, OpdOk D (tkSg sLp :: (es ++ us)) x us) :
    ∃ q, prtsS r.toks.length r [] = ((partsP x, 0), q) ∧ At q [sg 59, sg 125, sg 59, tkEnd] ∧ Same r q := by
  obtain ⟨q1, e1, h1, s1⟩ := cells_run (n := n + 7) hD h.cons.2 ho
  have p1 : prtS r = (((1, [(x, e0), (5, e0)], e0), 0), q1) := by
    unfold prtS
    rw [if_pos (by rw [h.sgnI]; rfl), hn, e1]
  have h2 := h1.cons.2
  have p2 : prtS q1.adv = (((2, [], ⟨#[115]⟩), 0), q1.adv.adv) := by
    unfold prtS
    rw [if_neg (by rw [h2.sgnI]; decide), if_neg (by rw [h2.sgnI]; decide), if_pos h2.k, h2.take _ rfl]
  have h3 := h2.cons.2
  have h4 := h3.cons.2
  have h5 := h4.cons.2
  have h6 := h5.cons.2
  have h7 := h6.cons.2
  have h8 := h7.cons.2
  have hl : q1.adv.adv.adv.toks.length = n + 10 := by show q1.toks.length = _; rw [s1.toks]; exact hn
  have p3 : prtS q1.adv.adv.adv = (((3, [], ⟨#[1, 2]⟩), 0), q1.adv.adv.adv.adv.adv.adv.adv) := by
    unfold prtS
    rw [if_neg (by rw [h4.sgnI]; decide), if_pos (by rw [h4.sgnI]; rfl), hl, numsS_num h5 (by decide), numsS_num h6 (by decide), numsS_end h7]
    rfl
  have h9 := h8.cons.2
  have p4 : prtS q1.adv.adv.adv.adv.adv.adv.adv.adv = (((4, [], ⟨#[120, 49]⟩), 0), q1.adv.adv.adv.adv.adv.adv.adv.adv.adv) := by
    unfold prtS
    rw [if_neg (by rw [h9.sgnI]; decide), if_neg (by rw [h9.sgnI]; decide), if_neg (by rw [h9.k]; decide), h9.take _ lab_x1]
  have h10 := h9.cons.2
  refine ⟨_, ?_, h10, (Same.adv r).trans (s1.trans ⟨rfl, rfl, rfl⟩)⟩
  rw [hn, prts_go p1 h1, prts_go p2 h3, prts_go p3 h8, prts_end p4 h10]
  rfl

abbrev pT : Tk := (1, ⟨#[112]⟩, 0)

theorem prp_run {n D : Nat} (hD : D ≤ 8) {r : Sr} {es : List Tk} {x : Int} (hn : r.toks.length = n + 10) (h : At r (pT :: sg 61 :: sg 60 :: tkSg sLp :: (es ++ (tkNum 5 :: sg 62 :: tailT)))) (ho : ∀ us, OpdOk D (tkSg sLp :: (es ++ us)) x us) :
    ∃ q, prpS r = (0, q) ∧ At q [sg 125, sg 59, tkEnd] ∧ q.toks = r.toks ∧ q.bod = r.bod ∧ q.defs = r.defs ++ [dfn 3 e0 ⟨#[112]⟩ (partsP x) r.tok] := by
  have e1 : nmS .prop r = ((⟨#[112]⟩, 0), r.adv) := h.take _ prp_p
  have h2 := h.cons.2
  obtain ⟨q, e2, h3, s3⟩ := parts_run hD (r := r.adv.adv) hn h2.cons.2 ho
  have h4 : At (q.add (dfn 3 e0 ⟨#[112]⟩ (partsP x) r.tok)) [sg 59, sg 125, sg 59, tkEnd] := h3
  refine ⟨(q.add (dfn 3 e0 ⟨#[112]⟩ (partsP x) r.tok)).adv, ?_, h4.cons.2, s3.toks, s3.bod, ?_⟩
  · unfold prpS
    simp only
    rw [e1]
    simp only [if_true]
    have e3 : sgnI r.adv.tok ⟨#[61]⟩ = true := by rw [h2.sgnI]; rfl
    rw [if_pos e3]
    have e4 : prtsS r.adv.toks.length r.adv.adv [] = ((partsP x, 0), q) := e2
    rw [e4]
    simp only [if_true]
    exact h4.must
  · show q.defs ++ [_] = _
    rw [s3.defs]
    rfl

/-- The whole text. -/
theorem tops_run {n D : Nat} (hD : D ≤ 8) {toks : List tkC.den} {es : List Tk} {x : Int} (hn : toks.length = n + 10) (h : toks.map tkOf = sg 47 :: sg 123 :: pT :: sg 61 :: sg 60 :: tkSg sLp :: (es ++ (tkNum 5 :: sg 62 :: tailT))) (ho : ∀ us, OpdOk D (tkSg sLp :: (es ++ us)) x us) :
    ∃ d1 d2 d3 q, topsS toks.length ⟨toks, 0, 0, []⟩ = (0, q) ∧ q.defs = [d1, dfn 3 e0 ⟨#[112]⟩ (partsP x) d2, d3] := by
  have h0 : At ⟨toks, 0, 0, []⟩ (sg 47 :: sg 123 :: pT :: sg 61 :: sg 60 :: tkSg sLp :: (es ++ (tkNum 5 :: sg 62 :: tailT))) := by
    show (toks.drop 0).map tkOf = _
    rw [List.drop_zero, h]
  generalize hr : (⟨toks, 0, 0, []⟩ : Sr) = r at h0
  have hrt : r.toks = toks := by rw [← hr]
  have hrb : r.bod = 0 := by rw [← hr]
  have hrd : r.defs = [] := by rw [← hr]
  have h1 := h0.cons.2
  let d1 := dfn 1 e0 ⟨#[47]⟩ [] r.tok
  have h1' : At (r.adv.add d1) (sg 123 :: pT :: sg 61 :: sg 60 :: tkSg sLp :: (es ++ (tkNum 5 :: sg 62 :: tailT))) := h1
  let r2 : Sr := { (r.adv.add d1).adv with bod := (r.adv.add d1).bod + 1 }
  have h2 : At r2 (pT :: sg 61 :: sg 60 :: tkSg sLp :: (es ++ (tkNum 5 :: sg 62 :: tailT))) := h1'.cons.2
  obtain ⟨q, e3, h3, t3, b3, d3⟩ := prp_run hD (n := n) (r := r2) (by show r.toks.length = _; rw [hrt]; exact hn) h2 ho
  have hmem : ∀ node, memF node r2 = (0, q) := fun node => by
    unfold memF
    rw [if_neg (by rw [h2.wrdI]; decide), if_neg (by rw [h2.wrdI]; decide), if_pos ⟨h2.k, by rw [h2.cons.2.sgnI]; decide⟩, e3]
  have hmems : ∀ node, memsF (memF node) (n + 10) r2 = (0, q) := fun node => by
    show (if sgnI r2.tok ⟨#[125]⟩ = true then _ else if (memF node r2).1 = 0 then memsF (memF node) (n + 9) (memF node r2).2 else memF node r2) = _
    rw [if_neg (by rw [h2.sgnI]; decide), hmem]
    show memsF (memF node) (n + 8 + 1) q = (0, q)
    simp only [memsF]
    rw [if_pos (by rw [h3.sgnI]; rfl)]
  let q2 : Sr := ({ q with bod := q.bod - 1 } : Sr).add (dfn 2 e0 e0 [] q.tok)
  have h4 : At q2 [sg 125, sg 59, tkEnd] := h3
  have hbod : bodS 6001 (r.adv.add d1) = (0, q2.adv) := by
    show bodF (memF (nodF (bodS 6000))) (r.adv.add d1) = _
    unfold bodF
    rw [if_pos (by rw [h1'.sgnI]; rfl), if_neg (by show ¬ 8 < r.bod; omega)]
    have hl : (r.adv.add d1).toks.length = n + 10 := by show r.toks.length = _; rw [hrt]; exact hn
    rw [hl]
    have e5 : memsF (memF (nodF (bodS 6000))) (n + 10) { (r.adv.add d1).adv with bod := (r.adv.add d1).bod + 1 } = (0, q) := hmems _
    simp only
    rw [e5]
    simp only [if_true]
    exact h4.must
  have h5 := h4.cons.2
  have htop : topS r = (0, q2.adv.adv) := by
    unfold topS
    rw [if_neg (by rw [h0.wrdI]; decide), if_neg (by rw [h0.wrdI]; decide), if_neg (by rw [h0.k]; decide)]
    rw [nodF_plain (by rw [h0.k]; decide)]
    unfold nodR
    simp only
    have e6 : nmS .root r = ((⟨#[47]⟩, 0), r.adv) := by
      show (((⟨#[47]⟩ : ByteArray), (mustS ⟨#[47]⟩ r).1), (mustS ⟨#[47]⟩ r).2) = _
      rw [h0.must]
    rw [e6]
    simp only [if_true]
    have e7 : bodS 6001 (r.adv.add (dfn 1 e0 ⟨#[47]⟩ [] r.tok)) = (0, q2.adv) := hbod
    rw [e7]
    simp only [if_true]
    exact h5.must
  have h6 := h5.cons.2
  refine ⟨d1, r2.tok, dfn 2 e0 e0 [] q.tok, q2.adv.adv, ?_, ?_⟩
  · rw [hn]
    show (if r.tok.1 = 8 then _ else if (topS r).1 = 0 then topsS (n + 9) (topS r).2 else topS r) = _
    rw [if_neg (by rw [h0.k]; decide), htop]
    show topsS (n + 8 + 1) q2.adv.adv = _
    simp only [topsS]
    rw [if_pos h6.k]
  · show q.defs ++ [dfn 2 e0 e0 [] q.tok] = _
    rw [d3]
    show (r.defs ++ [d1]) ++ [_] ++ [_] = _
    rw [hrd]
    rfl
end Go.Ab

/- SourceCells: the law. -/
namespace Go.Ab
open Go.Proofs
set_option linter.unusedSectionVars false
set_option maxRecDepth 100000
variable [Glob]

def tailL : List Tk := [sg 44, (3, ⟨#[115]⟩, 0), sg 44, sg 91, tkNum 1, tkNum 2, sg 93, sg 44, (6, ⟨#[120, 49]⟩, 0), sg 59, sg 125, sg 59]
theorem tail_eq : tailT = tailL ++ [tkEnd] := rfl

theorem lxS {c : UInt8} {l : List UInt8} {ts : List Tk} (hs : sepL ([c] ++ l) = (0, 0)) (hc : cutL ([c] ++ l) = ({ kind := 4, text := ⟨#[c]⟩ }, 1, 0)) (hl : Lx l ts) : Lx (c :: l) (sg c :: ts) :=
  Lx.tok (p := [c]) (t := { kind := 4, text := ⟨#[c]⟩ }) hs hc (show (4 : Int) ≠ 8 by decide) hl

theorem lx_tail : Lx [32, 53, 62, 44, 32, 34, 115, 34, 44, 32, 91, 32, 49, 32, 50, 32, 93, 44, 32, 38, 120, 49, 59, 32, 125, 59] (tkNum 5 :: sg 62 :: tailL) :=
  Lx.sp (Lx.tok (p := [53]) (t := { kind := 2, value := 5 }) (by kernel_rfl) (by kernel_rfl) (show (2 : Int) ≠ 8 by decide)
    (lxS (by kernel_rfl) (by kernel_rfl) (lxS (by kernel_rfl) (by kernel_rfl) (Lx.sp (Lx.tok (p := [34, 115, 34]) (t := { kind := 3, text := ⟨#[115]⟩ }) (by kernel_rfl) (by kernel_rfl) (show (3 : Int) ≠ 8 by decide)
    (lxS (by kernel_rfl) (by kernel_rfl) (Lx.sp (lxS (by kernel_rfl) (by kernel_rfl) (Lx.sp (Lx.tok (p := [49]) (t := { kind := 2, value := 1 }) (by kernel_rfl) (by kernel_rfl) (show (2 : Int) ≠ 8 by decide)
    (Lx.sp (Lx.tok (p := [50]) (t := { kind := 2, value := 2 }) (by kernel_rfl) (by kernel_rfl) (show (2 : Int) ≠ 8 by decide) (Lx.sp (lxS (by kernel_rfl) (by kernel_rfl) (lxS (by kernel_rfl) (by kernel_rfl)
    (Lx.sp (Lx.tok (p := [38, 120, 49]) (t := { kind := 6, text := ⟨#[120, 49]⟩ }) (by kernel_rfl) (by kernel_rfl) (show (6 : Int) ≠ 8 by decide)
    (lxS (by kernel_rfl) (by kernel_rfl) (Lx.sp (lxS (by kernel_rfl) (by kernel_rfl) (lxS (by kernel_rfl) (by kernel_rfl) Lx.nil)))))))))))))))))))))

theorem lx_head {l : List UInt8} {ts : List Tk} (h : Lx (40 :: l) ts) : Lx ([47, 32, 123, 32, 112, 32, 61, 32, 60] ++ 40 :: l) (sg 47 :: sg 123 :: pT :: sg 61 :: sg 60 :: ts) :=
  lxS (by kernel_rfl) (by kernel_rfl) (Lx.sp (lxS (by kernel_rfl) (by kernel_rfl) (Lx.sp (Lx.tok (p := [112]) (t := { kind := 1, text := ⟨#[112]⟩ }) (by kernel_rfl) (by kernel_rfl) (show (1 : Int) ≠ 8 by decide)
    (Lx.sp (lxS (by kernel_rfl) (by kernel_rfl) (Lx.sp (lxS (by kernel_rfl) (by kernel_rfl) h))))))))

/-- What a token is like, by all but its place. -/
def okK (t : Tk) : Bool := !(decide (t.1 = 7) && decide (t.2.1 = inclW)) && decide (t.2.1.size ≤ 16000) && decide (0 ≤ t.2.2) && decide (t.2.2 ≤ 4294967295)
theorem okT_map (toks : List tkC.den) : toks.all okT = (toks.map tkOf).all okK := by
  rw [List.all_map]
  rfl
theorem okK_g {t : Tk} (h : tkG t = true) : okK t = true := by
  unfold tkG at h
  unfold okK
  simp at h ⊢
  rcases h with ⟨⟨⟨h1, h2⟩, h3⟩, h4⟩ | ⟨⟨h1, h2⟩, h3⟩
  · refine ⟨⟨⟨?_, ?_⟩, h3⟩, h4⟩
    · omega
    · first | omega | (rw [h2]; decide)
  · refine ⟨⟨⟨?_, ?_⟩, ?_⟩, ?_⟩ <;> omega

def cellsT (a : ByteArray) : ByteArray := ⟨#[47, 32, 123, 32, 112, 32, 61, 32, 60, 40]⟩ ++ a ++ ⟨#[41, 32, 53, 62, 44, 32, 34, 115, 34, 44, 32, 91, 32, 49, 32, 50, 32, 93, 44, 32, 38, 120, 49, 59, 32, 125, 59]⟩

theorem cells_src {D L : Nat} (hD : D + 1 ≤ 8) (hL : L ≤ 5000) {l : List UInt8} {ts : List Tk} {x : Int} (h : ExOk D L l ts x) :
    (readV (cellsT (B l)) 0).toks.all okT = true ∧ ∃ d1 d2 d3, srcV (cellsT (B l)) 0 = ⟨[d1, dfn 3 e0 ⟨#[112]⟩ (partsP x) d2, d3], 0, 0, 0, 0⟩ := by
  have hp := h.par
  have h1 : Lx ([47, 32, 123, 32, 112, 32, 61, 32, 60] ++ 40 :: ((l ++ [41]) ++ [32, 53, 62, 44, 32, 34, 115, 34, 44, 32, 91, 32, 49, 32, 50, 32, 93, 44, 32, 38, 120, 49, 59, 32, 125, 59])) (sg 47 :: sg 123 :: pT :: sg 61 :: sg 60 :: (tkSg sLp :: (ts ++ [tkSg sRp]) ++ (tkNum 5 :: sg 62 :: tailL))) := lx_head (hp.lxb _ _ lx_tail)
  have ht : cellsT (B l) = B ([47, 32, 123, 32, 112, 32, 61, 32, 60] ++ 40 :: ((l ++ [41]) ++ [32, 53, 62, 44, 32, 34, 115, 34, 44, 32, 91, 32, 49, 32, 50, 32, 93, 44, 32, 38, 120, 49, 59, 32, 125, 59])) := by
    have bs : ∀ l : List UInt8, (⟨l.toArray⟩ : ByteArray) = B l := fun _ => rfl
    unfold cellsT
    rw [bs, bs, B_append, B_append]
    congr 1
    simp
  have hl1 := h.len
  have hl2 := h.tok
  obtain ⟨h2, h3⟩ := h1 0 6000 (1, 1) [] (by simp [tailL]; omega)
  rw [← readV_L _ 0 (by simp; omega)] at h2 h3
  rw [← ht] at h2 h3
  have h4 : (readV (cellsT (B l)) 0).toks.map tkOf = sg 47 :: sg 123 :: pT :: sg 61 :: sg 60 :: tkSg sLp :: ((ts ++ [tkSg sRp]) ++ (tkNum 5 :: sg 62 :: tailT)) := by
    rw [h3, tail_eq]
    simp
  have hn : ∃ n, (readV (cellsT (B l)) 0).toks.length = n + 10 := by
    have h5 := congrArg List.length h4
    simp [tailT] at h5
    exact ⟨(readV (cellsT (B l)) 0).toks.length - 10, by omega⟩
  obtain ⟨n, hn⟩ := hn
  refine ⟨?_, ?_⟩
  · rw [okT_map, h4]
    have hg : ts.all okK = true := List.all_eq_true.2 fun t ht => okK_g (List.all_eq_true.1 h.gd t ht)
    have e : (sg 47 :: sg 123 :: pT :: sg 61 :: sg 60 :: tkSg sLp :: ((ts ++ [tkSg sRp]) ++ (tkNum 5 :: sg 62 :: tailT))) = [sg 47, sg 123, pT, sg 61, sg 60, tkSg sLp] ++ (ts ++ ([tkSg sRp] ++ (tkNum 5 :: sg 62 :: tailT))) := by simp
    rw [e, List.all_append, List.all_append, hg]
    decide +kernel
  · obtain ⟨d1, d2, d3, q, h6, h7⟩ := tops_run (D := D + 1) hD hn h4 hp.op
    refine ⟨d1, d2, d3, ?_⟩
    unfold srcV
    rw [if_pos h2]
    simp only
    rw [h6]
    simp only [if_true]
    rw [h7]
end Go.Ab

/- SourceCells: the law. -/
namespace Go.Ab
open Go.Proofs
set_option linter.unusedSectionVars false
set_option maxRecDepth 100000
variable [Glob]

def saysTapeLaw' : Says := fun args H => match args, H with
  | [.c (.p (.l (.int .i64) _))], [] => some (none, .bool true, [])
  | _, _ => none

def Y66 : Table := ext X66 6 saysTapeLaw'

set_option maxHeartbeats 1000000 in
theorem y66 : TSound Tryz.prog Y66 := by
  refine ext_run x66 (f := 6) (fn := Tryz.f6) rfl rfl [0, 2, 3, 4, 5, 6, 8, 9, 39] fun args H p r H' hs hp => ?_
  unfold saysTapeLaw' at hs
  split at hs
  · rename_i zs
    cases hs
    refine ⟨Nat.le_of_ble_eq_true rfl, [], rfl, fun k hk => absurd hk (Nat.not_lt_zero k), ?_⟩
    have ht0 : tapeOk ((zs : List Int).take 500) 0 := by
      have := List.length_take_le 500 (zs : List Int)
      exact ⟨by decide, by decide, by omega⟩
    generalize hz : (zs : List Int).take 500 = ys at ht0
    obtain ⟨l, ts, hl, hx⟩ := exprT_ok ys 3 0 (by decide)
    have hr := hx.rng
    have hsz := (exprT_size ys 3 0 (by decide)).1
    obtain ⟨o1, d1, d2, d3, hS⟩ := cells_src (D := 3) (by decide) (by decide) hx
    rw [← hl] at o1 hS
    generalize hX : (exprT ys 3 0).2.1 = x at hr hS
    have hi64 : inI64 x := by unfold inI64; unfold In32 at hr; omega
    refine runF_shut rfl fun K0 hK0 => ?_
    refine seq_shut fun K1 hK1 => ?_
    repeat ((conv => whnf); refine ⟨by first | (unfold inI64; omega) | omega | exact ⟨by omega, by omega⟩ | (intro hg; first | (unfold inI64; omega) | omega | exact ⟨by omega, by omega⟩ | (simp [lit] at hg; unfold inI64; omega) | (simp [lit] at hg; omega) | (simp [lit] at hg; exact ⟨by omega, by omega⟩)) | (show (_ : Nat) + 1 ≤ 1000000000000; omega) | exact rfl | (unfold inI64; dsimp only; omega) | (dsimp only; omega) | (intro hg; simp [lit] at hg; first | (unfold inI64; dsimp only; omega) | (dsimp only; omega)) | decide +kernel, ?_⟩)
    conv => whnf
    rw [hK1]
    show runC _ _ _ (.seq _ _) _ _ _
    refine seq_shut fun K2 hK2 => ?_
    repeat ((conv => whnf); refine ⟨by first | (unfold inI64; omega) | omega | exact ⟨by omega, by omega⟩ | (intro hg; first | (unfold inI64; omega) | omega | exact ⟨by omega, by omega⟩ | (simp [lit] at hg; unfold inI64; omega) | (simp [lit] at hg; omega) | (simp [lit] at hg; exact ⟨by omega, by omega⟩)) | (show (_ : Nat) + 1 ≤ 1000000000000; omega) | exact rfl | (unfold inI64; dsimp only; omega) | (dsimp only; omega) | (intro hg; simp [lit] at hg; first | (unfold inI64; dsimp only; omega) | (dsimp only; omega)) | decide +kernel, ?_⟩)
    conv => whnf
    rw [hz, hK2]
    show runC _ _ _ (.seq _ _) _ _ _
    refine seq_shut fun K3 hK3 => ?_
    repeat ((conv => whnf); refine ⟨by first | exact ⟨ht0, by decide, by decide, by decide⟩ | (unfold inI64; omega) | omega | exact ⟨by omega, by omega⟩ | (intro hg; first | (unfold inI64; omega) | omega | exact ⟨by omega, by omega⟩ | (simp [lit] at hg; unfold inI64; omega) | (simp [lit] at hg; omega) | (simp [lit] at hg; exact ⟨by omega, by omega⟩)) | (show (_ : Nat) + 1 ≤ 1000000000000; omega) | exact rfl | (unfold inI64; dsimp only; omega) | (dsimp only; omega) | (intro hg; simp [lit] at hg; first | (unfold inI64; dsimp only; omega) | (dsimp only; omega)) | decide +kernel, ?_⟩)
    conv => whnf
    rw [hK3]
    show runC _ _ _ (.seq _ _) [(0, .s (.a (.c (.p (.l (.int .i64) zs))))), (2, .s (.bool false)), (3, .s (.a (.c (.ptr 0 0)))), (4, .s (.a (.c (.p (.v (.string (exprT ys 3 0).1)))))), (5, .s (.a (.c (.int .u32 (exprT ys 3 0).2.1)))), (6, .s .none), (8, .s .none), (9, .s .none), (39, .s .none)] [tapeO ys (exprT ys 3 0).2.2] _
    rw [hX]
    generalize (exprT ys 3 0).2.2 = n3
    generalize (exprT ys 3 0).1 = a at o1 hS hsz
    refine seq_shut fun K4 hK4 => ?_
    repeat ((conv => whnf); refine ⟨by first | (simp only [ByteArray.size_append, bsz2, List.size_toArray, List.length_cons, List.length_nil]; omega) | exact o1 | (unfold inI64; omega) | omega | exact ⟨by omega, by omega⟩ | (intro hg; first | (unfold inI64; omega) | omega | exact ⟨by omega, by omega⟩ | (simp [lit] at hg; unfold inI64; omega) | (simp [lit] at hg; omega) | (simp [lit] at hg; exact ⟨by omega, by omega⟩)) | (show (_ : Nat) + 1 ≤ 1000000000000; omega) | exact rfl | (unfold inI64; dsimp only; omega) | (dsimp only; omega) | (intro hg; simp [lit] at hg; first | (unfold inI64; dsimp only; omega) | (dsimp only; omega)) | decide +kernel, ?_⟩)
    conv => whnf
    rw [hK4]
    show runC _ _ _ (.seq _ _) [(0, .s (.a (.c (.p (.l (.int .i64) zs))))), (2, .s (.bool false)), (3, .s (.a (.c (.ptr 0 0)))), (4, .s (.a (.c (.p (.v (.string a)))))), (5, .s (.a (.c (.int .u32 x)))), (6, .s (.a (.c (.p (.l defC (srcV (cellsT a) 0).defs))))), (8, .s (.a (.c (.int .i64 (srcV (cellsT a) 0).err)))), (9, .s .none), (39, .s .none)] _ _
    rw [hS]
    have ix : ∀ {a b : Int}, decide (0 ≤ a) = true → decide (a < b) = true → 0 ≤ a ∧ a < b := fun h1 h2 => ⟨of_decide_eq_true h1, of_decide_eq_true h2⟩
    repeat ((conv => whnf); refine ⟨by first | exact fun _ => ix rfl rfl | exact ix rfl rfl | exact fun _ => hi64 | exact fun _ => ⟨by decide +kernel, by decide +kernel⟩ | (unfold inI64; omega) | omega | exact ⟨by omega, by omega⟩ | (intro hg; first | (unfold inI64; omega) | omega | exact ⟨by omega, by omega⟩ | (simp [lit] at hg; unfold inI64; omega) | (simp [lit] at hg; omega) | (simp [lit] at hg; exact ⟨by omega, by omega⟩)) | (show (_ : Nat) + 1 ≤ 1000000000000; omega) | exact rfl | (unfold inI64; dsimp only; omega) | (dsimp only; omega) | (intro hg; simp [lit] at hg; first | (unfold inI64; dsimp only; omega) | (dsimp only; omega)) | decide +kernel, ?_⟩)
    conv => whnf
    rw [hK0]
    conv => whnf
    refine ends_eq ⟨?_, rfl⟩
    simp [dfn, partsP, e0]
  · cases hs
end Go.Ab
