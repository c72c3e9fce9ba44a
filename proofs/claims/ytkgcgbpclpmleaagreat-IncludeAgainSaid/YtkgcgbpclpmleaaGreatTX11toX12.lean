/- Package source: nodes. -/
import Derived.Test.YtkgcgbpclpmleaaGreatTX8toX10
namespace Go.Ab
open Go.Proofs
set_option linter.unusedSectionVars false
set_option maxRecDepth 100000
variable [Glob]
def nodR (body : Sr → Int × Sr) (lbl : ByteArray) (t : tkC.den) (nm : Nm) (q : Sr) : Int × Sr :=
 let p := nmS nm q
 if p.1.2 = 0 then
  let b := body (p.2.add (dfn 1 lbl p.1.1 [] t))
  if b.1 = 0 then mustS ⟨#[59]⟩ b.2 else b
 else (p.1.2, p.2)
theorem nodF_label {body : Sr → Int × Sr} {nm : Nm} {r : Sr} (h : r.tok.1 = 5) : nodF body nm r = if (takeS 5 labB r).1.2 = 0 then nodR body (takeS 5 labB r).1.1 r.tok nm (takeS 5 labB r).2 else ((takeS 5 labB r).1.2, (takeS 5 labB r).2) := by
 unfold nodF nodR
 simp only
 rw [if_pos h]
theorem nodF_plain {body : Sr → Int × Sr} {nm : Nm} {r : Sr} (h : ¬ r.tok.1 = 5) : nodF body nm r = nodR body e0 r.tok nm r := by
 unfold nodF nodR
 simp only
 rw [if_neg h]
 rfl
theorem nod_facts {k : Nat} {r q : Sr} (hv : Vld r) (ha : Adv r q) (hb : q.bod = r.bod) {nm : Nm} (h : (nmS nm q).1.2 = 0) (hk : r.toks.length ≤ k + 1 + r.at_) (d : defC.den) :
  Vld ((nmS nm q).2.add d) ∧ ((nmS nm q).2.add d).toks.length ≤ k + ((nmS nm q).2.add d).at_ ∧ (nmS nm q).2.defs.length + 1 ≤ capBound ∧ ((bodS k ((nmS nm q).2.add d)).1 = 0 → Vld (bodS k ((nmS nm q).2.add d)).2) := by
 have vq := ha.vld hv (by rw [hb]; exact hv.bod)
 have h1 := nmS_good vq nm
 rw [h] at h1
 have h2 := ha.then hb h1
 have h3 := h2.add d
 have hbo : ((nmS nm q).2.add d).bod = r.bod := (h2.ok rfl).2.1
 have vx := h3.vld hv (by rw [hbo]; exact hv.bod)
 refine ⟨vx, ?_, (h2.vld hv).cap, fun h4 => ?_⟩
 ·rw [h3.toks]
  have h5 := (h2.ok rfl).1
  show r.toks.length ≤ k + (nmS nm q).2.at_
  omega
 ·have h5 := bodS_good k _ vx
  rw [h4] at h5
  exact h5.vld vx
def daC : List AV → Option FuncId
 | [.c (.clo _ f _)] => some f
 | _ => none
def eaC (f : FuncId) : List AV := [.c (.clo true f [0])]
def sB (k : Nat) : Says := saysR da0 ea0 (fun r _ => Vld r ∧ r.toks.length ≤ k + r.at_) fun r _ => (.int .i64 (bodS k r).1, (bodS k r).2)
def sN (k : Nat) : Says := saysR daC eaC (fun r f => Vld r ∧ r.toks.length ≤ k + 1 + r.at_ ∧ isNm f) fun r f => (.int .i64 (nodF (bodS k) (nmF f) r).1, (nodF (bodS k) (nmF f) r).2)
set_option maxHeartbeats 4000000 in
theorem yN (k : Nat) (hT : TS9 (ext Y59 93 (sB k))) : TS9 (ext (ext Y59 93 (sB k)) 85 (sN k)) := by
 refine extR hT 85 (fn := Tryz.f85) rfl rfl daC eaC _ _ (fun _ => nB9 rfl) [0, 1, 4, 5, 6, 7, 15, 23, 32, 47] fun r f hs => ?_
 obtain ⟨hv, hk, hf⟩ := hs
 rcases hf with rfl | rfl | rfl | rfl
 ·repeat ((conv => whnf); refine ⟨⟨rfl, rfl, hv⟩, ?_⟩)
  conv => whnf
  refine cI9 ?_ ?_<;>intro h
  ·have h1 : r.tok.1 = 5 := oT9 h
   rw [nodF_label h1]
   have hg0 := takeS_good hv (k := 5) (by decide) labB
   repeat ((conv => whnf); refine ⟨⟨rfl, rfl, hv, by decide, .inl rfl⟩, ?_⟩)
   conv => whnf
   refine cI9 ?_ ?_<;>intro h2
   ·have h3 : ¬ (takeS 5 labB r).1.2 = 0 := by
     have h4 : (!decide ((takeS 5 labB r).1.2 = 0)) = true := h2
     simpa using h4
    rw [if_neg h3]
    conv => whnf
    exact eR9
   ·have h3 : (takeS 5 labB r).1.2 = 0 := by
     have h4 : (!decide ((takeS 5 labB r).1.2 = 0)) = false := h2
     simpa using h4
    rw [if_pos h3]
    rw [h3] at hg0
    have vq := hg0.vld hv
    have hg := nmS_good vq .node
    rw [show nmF 128 = .node from rfl]
    repeat ((conv => whnf); refine ⟨⟨rfl, rfl, vq⟩, ?_⟩)
    conv => whnf
    refine cI9 ?_ ?_<;>intro h7
    ·have h8 : ¬ (nmS .node (takeS 5 labB r).2).1.2 = 0 := by
      have h9 : (!decide ((nmS .node (takeS 5 labB r).2).1.2 = 0)) = true := h7
      simpa using h9
     have e8 : nodR (bodS k) (takeS 5 labB r).1.1 r.tok .node (takeS 5 labB r).2 = ((nmS .node (takeS 5 labB r).2).1.2, (nmS .node (takeS 5 labB r).2).2) := by unfold nodR; simp only; rw [if_neg h8]
     rw [e8]
     conv => whnf
     exact eR9
    ·have h8 : (nmS .node (takeS 5 labB r).2).1.2 = 0 := by
      have h9 : (!decide ((nmS .node (takeS 5 labB r).2).1.2 = 0)) = false := h7
      simpa using h9
     obtain ⟨f1, f2, f3, f4⟩ := nod_facts hv hg0.adv (hg0.ok rfl).2.1 h8 hk (dfn 1 (takeS 5 labB r).1.1 (nmS .node (takeS 5 labB r).2).1.1 [] r.tok)
     repeat ((conv => whnf); refine ⟨by first | exact f3 | exact ⟨rfl, srH_add _ _, f1, f2⟩ | omega | exact rfl, ?_⟩)
     conv => whnf
     refine cI9 ?_ ?_<;>intro h10
     ·have h11 : ¬ (bodS k ((nmS .node (takeS 5 labB r).2).2.add (dfn 1 (takeS 5 labB r).1.1 (nmS .node (takeS 5 labB r).2).1.1 [] r.tok))).1 = 0 := by
       have h9 : (!decide ((bodS k ((nmS .node (takeS 5 labB r).2).2.add (dfn 1 (takeS 5 labB r).1.1 (nmS .node (takeS 5 labB r).2).1.1 [] r.tok))).1 = 0)) = true := h10
       simpa using h9
      have e8 : nodR (bodS k) (takeS 5 labB r).1.1 r.tok .node (takeS 5 labB r).2 = bodS k ((nmS .node (takeS 5 labB r).2).2.add (dfn 1 (takeS 5 labB r).1.1 (nmS .node (takeS 5 labB r).2).1.1 [] r.tok)) := by unfold nodR; simp only; rw [if_pos h8, if_neg h11]
      rw [e8]
      conv => whnf
      exact eR9
     ·have h11 : (bodS k ((nmS .node (takeS 5 labB r).2).2.add (dfn 1 (takeS 5 labB r).1.1 (nmS .node (takeS 5 labB r).2).1.1 [] r.tok))).1 = 0 := by
       have h9 : (!decide ((bodS k ((nmS .node (takeS 5 labB r).2).2.add (dfn 1 (takeS 5 labB r).1.1 (nmS .node (takeS 5 labB r).2).1.1 [] r.tok))).1 = 0)) = false := h10
       simpa using h9
      have e8 : nodR (bodS k) (takeS 5 labB r).1.1 r.tok .node (takeS 5 labB r).2 = mustS ⟨#[59]⟩ (bodS k ((nmS .node (takeS 5 labB r).2).2.add (dfn 1 (takeS 5 labB r).1.1 (nmS .node (takeS 5 labB r).2).1.1 [] r.tok))).2 := by unfold nodR; simp only; rw [if_pos h8, if_pos h11]
      rw [e8]
      have f5 := f4 h11
      repeat ((conv => whnf); refine ⟨⟨rfl, rfl, f5⟩, ?_⟩)
      conv => whnf
      exact eR9
  ·have h1 : ¬ r.tok.1 = 5 := oF9 h
   rw [nodF_plain h1]
   have hg := nmS_good hv .node
   rw [show nmF 128 = .node from rfl]
   repeat ((conv => whnf); refine ⟨⟨rfl, rfl, hv⟩, ?_⟩)
   conv => whnf
   refine cI9 ?_ ?_<;>intro h7
   ·have h8 : ¬ (nmS .node r).1.2 = 0 := by
     have h9 : (!decide ((nmS .node r).1.2 = 0)) = true := h7
     simpa using h9
    have e8 : nodR (bodS k) e0 r.tok .node r = ((nmS .node r).1.2, (nmS .node r).2) := by unfold nodR; simp only; rw [if_neg h8]
    rw [e8]
    conv => whnf
    exact eR9
   ·have h8 : (nmS .node r).1.2 = 0 := by
     have h9 : (!decide ((nmS .node r).1.2 = 0)) = false := h7
     simpa using h9
    obtain ⟨f1, f2, f3, f4⟩ := nod_facts hv hv.refl rfl h8 hk (dfn 1 e0 (nmS .node r).1.1 [] r.tok)
    repeat ((conv => whnf); refine ⟨by first | exact f3 | exact ⟨rfl, srH_add _ _, f1, f2⟩ | omega | exact rfl, ?_⟩)
    conv => whnf
    refine cI9 ?_ ?_<;>intro h10
    ·have h11 : ¬ (bodS k ((nmS .node r).2.add (dfn 1 e0 (nmS .node r).1.1 [] r.tok))).1 = 0 := by
      have h9 : (!decide ((bodS k ((nmS .node r).2.add (dfn 1 e0 (nmS .node r).1.1 [] r.tok))).1 = 0)) = true := h10
      simpa using h9
     have e8 : nodR (bodS k) e0 r.tok .node r = bodS k ((nmS .node r).2.add (dfn 1 e0 (nmS .node r).1.1 [] r.tok)) := by unfold nodR; simp only; rw [if_pos h8, if_neg h11]
     rw [e8]
     conv => whnf
     exact eR9
    ·have h11 : (bodS k ((nmS .node r).2.add (dfn 1 e0 (nmS .node r).1.1 [] r.tok))).1 = 0 := by
      have h9 : (!decide ((bodS k ((nmS .node r).2.add (dfn 1 e0 (nmS .node r).1.1 [] r.tok))).1 = 0)) = false := h10
      simpa using h9
     have e8 : nodR (bodS k) e0 r.tok .node r = mustS ⟨#[59]⟩ (bodS k ((nmS .node r).2.add (dfn 1 e0 (nmS .node r).1.1 [] r.tok))).2 := by unfold nodR; simp only; rw [if_pos h8, if_pos h11]
     rw [e8]
     have f5 := f4 h11
     repeat ((conv => whnf); refine ⟨⟨rfl, rfl, f5⟩, ?_⟩)
     conv => whnf
     exact eR9
 ·repeat ((conv => whnf); refine ⟨⟨rfl, rfl, hv⟩, ?_⟩)
  conv => whnf
  refine cI9 ?_ ?_<;>intro h
  ·have h1 : r.tok.1 = 5 := oT9 h
   rw [nodF_label h1]
   have hg0 := takeS_good hv (k := 5) (by decide) labB
   repeat ((conv => whnf); refine ⟨⟨rfl, rfl, hv, by decide, .inl rfl⟩, ?_⟩)
   conv => whnf
   refine cI9 ?_ ?_<;>intro h2
   ·have h3 : ¬ (takeS 5 labB r).1.2 = 0 := by
     have h4 : (!decide ((takeS 5 labB r).1.2 = 0)) = true := h2
     simpa using h4
    rw [if_neg h3]
    conv => whnf
    exact eR9
   ·have h3 : (takeS 5 labB r).1.2 = 0 := by
     have h4 : (!decide ((takeS 5 labB r).1.2 = 0)) = false := h2
     simpa using h4
    rw [if_pos h3]
    rw [h3] at hg0
    have vq := hg0.vld hv
    have hg := nmS_good vq .prop
    rw [show nmF 127 = .prop from rfl]
    repeat ((conv => whnf); refine ⟨⟨rfl, rfl, vq⟩, ?_⟩)
    conv => whnf
    refine cI9 ?_ ?_<;>intro h7
    ·have h8 : ¬ (nmS .prop (takeS 5 labB r).2).1.2 = 0 := by
      have h9 : (!decide ((nmS .prop (takeS 5 labB r).2).1.2 = 0)) = true := h7
      simpa using h9
     have e8 : nodR (bodS k) (takeS 5 labB r).1.1 r.tok .prop (takeS 5 labB r).2 = ((nmS .prop (takeS 5 labB r).2).1.2, (nmS .prop (takeS 5 labB r).2).2) := by unfold nodR; simp only; rw [if_neg h8]
     rw [e8]
     conv => whnf
     exact eR9
    ·have h8 : (nmS .prop (takeS 5 labB r).2).1.2 = 0 := by
      have h9 : (!decide ((nmS .prop (takeS 5 labB r).2).1.2 = 0)) = false := h7
      simpa using h9
     obtain ⟨f1, f2, f3, f4⟩ := nod_facts hv hg0.adv (hg0.ok rfl).2.1 h8 hk (dfn 1 (takeS 5 labB r).1.1 (nmS .prop (takeS 5 labB r).2).1.1 [] r.tok)
     repeat ((conv => whnf); refine ⟨by first | exact f3 | exact ⟨rfl, srH_add _ _, f1, f2⟩ | omega | exact rfl, ?_⟩)
     conv => whnf
     refine cI9 ?_ ?_<;>intro h10
     ·have h11 : ¬ (bodS k ((nmS .prop (takeS 5 labB r).2).2.add (dfn 1 (takeS 5 labB r).1.1 (nmS .prop (takeS 5 labB r).2).1.1 [] r.tok))).1 = 0 := by
       have h9 : (!decide ((bodS k ((nmS .prop (takeS 5 labB r).2).2.add (dfn 1 (takeS 5 labB r).1.1 (nmS .prop (takeS 5 labB r).2).1.1 [] r.tok))).1 = 0)) = true := h10
       simpa using h9
      have e8 : nodR (bodS k) (takeS 5 labB r).1.1 r.tok .prop (takeS 5 labB r).2 = bodS k ((nmS .prop (takeS 5 labB r).2).2.add (dfn 1 (takeS 5 labB r).1.1 (nmS .prop (takeS 5 labB r).2).1.1 [] r.tok)) := by unfold nodR; simp only; rw [if_pos h8, if_neg h11]
      rw [e8]
      conv => whnf
      exact eR9
     ·have h11 : (bodS k ((nmS .prop (takeS 5 labB r).2).2.add (dfn 1 (takeS 5 labB r).1.1 (nmS .prop (takeS 5 labB r).2).1.1 [] r.tok))).1 = 0 := by
       have h9 : (!decide ((bodS k ((nmS .prop (takeS 5 labB r).2).2.add (dfn 1 (takeS 5 labB r).1.1 (nmS .prop (takeS 5 labB r).2).1.1 [] r.tok))).1 = 0)) = false := h10
       simpa using h9
      have e8 : nodR (bodS k) (takeS 5 labB r).1.1 r.tok .prop (takeS 5 labB r).2 = mustS ⟨#[59]⟩ (bodS k ((nmS .prop (takeS 5 labB r).2).2.add (dfn 1 (takeS 5 labB r).1.1 (nmS .prop (takeS 5 labB r).2).1.1 [] r.tok))).2 := by unfold nodR; simp only; rw [if_pos h8, if_pos h11]
      rw [e8]
      have f5 := f4 h11
      repeat ((conv => whnf); refine ⟨⟨rfl, rfl, f5⟩, ?_⟩)
      conv => whnf
      exact eR9
  ·have h1 : ¬ r.tok.1 = 5 := oF9 h
   rw [nodF_plain h1]
   have hg := nmS_good hv .prop
   rw [show nmF 127 = .prop from rfl]
   repeat ((conv => whnf); refine ⟨⟨rfl, rfl, hv⟩, ?_⟩)
   conv => whnf
   refine cI9 ?_ ?_<;>intro h7
   ·have h8 : ¬ (nmS .prop r).1.2 = 0 := by
     have h9 : (!decide ((nmS .prop r).1.2 = 0)) = true := h7
     simpa using h9
    have e8 : nodR (bodS k) e0 r.tok .prop r = ((nmS .prop r).1.2, (nmS .prop r).2) := by unfold nodR; simp only; rw [if_neg h8]
    rw [e8]
    conv => whnf
    exact eR9
   ·have h8 : (nmS .prop r).1.2 = 0 := by
     have h9 : (!decide ((nmS .prop r).1.2 = 0)) = false := h7
     simpa using h9
    obtain ⟨f1, f2, f3, f4⟩ := nod_facts hv hv.refl rfl h8 hk (dfn 1 e0 (nmS .prop r).1.1 [] r.tok)
    repeat ((conv => whnf); refine ⟨by first | exact f3 | exact ⟨rfl, srH_add _ _, f1, f2⟩ | omega | exact rfl, ?_⟩)
    conv => whnf
    refine cI9 ?_ ?_<;>intro h10
    ·have h11 : ¬ (bodS k ((nmS .prop r).2.add (dfn 1 e0 (nmS .prop r).1.1 [] r.tok))).1 = 0 := by
      have h9 : (!decide ((bodS k ((nmS .prop r).2.add (dfn 1 e0 (nmS .prop r).1.1 [] r.tok))).1 = 0)) = true := h10
      simpa using h9
     have e8 : nodR (bodS k) e0 r.tok .prop r = bodS k ((nmS .prop r).2.add (dfn 1 e0 (nmS .prop r).1.1 [] r.tok)) := by unfold nodR; simp only; rw [if_pos h8, if_neg h11]
     rw [e8]
     conv => whnf
     exact eR9
    ·have h11 : (bodS k ((nmS .prop r).2.add (dfn 1 e0 (nmS .prop r).1.1 [] r.tok))).1 = 0 := by
      have h9 : (!decide ((bodS k ((nmS .prop r).2.add (dfn 1 e0 (nmS .prop r).1.1 [] r.tok))).1 = 0)) = false := h10
      simpa using h9
     have e8 : nodR (bodS k) e0 r.tok .prop r = mustS ⟨#[59]⟩ (bodS k ((nmS .prop r).2.add (dfn 1 e0 (nmS .prop r).1.1 [] r.tok))).2 := by unfold nodR; simp only; rw [if_pos h8, if_pos h11]
     rw [e8]
     have f5 := f4 h11
     repeat ((conv => whnf); refine ⟨⟨rfl, rfl, f5⟩, ?_⟩)
     conv => whnf
     exact eR9
 ·repeat ((conv => whnf); refine ⟨⟨rfl, rfl, hv⟩, ?_⟩)
  conv => whnf
  refine cI9 ?_ ?_<;>intro h
  ·have h1 : r.tok.1 = 5 := oT9 h
   rw [nodF_label h1]
   have hg0 := takeS_good hv (k := 5) (by decide) labB
   repeat ((conv => whnf); refine ⟨⟨rfl, rfl, hv, by decide, .inl rfl⟩, ?_⟩)
   conv => whnf
   refine cI9 ?_ ?_<;>intro h2
   ·have h3 : ¬ (takeS 5 labB r).1.2 = 0 := by
     have h4 : (!decide ((takeS 5 labB r).1.2 = 0)) = true := h2
     simpa using h4
    rw [if_neg h3]
    conv => whnf
    exact eR9
   ·have h3 : (takeS 5 labB r).1.2 = 0 := by
     have h4 : (!decide ((takeS 5 labB r).1.2 = 0)) = false := h2
     simpa using h4
    rw [if_pos h3]
    rw [h3] at hg0
    have vq := hg0.vld hv
    have hg := nmS_good vq .ref
    rw [show nmF 84 = .ref from rfl]
    repeat ((conv => whnf); refine ⟨⟨rfl, rfl, vq⟩, ?_⟩)
    conv => whnf
    refine cI9 ?_ ?_<;>intro h7
    ·have h8 : ¬ (nmS .ref (takeS 5 labB r).2).1.2 = 0 := by
      have h9 : (!decide ((nmS .ref (takeS 5 labB r).2).1.2 = 0)) = true := h7
      simpa using h9
     have e8 : nodR (bodS k) (takeS 5 labB r).1.1 r.tok .ref (takeS 5 labB r).2 = ((nmS .ref (takeS 5 labB r).2).1.2, (nmS .ref (takeS 5 labB r).2).2) := by unfold nodR; simp only; rw [if_neg h8]
     rw [e8]
     conv => whnf
     exact eR9
    ·have h8 : (nmS .ref (takeS 5 labB r).2).1.2 = 0 := by
      have h9 : (!decide ((nmS .ref (takeS 5 labB r).2).1.2 = 0)) = false := h7
      simpa using h9
     obtain ⟨f1, f2, f3, f4⟩ := nod_facts hv hg0.adv (hg0.ok rfl).2.1 h8 hk (dfn 1 (takeS 5 labB r).1.1 (nmS .ref (takeS 5 labB r).2).1.1 [] r.tok)
     repeat ((conv => whnf); refine ⟨by first | exact f3 | exact ⟨rfl, srH_add _ _, f1, f2⟩ | omega | exact rfl, ?_⟩)
     conv => whnf
     refine cI9 ?_ ?_<;>intro h10
     ·have h11 : ¬ (bodS k ((nmS .ref (takeS 5 labB r).2).2.add (dfn 1 (takeS 5 labB r).1.1 (nmS .ref (takeS 5 labB r).2).1.1 [] r.tok))).1 = 0 := by
       have h9 : (!decide ((bodS k ((nmS .ref (takeS 5 labB r).2).2.add (dfn 1 (takeS 5 labB r).1.1 (nmS .ref (takeS 5 labB r).2).1.1 [] r.tok))).1 = 0)) = true := h10
       simpa using h9
      have e8 : nodR (bodS k) (takeS 5 labB r).1.1 r.tok .ref (takeS 5 labB r).2 = bodS k ((nmS .ref (takeS 5 labB r).2).2.add (dfn 1 (takeS 5 labB r).1.1 (nmS .ref (takeS 5 labB r).2).1.1 [] r.tok)) := by unfold nodR; simp only; rw [if_pos h8, if_neg h11]
      rw [e8]
      conv => whnf
      exact eR9
     ·have h11 : (bodS k ((nmS .ref (takeS 5 labB r).2).2.add (dfn 1 (takeS 5 labB r).1.1 (nmS .ref (takeS 5 labB r).2).1.1 [] r.tok))).1 = 0 := by
       have h9 : (!decide ((bodS k ((nmS .ref (takeS 5 labB r).2).2.add (dfn 1 (takeS 5 labB r).1.1 (nmS .ref (takeS 5 labB r).2).1.1 [] r.tok))).1 = 0)) = false := h10
       simpa using h9
      have e8 : nodR (bodS k) (takeS 5 labB r).1.1 r.tok .ref (takeS 5 labB r).2 = mustS ⟨#[59]⟩ (bodS k ((nmS .ref (takeS 5 labB r).2).2.add (dfn 1 (takeS 5 labB r).1.1 (nmS .ref (takeS 5 labB r).2).1.1 [] r.tok))).2 := by unfold nodR; simp only; rw [if_pos h8, if_pos h11]
      rw [e8]
      have f5 := f4 h11
      repeat ((conv => whnf); refine ⟨⟨rfl, rfl, f5⟩, ?_⟩)
      conv => whnf
      exact eR9
  ·have h1 : ¬ r.tok.1 = 5 := oF9 h
   rw [nodF_plain h1]
   have hg := nmS_good hv .ref
   rw [show nmF 84 = .ref from rfl]
   repeat ((conv => whnf); refine ⟨⟨rfl, rfl, hv⟩, ?_⟩)
   conv => whnf
   refine cI9 ?_ ?_<;>intro h7
   ·have h8 : ¬ (nmS .ref r).1.2 = 0 := by
     have h9 : (!decide ((nmS .ref r).1.2 = 0)) = true := h7
     simpa using h9
    have e8 : nodR (bodS k) e0 r.tok .ref r = ((nmS .ref r).1.2, (nmS .ref r).2) := by unfold nodR; simp only; rw [if_neg h8]
    rw [e8]
    conv => whnf
    exact eR9
   ·have h8 : (nmS .ref r).1.2 = 0 := by
     have h9 : (!decide ((nmS .ref r).1.2 = 0)) = false := h7
     simpa using h9
    obtain ⟨f1, f2, f3, f4⟩ := nod_facts hv hv.refl rfl h8 hk (dfn 1 e0 (nmS .ref r).1.1 [] r.tok)
    repeat ((conv => whnf); refine ⟨by first | exact f3 | exact ⟨rfl, srH_add _ _, f1, f2⟩ | omega | exact rfl, ?_⟩)
    conv => whnf
    refine cI9 ?_ ?_<;>intro h10
    ·have h11 : ¬ (bodS k ((nmS .ref r).2.add (dfn 1 e0 (nmS .ref r).1.1 [] r.tok))).1 = 0 := by
      have h9 : (!decide ((bodS k ((nmS .ref r).2.add (dfn 1 e0 (nmS .ref r).1.1 [] r.tok))).1 = 0)) = true := h10
      simpa using h9
     have e8 : nodR (bodS k) e0 r.tok .ref r = bodS k ((nmS .ref r).2.add (dfn 1 e0 (nmS .ref r).1.1 [] r.tok)) := by unfold nodR; simp only; rw [if_pos h8, if_neg h11]
     rw [e8]
     conv => whnf
     exact eR9
    ·have h11 : (bodS k ((nmS .ref r).2.add (dfn 1 e0 (nmS .ref r).1.1 [] r.tok))).1 = 0 := by
      have h9 : (!decide ((bodS k ((nmS .ref r).2.add (dfn 1 e0 (nmS .ref r).1.1 [] r.tok))).1 = 0)) = false := h10
      simpa using h9
     have e8 : nodR (bodS k) e0 r.tok .ref r = mustS ⟨#[59]⟩ (bodS k ((nmS .ref r).2.add (dfn 1 e0 (nmS .ref r).1.1 [] r.tok))).2 := by unfold nodR; simp only; rw [if_pos h8, if_pos h11]
     rw [e8]
     have f5 := f4 h11
     repeat ((conv => whnf); refine ⟨⟨rfl, rfl, f5⟩, ?_⟩)
     conv => whnf
     exact eR9
 ·repeat ((conv => whnf); refine ⟨⟨rfl, rfl, hv⟩, ?_⟩)
  conv => whnf
  refine cI9 ?_ ?_<;>intro h
  ·have h1 : r.tok.1 = 5 := oT9 h
   rw [nodF_label h1]
   have hg0 := takeS_good hv (k := 5) (by decide) labB
   repeat ((conv => whnf); refine ⟨⟨rfl, rfl, hv, by decide, .inl rfl⟩, ?_⟩)
   conv => whnf
   refine cI9 ?_ ?_<;>intro h2
   ·have h3 : ¬ (takeS 5 labB r).1.2 = 0 := by
     have h4 : (!decide ((takeS 5 labB r).1.2 = 0)) = true := h2
     simpa using h4
    rw [if_neg h3]
    conv => whnf
    exact eR9
   ·have h3 : (takeS 5 labB r).1.2 = 0 := by
     have h4 : (!decide ((takeS 5 labB r).1.2 = 0)) = false := h2
     simpa using h4
    rw [if_pos h3]
    rw [h3] at hg0
    have vq := hg0.vld hv
    have hg := nmS_good vq .root
    rw [show nmF 86 = .root from rfl]
    repeat ((conv => whnf); refine ⟨⟨rfl, rfl, vq⟩, ?_⟩)
    conv => whnf
    refine cI9 ?_ ?_<;>intro h7
    ·have h8 : ¬ (nmS .root (takeS 5 labB r).2).1.2 = 0 := by
      have h9 : (!decide ((nmS .root (takeS 5 labB r).2).1.2 = 0)) = true := h7
      simpa using h9
     have e8 : nodR (bodS k) (takeS 5 labB r).1.1 r.tok .root (takeS 5 labB r).2 = ((nmS .root (takeS 5 labB r).2).1.2, (nmS .root (takeS 5 labB r).2).2) := by unfold nodR; simp only; rw [if_neg h8]
     rw [e8]
     conv => whnf
     exact eR9
    ·have h8 : (nmS .root (takeS 5 labB r).2).1.2 = 0 := by
      have h9 : (!decide ((nmS .root (takeS 5 labB r).2).1.2 = 0)) = false := h7
      simpa using h9
     obtain ⟨f1, f2, f3, f4⟩ := nod_facts hv hg0.adv (hg0.ok rfl).2.1 h8 hk (dfn 1 (takeS 5 labB r).1.1 (nmS .root (takeS 5 labB r).2).1.1 [] r.tok)
     repeat ((conv => whnf); refine ⟨by first | exact f3 | exact ⟨rfl, srH_add _ _, f1, f2⟩ | omega | exact rfl, ?_⟩)
     conv => whnf
     refine cI9 ?_ ?_<;>intro h10
     ·have h11 : ¬ (bodS k ((nmS .root (takeS 5 labB r).2).2.add (dfn 1 (takeS 5 labB r).1.1 (nmS .root (takeS 5 labB r).2).1.1 [] r.tok))).1 = 0 := by
       have h9 : (!decide ((bodS k ((nmS .root (takeS 5 labB r).2).2.add (dfn 1 (takeS 5 labB r).1.1 (nmS .root (takeS 5 labB r).2).1.1 [] r.tok))).1 = 0)) = true := h10
       simpa using h9
      have e8 : nodR (bodS k) (takeS 5 labB r).1.1 r.tok .root (takeS 5 labB r).2 = bodS k ((nmS .root (takeS 5 labB r).2).2.add (dfn 1 (takeS 5 labB r).1.1 (nmS .root (takeS 5 labB r).2).1.1 [] r.tok)) := by unfold nodR; simp only; rw [if_pos h8, if_neg h11]
      rw [e8]
      conv => whnf
      exact eR9
     ·have h11 : (bodS k ((nmS .root (takeS 5 labB r).2).2.add (dfn 1 (takeS 5 labB r).1.1 (nmS .root (takeS 5 labB r).2).1.1 [] r.tok))).1 = 0 := by
       have h9 : (!decide ((bodS k ((nmS .root (takeS 5 labB r).2).2.add (dfn 1 (takeS 5 labB r).1.1 (nmS .root (takeS 5 labB r).2).1.1 [] r.tok))).1 = 0)) = false := h10
       simpa using h9
      have e8 : nodR (bodS k) (takeS 5 labB r).1.1 r.tok .root (takeS 5 labB r).2 = mustS ⟨#[59]⟩ (bodS k ((nmS .root (takeS 5 labB r).2).2.add (dfn 1 (takeS 5 labB r).1.1 (nmS .root (takeS 5 labB r).2).1.1 [] r.tok))).2 := by unfold nodR; simp only; rw [if_pos h8, if_pos h11]
      rw [e8]
      have f5 := f4 h11
      repeat ((conv => whnf); refine ⟨⟨rfl, rfl, f5⟩, ?_⟩)
      conv => whnf
      exact eR9
  ·have h1 : ¬ r.tok.1 = 5 := oF9 h
   rw [nodF_plain h1]
   have hg := nmS_good hv .root
   rw [show nmF 86 = .root from rfl]
   repeat ((conv => whnf); refine ⟨⟨rfl, rfl, hv⟩, ?_⟩)
   conv => whnf
   refine cI9 ?_ ?_<;>intro h7
   ·have h8 : ¬ (nmS .root r).1.2 = 0 := by
     have h9 : (!decide ((nmS .root r).1.2 = 0)) = true := h7
     simpa using h9
    have e8 : nodR (bodS k) e0 r.tok .root r = ((nmS .root r).1.2, (nmS .root r).2) := by unfold nodR; simp only; rw [if_neg h8]
    rw [e8]
    conv => whnf
    exact eR9
   ·have h8 : (nmS .root r).1.2 = 0 := by
     have h9 : (!decide ((nmS .root r).1.2 = 0)) = false := h7
     simpa using h9
    obtain ⟨f1, f2, f3, f4⟩ := nod_facts hv hv.refl rfl h8 hk (dfn 1 e0 (nmS .root r).1.1 [] r.tok)
    repeat ((conv => whnf); refine ⟨by first | exact f3 | exact ⟨rfl, srH_add _ _, f1, f2⟩ | omega | exact rfl, ?_⟩)
    conv => whnf
    refine cI9 ?_ ?_<;>intro h10
    ·have h11 : ¬ (bodS k ((nmS .root r).2.add (dfn 1 e0 (nmS .root r).1.1 [] r.tok))).1 = 0 := by
      have h9 : (!decide ((bodS k ((nmS .root r).2.add (dfn 1 e0 (nmS .root r).1.1 [] r.tok))).1 = 0)) = true := h10
      simpa using h9
     have e8 : nodR (bodS k) e0 r.tok .root r = bodS k ((nmS .root r).2.add (dfn 1 e0 (nmS .root r).1.1 [] r.tok)) := by unfold nodR; simp only; rw [if_pos h8, if_neg h11]
     rw [e8]
     conv => whnf
     exact eR9
    ·have h11 : (bodS k ((nmS .root r).2.add (dfn 1 e0 (nmS .root r).1.1 [] r.tok))).1 = 0 := by
      have h9 : (!decide ((bodS k ((nmS .root r).2.add (dfn 1 e0 (nmS .root r).1.1 [] r.tok))).1 = 0)) = false := h10
      simpa using h9
     have e8 : nodR (bodS k) e0 r.tok .root r = mustS ⟨#[59]⟩ (bodS k ((nmS .root r).2.add (dfn 1 e0 (nmS .root r).1.1 [] r.tok))).2 := by unfold nodR; simp only; rw [if_pos h8, if_pos h11]
     rw [e8]
     have f5 := f4 h11
     repeat ((conv => whnf); refine ⟨⟨rfl, rfl, f5⟩, ?_⟩)
     conv => whnf
     exact eR9
abbrev tB (k : Nat) : Table := ext Y59 93 (sB k)
abbrev tN (k : Nat) : Table := ext (tB k) 85 (sN k)
def sM (k : Nat) : Says := saysR da0 ea0 (fun r _ => Vld r ∧ r.toks.length ≤ k + 1 + r.at_) fun r _ => (.int .i64 (memF (nodF (bodS k)) r).1, (memF (nodF (bodS k)) r).2)
theorem yM (k : Nat) (hT : TS9 (tN k)) : TS9 (ext (tN k) 113 (sM k)) := by
 refine extR hT 113 (fn := Tryz.f113) rfl rfl da0 ea0 _ _ (fun _ => nB9 rfl) [0, 2, 3, 6, 13, 20] fun r _ hs => ?_
 obtain ⟨hv, hk⟩ := hs
 have hi := hv.i64
 unfold memF
 repeat ((conv => whnf); refine ⟨⟨rfl, rfl, hv⟩, ?_⟩)
 conv => whnf
 refine cI9 ?_ ?_<;>intro h
 ·have h1 : wrdI r.tok ⟨#[100, 101, 108, 101, 116, 101, 45, 112, 114, 111, 112, 101, 114, 116, 121]⟩ = true := h
  rw [if_pos h1]
  repeat ((conv => whnf); refine ⟨⟨rfl, rfl, hv, wrdI_kind h1, .inr (.inl rfl)⟩, ?_⟩)
  conv => whnf
  exact eR9
 have h1 : ¬ wrdI r.tok ⟨#[100, 101, 108, 101, 116, 101, 45, 112, 114, 111, 112, 101, 114, 116, 121]⟩ = true := by
  have h2 : wrdI r.tok ⟨#[100, 101, 108, 101, 116, 101, 45, 112, 114, 111, 112, 101, 114, 116, 121]⟩ = false := h
  rw [h2]; simp
 rw [if_neg h1]
 conv => whnf
 refine cI9 ?_ ?_<;>intro h3
 ·have h4 : wrdI r.tok ⟨#[100, 101, 108, 101, 116, 101, 45, 110, 111, 100, 101]⟩ = true := h3
  rw [if_pos h4]
  repeat ((conv => whnf); refine ⟨⟨rfl, rfl, hv, wrdI_kind h4, .inl rfl⟩, ?_⟩)
  conv => whnf
  exact eR9
 have h4 : ¬ wrdI r.tok ⟨#[100, 101, 108, 101, 116, 101, 45, 110, 111, 100, 101]⟩ = true := by
  have h2 : wrdI r.tok ⟨#[100, 101, 108, 101, 116, 101, 45, 110, 111, 100, 101]⟩ = false := h3
  rw [h2]; simp
 rw [if_neg h4]
 have hin : lit true (decide (r.tok.1 = 1)) = true → 0 ≤ (r.at_ : Int) + 1 ∧ (r.at_ : Int) + 1 < (r.toks.length : Nat) := fun hg => by
  have h5 : r.tok.1 = 1 := by simpa [lit] using hg
  have h6 := (hv.adv (show r.tok.1 ≠ 8 by rw [h5]; decide) 0).adv.lt
  have h7 : r.at_ + 1 < r.toks.length := h6
  omega
 repeat ((conv => whnf); refine ⟨by first | exact hin | exact fun _ => hi | exact rfl, ?_⟩)
 conv => whnf
 refine cI9 ?_ ?_<;>intro h5
 ·have h6 : r.tok.1 = 1 ∧ sgnI r.adv.tok ⟨#[123]⟩ = false := by
   have h7 : (decide (r.tok.1 = 1) && !sgnI r.adv.tok ⟨#[123]⟩) = true := h5
   simpa using h7
  rw [if_pos h6]
  repeat ((conv => whnf); refine ⟨⟨rfl, rfl, hv⟩, ?_⟩)
  conv => whnf
  exact eR9
 ·have h6 : ¬ (r.tok.1 = 1 ∧ sgnI r.adv.tok ⟨#[123]⟩ = false) := by
   have h7 : (decide (r.tok.1 = 1) && !sgnI r.adv.tok ⟨#[123]⟩) = false := h5
   simpa using h7
  rw [if_neg h6]
  repeat ((conv => whnf); refine ⟨⟨rfl, rfl, hv, hk, .inl rfl⟩, ?_⟩)
  conv => whnf
  exact eR9
abbrev tM (k : Nat) : Table := ext (tN k) 113 (sM k)
theorem srH_addz (q : Sr) (d : defC.den) (z : Nat) (b : Int) (hz : (z : Int) = b) : [AO.row [.p (.l tkC q.toks), .int .i64 q.at_, .int .i64 b, .own 1 defC (q.defs ++ [d])], .tok 39 defC (q.defs.length + 1) true] = srH ({ q with bod := z }.add d) := by
 subst hz
 exact srH_add { q with bod := z } d
set_option maxHeartbeats 1000000 in
theorem yB (k : Nat) (hT : TS9 (tM k)) : TS9 (ext (tM k) 93 (sB (k + 1))) := by
 refine extR hT 93 (fn := Tryz.f93) rfl rfl da0 ea0 _ _ (fun _ => nB9 rfl) [0, 2, 3, 4, 14, 18, 30, 34] fun r _ hs => ?_
 obtain ⟨hv, hk⟩ := hs
 have hb9 := hv.bod
 have hi : inI64 ((r.bod : Int) + 1) := by unfold inI64; omega
 have hm : ∀ q, Vld q → Good q (memF (nodF (bodS k)) q).1 (memF (nodF (bodS k)) q).2 := fun q hq => memF_good (fun q nm h => nodF_good (bodS_good k) h nm) hq
 show runF _ _ _ _ _ _ fun r' H'' => Ends r' H'' (.int .i64 (bodF (memF (nodF (bodS k))) r).1) (srH (bodF (memF (nodF (bodS k))) r).2)
 unfold bodF
 repeat ((conv => whnf); refine ⟨⟨rfl, rfl, hv⟩, ?_⟩)
 conv => whnf
 refine cI9 ?_ ?_<;>intro h
 ·have h1 : sgnI r.tok ⟨#[123]⟩ = true ∧ 8 < r.bod := by
   have h2 : (sgnI r.tok ⟨#[123]⟩ && decide (8 < (r.bod : Int))) = true := h
   obtain ⟨h3, h4⟩ := bA9.1 h2
   exact ⟨h3, by have := oT9 h4; omega⟩
  rw [if_pos h1.1, if_pos h1.2]
  conv => whnf
  exact eR9
 have h1 : ¬ (sgnI r.tok ⟨#[123]⟩ = true ∧ 8 < r.bod) := by
  have h2 : (sgnI r.tok ⟨#[123]⟩ && decide (8 < (r.bod : Int))) = false := h
  rintro ⟨h3, h4⟩
  rw [h3, dT9 (by omega)] at h2
  cases h2
 repeat ((conv => whnf); refine ⟨⟨rfl, rfl, hv⟩, ?_⟩)
 conv => whnf
 refine cI9 ?_ ?_<;>intro h2
 ·have h3 : ¬ sgnI r.tok ⟨#[123]⟩ = true := by
   have h4 : (!decide ((mustS ⟨#[123]⟩ r).1 = 0)) = true := h2
   intro h5
   unfold mustS at h4
   rw [if_pos h5] at h4
   cases h4
  have e : mustS ⟨#[123]⟩ r = (6, r) := by unfold mustS; rw [if_neg h3]
  rw [if_neg h3]
  conv => whnf
  refine eE9 ⟨?_, ?_⟩
  ·show SV.int .i64 (mustS ⟨#[123]⟩ r).1 = SV.int .i64 6
   rw [e]
  ·show srH (mustS ⟨#[123]⟩ r).2 = srH r
   rw [e]
 have h3 : sgnI r.tok ⟨#[123]⟩ = true := by
  have h4 : (!decide ((mustS ⟨#[123]⟩ r).1 = 0)) = false := h2
  unfold mustS at h4
  split at h4
  ·assumption
  ·cases h4
 have e : mustS ⟨#[123]⟩ r = (0, r.adv) := by unfold mustS; rw [if_pos h3]
 have h8 : ¬ 8 < r.bod := fun h => h1 ⟨h3, h⟩
 rw [if_pos h3, if_neg h8]
 have hi2 : inI64 (((mustS ⟨#[123]⟩ r).2.bod : Int) + 1) := by rw [e]; exact hi
 have g1 := hv.adv (sgnI_kind h3) 0
 have v1 : Vld { r.adv with bod := r.bod + 1 } := ⟨hv.len, g1.adv.lt, hv.lst, hv.fit, by have := hv.dfs; show r.defs.length ≤ 2 * (r.at_ + 1); omega, by show r.bod + 1 ≤ 9; omega⟩
 repeat ((conv => whnf); refine ⟨hi2, ?_⟩)
 conv => whnf
 refine lI9 (σ := Sr × Nat) (fun _ => [(0, XV.s (.a (.c (.ptr 0 0)))), (2, nX9), (3, nX9), (4, nX9), (14, nX9), (18, nX9), (30, nX9), (34, nX9)])
  (fun ⟨q, _⟩ => srH q) (fun ⟨q, n⟩ => Vld q ∧ Adv { r.adv with bod := r.bod + 1 } q ∧ q.bod = r.bod + 1 ∧ q.toks.length ≤ n + q.at_ ∧ memsF (memF (nodF (bodS k))) n q = memsF (memF (nodF (bodS k))) r.toks.length { r.adv with bod := r.bod + 1 }) (fun ⟨_, n⟩ => n)
  ({ r.adv with bod := r.bod + 1 }, r.toks.length) ?_ ?_ ?_ ?_
 ·repeat first|exact lN9|refine lD9 ?_|refine lS9 ?_
 ·show [AO.row [.p (.l tkC (mustS ⟨#[123]⟩ r).2.toks), .int .i64 (mustS ⟨#[123]⟩ r).2.at_, .int .i64 (((mustS ⟨#[123]⟩ r).2.bod : Int) + 1), .own 1 defC (mustS ⟨#[123]⟩ r).2.defs], .tok 39 defC (mustS ⟨#[123]⟩ r).2.defs.length true] = srH { r.adv with bod := r.bod + 1 }
  rw [e]
  rfl
 ·exact ⟨v1, v1.refl, rfl, Nat.le_add_right _ _, rfl⟩
 rintro ⟨q, n⟩ ⟨hq, ha, hb, hn, hgo⟩
 have hql := hq.lt
 have hal := ha.le
 have hat : q.toks = r.toks := ha.toks
 have hle : r.at_ + 1 ≤ q.at_ := hal
 have hk2 : q.toks.length ≤ k + 1 + q.at_ := by rw [hat]; omega
 obtain ⟨n, rfl⟩ : ∃ j, n = j + 1 := ⟨n - 1, by omega⟩
 simp only [memsF] at hgo
 repeat ((conv => whnf); refine ⟨⟨rfl, rfl, hq⟩, ?_⟩)
 conv => whnf
 refine cI9 ?_ ?_<;>intro h4
 ·have h5 : ¬ sgnI q.tok ⟨#[125]⟩ = true := by
   have h6 : (!sgnI q.tok ⟨#[125]⟩) = true := h4
   simpa using h6
  rw [if_neg h5] at hgo
  have g3 := hm q hq
  repeat ((conv => whnf); refine ⟨⟨rfl, rfl, hq, hk2⟩, ?_⟩)
  conv => whnf
  refine cI9 ?_ ?_<;>intro h6
  ·have h7 : ¬ (memF (nodF (bodS k)) q).1 = 0 := by
    have h9 : (!decide ((memF (nodF (bodS k)) q).1 = 0)) = true := h6
    simpa using h9
   rw [if_neg h7] at hgo
   simp only
   rw [← hgo, if_neg h7]
   conv => whnf
   exact eR9
  ·have h7 : (memF (nodF (bodS k)) q).1 = 0 := by
    have h9 : (!decide ((memF (nodF (bodS k)) q).1 = 0)) = false := h6
    simpa using h9
   rw [if_pos h7] at hgo
   rw [h7] at g3
   conv => whnf
   refine hI9 ((memF (nodF (bodS k)) q).2, n) ?_ ?_ ?_ ?_
   ·repeat first|exact lN9|refine lD9 ?_|refine lS9 ?_
   ·rfl
   ·refine ⟨g3.vld hq, ha.trans g3.adv, (g3.ok rfl).2.1.trans hb, ?_, hgo⟩
    rw [g3.adv.toks]
    have := (g3.ok rfl).1
    show q.toks.length ≤ n + (memF (nodF (bodS k)) q).2.at_
    omega
   ·exact nS9 n
 ·have h5 : sgnI q.tok ⟨#[125]⟩ = true := by
   have h6 : (!sgnI q.tok ⟨#[125]⟩) = false := h4
   simpa using h6
  rw [if_pos h5] at hgo
  simp only
  rw [← hgo]
  simp only [if_true]
  have hbi : inI64 ((q.bod : Int) - 1) := by unfold inI64; omega
  have hz : ((((q.bod : Int) - 1).toNat : Nat) : Int) = (q.bod : Int) - 1 := by omega
  have hz2 : ((q.bod : Int) - 1).toNat = q.bod - 1 := by omega
  have vz : Vld { q with bod := ((q.bod : Int) - 1).toNat } := ⟨hq.len, hq.lt, hq.lst, hq.fit, hq.dfs, by show ((q.bod : Int) - 1).toNat ≤ 9; omega⟩
  have hH : [AO.row [.p (.l tkC q.toks), .int .i64 q.at_, .int .i64 ((q.bod : Int) - 1), .own 1 defC q.defs], .tok 39 defC q.defs.length true] = srH { q with bod := ((q.bod : Int) - 1).toNat } := by
   show _ = [AO.row [.p (.l tkC q.toks), .int .i64 q.at_, .int .i64 ((((q.bod : Int) - 1).toNat : Nat) : Int), .own 1 defC q.defs], .tok 39 defC q.defs.length true]
   rw [hz]
  have cap := hq.cap
  have c1 : Vld (({ q with bod := ((q.bod : Int) - 1).toNat } : Sr).add (dfn 2 e0 e0 [] q.tok)) := by
   refine ⟨hq.len, hq.lt, hq.lst, hq.fit, ?_, vz.bod⟩
   show (q.defs ++ [dfn 2 e0 e0 [] q.tok]).length ≤ 2 * q.at_
   rw [zP9]
   show q.defs.length + 1 ≤ 2 * q.at_
   have d1 := ha.dfs
   have d2 : q.defs.length + 2 * (r.at_ + 1) ≤ r.defs.length + 2 * q.at_ := d1
   have d3 := hv.dfs
   omega
  repeat ((conv => whnf); refine ⟨by first | exact hbi | exact ⟨⟨rfl, hH, vz⟩, rfl⟩ | exact cap | exact ⟨rfl, srH_addz q _ _ _ hz, c1⟩ | omega | exact rfl, ?_⟩)
  conv => whnf
  rw [← hz2]
  exact eR9
theorem tBk : ∀ k, TS9 (tB k) := by
 intro k
 induction k with
 | zero =>
  refine extR y59 93 (fn := Tryz.f93) rfl rfl da0 ea0 _ _ (fun _ => nB9 rfl) [0, 2, 3, 4, 14, 18, 30, 34] fun r _ hs => ?_
  obtain ⟨hv, hk⟩ := hs
  have := hv.lt
  omega
 | succ k ih => exact ext_only (yB k (yM k (yN k ih))) y59
end Go.Ab
