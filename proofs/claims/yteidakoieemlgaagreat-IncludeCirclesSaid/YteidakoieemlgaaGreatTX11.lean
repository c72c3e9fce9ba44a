/- Package source: nodes. -/
import Derived.Test.YteidakoieemlgaaGreatTX10
namespace Go.Ab
open Go.Proofs
set_option linter.unusedSectionVars false
set_option maxRecDepth 100000
variable [Glob]

def nodR (body : Sr → Int × Sr) (lbl : ByteArray) (t : tkC.den) (nm : Nm) (q : Sr) : Int × Sr :=
  let p := nmS nm q
  if p.1.2 = 0 then
    let b := body (p.2.add (dfn 1 lbl p.1.1 [] t))
    if b.1 = 0 then mustS ⟨#[59]⟩ b.2 else b
  else (p.1.2, p.2)

theorem nodF_label {body : Sr → Int × Sr} {nm : Nm} {r : Sr} (h : r.tok.1 = 5) : nodF body nm r = if (takeS 5 labB r).1.2 = 0 then nodR body (takeS 5 labB r).1.1 r.tok nm (takeS 5 labB r).2 else ((takeS 5 labB r).1.2, (takeS 5 labB r).2) := by
  unfold nodF nodR
  simp only
  rw [if_pos h]
theorem nodF_plain {body : Sr → Int × Sr} {nm : Nm} {r : Sr} (h : ¬ r.tok.1 = 5) : nodF body nm r = nodR body e0 r.tok nm r := by
  unfold nodF nodR
  simp only
  rw [if_neg h]
  rfl

theorem nod_facts {k : Nat} {r q : Sr} (hv : Vld r) (ha : Adv r q) (hb : q.bod = r.bod) {nm : Nm} (h : (nmS nm q).1.2 = 0) (hk : r.toks.length ≤ k + 1 + r.at_) (d : defC.den) :
    Vld ((nmS nm q).2.add d) ∧ ((nmS nm q).2.add d).toks.length ≤ k + ((nmS nm q).2.add d).at_ ∧ (nmS nm q).2.defs.length + 1 ≤ capBound ∧ ((bodS k ((nmS nm q).2.add d)).1 = 0 → Vld (bodS k ((nmS nm q).2.add d)).2) := by
  have vq := ha.vld hv (by rw [hb]; exact hv.bod)
  have h1 := nmS_good vq nm
  rw [h] at h1
  have h2 := ha.then hb h1
  have h3 := h2.add d
  have hbo : ((nmS nm q).2.add d).bod = r.bod := (h2.ok rfl).2.1
  have vx := h3.vld hv (by rw [hbo]; exact hv.bod)
  refine ⟨vx, ?_, (h2.vld hv).cap, fun h4 => ?_⟩
  · rw [h3.toks]
    have h5 := (h2.ok rfl).1
    show r.toks.length ≤ k + (nmS nm q).2.at_
    omega
  · have h5 := bodS_good k _ vx
    rw [h4] at h5
    exact h5.vld vx

def daC : List AV → Option FuncId
  | [.c (.clo _ f _)] => some f
  | _ => none
def eaC (f : FuncId) : List AV := [.c (.clo true f [0])]

def sB (k : Nat) : Says := saysR da0 ea0 (fun r _ => Vld r ∧ r.toks.length ≤ k + r.at_) fun r _ => (.int .i64 (bodS k r).1, (bodS k r).2)
def sN (k : Nat) : Says := saysR daC eaC (fun r f => Vld r ∧ r.toks.length ≤ k + 1 + r.at_ ∧ isNm f) fun r f => (.int .i64 (nodF (bodS k) (nmF f) r).1, (nodF (bodS k) (nmF f) r).2)

set_option maxHeartbeats 4000000 in
theorem yN (k : Nat) (hT : TSound Tryz.prog (ext Y59 76 (sB k))) : TSound Tryz.prog (ext (ext Y59 76 (sB k)) 55 (sN k)) := by
  refine extR hT 55 (fn := Tryz.f55) rfl rfl daC eaC _ _ (fun _ => Nat.le_of_ble_eq_true rfl) [0, 1, 4, 5, 6, 7, 15, 23, 32, 47] fun r f hs => ?_
  obtain ⟨hv, hk, hf⟩ := hs
  rcases hf with rfl | rfl | rfl | rfl
  · repeat ((conv => whnf); refine ⟨by first | exact ⟨rfl, rfl, hv⟩ | (unfold inI64; omega) | omega | exact ⟨by omega, by omega⟩ | (intro hg; first | (unfold inI64; omega) | omega | exact ⟨by omega, by omega⟩ | (simp [lit] at hg; unfold inI64; omega) | (simp [lit] at hg; omega) | (simp [lit] at hg; exact ⟨by omega, by omega⟩)) | (show (_ : Nat) + 1 ≤ 1000000000000; omega) | exact rfl | (unfold inI64; dsimp only; omega) | (dsimp only; omega) | (intro hg; simp [lit] at hg; first | (unfold inI64; dsimp only; omega) | (dsimp only; omega)) | decide +kernel, ?_⟩)
    conv => whnf
    refine cond_intro (fun h => ?_) (fun h => ?_)
    · have h1 : r.tok.1 = 5 := of_decide_eq_true h
      rw [nodF_label h1]
      have hg0 := takeS_good hv (k := 5) (by decide) labB
      repeat ((conv => whnf); refine ⟨by first | exact ⟨rfl, rfl, hv, by decide, .inl rfl⟩ | (unfold inI64; omega) | omega | exact ⟨by omega, by omega⟩ | (intro hg; first | (unfold inI64; omega) | omega | exact ⟨by omega, by omega⟩ | (simp [lit] at hg; unfold inI64; omega) | (simp [lit] at hg; omega) | (simp [lit] at hg; exact ⟨by omega, by omega⟩)) | (show (_ : Nat) + 1 ≤ 1000000000000; omega) | exact rfl | (unfold inI64; dsimp only; omega) | (dsimp only; omega) | (intro hg; simp [lit] at hg; first | (unfold inI64; dsimp only; omega) | (dsimp only; omega)) | decide +kernel, ?_⟩)
      conv => whnf
      refine cond_intro (fun h2 => ?_) (fun h2 => ?_)
      · have h3 : ¬ (takeS 5 labB r).1.2 = 0 := by
          have h4 : (!decide ((takeS 5 labB r).1.2 = 0)) = true := h2
          simpa using h4
        rw [if_neg h3]
        repeat ((conv => whnf); refine ⟨by first | (unfold inI64; omega) | omega | exact ⟨by omega, by omega⟩ | (intro hg; first | (unfold inI64; omega) | omega | exact ⟨by omega, by omega⟩ | (simp [lit] at hg; unfold inI64; omega) | (simp [lit] at hg; omega) | (simp [lit] at hg; exact ⟨by omega, by omega⟩)) | (show (_ : Nat) + 1 ≤ 1000000000000; omega) | exact rfl | (unfold inI64; dsimp only; omega) | (dsimp only; omega) | (intro hg; simp [lit] at hg; first | (unfold inI64; dsimp only; omega) | (dsimp only; omega)) | decide +kernel, ?_⟩)
        conv => whnf
        exact ends_eq ⟨rfl, rfl⟩
      · have h3 : (takeS 5 labB r).1.2 = 0 := by
          have h4 : (!decide ((takeS 5 labB r).1.2 = 0)) = false := h2
          simpa using h4
        rw [if_pos h3]
        rw [h3] at hg0
        have vq := hg0.vld hv
        have hg := nmS_good vq .node
        rw [show nmF 138 = .node from rfl]
        repeat ((conv => whnf); refine ⟨by first | exact ⟨rfl, rfl, vq⟩ | (unfold inI64; omega) | omega | exact ⟨by omega, by omega⟩ | (intro hg; first | (unfold inI64; omega) | omega | exact ⟨by omega, by omega⟩ | (simp [lit] at hg; unfold inI64; omega) | (simp [lit] at hg; omega) | (simp [lit] at hg; exact ⟨by omega, by omega⟩)) | (show (_ : Nat) + 1 ≤ 1000000000000; omega) | exact rfl | (unfold inI64; dsimp only; omega) | (dsimp only; omega) | (intro hg; simp [lit] at hg; first | (unfold inI64; dsimp only; omega) | (dsimp only; omega)) | decide +kernel, ?_⟩)
        conv => whnf
        refine cond_intro (fun h7 => ?_) (fun h7 => ?_)
        · have h8 : ¬ (nmS .node (takeS 5 labB r).2).1.2 = 0 := by
            have h9 : (!decide ((nmS .node (takeS 5 labB r).2).1.2 = 0)) = true := h7
            simpa using h9
          have e8 : nodR (bodS k) (takeS 5 labB r).1.1 r.tok .node (takeS 5 labB r).2 = ((nmS .node (takeS 5 labB r).2).1.2, (nmS .node (takeS 5 labB r).2).2) := by unfold nodR; simp only; rw [if_neg h8]
          rw [e8]
          repeat ((conv => whnf); refine ⟨by first | (unfold inI64; omega) | omega | exact ⟨by omega, by omega⟩ | (intro hg; first | (unfold inI64; omega) | omega | exact ⟨by omega, by omega⟩ | (simp [lit] at hg; unfold inI64; omega) | (simp [lit] at hg; omega) | (simp [lit] at hg; exact ⟨by omega, by omega⟩)) | (show (_ : Nat) + 1 ≤ 1000000000000; omega) | exact rfl | (unfold inI64; dsimp only; omega) | (dsimp only; omega) | (intro hg; simp [lit] at hg; first | (unfold inI64; dsimp only; omega) | (dsimp only; omega)) | decide +kernel, ?_⟩)
          conv => whnf
          exact ends_eq ⟨rfl, rfl⟩
        · have h8 : (nmS .node (takeS 5 labB r).2).1.2 = 0 := by
            have h9 : (!decide ((nmS .node (takeS 5 labB r).2).1.2 = 0)) = false := h7
            simpa using h9
          obtain ⟨f1, f2, f3, f4⟩ := nod_facts hv hg0.adv (hg0.ok rfl).2.1 h8 hk (dfn 1 (takeS 5 labB r).1.1 (nmS .node (takeS 5 labB r).2).1.1 [] r.tok)
          repeat ((conv => whnf); refine ⟨by first | exact f3 | exact ⟨rfl, srH_add _ _, f1, f2⟩ | (unfold inI64; omega) | omega | exact ⟨by omega, by omega⟩ | (intro hg; first | (unfold inI64; omega) | omega | exact ⟨by omega, by omega⟩ | (simp [lit] at hg; unfold inI64; omega) | (simp [lit] at hg; omega) | (simp [lit] at hg; exact ⟨by omega, by omega⟩)) | (show (_ : Nat) + 1 ≤ 1000000000000; omega) | exact rfl | (unfold inI64; dsimp only; omega) | (dsimp only; omega) | (intro hg; simp [lit] at hg; first | (unfold inI64; dsimp only; omega) | (dsimp only; omega)) | decide +kernel, ?_⟩)
          conv => whnf
          refine cond_intro (fun h10 => ?_) (fun h10 => ?_)
          · have h11 : ¬ (bodS k ((nmS .node (takeS 5 labB r).2).2.add (dfn 1 (takeS 5 labB r).1.1 (nmS .node (takeS 5 labB r).2).1.1 [] r.tok))).1 = 0 := by
              have h9 : (!decide ((bodS k ((nmS .node (takeS 5 labB r).2).2.add (dfn 1 (takeS 5 labB r).1.1 (nmS .node (takeS 5 labB r).2).1.1 [] r.tok))).1 = 0)) = true := h10
              simpa using h9
            have e8 : nodR (bodS k) (takeS 5 labB r).1.1 r.tok .node (takeS 5 labB r).2 = bodS k ((nmS .node (takeS 5 labB r).2).2.add (dfn 1 (takeS 5 labB r).1.1 (nmS .node (takeS 5 labB r).2).1.1 [] r.tok)) := by unfold nodR; simp only; rw [if_pos h8, if_neg h11]
            rw [e8]
            repeat ((conv => whnf); refine ⟨by first | (unfold inI64; omega) | omega | exact ⟨by omega, by omega⟩ | (intro hg; first | (unfold inI64; omega) | omega | exact ⟨by omega, by omega⟩ | (simp [lit] at hg; unfold inI64; omega) | (simp [lit] at hg; omega) | (simp [lit] at hg; exact ⟨by omega, by omega⟩)) | (show (_ : Nat) + 1 ≤ 1000000000000; omega) | exact rfl | (unfold inI64; dsimp only; omega) | (dsimp only; omega) | (intro hg; simp [lit] at hg; first | (unfold inI64; dsimp only; omega) | (dsimp only; omega)) | decide +kernel, ?_⟩)
            conv => whnf
            exact ends_eq ⟨rfl, rfl⟩
          · have h11 : (bodS k ((nmS .node (takeS 5 labB r).2).2.add (dfn 1 (takeS 5 labB r).1.1 (nmS .node (takeS 5 labB r).2).1.1 [] r.tok))).1 = 0 := by
              have h9 : (!decide ((bodS k ((nmS .node (takeS 5 labB r).2).2.add (dfn 1 (takeS 5 labB r).1.1 (nmS .node (takeS 5 labB r).2).1.1 [] r.tok))).1 = 0)) = false := h10
              simpa using h9
            have e8 : nodR (bodS k) (takeS 5 labB r).1.1 r.tok .node (takeS 5 labB r).2 = mustS ⟨#[59]⟩ (bodS k ((nmS .node (takeS 5 labB r).2).2.add (dfn 1 (takeS 5 labB r).1.1 (nmS .node (takeS 5 labB r).2).1.1 [] r.tok))).2 := by unfold nodR; simp only; rw [if_pos h8, if_pos h11]
            rw [e8]
            have f5 := f4 h11
            repeat ((conv => whnf); refine ⟨by first | exact ⟨rfl, rfl, f5⟩ | (unfold inI64; omega) | omega | exact ⟨by omega, by omega⟩ | (intro hg; first | (unfold inI64; omega) | omega | exact ⟨by omega, by omega⟩ | (simp [lit] at hg; unfold inI64; omega) | (simp [lit] at hg; omega) | (simp [lit] at hg; exact ⟨by omega, by omega⟩)) | (show (_ : Nat) + 1 ≤ 1000000000000; omega) | exact rfl | (unfold inI64; dsimp only; omega) | (dsimp only; omega) | (intro hg; simp [lit] at hg; first | (unfold inI64; dsimp only; omega) | (dsimp only; omega)) | decide +kernel, ?_⟩)
            conv => whnf
            exact ends_eq ⟨rfl, rfl⟩
    · have h1 : ¬ r.tok.1 = 5 := of_decide_eq_false h
      rw [nodF_plain h1]
      have hg := nmS_good hv .node
      rw [show nmF 138 = .node from rfl]
      repeat ((conv => whnf); refine ⟨by first | exact ⟨rfl, rfl, hv⟩ | (unfold inI64; omega) | omega | exact ⟨by omega, by omega⟩ | (intro hg; first | (unfold inI64; omega) | omega | exact ⟨by omega, by omega⟩ | (simp [lit] at hg; unfold inI64; omega) | (simp [lit] at hg; omega) | (simp [lit] at hg; exact ⟨by omega, by omega⟩)) | (show (_ : Nat) + 1 ≤ 1000000000000; omega) | exact rfl | (unfold inI64; dsimp only; omega) | (dsimp only; omega) | (intro hg; simp [lit] at hg; first | (unfold inI64; dsimp only; omega) | (dsimp only; omega)) | decide +kernel, ?_⟩)
      conv => whnf
      refine cond_intro (fun h7 => ?_) (fun h7 => ?_)
      · have h8 : ¬ (nmS .node r).1.2 = 0 := by
          have h9 : (!decide ((nmS .node r).1.2 = 0)) = true := h7
          simpa using h9
        have e8 : nodR (bodS k) e0 r.tok .node r = ((nmS .node r).1.2, (nmS .node r).2) := by unfold nodR; simp only; rw [if_neg h8]
        rw [e8]
        repeat ((conv => whnf); refine ⟨by first | (unfold inI64; omega) | omega | exact ⟨by omega, by omega⟩ | (intro hg; first | (unfold inI64; omega) | omega | exact ⟨by omega, by omega⟩ | (simp [lit] at hg; unfold inI64; omega) | (simp [lit] at hg; omega) | (simp [lit] at hg; exact ⟨by omega, by omega⟩)) | (show (_ : Nat) + 1 ≤ 1000000000000; omega) | exact rfl | (unfold inI64; dsimp only; omega) | (dsimp only; omega) | (intro hg; simp [lit] at hg; first | (unfold inI64; dsimp only; omega) | (dsimp only; omega)) | decide +kernel, ?_⟩)
        conv => whnf
        exact ends_eq ⟨rfl, rfl⟩
      · have h8 : (nmS .node r).1.2 = 0 := by
          have h9 : (!decide ((nmS .node r).1.2 = 0)) = false := h7
          simpa using h9
        obtain ⟨f1, f2, f3, f4⟩ := nod_facts hv hv.refl rfl h8 hk (dfn 1 e0 (nmS .node r).1.1 [] r.tok)
        repeat ((conv => whnf); refine ⟨by first | exact f3 | exact ⟨rfl, srH_add _ _, f1, f2⟩ | (unfold inI64; omega) | omega | exact ⟨by omega, by omega⟩ | (intro hg; first | (unfold inI64; omega) | omega | exact ⟨by omega, by omega⟩ | (simp [lit] at hg; unfold inI64; omega) | (simp [lit] at hg; omega) | (simp [lit] at hg; exact ⟨by omega, by omega⟩)) | (show (_ : Nat) + 1 ≤ 1000000000000; omega) | exact rfl | (unfold inI64; dsimp only; omega) | (dsimp only; omega) | (intro hg; simp [lit] at hg; first | (unfold inI64; dsimp only; omega) | (dsimp only; omega)) | decide +kernel, ?_⟩)
        conv => whnf
        refine cond_intro (fun h10 => ?_) (fun h10 => ?_)
        · have h11 : ¬ (bodS k ((nmS .node r).2.add (dfn 1 e0 (nmS .node r).1.1 [] r.tok))).1 = 0 := by
            have h9 : (!decide ((bodS k ((nmS .node r).2.add (dfn 1 e0 (nmS .node r).1.1 [] r.tok))).1 = 0)) = true := h10
            simpa using h9
          have e8 : nodR (bodS k) e0 r.tok .node r = bodS k ((nmS .node r).2.add (dfn 1 e0 (nmS .node r).1.1 [] r.tok)) := by unfold nodR; simp only; rw [if_pos h8, if_neg h11]
          rw [e8]
          repeat ((conv => whnf); refine ⟨by first | (unfold inI64; omega) | omega | exact ⟨by omega, by omega⟩ | (intro hg; first | (unfold inI64; omega) | omega | exact ⟨by omega, by omega⟩ | (simp [lit] at hg; unfold inI64; omega) | (simp [lit] at hg; omega) | (simp [lit] at hg; exact ⟨by omega, by omega⟩)) | (show (_ : Nat) + 1 ≤ 1000000000000; omega) | exact rfl | (unfold inI64; dsimp only; omega) | (dsimp only; omega) | (intro hg; simp [lit] at hg; first | (unfold inI64; dsimp only; omega) | (dsimp only; omega)) | decide +kernel, ?_⟩)
          conv => whnf
          exact ends_eq ⟨rfl, rfl⟩
        · have h11 : (bodS k ((nmS .node r).2.add (dfn 1 e0 (nmS .node r).1.1 [] r.tok))).1 = 0 := by
            have h9 : (!decide ((bodS k ((nmS .node r).2.add (dfn 1 e0 (nmS .node r).1.1 [] r.tok))).1 = 0)) = false := h10
            simpa using h9
          have e8 : nodR (bodS k) e0 r.tok .node r = mustS ⟨#[59]⟩ (bodS k ((nmS .node r).2.add (dfn 1 e0 (nmS .node r).1.1 [] r.tok))).2 := by unfold nodR; simp only; rw [if_pos h8, if_pos h11]
          rw [e8]
          have f5 := f4 h11
          repeat ((conv => whnf); refine ⟨by first | exact ⟨rfl, rfl, f5⟩ | (unfold inI64; omega) | omega | exact ⟨by omega, by omega⟩ | (intro hg; first | (unfold inI64; omega) | omega | exact ⟨by omega, by omega⟩ | (simp [lit] at hg; unfold inI64; omega) | (simp [lit] at hg; omega) | (simp [lit] at hg; exact ⟨by omega, by omega⟩)) | (show (_ : Nat) + 1 ≤ 1000000000000; omega) | exact rfl | (unfold inI64; dsimp only; omega) | (dsimp only; omega) | (intro hg; simp [lit] at hg; first | (unfold inI64; dsimp only; omega) | (dsimp only; omega)) | decide +kernel, ?_⟩)
          conv => whnf
          exact ends_eq ⟨rfl, rfl⟩
  · repeat ((conv => whnf); refine ⟨by first | exact ⟨rfl, rfl, hv⟩ | (unfold inI64; omega) | omega | exact ⟨by omega, by omega⟩ | (intro hg; first | (unfold inI64; omega) | omega | exact ⟨by omega, by omega⟩ | (simp [lit] at hg; unfold inI64; omega) | (simp [lit] at hg; omega) | (simp [lit] at hg; exact ⟨by omega, by omega⟩)) | (show (_ : Nat) + 1 ≤ 1000000000000; omega) | exact rfl | (unfold inI64; dsimp only; omega) | (dsimp only; omega) | (intro hg; simp [lit] at hg; first | (unfold inI64; dsimp only; omega) | (dsimp only; omega)) | decide +kernel, ?_⟩)
    conv => whnf
    refine cond_intro (fun h => ?_) (fun h => ?_)
    · have h1 : r.tok.1 = 5 := of_decide_eq_true h
      rw [nodF_label h1]
      have hg0 := takeS_good hv (k := 5) (by decide) labB
      repeat ((conv => whnf); refine ⟨by first | exact ⟨rfl, rfl, hv, by decide, .inl rfl⟩ | (unfold inI64; omega) | omega | exact ⟨by omega, by omega⟩ | (intro hg; first | (unfold inI64; omega) | omega | exact ⟨by omega, by omega⟩ | (simp [lit] at hg; unfold inI64; omega) | (simp [lit] at hg; omega) | (simp [lit] at hg; exact ⟨by omega, by omega⟩)) | (show (_ : Nat) + 1 ≤ 1000000000000; omega) | exact rfl | (unfold inI64; dsimp only; omega) | (dsimp only; omega) | (intro hg; simp [lit] at hg; first | (unfold inI64; dsimp only; omega) | (dsimp only; omega)) | decide +kernel, ?_⟩)
      conv => whnf
      refine cond_intro (fun h2 => ?_) (fun h2 => ?_)
      · have h3 : ¬ (takeS 5 labB r).1.2 = 0 := by
          have h4 : (!decide ((takeS 5 labB r).1.2 = 0)) = true := h2
          simpa using h4
        rw [if_neg h3]
        repeat ((conv => whnf); refine ⟨by first | (unfold inI64; omega) | omega | exact ⟨by omega, by omega⟩ | (intro hg; first | (unfold inI64; omega) | omega | exact ⟨by omega, by omega⟩ | (simp [lit] at hg; unfold inI64; omega) | (simp [lit] at hg; omega) | (simp [lit] at hg; exact ⟨by omega, by omega⟩)) | (show (_ : Nat) + 1 ≤ 1000000000000; omega) | exact rfl | (unfold inI64; dsimp only; omega) | (dsimp only; omega) | (intro hg; simp [lit] at hg; first | (unfold inI64; dsimp only; omega) | (dsimp only; omega)) | decide +kernel, ?_⟩)
        conv => whnf
        exact ends_eq ⟨rfl, rfl⟩
      · have h3 : (takeS 5 labB r).1.2 = 0 := by
          have h4 : (!decide ((takeS 5 labB r).1.2 = 0)) = false := h2
          simpa using h4
        rw [if_pos h3]
        rw [h3] at hg0
        have vq := hg0.vld hv
        have hg := nmS_good vq .prop
        rw [show nmF 137 = .prop from rfl]
        repeat ((conv => whnf); refine ⟨by first | exact ⟨rfl, rfl, vq⟩ | (unfold inI64; omega) | omega | exact ⟨by omega, by omega⟩ | (intro hg; first | (unfold inI64; omega) | omega | exact ⟨by omega, by omega⟩ | (simp [lit] at hg; unfold inI64; omega) | (simp [lit] at hg; omega) | (simp [lit] at hg; exact ⟨by omega, by omega⟩)) | (show (_ : Nat) + 1 ≤ 1000000000000; omega) | exact rfl | (unfold inI64; dsimp only; omega) | (dsimp only; omega) | (intro hg; simp [lit] at hg; first | (unfold inI64; dsimp only; omega) | (dsimp only; omega)) | decide +kernel, ?_⟩)
        conv => whnf
        refine cond_intro (fun h7 => ?_) (fun h7 => ?_)
        · have h8 : ¬ (nmS .prop (takeS 5 labB r).2).1.2 = 0 := by
            have h9 : (!decide ((nmS .prop (takeS 5 labB r).2).1.2 = 0)) = true := h7
            simpa using h9
          have e8 : nodR (bodS k) (takeS 5 labB r).1.1 r.tok .prop (takeS 5 labB r).2 = ((nmS .prop (takeS 5 labB r).2).1.2, (nmS .prop (takeS 5 labB r).2).2) := by unfold nodR; simp only; rw [if_neg h8]
          rw [e8]
          repeat ((conv => whnf); refine ⟨by first | (unfold inI64; omega) | omega | exact ⟨by omega, by omega⟩ | (intro hg; first | (unfold inI64; omega) | omega | exact ⟨by omega, by omega⟩ | (simp [lit] at hg; unfold inI64; omega) | (simp [lit] at hg; omega) | (simp [lit] at hg; exact ⟨by omega, by omega⟩)) | (show (_ : Nat) + 1 ≤ 1000000000000; omega) | exact rfl | (unfold inI64; dsimp only; omega) | (dsimp only; omega) | (intro hg; simp [lit] at hg; first | (unfold inI64; dsimp only; omega) | (dsimp only; omega)) | decide +kernel, ?_⟩)
          conv => whnf
          exact ends_eq ⟨rfl, rfl⟩
        · have h8 : (nmS .prop (takeS 5 labB r).2).1.2 = 0 := by
            have h9 : (!decide ((nmS .prop (takeS 5 labB r).2).1.2 = 0)) = false := h7
            simpa using h9
          obtain ⟨f1, f2, f3, f4⟩ := nod_facts hv hg0.adv (hg0.ok rfl).2.1 h8 hk (dfn 1 (takeS 5 labB r).1.1 (nmS .prop (takeS 5 labB r).2).1.1 [] r.tok)
          repeat ((conv => whnf); refine ⟨by first | exact f3 | exact ⟨rfl, srH_add _ _, f1, f2⟩ | (unfold inI64; omega) | omega | exact ⟨by omega, by omega⟩ | (intro hg; first | (unfold inI64; omega) | omega | exact ⟨by omega, by omega⟩ | (simp [lit] at hg; unfold inI64; omega) | (simp [lit] at hg; omega) | (simp [lit] at hg; exact ⟨by omega, by omega⟩)) | (show (_ : Nat) + 1 ≤ 1000000000000; omega) | exact rfl | (unfold inI64; dsimp only; omega) | (dsimp only; omega) | (intro hg; simp [lit] at hg; first | (unfold inI64; dsimp only; omega) | (dsimp only; omega)) | decide +kernel, ?_⟩)
          conv => whnf
          refine cond_intro (fun h10 => ?_) (fun h10 => ?_)
          · have h11 : ¬ (bodS k ((nmS .prop (takeS 5 labB r).2).2.add (dfn 1 (takeS 5 labB r).1.1 (nmS .prop (takeS 5 labB r).2).1.1 [] r.tok))).1 = 0 := by
              have h9 : (!decide ((bodS k ((nmS .prop (takeS 5 labB r).2).2.add (dfn 1 (takeS 5 labB r).1.1 (nmS .prop (takeS 5 labB r).2).1.1 [] r.tok))).1 = 0)) = true := h10
              simpa using h9
            have e8 : nodR (bodS k) (takeS 5 labB r).1.1 r.tok .prop (takeS 5 labB r).2 = bodS k ((nmS .prop (takeS 5 labB r).2).2.add (dfn 1 (takeS 5 labB r).1.1 (nmS .prop (takeS 5 labB r).2).1.1 [] r.tok)) := by unfold nodR; simp only; rw [if_pos h8, if_neg h11]
            rw [e8]
            repeat ((conv => whnf); refine ⟨by first | (unfold inI64; omega) | omega | exact ⟨by omega, by omega⟩ | (intro hg; first | (unfold inI64; omega) | omega | exact ⟨by omega, by omega⟩ | (simp [lit] at hg; unfold inI64; omega) | (simp [lit] at hg; omega) | (simp [lit] at hg; exact ⟨by omega, by omega⟩)) | (show (_ : Nat) + 1 ≤ 1000000000000; omega) | exact rfl | (unfold inI64; dsimp only; omega) | (dsimp only; omega) | (intro hg; simp [lit] at hg; first | (unfold inI64; dsimp only; omega) | (dsimp only; omega)) | decide +kernel, ?_⟩)
            conv => whnf
            exact ends_eq ⟨rfl, rfl⟩
          · have h11 : (bodS k ((nmS .prop (takeS 5 labB r).2).2.add (dfn 1 (takeS 5 labB r).1.1 (nmS .prop (takeS 5 labB r).2).1.1 [] r.tok))).1 = 0 := by
              have h9 : (!decide ((bodS k ((nmS .prop (takeS 5 labB r).2).2.add (dfn 1 (takeS 5 labB r).1.1 (nmS .prop (takeS 5 labB r).2).1.1 [] r.tok))).1 = 0)) = false := h10
              simpa using h9
            have e8 : nodR (bodS k) (takeS 5 labB r).1.1 r.tok .prop (takeS 5 labB r).2 = mustS ⟨#[59]⟩ (bodS k ((nmS .prop (takeS 5 labB r).2).2.add (dfn 1 (takeS 5 labB r).1.1 (nmS .prop (takeS 5 labB r).2).1.1 [] r.tok))).2 := by unfold nodR; simp only; rw [if_pos h8, if_pos h11]
            rw [e8]
            have f5 := f4 h11
            repeat ((conv => whnf); refine ⟨by first | exact ⟨rfl, rfl, f5⟩ | (unfold inI64; omega) | omega | exact ⟨by omega, by omega⟩ | (intro hg; first | (unfold inI64; omega) | omega | exact ⟨by omega, by omega⟩ | (simp [lit] at hg; unfold inI64; omega) | (simp [lit] at hg; omega) | (simp [lit] at hg; exact ⟨by omega, by omega⟩)) | (show (_ : Nat) + 1 ≤ 1000000000000; omega) | exact rfl | (unfold inI64; dsimp only; omega) | (dsimp only; omega) | (intro hg; simp [lit] at hg; first | (unfold inI64; dsimp only; omega) | (dsimp only; omega)) | decide +kernel, ?_⟩)
            conv => whnf
            exact ends_eq ⟨rfl, rfl⟩
    · have h1 : ¬ r.tok.1 = 5 := of_decide_eq_false h
      rw [nodF_plain h1]
      have hg := nmS_good hv .prop
      rw [show nmF 137 = .prop from rfl]
      repeat ((conv => whnf); refine ⟨by first | exact ⟨rfl, rfl, hv⟩ | (unfold inI64; omega) | omega | exact ⟨by omega, by omega⟩ | (intro hg; first | (unfold inI64; omega) | omega | exact ⟨by omega, by omega⟩ | (simp [lit] at hg; unfold inI64; omega) | (simp [lit] at hg; omega) | (simp [lit] at hg; exact ⟨by omega, by omega⟩)) | (show (_ : Nat) + 1 ≤ 1000000000000; omega) | exact rfl | (unfold inI64; dsimp only; omega) | (dsimp only; omega) | (intro hg; simp [lit] at hg; first | (unfold inI64; dsimp only; omega) | (dsimp only; omega)) | decide +kernel, ?_⟩)
      conv => whnf
      refine cond_intro (fun h7 => ?_) (fun h7 => ?_)
      · have h8 : ¬ (nmS .prop r).1.2 = 0 := by
          have h9 : (!decide ((nmS .prop r).1.2 = 0)) = true := h7
          simpa using h9
        have e8 : nodR (bodS k) e0 r.tok .prop r = ((nmS .prop r).1.2, (nmS .prop r).2) := by unfold nodR; simp only; rw [if_neg h8]
        rw [e8]
        repeat ((conv => whnf); refine ⟨by first | (unfold inI64; omega) | omega | exact ⟨by omega, by omega⟩ | (intro hg; first | (unfold inI64; omega) | omega | exact ⟨by omega, by omega⟩ | (simp [lit] at hg; unfold inI64; omega) | (simp [lit] at hg; omega) | (simp [lit] at hg; exact ⟨by omega, by omega⟩)) | (show (_ : Nat) + 1 ≤ 1000000000000; omega) | exact rfl | (unfold inI64; dsimp only; omega) | (dsimp only; omega) | (intro hg; simp [lit] at hg; first | (unfold inI64; dsimp only; omega) | (dsimp only; omega)) | decide +kernel, ?_⟩)
        conv => whnf
        exact ends_eq ⟨rfl, rfl⟩
      · have h8 : (nmS .prop r).1.2 = 0 := by
          have h9 : (!decide ((nmS .prop r).1.2 = 0)) = false := h7
          simpa using h9
        obtain ⟨f1, f2, f3, f4⟩ := nod_facts hv hv.refl rfl h8 hk (dfn 1 e0 (nmS .prop r).1.1 [] r.tok)
        repeat ((conv => whnf); refine ⟨by first | exact f3 | exact ⟨rfl, srH_add _ _, f1, f2⟩ | (unfold inI64; omega) | omega | exact ⟨by omega, by omega⟩ | (intro hg; first | (unfold inI64; omega) | omega | exact ⟨by omega, by omega⟩ | (simp [lit] at hg; unfold inI64; omega) | (simp [lit] at hg; omega) | (simp [lit] at hg; exact ⟨by omega, by omega⟩)) | (show (_ : Nat) + 1 ≤ 1000000000000; omega) | exact rfl | (unfold inI64; dsimp only; omega) | (dsimp only; omega) | (intro hg; simp [lit] at hg; first | (unfold inI64; dsimp only; omega) | (dsimp only; omega)) | decide +kernel, ?_⟩)
        conv => whnf
        refine cond_intro (fun h10 => ?_) (fun h10 => ?_)
        · have h11 : ¬ (bodS k ((nmS .prop r).2.add (dfn 1 e0 (nmS .prop r).1.1 [] r.tok))).1 = 0 := by
            have h9 : (!decide ((bodS k ((nmS .prop r).2.add (dfn 1 e0 (nmS .prop r).1.1 [] r.tok))).1 = 0)) = true := h10
            simpa using h9
          have e8 : nodR (bodS k) e0 r.tok .prop r = bodS k ((nmS .prop r).2.add (dfn 1 e0 (nmS .prop r).1.1 [] r.tok)) := by unfold nodR; simp only; rw [if_pos h8, if_neg h11]
          rw [e8]
          repeat ((conv => whnf); refine ⟨by first | (unfold inI64; omega) | omega | exact ⟨by omega, by omega⟩ | (intro hg; first | (unfold inI64; omega) | omega | exact ⟨by omega, by omega⟩ | (simp [lit] at hg; unfold inI64; omega) | (simp [lit] at hg; omega) | (simp [lit] at hg; exact ⟨by omega, by omega⟩)) | (show (_ : Nat) + 1 ≤ 1000000000000; omega) | exact rfl | (unfold inI64; dsimp only; omega) | (dsimp only; omega) | (intro hg; simp [lit] at hg; first | (unfold inI64; dsimp only; omega) | (dsimp only; omega)) | decide +kernel, ?_⟩)
          conv => whnf
          exact ends_eq ⟨rfl, rfl⟩
        · have h11 : (bodS k ((nmS .prop r).2.add (dfn 1 e0 (nmS .prop r).1.1 [] r.tok))).1 = 0 := by
            have h9 : (!decide ((bodS k ((nmS .prop r).2.add (dfn 1 e0 (nmS .prop r).1.1 [] r.tok))).1 = 0)) = false := h10
            simpa using h9
          have e8 : nodR (bodS k) e0 r.tok .prop r = mustS ⟨#[59]⟩ (bodS k ((nmS .prop r).2.add (dfn 1 e0 (nmS .prop r).1.1 [] r.tok))).2 := by unfold nodR; simp only; rw [if_pos h8, if_pos h11]
          rw [e8]
          have f5 := f4 h11
          repeat ((conv => whnf); refine ⟨by first | exact ⟨rfl, rfl, f5⟩ | (unfold inI64; omega) | omega | exact ⟨by omega, by omega⟩ | (intro hg; first | (unfold inI64; omega) | omega | exact ⟨by omega, by omega⟩ | (simp [lit] at hg; unfold inI64; omega) | (simp [lit] at hg; omega) | (simp [lit] at hg; exact ⟨by omega, by omega⟩)) | (show (_ : Nat) + 1 ≤ 1000000000000; omega) | exact rfl | (unfold inI64; dsimp only; omega) | (dsimp only; omega) | (intro hg; simp [lit] at hg; first | (unfold inI64; dsimp only; omega) | (dsimp only; omega)) | decide +kernel, ?_⟩)
          conv => whnf
          exact ends_eq ⟨rfl, rfl⟩
  · repeat ((conv => whnf); refine ⟨by first | exact ⟨rfl, rfl, hv⟩ | (unfold inI64; omega) | omega | exact ⟨by omega, by omega⟩ | (intro hg; first | (unfold inI64; omega) | omega | exact ⟨by omega, by omega⟩ | (simp [lit] at hg; unfold inI64; omega) | (simp [lit] at hg; omega) | (simp [lit] at hg; exact ⟨by omega, by omega⟩)) | (show (_ : Nat) + 1 ≤ 1000000000000; omega) | exact rfl | (unfold inI64; dsimp only; omega) | (dsimp only; omega) | (intro hg; simp [lit] at hg; first | (unfold inI64; dsimp only; omega) | (dsimp only; omega)) | decide +kernel, ?_⟩)
    conv => whnf
    refine cond_intro (fun h => ?_) (fun h => ?_)
    · have h1 : r.tok.1 = 5 := of_decide_eq_true h
      rw [nodF_label h1]
      have hg0 := takeS_good hv (k := 5) (by decide) labB
      repeat ((conv => whnf); refine ⟨by first | exact ⟨rfl, rfl, hv, by decide, .inl rfl⟩ | (unfold inI64; omega) | omega | exact ⟨by omega, by omega⟩ | (intro hg; first | (unfold inI64; omega) | omega | exact ⟨by omega, by omega⟩ | (simp [lit] at hg; unfold inI64; omega) | (simp [lit] at hg; omega) | (simp [lit] at hg; exact ⟨by omega, by omega⟩)) | (show (_ : Nat) + 1 ≤ 1000000000000; omega) | exact rfl | (unfold inI64; dsimp only; omega) | (dsimp only; omega) | (intro hg; simp [lit] at hg; first | (unfold inI64; dsimp only; omega) | (dsimp only; omega)) | decide +kernel, ?_⟩)
      conv => whnf
      refine cond_intro (fun h2 => ?_) (fun h2 => ?_)
      · have h3 : ¬ (takeS 5 labB r).1.2 = 0 := by
          have h4 : (!decide ((takeS 5 labB r).1.2 = 0)) = true := h2
          simpa using h4
        rw [if_neg h3]
        repeat ((conv => whnf); refine ⟨by first | (unfold inI64; omega) | omega | exact ⟨by omega, by omega⟩ | (intro hg; first | (unfold inI64; omega) | omega | exact ⟨by omega, by omega⟩ | (simp [lit] at hg; unfold inI64; omega) | (simp [lit] at hg; omega) | (simp [lit] at hg; exact ⟨by omega, by omega⟩)) | (show (_ : Nat) + 1 ≤ 1000000000000; omega) | exact rfl | (unfold inI64; dsimp only; omega) | (dsimp only; omega) | (intro hg; simp [lit] at hg; first | (unfold inI64; dsimp only; omega) | (dsimp only; omega)) | decide +kernel, ?_⟩)
        conv => whnf
        exact ends_eq ⟨rfl, rfl⟩
      · have h3 : (takeS 5 labB r).1.2 = 0 := by
          have h4 : (!decide ((takeS 5 labB r).1.2 = 0)) = false := h2
          simpa using h4
        rw [if_pos h3]
        rw [h3] at hg0
        have vq := hg0.vld hv
        have hg := nmS_good vq .ref
        rw [show nmF 54 = .ref from rfl]
        repeat ((conv => whnf); refine ⟨by first | exact ⟨rfl, rfl, vq⟩ | (unfold inI64; omega) | omega | exact ⟨by omega, by omega⟩ | (intro hg; first | (unfold inI64; omega) | omega | exact ⟨by omega, by omega⟩ | (simp [lit] at hg; unfold inI64; omega) | (simp [lit] at hg; omega) | (simp [lit] at hg; exact ⟨by omega, by omega⟩)) | (show (_ : Nat) + 1 ≤ 1000000000000; omega) | exact rfl | (unfold inI64; dsimp only; omega) | (dsimp only; omega) | (intro hg; simp [lit] at hg; first | (unfold inI64; dsimp only; omega) | (dsimp only; omega)) | decide +kernel, ?_⟩)
        conv => whnf
        refine cond_intro (fun h7 => ?_) (fun h7 => ?_)
        · have h8 : ¬ (nmS .ref (takeS 5 labB r).2).1.2 = 0 := by
            have h9 : (!decide ((nmS .ref (takeS 5 labB r).2).1.2 = 0)) = true := h7
            simpa using h9
          have e8 : nodR (bodS k) (takeS 5 labB r).1.1 r.tok .ref (takeS 5 labB r).2 = ((nmS .ref (takeS 5 labB r).2).1.2, (nmS .ref (takeS 5 labB r).2).2) := by unfold nodR; simp only; rw [if_neg h8]
          rw [e8]
          repeat ((conv => whnf); refine ⟨by first | (unfold inI64; omega) | omega | exact ⟨by omega, by omega⟩ | (intro hg; first | (unfold inI64; omega) | omega | exact ⟨by omega, by omega⟩ | (simp [lit] at hg; unfold inI64; omega) | (simp [lit] at hg; omega) | (simp [lit] at hg; exact ⟨by omega, by omega⟩)) | (show (_ : Nat) + 1 ≤ 1000000000000; omega) | exact rfl | (unfold inI64; dsimp only; omega) | (dsimp only; omega) | (intro hg; simp [lit] at hg; first | (unfold inI64; dsimp only; omega) | (dsimp only; omega)) | decide +kernel, ?_⟩)
          conv => whnf
          exact ends_eq ⟨rfl, rfl⟩
        · have h8 : (nmS .ref (takeS 5 labB r).2).1.2 = 0 := by
            have h9 : (!decide ((nmS .ref (takeS 5 labB r).2).1.2 = 0)) = false := h7
            simpa using h9
          obtain ⟨f1, f2, f3, f4⟩ := nod_facts hv hg0.adv (hg0.ok rfl).2.1 h8 hk (dfn 1 (takeS 5 labB r).1.1 (nmS .ref (takeS 5 labB r).2).1.1 [] r.tok)
          repeat ((conv => whnf); refine ⟨by first | exact f3 | exact ⟨rfl, srH_add _ _, f1, f2⟩ | (unfold inI64; omega) | omega | exact ⟨by omega, by omega⟩ | (intro hg; first | (unfold inI64; omega) | omega | exact ⟨by omega, by omega⟩ | (simp [lit] at hg; unfold inI64; omega) | (simp [lit] at hg; omega) | (simp [lit] at hg; exact ⟨by omega, by omega⟩)) | (show (_ : Nat) + 1 ≤ 1000000000000; omega) | exact rfl | (unfold inI64; dsimp only; omega) | (dsimp only; omega) | (intro hg; simp [lit] at hg; first | (unfold inI64; dsimp only; omega) | (dsimp only; omega)) | decide +kernel, ?_⟩)
          conv => whnf
          refine cond_intro (fun h10 => ?_) (fun h10 => ?_)
          · have h11 : ¬ (bodS k ((nmS .ref (takeS 5 labB r).2).2.add (dfn 1 (takeS 5 labB r).1.1 (nmS .ref (takeS 5 labB r).2).1.1 [] r.tok))).1 = 0 := by
              have h9 : (!decide ((bodS k ((nmS .ref (takeS 5 labB r).2).2.add (dfn 1 (takeS 5 labB r).1.1 (nmS .ref (takeS 5 labB r).2).1.1 [] r.tok))).1 = 0)) = true := h10
              simpa using h9
            have e8 : nodR (bodS k) (takeS 5 labB r).1.1 r.tok .ref (takeS 5 labB r).2 = bodS k ((nmS .ref (takeS 5 labB r).2).2.add (dfn 1 (takeS 5 labB r).1.1 (nmS .ref (takeS 5 labB r).2).1.1 [] r.tok)) := by unfold nodR; simp only; rw [if_pos h8, if_neg h11]
            rw [e8]
            repeat ((conv => whnf); refine ⟨by first | (unfold inI64; omega) | omega | exact ⟨by omega, by omega⟩ | (intro hg; first | (unfold inI64; omega) | omega | exact ⟨by omega, by omega⟩ | (simp [lit] at hg; unfold inI64; omega) | (simp [lit] at hg; omega) | (simp [lit] at hg; exact ⟨by omega, by omega⟩)) | (show (_ : Nat) + 1 ≤ 1000000000000; omega) | exact rfl | (unfold inI64; dsimp only; omega) | (dsimp only; omega) | (intro hg; simp [lit] at hg; first | (unfold inI64; dsimp only; omega) | (dsimp only; omega)) | decide +kernel, ?_⟩)
            conv => whnf
            exact ends_eq ⟨rfl, rfl⟩
          · have h11 : (bodS k ((nmS .ref (takeS 5 labB r).2).2.add (dfn 1 (takeS 5 labB r).1.1 (nmS .ref (takeS 5 labB r).2).1.1 [] r.tok))).1 = 0 := by
              have h9 : (!decide ((bodS k ((nmS .ref (takeS 5 labB r).2).2.add (dfn 1 (takeS 5 labB r).1.1 (nmS .ref (takeS 5 labB r).2).1.1 [] r.tok))).1 = 0)) = false := h10
              simpa using h9
            have e8 : nodR (bodS k) (takeS 5 labB r).1.1 r.tok .ref (takeS 5 labB r).2 = mustS ⟨#[59]⟩ (bodS k ((nmS .ref (takeS 5 labB r).2).2.add (dfn 1 (takeS 5 labB r).1.1 (nmS .ref (takeS 5 labB r).2).1.1 [] r.tok))).2 := by unfold nodR; simp only; rw [if_pos h8, if_pos h11]
            rw [e8]
            have f5 := f4 h11
            repeat ((conv => whnf); refine ⟨by first | exact ⟨rfl, rfl, f5⟩ | (unfold inI64; omega) | omega | exact ⟨by omega, by omega⟩ | (intro hg; first | (unfold inI64; omega) | omega | exact ⟨by omega, by omega⟩ | (simp [lit] at hg; unfold inI64; omega) | (simp [lit] at hg; omega) | (simp [lit] at hg; exact ⟨by omega, by omega⟩)) | (show (_ : Nat) + 1 ≤ 1000000000000; omega) | exact rfl | (unfold inI64; dsimp only; omega) | (dsimp only; omega) | (intro hg; simp [lit] at hg; first | (unfold inI64; dsimp only; omega) | (dsimp only; omega)) | decide +kernel, ?_⟩)
            conv => whnf
            exact ends_eq ⟨rfl, rfl⟩
    · have h1 : ¬ r.tok.1 = 5 := of_decide_eq_false h
      rw [nodF_plain h1]
      have hg := nmS_good hv .ref
      rw [show nmF 54 = .ref from rfl]
      repeat ((conv => whnf); refine ⟨by first | exact ⟨rfl, rfl, hv⟩ | (unfold inI64; omega) | omega | exact ⟨by omega, by omega⟩ | (intro hg; first | (unfold inI64; omega) | omega | exact ⟨by omega, by omega⟩ | (simp [lit] at hg; unfold inI64; omega) | (simp [lit] at hg; omega) | (simp [lit] at hg; exact ⟨by omega, by omega⟩)) | (show (_ : Nat) + 1 ≤ 1000000000000; omega) | exact rfl | (unfold inI64; dsimp only; omega) | (dsimp only; omega) | (intro hg; simp [lit] at hg; first | (unfold inI64; dsimp only; omega) | (dsimp only; omega)) | decide +kernel, ?_⟩)
      conv => whnf
      refine cond_intro (fun h7 => ?_) (fun h7 => ?_)
      · have h8 : ¬ (nmS .ref r).1.2 = 0 := by
          have h9 : (!decide ((nmS .ref r).1.2 = 0)) = true := h7
          simpa using h9
        have e8 : nodR (bodS k) e0 r.tok .ref r = ((nmS .ref r).1.2, (nmS .ref r).2) := by unfold nodR; simp only; rw [if_neg h8]
        rw [e8]
        repeat ((conv => whnf); refine ⟨by first | (unfold inI64; omega) | omega | exact ⟨by omega, by omega⟩ | (intro hg; first | (unfold inI64; omega) | omega | exact ⟨by omega, by omega⟩ | (simp [lit] at hg; unfold inI64; omega) | (simp [lit] at hg; omega) | (simp [lit] at hg; exact ⟨by omega, by omega⟩)) | (show (_ : Nat) + 1 ≤ 1000000000000; omega) | exact rfl | (unfold inI64; dsimp only; omega) | (dsimp only; omega) | (intro hg; simp [lit] at hg; first | (unfold inI64; dsimp only; omega) | (dsimp only; omega)) | decide +kernel, ?_⟩)
        conv => whnf
        exact ends_eq ⟨rfl, rfl⟩
      · have h8 : (nmS .ref r).1.2 = 0 := by
          have h9 : (!decide ((nmS .ref r).1.2 = 0)) = false := h7
          simpa using h9
        obtain ⟨f1, f2, f3, f4⟩ := nod_facts hv hv.refl rfl h8 hk (dfn 1 e0 (nmS .ref r).1.1 [] r.tok)
        repeat ((conv => whnf); refine ⟨by first | exact f3 | exact ⟨rfl, srH_add _ _, f1, f2⟩ | (unfold inI64; omega) | omega | exact ⟨by omega, by omega⟩ | (intro hg; first | (unfold inI64; omega) | omega | exact ⟨by omega, by omega⟩ | (simp [lit] at hg; unfold inI64; omega) | (simp [lit] at hg; omega) | (simp [lit] at hg; exact ⟨by omega, by omega⟩)) | (show (_ : Nat) + 1 ≤ 1000000000000; omega) | exact rfl | (unfold inI64; dsimp only; omega) | (dsimp only; omega) | (intro hg; simp [lit] at hg; first | (unfold inI64; dsimp only; omega) | (dsimp only; omega)) | decide +kernel, ?_⟩)
        conv => whnf
        refine cond_intro (fun h10 => ?_) (fun h10 => ?_)
        · have h11 : ¬ (bodS k ((nmS .ref r).2.add (dfn 1 e0 (nmS .ref r).1.1 [] r.tok))).1 = 0 := by
            have h9 : (!decide ((bodS k ((nmS .ref r).2.add (dfn 1 e0 (nmS .ref r).1.1 [] r.tok))).1 = 0)) = true := h10
            simpa using h9
          have e8 : nodR (bodS k) e0 r.tok .ref r = bodS k ((nmS .ref r).2.add (dfn 1 e0 (nmS .ref r).1.1 [] r.tok)) := by unfold nodR; simp only; rw [if_pos h8, if_neg h11]
          rw [e8]
          repeat ((conv => whnf); refine ⟨by first | (unfold inI64; omega) | omega | exact ⟨by omega, by omega⟩ | (intro hg; first | (unfold inI64; omega) | omega | exact ⟨by omega, by omega⟩ | (simp [lit] at hg; unfold inI64; omega) | (simp [lit] at hg; omega) | (simp [lit] at hg; exact ⟨by omega, by omega⟩)) | (show (_ : Nat) + 1 ≤ 1000000000000; omega) | exact rfl | (unfold inI64; dsimp only; omega) | (dsimp only; omega) | (intro hg; simp [lit] at hg; first | (unfold inI64; dsimp only; omega) | (dsimp only; omega)) | decide +kernel, ?_⟩)
          conv => whnf
          exact ends_eq ⟨rfl, rfl⟩
        · have h11 : (bodS k ((nmS .ref r).2.add (dfn 1 e0 (nmS .ref r).1.1 [] r.tok))).1 = 0 := by
            have h9 : (!decide ((bodS k ((nmS .ref r).2.add (dfn 1 e0 (nmS .ref r).1.1 [] r.tok))).1 = 0)) = false := h10
            simpa using h9
          have e8 : nodR (bodS k) e0 r.tok .ref r = mustS ⟨#[59]⟩ (bodS k ((nmS .ref r).2.add (dfn 1 e0 (nmS .ref r).1.1 [] r.tok))).2 := by unfold nodR; simp only; rw [if_pos h8, if_pos h11]
          rw [e8]
          have f5 := f4 h11
          repeat ((conv => whnf); refine ⟨by first | exact ⟨rfl, rfl, f5⟩ | (unfold inI64; omega) | omega | exact ⟨by omega, by omega⟩ | (intro hg; first | (unfold inI64; omega) | omega | exact ⟨by omega, by omega⟩ | (simp [lit] at hg; unfold inI64; omega) | (simp [lit] at hg; omega) | (simp [lit] at hg; exact ⟨by omega, by omega⟩)) | (show (_ : Nat) + 1 ≤ 1000000000000; omega) | exact rfl | (unfold inI64; dsimp only; omega) | (dsimp only; omega) | (intro hg; simp [lit] at hg; first | (unfold inI64; dsimp only; omega) | (dsimp only; omega)) | decide +kernel, ?_⟩)
          conv => whnf
          exact ends_eq ⟨rfl, rfl⟩
  · repeat ((conv => whnf); refine ⟨by first | exact ⟨rfl, rfl, hv⟩ | (unfold inI64; omega) | omega | exact ⟨by omega, by omega⟩ | (intro hg; first | (unfold inI64; omega) | omega | exact ⟨by omega, by omega⟩ | (simp [lit] at hg; unfold inI64; omega) | (simp [lit] at hg; omega) | (simp [lit] at hg; exact ⟨by omega, by omega⟩)) | (show (_ : Nat) + 1 ≤ 1000000000000; omega) | exact rfl | (unfold inI64; dsimp only; omega) | (dsimp only; omega) | (intro hg; simp [lit] at hg; first | (unfold inI64; dsimp only; omega) | (dsimp only; omega)) | decide +kernel, ?_⟩)
    conv => whnf
    refine cond_intro (fun h => ?_) (fun h => ?_)
    · have h1 : r.tok.1 = 5 := of_decide_eq_true h
      rw [nodF_label h1]
      have hg0 := takeS_good hv (k := 5) (by decide) labB
      repeat ((conv => whnf); refine ⟨by first | exact ⟨rfl, rfl, hv, by decide, .inl rfl⟩ | (unfold inI64; omega) | omega | exact ⟨by omega, by omega⟩ | (intro hg; first | (unfold inI64; omega) | omega | exact ⟨by omega, by omega⟩ | (simp [lit] at hg; unfold inI64; omega) | (simp [lit] at hg; omega) | (simp [lit] at hg; exact ⟨by omega, by omega⟩)) | (show (_ : Nat) + 1 ≤ 1000000000000; omega) | exact rfl | (unfold inI64; dsimp only; omega) | (dsimp only; omega) | (intro hg; simp [lit] at hg; first | (unfold inI64; dsimp only; omega) | (dsimp only; omega)) | decide +kernel, ?_⟩)
      conv => whnf
      refine cond_intro (fun h2 => ?_) (fun h2 => ?_)
      · have h3 : ¬ (takeS 5 labB r).1.2 = 0 := by
          have h4 : (!decide ((takeS 5 labB r).1.2 = 0)) = true := h2
          simpa using h4
        rw [if_neg h3]
        repeat ((conv => whnf); refine ⟨by first | (unfold inI64; omega) | omega | exact ⟨by omega, by omega⟩ | (intro hg; first | (unfold inI64; omega) | omega | exact ⟨by omega, by omega⟩ | (simp [lit] at hg; unfold inI64; omega) | (simp [lit] at hg; omega) | (simp [lit] at hg; exact ⟨by omega, by omega⟩)) | (show (_ : Nat) + 1 ≤ 1000000000000; omega) | exact rfl | (unfold inI64; dsimp only; omega) | (dsimp only; omega) | (intro hg; simp [lit] at hg; first | (unfold inI64; dsimp only; omega) | (dsimp only; omega)) | decide +kernel, ?_⟩)
        conv => whnf
        exact ends_eq ⟨rfl, rfl⟩
      · have h3 : (takeS 5 labB r).1.2 = 0 := by
          have h4 : (!decide ((takeS 5 labB r).1.2 = 0)) = false := h2
          simpa using h4
        rw [if_pos h3]
        rw [h3] at hg0
        have vq := hg0.vld hv
        have hg := nmS_good vq .root
        rw [show nmF 56 = .root from rfl]
        repeat ((conv => whnf); refine ⟨by first | exact ⟨rfl, rfl, vq⟩ | (unfold inI64; omega) | omega | exact ⟨by omega, by omega⟩ | (intro hg; first | (unfold inI64; omega) | omega | exact ⟨by omega, by omega⟩ | (simp [lit] at hg; unfold inI64; omega) | (simp [lit] at hg; omega) | (simp [lit] at hg; exact ⟨by omega, by omega⟩)) | (show (_ : Nat) + 1 ≤ 1000000000000; omega) | exact rfl | (unfold inI64; dsimp only; omega) | (dsimp only; omega) | (intro hg; simp [lit] at hg; first | (unfold inI64; dsimp only; omega) | (dsimp only; omega)) | decide +kernel, ?_⟩)
        conv => whnf
        refine cond_intro (fun h7 => ?_) (fun h7 => ?_)
        · have h8 : ¬ (nmS .root (takeS 5 labB r).2).1.2 = 0 := by
            have h9 : (!decide ((nmS .root (takeS 5 labB r).2).1.2 = 0)) = true := h7
            simpa using h9
          have e8 : nodR (bodS k) (takeS 5 labB r).1.1 r.tok .root (takeS 5 labB r).2 = ((nmS .root (takeS 5 labB r).2).1.2, (nmS .root (takeS 5 labB r).2).2) := by unfold nodR; simp only; rw [if_neg h8]
          rw [e8]
          repeat ((conv => whnf); refine ⟨by first | (unfold inI64; omega) | omega | exact ⟨by omega, by omega⟩ | (intro hg; first | (unfold inI64; omega) | omega | exact ⟨by omega, by omega⟩ | (simp [lit] at hg; unfold inI64; omega) | (simp [lit] at hg; omega) | (simp [lit] at hg; exact ⟨by omega, by omega⟩)) | (show (_ : Nat) + 1 ≤ 1000000000000; omega) | exact rfl | (unfold inI64; dsimp only; omega) | (dsimp only; omega) | (intro hg; simp [lit] at hg; first | (unfold inI64; dsimp only; omega) | (dsimp only; omega)) | decide +kernel, ?_⟩)
          conv => whnf
          exact ends_eq ⟨rfl, rfl⟩
        · have h8 : (nmS .root (takeS 5 labB r).2).1.2 = 0 := by
            have h9 : (!decide ((nmS .root (takeS 5 labB r).2).1.2 = 0)) = false := h7
            simpa using h9
          obtain ⟨f1, f2, f3, f4⟩ := nod_facts hv hg0.adv (hg0.ok rfl).2.1 h8 hk (dfn 1 (takeS 5 labB r).1.1 (nmS .root (takeS 5 labB r).2).1.1 [] r.tok)
          repeat ((conv => whnf); refine ⟨by first | exact f3 | exact ⟨rfl, srH_add _ _, f1, f2⟩ | (unfold inI64; omega) | omega | exact ⟨by omega, by omega⟩ | (intro hg; first | (unfold inI64; omega) | omega | exact ⟨by omega, by omega⟩ | (simp [lit] at hg; unfold inI64; omega) | (simp [lit] at hg; omega) | (simp [lit] at hg; exact ⟨by omega, by omega⟩)) | (show (_ : Nat) + 1 ≤ 1000000000000; omega) | exact rfl | (unfold inI64; dsimp only; omega) | (dsimp only; omega) | (intro hg; simp [lit] at hg; first | (unfold inI64; dsimp only; omega) | (dsimp only; omega)) | decide +kernel, ?_⟩)
          conv => whnf
          refine cond_intro (fun h10 => ?_) (fun h10 => ?_)
          · have h11 : ¬ (bodS k ((nmS .root (takeS 5 labB r).2).2.add (dfn 1 (takeS 5 labB r).1.1 (nmS .root (takeS 5 labB r).2).1.1 [] r.tok))).1 = 0 := by
              have h9 : (!decide ((bodS k ((nmS .root (takeS 5 labB r).2).2.add (dfn 1 (takeS 5 labB r).1.1 (nmS .root (takeS 5 labB r).2).1.1 [] r.tok))).1 = 0)) = true := h10
              simpa using h9
            have e8 : nodR (bodS k) (takeS 5 labB r).1.1 r.tok .root (takeS 5 labB r).2 = bodS k ((nmS .root (takeS 5 labB r).2).2.add (dfn 1 (takeS 5 labB r).1.1 (nmS .root (takeS 5 labB r).2).1.1 [] r.tok)) := by unfold nodR; simp only; rw [if_pos h8, if_neg h11]
            rw [e8]
            repeat ((conv => whnf); refine ⟨by first | (unfold inI64; omega) | omega | exact ⟨by omega, by omega⟩ | (intro hg; first | (unfold inI64; omega) | omega | exact ⟨by omega, by omega⟩ | (simp [lit] at hg; unfold inI64; omega) | (simp [lit] at hg; omega) | (simp [lit] at hg; exact ⟨by omega, by omega⟩)) | (show (_ : Nat) + 1 ≤ 1000000000000; omega) | exact rfl | (unfold inI64; dsimp only; omega) | (dsimp only; omega) | (intro hg; simp [lit] at hg; first | (unfold inI64; dsimp only; omega) | (dsimp only; omega)) | decide +kernel, ?_⟩)
            conv => whnf
            exact ends_eq ⟨rfl, rfl⟩
          · have h11 : (bodS k ((nmS .root (takeS 5 labB r).2).2.add (dfn 1 (takeS 5 labB r).1.1 (nmS .root (takeS 5 labB r).2).1.1 [] r.tok))).1 = 0 := by
              have h9 : (!decide ((bodS k ((nmS .root (takeS 5 labB r).2).2.add (dfn 1 (takeS 5 labB r).1.1 (nmS .root (takeS 5 labB r).2).1.1 [] r.tok))).1 = 0)) = false := h10
              simpa using h9
            have e8 : nodR (bodS k) (takeS 5 labB r).1.1 r.tok .root (takeS 5 labB r).2 = mustS ⟨#[59]⟩ (bodS k ((nmS .root (takeS 5 labB r).2).2.add (dfn 1 (takeS 5 labB r).1.1 (nmS .root (takeS 5 labB r).2).1.1 [] r.tok))).2 := by unfold nodR; simp only; rw [if_pos h8, if_pos h11]
            rw [e8]
            have f5 := f4 h11
            repeat ((conv => whnf); refine ⟨by first | exact ⟨rfl, rfl, f5⟩ | (unfold inI64; omega) | omega | exact ⟨by omega, by omega⟩ | (intro hg; first | (unfold inI64; omega) | omega | exact ⟨by omega, by omega⟩ | (simp [lit] at hg; unfold inI64; omega) | (simp [lit] at hg; omega) | (simp [lit] at hg; exact ⟨by omega, by omega⟩)) | (show (_ : Nat) + 1 ≤ 1000000000000; omega) | exact rfl | (unfold inI64; dsimp only; omega) | (dsimp only; omega) | (intro hg; simp [lit] at hg; first | (unfold inI64; dsimp only; omega) | (dsimp only; omega)) | decide +kernel, ?_⟩)
            conv => whnf
            exact ends_eq ⟨rfl, rfl⟩
    · have h1 : ¬ r.tok.1 = 5 := of_decide_eq_false h
      rw [nodF_plain h1]
      have hg := nmS_good hv .root
      rw [show nmF 56 = .root from rfl]
      repeat ((conv => whnf); refine ⟨by first | exact ⟨rfl, rfl, hv⟩ | (unfold inI64; omega) | omega | exact ⟨by omega, by omega⟩ | (intro hg; first | (unfold inI64; omega) | omega | exact ⟨by omega, by omega⟩ | (simp [lit] at hg; unfold inI64; omega) | (simp [lit] at hg; omega) | (simp [lit] at hg; exact ⟨by omega, by omega⟩)) | (show (_ : Nat) + 1 ≤ 1000000000000; omega) | exact rfl | (unfold inI64; dsimp only; omega) | (dsimp only; omega) | (intro hg; simp [lit] at hg; first | (unfold inI64; dsimp only; omega) | (dsimp only; omega)) | decide +kernel, ?_⟩)
      conv => whnf
      refine cond_intro (fun h7 => ?_) (fun h7 => ?_)
      · have h8 : ¬ (nmS .root r).1.2 = 0 := by
          have h9 : (!decide ((nmS .root r).1.2 = 0)) = true := h7
          simpa using h9
        have e8 : nodR (bodS k) e0 r.tok .root r = ((nmS .root r).1.2, (nmS .root r).2) := by unfold nodR; simp only; rw [if_neg h8]
        rw [e8]
        repeat ((conv => whnf); refine ⟨by first | (unfold inI64; omega) | omega | exact ⟨by omega, by omega⟩ | (intro hg; first | (unfold inI64; omega) | omega | exact ⟨by omega, by omega⟩ | (simp [lit] at hg; unfold inI64; omega) | (simp [lit] at hg; omega) | (simp [lit] at hg; exact ⟨by omega, by omega⟩)) | (show (_ : Nat) + 1 ≤ 1000000000000; omega) | exact rfl | (unfold inI64; dsimp only; omega) | (dsimp only; omega) | (intro hg; simp [lit] at hg; first | (unfold inI64; dsimp only; omega) | (dsimp only; omega)) | decide +kernel, ?_⟩)
        conv => whnf
        exact ends_eq ⟨rfl, rfl⟩
      · have h8 : (nmS .root r).1.2 = 0 := by
          have h9 : (!decide ((nmS .root r).1.2 = 0)) = false := h7
          simpa using h9
        obtain ⟨f1, f2, f3, f4⟩ := nod_facts hv hv.refl rfl h8 hk (dfn 1 e0 (nmS .root r).1.1 [] r.tok)
        repeat ((conv => whnf); refine ⟨by first | exact f3 | exact ⟨rfl, srH_add _ _, f1, f2⟩ | (unfold inI64; omega) | omega | exact ⟨by omega, by omega⟩ | (intro hg; first | (unfold inI64; omega) | omega | exact ⟨by omega, by omega⟩ | (simp [lit] at hg; unfold inI64; omega) | (simp [lit] at hg; omega) | (simp [lit] at hg; exact ⟨by omega, by omega⟩)) | (show (_ : Nat) + 1 ≤ 1000000000000; omega) | exact rfl | (unfold inI64; dsimp only; omega) | (dsimp only; omega) | (intro hg; simp [lit] at hg; first | (unfold inI64; dsimp only; omega) | (dsimp only; omega)) | decide +kernel, ?_⟩)
        conv => whnf
        refine cond_intro (fun h10 => ?_) (fun h10 => ?_)
        · have h11 : ¬ (bodS k ((nmS .root r).2.add (dfn 1 e0 (nmS .root r).1.1 [] r.tok))).1 = 0 := by
            have h9 : (!decide ((bodS k ((nmS .root r).2.add (dfn 1 e0 (nmS .root r).1.1 [] r.tok))).1 = 0)) = true := h10
            simpa using h9
          have e8 : nodR (bodS k) e0 r.tok .root r = bodS k ((nmS .root r).2.add (dfn 1 e0 (nmS .root r).1.1 [] r.tok)) := by unfold nodR; simp only; rw [if_pos h8, if_neg h11]
          rw [e8]
          repeat ((conv => whnf); refine ⟨by first | (unfold inI64; omega) | omega | exact ⟨by omega, by omega⟩ | (intro hg; first | (unfold inI64; omega) | omega | exact ⟨by omega, by omega⟩ | (simp [lit] at hg; unfold inI64; omega) | (simp [lit] at hg; omega) | (simp [lit] at hg; exact ⟨by omega, by omega⟩)) | (show (_ : Nat) + 1 ≤ 1000000000000; omega) | exact rfl | (unfold inI64; dsimp only; omega) | (dsimp only; omega) | (intro hg; simp [lit] at hg; first | (unfold inI64; dsimp only; omega) | (dsimp only; omega)) | decide +kernel, ?_⟩)
          conv => whnf
          exact ends_eq ⟨rfl, rfl⟩
        · have h11 : (bodS k ((nmS .root r).2.add (dfn 1 e0 (nmS .root r).1.1 [] r.tok))).1 = 0 := by
            have h9 : (!decide ((bodS k ((nmS .root r).2.add (dfn 1 e0 (nmS .root r).1.1 [] r.tok))).1 = 0)) = false := h10
            simpa using h9
          have e8 : nodR (bodS k) e0 r.tok .root r = mustS ⟨#[59]⟩ (bodS k ((nmS .root r).2.add (dfn 1 e0 (nmS .root r).1.1 [] r.tok))).2 := by unfold nodR; simp only; rw [if_pos h8, if_pos h11]
          rw [e8]
          have f5 := f4 h11
          repeat ((conv => whnf); refine ⟨by first | exact ⟨rfl, rfl, f5⟩ | (unfold inI64; omega) | omega | exact ⟨by omega, by omega⟩ | (intro hg; first | (unfold inI64; omega) | omega | exact ⟨by omega, by omega⟩ | (simp [lit] at hg; unfold inI64; omega) | (simp [lit] at hg; omega) | (simp [lit] at hg; exact ⟨by omega, by omega⟩)) | (show (_ : Nat) + 1 ≤ 1000000000000; omega) | exact rfl | (unfold inI64; dsimp only; omega) | (dsimp only; omega) | (intro hg; simp [lit] at hg; first | (unfold inI64; dsimp only; omega) | (dsimp only; omega)) | decide +kernel, ?_⟩)
          conv => whnf
          exact ends_eq ⟨rfl, rfl⟩
end Go.Ab
