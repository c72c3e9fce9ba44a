/- Package source: properties. -/
import Derived.Test.YteidakoieemlgaaGreatTX8toX9
namespace Go.Ab
open Go.Proofs
set_option linter.unusedSectionVars false
set_option maxRecDepth 100000
variable [Glob]

abbrev tokP (n : Nat) : AO := .tok 61 prtC n true
abbrev defO (k : Int) (l n : ByteArray) (t : tkC.den) (c : AC) : AO := .row [.int .i64 k, .str l, .str n, c, .int .i64 t.2.2.2.1, .int .i64 t.2.2.2.2.1, .int .i64 t.2.2.2.2.2]

def Y59 : Table := ext Y58 139 (saysR da0 ea0 (fun r _ => Vld r) fun r _ => (.int .i64 (prpS r).1, (prpS r).2))

theorem id4' : ∀ k, k < 3 → [0, 1, 2, 3][k]? = some k := fun k hk => by
  have : k = 0 ∨ k = 1 ∨ k = 2 := by omega
  rcases this with rfl | rfl | rfl <;> rfl

/-- The loop over parts, seen from its head. -/
def partsAt (b : Bool) (k : Nat) (q : Sr) (out : List prtC.den) : (List prtC.den × Int) × Sr := match b with
  | true => prtsS k q out
  | false => ((out, 0), q)

theorem y59 : TSound Tryz.prog Y59 := by
  refine extR y58 139 (fn := Tryz.f139) rfl rfl da0 ea0 _ _ (fun _ => Nat.le_of_ble_eq_true rfl) [0, 2, 3, 4, 5, 6, 7, 19, 23, 32] fun r a hs => ?_
  have hv : Vld r := hs
  have hg := nmS_good hv .prop
  repeat ((conv => whnf); refine ⟨by first | exact ⟨rfl, rfl, hv⟩ | (unfold inI64; omega) | omega | exact ⟨by omega, by omega⟩ | (intro hg; first | (unfold inI64; omega) | omega | exact ⟨by omega, by omega⟩ | (simp [lit] at hg; unfold inI64; omega) | (simp [lit] at hg; omega) | (simp [lit] at hg; exact ⟨by omega, by omega⟩)) | (show (_ : Nat) + 1 ≤ 1000000000000; omega) | exact rfl | (unfold inI64; dsimp only; omega) | (dsimp only; omega) | (intro hg; simp [lit] at hg; first | (unfold inI64; dsimp only; omega) | (dsimp only; omega)) | decide +kernel, ?_⟩)
  conv => whnf
  refine cond_intro (fun h => ?_) (fun h => ?_)
  · have h1 : ¬ (nmS .prop r).1.2 = 0 := by
      have h2 : (!decide ((nmS .prop r).1.2 = 0)) = true := h
      simpa using h2
    have e1 : prpS r = ((nmS .prop r).1.2, (nmS .prop r).2) := by unfold prpS; simp only; rw [if_neg h1]
    rw [e1]
    repeat ((conv => whnf); refine ⟨by first | (unfold inI64; omega) | omega | exact ⟨by omega, by omega⟩ | (intro hg; first | (unfold inI64; omega) | omega | exact ⟨by omega, by omega⟩ | (simp [lit] at hg; unfold inI64; omega) | (simp [lit] at hg; omega) | (simp [lit] at hg; exact ⟨by omega, by omega⟩)) | (show (_ : Nat) + 1 ≤ 1000000000000; omega) | exact rfl | (unfold inI64; dsimp only; omega) | (dsimp only; omega) | (intro hg; simp [lit] at hg; first | (unfold inI64; dsimp only; omega) | (dsimp only; omega)) | decide +kernel, ?_⟩)
    conv => whnf
    exact ends_eq ⟨rfl, rfl⟩
  have h1 : (nmS .prop r).1.2 = 0 := by
    have h2 : (!decide ((nmS .prop r).1.2 = 0)) = false := h
    simpa using h2
  rw [h1] at hg
  have v1 := hg.vld hv
  have e1 : prpS r = (let x := partsAt (passS ⟨#[61]⟩ (nmS .prop r).2).1 (nmS .prop r).2.toks.length (passS ⟨#[61]⟩ (nmS .prop r).2).2 []
      if x.1.2 = 0 then mustS ⟨#[59]⟩ (x.2.add (dfn 3 e0 (nmS .prop r).1.1 x.1.1 r.tok)) else (x.1.2, x.2)) := by
    unfold prpS passS
    simp only
    rw [if_pos h1]
    by_cases hs : sgnI (nmS .prop r).2.tok ⟨#[61]⟩ = true
    · rw [if_pos hs, if_pos hs]
      rfl
    · rw [if_neg hs, if_neg hs]
      rfl
  rw [e1]
  have g2 : Adv r (passS ⟨#[61]⟩ (nmS .prop r).2).2 ∧ (passS ⟨#[61]⟩ (nmS .prop r).2).2.bod = r.bod := by
    unfold passS
    split
    · have g3 := hg.trans (v1.adv (sgnI_kind (by assumption)) 0)
      exact ⟨g3.adv, (g3.ok rfl).2.1⟩
    · exact ⟨hg.adv, (hg.ok rfl).2.1⟩
  have v2 := g2.1.vld hv (by rw [g2.2]; exact hv.bod)
  have g2s : (passS ⟨#[61]⟩ (nmS .prop r).2).2.defs.length + 2 * r.at_ + 1 ≤ r.defs.length + 2 * (passS ⟨#[61]⟩ (nmS .prop r).2).2.at_ := by
    unfold passS
    split
    · exact ((hg.trans (v1.adv (sgnI_kind (by assumption)) 0)).ok rfl).2.2
    · exact (hg.ok rfl).2.2
  repeat ((conv => whnf); refine ⟨by first | exact ⟨rfl, rfl, v1⟩ | (unfold inI64; omega) | omega | exact ⟨by omega, by omega⟩ | (intro hg; first | (unfold inI64; omega) | omega | exact ⟨by omega, by omega⟩ | (simp [lit] at hg; unfold inI64; omega) | (simp [lit] at hg; omega) | (simp [lit] at hg; exact ⟨by omega, by omega⟩)) | (show (_ : Nat) + 1 ≤ 1000000000000; omega) | exact rfl | (unfold inI64; dsimp only; omega) | (dsimp only; omega) | (intro hg; simp [lit] at hg; first | (unfold inI64; dsimp only; omega) | (dsimp only; omega)) | decide +kernel, ?_⟩)
  conv => whnf
  refine loop_weak (σ := Bool × Sr × List prtC.den × Nat) (fun ⟨b, _, _, _⟩ => [(0, XV.s (.a (.c (.ptr 0 0)))), (2, XV.s .none), (3, XV.s (.a (.c (.ptr 2 0)))), (4, XV.s .none), (5, XV.s (.bool b)), (6, XV.s .none), (7, XV.s .none), (19, XV.s .none), (23, XV.s .none), (32, XV.s .none)])
    (fun ⟨_, q, ps, _⟩ => srH q ++ [defO 3 e0 (nmS .prop r).1.1 r.tok (.own 3 prtC ps), tokP ps.length])
    (fun ⟨b, q, ps, k⟩ => Adv r q ∧ q.bod = r.bod ∧ q.defs.length + 2 * r.at_ + 1 ≤ r.defs.length + 2 * q.at_ ∧ q.toks.length ≤ k + q.at_ ∧ ps.length ≤ q.at_ ∧ partsAt b k q ps = partsAt (passS ⟨#[61]⟩ (nmS .prop r).2).1 (nmS .prop r).2.toks.length (passS ⟨#[61]⟩ (nmS .prop r).2).2 []) (fun ⟨b, _, _, k⟩ => match b with | true => k + 1 | false => 0)
    ((passS ⟨#[61]⟩ (nmS .prop r).2).1, (passS ⟨#[61]⟩ (nmS .prop r).2).2, [], (nmS .prop r).2.toks.length) ?_ ?_ fun ⟨b, q, ps, k⟩ hI => ?_
  · refine (Weak.cell 2 rfl 3 rfl 61 prtC).trans (Weak.le _ ?_)
    repeat (first | exact LeL.nil | refine LeL.drop ?_ | refine LeL.same ?_)
  · refine ⟨g2.1, g2.2, g2s, ?_, Nat.zero_le _, rfl⟩
    rw [g2.1.toks, hg.adv.toks]
    exact Nat.le_add_right _ _
  obtain ⟨ha, hb, hd, hk, hz, hgo⟩ := hI
  have hq := ha.vld hv (by rw [hb]; exact hv.bod)
  have hql := hq.lt
  have hqn := hq.len
  have hcap : ps.length + 1 ≤ capBound := by show _ ≤ 1000000000000; omega
  repeat ((conv => whnf); refine ⟨by first | (unfold inI64; omega) | omega | exact ⟨by omega, by omega⟩ | (intro hg; first | (unfold inI64; omega) | omega | exact ⟨by omega, by omega⟩ | (simp [lit] at hg; unfold inI64; omega) | (simp [lit] at hg; omega) | (simp [lit] at hg; exact ⟨by omega, by omega⟩)) | (show (_ : Nat) + 1 ≤ 1000000000000; omega) | exact rfl | (unfold inI64; dsimp only; omega) | (dsimp only; omega) | (intro hg; simp [lit] at hg; first | (unfold inI64; dsimp only; omega) | (dsimp only; omega)) | decide +kernel, ?_⟩)
  conv => whnf
  refine cond_intro (fun h2 => ?_) (fun h2 => ?_)
  · obtain rfl : b = true := h2
    obtain ⟨k, rfl⟩ : ∃ j, k = j + 1 := ⟨k - 1, by omega⟩
    have hgo' : prtsS (k + 1) q ps = partsAt (passS ⟨#[61]⟩ (nmS .prop r).2).1 (nmS .prop r).2.toks.length (passS ⟨#[61]⟩ (nmS .prop r).2).2 [] := hgo
    simp only [prtsS] at hgo'
    have g3 := prtS_good hq
    repeat ((conv => whnf); refine ⟨by first | exact ⟨rfl, rfl, hq⟩ | (unfold inI64; omega) | omega | exact ⟨by omega, by omega⟩ | (intro hg; first | (unfold inI64; omega) | omega | exact ⟨by omega, by omega⟩ | (simp [lit] at hg; unfold inI64; omega) | (simp [lit] at hg; omega) | (simp [lit] at hg; exact ⟨by omega, by omega⟩)) | (show (_ : Nat) + 1 ≤ 1000000000000; omega) | exact rfl | (unfold inI64; dsimp only; omega) | (dsimp only; omega) | (intro hg; simp [lit] at hg; first | (unfold inI64; dsimp only; omega) | (dsimp only; omega)) | decide +kernel, ?_⟩)
    conv => whnf
    refine cond_intro (fun h3 => ?_) (fun h3 => ?_)
    · have h4 : ¬ (prtS q).1.2 = 0 := by
        have h5 : (!decide ((prtS q).1.2 = 0)) = true := h3
        simpa using h5
      rw [if_neg h4] at hgo'
      rw [← hgo']
      simp only
      rw [if_neg h4]
      repeat ((conv => whnf); refine ⟨by first | (unfold inI64; omega) | omega | exact ⟨by omega, by omega⟩ | (intro hg; first | (unfold inI64; omega) | omega | exact ⟨by omega, by omega⟩ | (simp [lit] at hg; unfold inI64; omega) | (simp [lit] at hg; omega) | (simp [lit] at hg; exact ⟨by omega, by omega⟩)) | (show (_ : Nat) + 1 ≤ 1000000000000; omega) | exact rfl | (unfold inI64; dsimp only; omega) | (dsimp only; omega) | (intro hg; simp [lit] at hg; first | (unfold inI64; dsimp only; omega) | (dsimp only; omega)) | decide +kernel, ?_⟩)
      conv => whnf
      exact ends_eq ⟨rfl, rfl⟩
    · have h4 : (prtS q).1.2 = 0 := by
        have h5 : (!decide ((prtS q).1.2 = 0)) = false := h3
        simpa using h5
      rw [if_pos h4] at hgo'
      rw [h4] at g3
      have v3 := g3.vld hq
      have g4 : Adv r (passS ⟨#[44]⟩ (prtS q).2).2 ∧ (passS ⟨#[44]⟩ (prtS q).2).2.bod = r.bod ∧ (passS ⟨#[44]⟩ (prtS q).2).2.defs.length + 2 * r.at_ + 1 ≤ r.defs.length + 2 * (passS ⟨#[44]⟩ (prtS q).2).2.at_ ∧ q.at_ < (passS ⟨#[44]⟩ (prtS q).2).2.at_ ∧ (passS ⟨#[44]⟩ (prtS q).2).2.toks = q.toks := by
        have g5 := ha.then hb g3
        unfold passS
        split
        · have g6 := v3.adv (sgnI_kind (by assumption)) 0
          have g7 := g5.trans g6
          exact ⟨g7.adv, (g7.ok rfl).2.1, (g7.ok rfl).2.2, Nat.lt_trans (g3.ok rfl).1 (g6.ok rfl).1, g6.adv.toks.trans g3.adv.toks⟩
        · exact ⟨g5.adv, (g5.ok rfl).2.1, (g5.ok rfl).2.2, (g3.ok rfl).1, g3.adv.toks⟩
      repeat ((conv => whnf); refine ⟨by first | exact ⟨rfl, hcap⟩ | exact hcap | exact ⟨rfl, rfl, v3⟩ | (unfold inI64; omega) | omega | exact ⟨by omega, by omega⟩ | (intro hg; first | (unfold inI64; omega) | omega | exact ⟨by omega, by omega⟩ | (simp [lit] at hg; unfold inI64; omega) | (simp [lit] at hg; omega) | (simp [lit] at hg; exact ⟨by omega, by omega⟩)) | (show (_ : Nat) + 1 ≤ 1000000000000; omega) | exact rfl | (unfold inI64; dsimp only; omega) | (dsimp only; omega) | (intro hg; simp [lit] at hg; first | (unfold inI64; dsimp only; omega) | (dsimp only; omega)) | decide +kernel, ?_⟩)
      conv => whnf
      refine head_keep ((passS ⟨#[44]⟩ (prtS q).2).1, (passS ⟨#[44]⟩ (prtS q).2).2, ps ++ [(prtS q).1.1], k) [0, 1, 2, 3] rfl id4' ?_ ?_ ?_ ?_
      · show _ = some (srH (passS ⟨#[44]⟩ (prtS q).2).2 ++ [defO 3 e0 (nmS .prop r).1.1 r.tok (.own 3 prtC (ps ++ [(prtS q).1.1])), tokP (ps ++ [(prtS q).1.1]).length])
        rw [List.length_append]
        rfl
      · repeat (first | exact KeepL.nil | refine KeepL.drop ?_ | refine KeepL.ren rfl ?_)
      · refine ⟨g4.1, g4.2.1, g4.2.2.1, ?_, ?_, ?_⟩
        · rw [g4.2.2.2.2]
          have h8 := g4.2.2.2.1
          show q.toks.length ≤ k + (passS ⟨#[44]⟩ (prtS q).2).2.at_
          omega
        · rw [List.length_append]
          have h8 := g4.2.2.2.1
          show ps.length + 1 ≤ (passS ⟨#[44]⟩ (prtS q).2).2.at_
          omega
        · rw [← hgo']
          unfold passS
          split <;> rfl
      · show (match (passS ⟨#[44]⟩ (prtS q).2).1 with | true => k + 1 | false => 0) < k + 1 + 1
        split
        · exact Nat.lt_succ_self _
        · exact Nat.succ_pos _
  · obtain rfl : b = false := h2
    have hgo' : ((ps, (0 : Int)), q) = partsAt (passS ⟨#[61]⟩ (nmS .prop r).2).1 (nmS .prop r).2.toks.length (passS ⟨#[61]⟩ (nmS .prop r).2).2 [] := hgo
    rw [← hgo']
    simp only [if_true]
    have c1 : Vld (q.add (dfn 3 e0 (nmS .prop r).1.1 ps r.tok)) := by
      refine ⟨hq.len, hq.lt, hq.lst, hq.fit, ?_, hq.bod⟩
      show (q.defs ++ [dfn 3 e0 (nmS .prop r).1.1 ps r.tok]).length ≤ 2 * q.at_
      rw [List.length_append]
      show q.defs.length + 1 ≤ 2 * q.at_
      have := hv.dfs
      omega
    have c2 := hq.cap
    repeat ((conv => whnf); refine ⟨by first | exact c2 | exact ⟨rfl, srH_add _ _, c1⟩ | (unfold inI64; omega) | omega | exact ⟨by omega, by omega⟩ | (intro hg; first | (unfold inI64; omega) | omega | exact ⟨by omega, by omega⟩ | (simp [lit] at hg; unfold inI64; omega) | (simp [lit] at hg; omega) | (simp [lit] at hg; exact ⟨by omega, by omega⟩)) | (show (_ : Nat) + 1 ≤ 1000000000000; omega) | exact rfl | (unfold inI64; dsimp only; omega) | (dsimp only; omega) | (intro hg; simp [lit] at hg; first | (unfold inI64; dsimp only; omega) | (dsimp only; omega)) | decide +kernel, ?_⟩)
    conv => whnf
    exact ends_eq ⟨rfl, rfl⟩
end Go.Ab
