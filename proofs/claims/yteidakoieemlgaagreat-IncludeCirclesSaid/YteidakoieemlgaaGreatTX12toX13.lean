/- Package source: members and bodies. -/
import Derived.Test.YteidakoieemlgaaGreatTX11
namespace Go.Ab
open Go.Proofs
set_option linter.unusedSectionVars false
set_option maxRecDepth 100000
variable [Glob]

abbrev tB (k : Nat) : Table := ext Y59 76 (sB k)
abbrev tN (k : Nat) : Table := ext (tB k) 55 (sN k)

def sM (k : Nat) : Says := saysR da0 ea0 (fun r _ => Vld r ∧ r.toks.length ≤ k + 1 + r.at_) fun r _ => (.int .i64 (memF (nodF (bodS k)) r).1, (memF (nodF (bodS k)) r).2)

theorem yM (k : Nat) (hT : TSound Tryz.prog (tN k)) : TSound Tryz.prog (ext (tN k) 113 (sM k)) := by
  refine extR hT 113 (fn := Tryz.f113) rfl rfl da0 ea0 _ _ (fun _ => Nat.le_of_ble_eq_true rfl) [0, 2, 3, 6, 13, 20] fun r _ hs => ?_
  obtain ⟨hv, hk⟩ := hs
  have hi := hv.i64
  unfold memF
  repeat ((conv => whnf); refine ⟨by first | exact ⟨rfl, rfl, hv⟩ | (unfold inI64; omega) | omega | exact ⟨by omega, by omega⟩ | (intro hg; first | (unfold inI64; omega) | omega | exact ⟨by omega, by omega⟩ | (simp [lit] at hg; unfold inI64; omega) | (simp [lit] at hg; omega) | (simp [lit] at hg; exact ⟨by omega, by omega⟩)) | (show (_ : Nat) + 1 ≤ 1000000000000; omega) | exact rfl | (unfold inI64; dsimp only; omega) | (dsimp only; omega) | (intro hg; simp [lit] at hg; first | (unfold inI64; dsimp only; omega) | (dsimp only; omega)) | decide +kernel, ?_⟩)
  conv => whnf
  refine cond_intro (fun h => ?_) (fun h => ?_)
  · have h1 : wrdI r.tok ⟨#[100, 101, 108, 101, 116, 101, 45, 112, 114, 111, 112, 101, 114, 116, 121]⟩ = true := h
    rw [if_pos h1]
    repeat ((conv => whnf); refine ⟨by first | exact ⟨rfl, rfl, hv, wrdI_kind h1, .inr (.inl rfl)⟩ | (unfold inI64; omega) | omega | exact ⟨by omega, by omega⟩ | (intro hg; first | (unfold inI64; omega) | omega | exact ⟨by omega, by omega⟩ | (simp [lit] at hg; unfold inI64; omega) | (simp [lit] at hg; omega) | (simp [lit] at hg; exact ⟨by omega, by omega⟩)) | (show (_ : Nat) + 1 ≤ 1000000000000; omega) | exact rfl | (unfold inI64; dsimp only; omega) | (dsimp only; omega) | (intro hg; simp [lit] at hg; first | (unfold inI64; dsimp only; omega) | (dsimp only; omega)) | decide +kernel, ?_⟩)
    conv => whnf
    exact ends_eq ⟨rfl, rfl⟩
  have h1 : ¬ wrdI r.tok ⟨#[100, 101, 108, 101, 116, 101, 45, 112, 114, 111, 112, 101, 114, 116, 121]⟩ = true := by
    have h2 : wrdI r.tok ⟨#[100, 101, 108, 101, 116, 101, 45, 112, 114, 111, 112, 101, 114, 116, 121]⟩ = false := h
    rw [h2]; simp
  rw [if_neg h1]
  repeat ((conv => whnf); refine ⟨by first | (unfold inI64; omega) | omega | exact ⟨by omega, by omega⟩ | (intro hg; first | (unfold inI64; omega) | omega | exact ⟨by omega, by omega⟩ | (simp [lit] at hg; unfold inI64; omega) | (simp [lit] at hg; omega) | (simp [lit] at hg; exact ⟨by omega, by omega⟩)) | (show (_ : Nat) + 1 ≤ 1000000000000; omega) | exact rfl | (unfold inI64; dsimp only; omega) | (dsimp only; omega) | (intro hg; simp [lit] at hg; first | (unfold inI64; dsimp only; omega) | (dsimp only; omega)) | decide +kernel, ?_⟩)
  conv => whnf
  refine cond_intro (fun h3 => ?_) (fun h3 => ?_)
  · have h4 : wrdI r.tok ⟨#[100, 101, 108, 101, 116, 101, 45, 110, 111, 100, 101]⟩ = true := h3
    rw [if_pos h4]
    repeat ((conv => whnf); refine ⟨by first | exact ⟨rfl, rfl, hv, wrdI_kind h4, .inl rfl⟩ | (unfold inI64; omega) | omega | exact ⟨by omega, by omega⟩ | (intro hg; first | (unfold inI64; omega) | omega | exact ⟨by omega, by omega⟩ | (simp [lit] at hg; unfold inI64; omega) | (simp [lit] at hg; omega) | (simp [lit] at hg; exact ⟨by omega, by omega⟩)) | (show (_ : Nat) + 1 ≤ 1000000000000; omega) | exact rfl | (unfold inI64; dsimp only; omega) | (dsimp only; omega) | (intro hg; simp [lit] at hg; first | (unfold inI64; dsimp only; omega) | (dsimp only; omega)) | decide +kernel, ?_⟩)
    conv => whnf
    exact ends_eq ⟨rfl, rfl⟩
  have h4 : ¬ wrdI r.tok ⟨#[100, 101, 108, 101, 116, 101, 45, 110, 111, 100, 101]⟩ = true := by
    have h2 : wrdI r.tok ⟨#[100, 101, 108, 101, 116, 101, 45, 110, 111, 100, 101]⟩ = false := h3
    rw [h2]; simp
  rw [if_neg h4]
  have hin : lit true (decide (r.tok.1 = 1)) = true → 0 ≤ (r.at_ : Int) + 1 ∧ (r.at_ : Int) + 1 < (r.toks.length : Nat) := fun hg => by
    have h5 : r.tok.1 = 1 := by simpa [lit] using hg
    have h6 := (hv.adv (show r.tok.1 ≠ 8 by rw [h5]; decide) 0).adv.lt
    have h7 : r.at_ + 1 < r.toks.length := h6
    omega
  repeat ((conv => whnf); refine ⟨by first | exact hin | exact fun _ => hi | (unfold inI64; omega) | omega | exact ⟨by omega, by omega⟩ | (intro hg; first | (unfold inI64; omega) | omega | exact ⟨by omega, by omega⟩ | (simp [lit] at hg; unfold inI64; omega) | (simp [lit] at hg; omega) | (simp [lit] at hg; exact ⟨by omega, by omega⟩)) | (show (_ : Nat) + 1 ≤ 1000000000000; omega) | exact rfl | (unfold inI64; dsimp only; omega) | (dsimp only; omega) | (intro hg; simp [lit] at hg; first | (unfold inI64; dsimp only; omega) | (dsimp only; omega)) | decide +kernel, ?_⟩)
  conv => whnf
  refine cond_intro (fun h5 => ?_) (fun h5 => ?_)
  · have h6 : r.tok.1 = 1 ∧ sgnI r.adv.tok ⟨#[123]⟩ = false := by
      have h7 : (decide (r.tok.1 = 1) && !sgnI r.adv.tok ⟨#[123]⟩) = true := h5
      simpa using h7
    rw [if_pos h6]
    repeat ((conv => whnf); refine ⟨by first | exact ⟨rfl, rfl, hv⟩ | (unfold inI64; omega) | omega | exact ⟨by omega, by omega⟩ | (intro hg; first | (unfold inI64; omega) | omega | exact ⟨by omega, by omega⟩ | (simp [lit] at hg; unfold inI64; omega) | (simp [lit] at hg; omega) | (simp [lit] at hg; exact ⟨by omega, by omega⟩)) | (show (_ : Nat) + 1 ≤ 1000000000000; omega) | exact rfl | (unfold inI64; dsimp only; omega) | (dsimp only; omega) | (intro hg; simp [lit] at hg; first | (unfold inI64; dsimp only; omega) | (dsimp only; omega)) | decide +kernel, ?_⟩)
    conv => whnf
    exact ends_eq ⟨rfl, rfl⟩
  · have h6 : ¬ (r.tok.1 = 1 ∧ sgnI r.adv.tok ⟨#[123]⟩ = false) := by
      have h7 : (decide (r.tok.1 = 1) && !sgnI r.adv.tok ⟨#[123]⟩) = false := h5
      simpa using h7
    rw [if_neg h6]
    repeat ((conv => whnf); refine ⟨by first | exact ⟨rfl, rfl, hv, hk, .inl rfl⟩ | (unfold inI64; omega) | omega | exact ⟨by omega, by omega⟩ | (intro hg; first | (unfold inI64; omega) | omega | exact ⟨by omega, by omega⟩ | (simp [lit] at hg; unfold inI64; omega) | (simp [lit] at hg; omega) | (simp [lit] at hg; exact ⟨by omega, by omega⟩)) | (show (_ : Nat) + 1 ≤ 1000000000000; omega) | exact rfl | (unfold inI64; dsimp only; omega) | (dsimp only; omega) | (intro hg; simp [lit] at hg; first | (unfold inI64; dsimp only; omega) | (dsimp only; omega)) | decide +kernel, ?_⟩)
    conv => whnf
    exact ends_eq ⟨rfl, rfl⟩

abbrev tM (k : Nat) : Table := ext (tN k) 113 (sM k)

theorem srH_addz (q : Sr) (d : defC.den) (z : Nat) (b : Int) (hz : (z : Int) = b) : [AO.row [.p (.l tkC q.toks), .int .i64 q.at_, .int .i64 b, .own 1 defC (q.defs ++ [d])], .tok 52 defC (q.defs.length + 1) true] = srH ({ q with bod := z }.add d) := by
  subst hz
  exact srH_add { q with bod := z } d

set_option maxHeartbeats 1000000 in
theorem yB (k : Nat) (hT : TSound Tryz.prog (tM k)) : TSound Tryz.prog (ext (tM k) 76 (sB (k + 1))) := by
  refine extR hT 76 (fn := Tryz.f76) rfl rfl da0 ea0 _ _ (fun _ => Nat.le_of_ble_eq_true rfl) [0, 2, 3, 4, 14, 18, 30, 34] fun r _ hs => ?_
  obtain ⟨hv, hk⟩ := hs
  have hb9 := hv.bod
  have hi : inI64 ((r.bod : Int) + 1) := by unfold inI64; omega
  have hm : ∀ q, Vld q → Good q (memF (nodF (bodS k)) q).1 (memF (nodF (bodS k)) q).2 := fun q hq => memF_good (fun q nm h => nodF_good (bodS_good k) h nm) hq
  show runF _ _ _ _ _ _ fun r' H'' => Ends r' H'' (.int .i64 (bodF (memF (nodF (bodS k))) r).1) (srH (bodF (memF (nodF (bodS k))) r).2)
  unfold bodF
  repeat ((conv => whnf); refine ⟨by first | exact ⟨rfl, rfl, hv⟩ | (unfold inI64; omega) | omega | exact ⟨by omega, by omega⟩ | (intro hg; first | (unfold inI64; omega) | omega | exact ⟨by omega, by omega⟩ | (simp [lit] at hg; unfold inI64; omega) | (simp [lit] at hg; omega) | (simp [lit] at hg; exact ⟨by omega, by omega⟩)) | (show (_ : Nat) + 1 ≤ 1000000000000; omega) | exact rfl | (unfold inI64; dsimp only; omega) | (dsimp only; omega) | (intro hg; simp [lit] at hg; first | (unfold inI64; dsimp only; omega) | (dsimp only; omega)) | decide +kernel, ?_⟩)
  conv => whnf
  refine cond_intro (fun h => ?_) (fun h => ?_)
  · have h1 : sgnI r.tok ⟨#[123]⟩ = true ∧ 8 < r.bod := by
      have h2 : (sgnI r.tok ⟨#[123]⟩ && decide (8 < (r.bod : Int))) = true := h
      obtain ⟨h3, h4⟩ := Bool.and_eq_true_iff.1 h2
      exact ⟨h3, by have := of_decide_eq_true h4; omega⟩
    rw [if_pos h1.1, if_pos h1.2]
    repeat ((conv => whnf); refine ⟨by first | (unfold inI64; omega) | omega | exact ⟨by omega, by omega⟩ | (intro hg; first | (unfold inI64; omega) | omega | exact ⟨by omega, by omega⟩ | (simp [lit] at hg; unfold inI64; omega) | (simp [lit] at hg; omega) | (simp [lit] at hg; exact ⟨by omega, by omega⟩)) | (show (_ : Nat) + 1 ≤ 1000000000000; omega) | exact rfl | (unfold inI64; dsimp only; omega) | (dsimp only; omega) | (intro hg; simp [lit] at hg; first | (unfold inI64; dsimp only; omega) | (dsimp only; omega)) | decide +kernel, ?_⟩)
    conv => whnf
    exact ends_eq ⟨rfl, rfl⟩
  have h1 : ¬ (sgnI r.tok ⟨#[123]⟩ = true ∧ 8 < r.bod) := by
    have h2 : (sgnI r.tok ⟨#[123]⟩ && decide (8 < (r.bod : Int))) = false := h
    rintro ⟨h3, h4⟩
    rw [h3, decide_eq_true (by omega)] at h2
    cases h2
  repeat ((conv => whnf); refine ⟨by first | exact ⟨rfl, rfl, hv⟩ | (unfold inI64; omega) | omega | exact ⟨by omega, by omega⟩ | (intro hg; first | (unfold inI64; omega) | omega | exact ⟨by omega, by omega⟩ | (simp [lit] at hg; unfold inI64; omega) | (simp [lit] at hg; omega) | (simp [lit] at hg; exact ⟨by omega, by omega⟩)) | (show (_ : Nat) + 1 ≤ 1000000000000; omega) | exact rfl | (unfold inI64; dsimp only; omega) | (dsimp only; omega) | (intro hg; simp [lit] at hg; first | (unfold inI64; dsimp only; omega) | (dsimp only; omega)) | decide +kernel, ?_⟩)
  conv => whnf
  refine cond_intro (fun h2 => ?_) (fun h2 => ?_)
  · have h3 : ¬ sgnI r.tok ⟨#[123]⟩ = true := by
      have h4 : (!decide ((mustS ⟨#[123]⟩ r).1 = 0)) = true := h2
      intro h5
      unfold mustS at h4
      rw [if_pos h5] at h4
      cases h4
    have e : mustS ⟨#[123]⟩ r = (6, r) := by unfold mustS; rw [if_neg h3]
    rw [if_neg h3]
    repeat ((conv => whnf); refine ⟨by first | (unfold inI64; omega) | omega | exact ⟨by omega, by omega⟩ | (intro hg; first | (unfold inI64; omega) | omega | exact ⟨by omega, by omega⟩ | (simp [lit] at hg; unfold inI64; omega) | (simp [lit] at hg; omega) | (simp [lit] at hg; exact ⟨by omega, by omega⟩)) | (show (_ : Nat) + 1 ≤ 1000000000000; omega) | exact rfl | (unfold inI64; dsimp only; omega) | (dsimp only; omega) | (intro hg; simp [lit] at hg; first | (unfold inI64; dsimp only; omega) | (dsimp only; omega)) | decide +kernel, ?_⟩)
    conv => whnf
    refine ends_eq ⟨?_, ?_⟩
    · show SV.int .i64 (mustS ⟨#[123]⟩ r).1 = SV.int .i64 6
      rw [e]
    · show srH (mustS ⟨#[123]⟩ r).2 = srH r
      rw [e]
  have h3 : sgnI r.tok ⟨#[123]⟩ = true := by
    have h4 : (!decide ((mustS ⟨#[123]⟩ r).1 = 0)) = false := h2
    unfold mustS at h4
    split at h4
    · assumption
    · cases h4
  have e : mustS ⟨#[123]⟩ r = (0, r.adv) := by unfold mustS; rw [if_pos h3]
  have h8 : ¬ 8 < r.bod := fun h => h1 ⟨h3, h⟩
  rw [if_pos h3, if_neg h8]
  have hi2 : inI64 (((mustS ⟨#[123]⟩ r).2.bod : Int) + 1) := by rw [e]; exact hi
  have g1 := hv.adv (sgnI_kind h3) 0
  have v1 : Vld { r.adv with bod := r.bod + 1 } := ⟨hv.len, g1.adv.lt, hv.lst, hv.fit, by have := hv.dfs; show r.defs.length ≤ 2 * (r.at_ + 1); omega, by show r.bod + 1 ≤ 9; omega⟩
  repeat ((conv => whnf); refine ⟨by first | exact hi2 | (unfold inI64; omega) | omega | exact ⟨by omega, by omega⟩ | (intro hg; first | (unfold inI64; omega) | omega | exact ⟨by omega, by omega⟩ | (simp [lit] at hg; unfold inI64; omega) | (simp [lit] at hg; omega) | (simp [lit] at hg; exact ⟨by omega, by omega⟩)) | (show (_ : Nat) + 1 ≤ 1000000000000; omega) | exact rfl | (unfold inI64; dsimp only; omega) | (dsimp only; omega) | (intro hg; simp [lit] at hg; first | (unfold inI64; dsimp only; omega) | (dsimp only; omega)) | decide +kernel, ?_⟩)
  conv => whnf
  refine loop_intro (σ := Sr × Nat) (fun _ => [(0, XV.s (.a (.c (.ptr 0 0)))), (2, XV.s .none), (3, XV.s .none), (4, XV.s .none), (14, XV.s .none), (18, XV.s .none), (30, XV.s .none), (34, XV.s .none)])
    (fun ⟨q, _⟩ => srH q) (fun ⟨q, n⟩ => Vld q ∧ Adv { r.adv with bod := r.bod + 1 } q ∧ q.bod = r.bod + 1 ∧ q.toks.length ≤ n + q.at_ ∧ memsF (memF (nodF (bodS k))) n q = memsF (memF (nodF (bodS k))) r.toks.length { r.adv with bod := r.bod + 1 }) (fun ⟨_, n⟩ => n)
    ({ r.adv with bod := r.bod + 1 }, r.toks.length) ?_ ?_ ?_ ?_
  · repeat (first | exact LeL.nil | refine LeL.drop ?_ | refine LeL.same ?_)
  · show [AO.row [.p (.l tkC (mustS ⟨#[123]⟩ r).2.toks), .int .i64 (mustS ⟨#[123]⟩ r).2.at_, .int .i64 (((mustS ⟨#[123]⟩ r).2.bod : Int) + 1), .own 1 defC (mustS ⟨#[123]⟩ r).2.defs], .tok 52 defC (mustS ⟨#[123]⟩ r).2.defs.length true] = srH { r.adv with bod := r.bod + 1 }
    rw [e]
    rfl
  · exact ⟨v1, v1.refl, rfl, Nat.le_add_right _ _, rfl⟩
  rintro ⟨q, n⟩ ⟨hq, ha, hb, hn, hgo⟩
  have hql := hq.lt
  have hal := ha.le
  have hat : q.toks = r.toks := ha.toks
  have hle : r.at_ + 1 ≤ q.at_ := hal
  have hk2 : q.toks.length ≤ k + 1 + q.at_ := by rw [hat]; omega
  obtain ⟨n, rfl⟩ : ∃ j, n = j + 1 := ⟨n - 1, by omega⟩
  simp only [memsF] at hgo
  repeat ((conv => whnf); refine ⟨by first | exact ⟨rfl, rfl, hq⟩ | (unfold inI64; omega) | omega | exact ⟨by omega, by omega⟩ | (intro hg; first | (unfold inI64; omega) | omega | exact ⟨by omega, by omega⟩ | (simp [lit] at hg; unfold inI64; omega) | (simp [lit] at hg; omega) | (simp [lit] at hg; exact ⟨by omega, by omega⟩)) | (show (_ : Nat) + 1 ≤ 1000000000000; omega) | exact rfl | (unfold inI64; dsimp only; omega) | (dsimp only; omega) | (intro hg; simp [lit] at hg; first | (unfold inI64; dsimp only; omega) | (dsimp only; omega)) | decide +kernel, ?_⟩)
  conv => whnf
  refine cond_intro (fun h4 => ?_) (fun h4 => ?_)
  · have h5 : ¬ sgnI q.tok ⟨#[125]⟩ = true := by
      have h6 : (!sgnI q.tok ⟨#[125]⟩) = true := h4
      simpa using h6
    rw [if_neg h5] at hgo
    have g3 := hm q hq
    repeat ((conv => whnf); refine ⟨by first | exact ⟨rfl, rfl, hq, hk2⟩ | (unfold inI64; omega) | omega | exact ⟨by omega, by omega⟩ | (intro hg; first | (unfold inI64; omega) | omega | exact ⟨by omega, by omega⟩ | (simp [lit] at hg; unfold inI64; omega) | (simp [lit] at hg; omega) | (simp [lit] at hg; exact ⟨by omega, by omega⟩)) | (show (_ : Nat) + 1 ≤ 1000000000000; omega) | exact rfl | (unfold inI64; dsimp only; omega) | (dsimp only; omega) | (intro hg; simp [lit] at hg; first | (unfold inI64; dsimp only; omega) | (dsimp only; omega)) | decide +kernel, ?_⟩)
    conv => whnf
    refine cond_intro (fun h6 => ?_) (fun h6 => ?_)
    · have h7 : ¬ (memF (nodF (bodS k)) q).1 = 0 := by
        have h9 : (!decide ((memF (nodF (bodS k)) q).1 = 0)) = true := h6
        simpa using h9
      rw [if_neg h7] at hgo
      simp only
      rw [← hgo, if_neg h7]
      repeat ((conv => whnf); refine ⟨by first | (unfold inI64; omega) | omega | exact ⟨by omega, by omega⟩ | (intro hg; first | (unfold inI64; omega) | omega | exact ⟨by omega, by omega⟩ | (simp [lit] at hg; unfold inI64; omega) | (simp [lit] at hg; omega) | (simp [lit] at hg; exact ⟨by omega, by omega⟩)) | (show (_ : Nat) + 1 ≤ 1000000000000; omega) | exact rfl | (unfold inI64; dsimp only; omega) | (dsimp only; omega) | (intro hg; simp [lit] at hg; first | (unfold inI64; dsimp only; omega) | (dsimp only; omega)) | decide +kernel, ?_⟩)
      conv => whnf
      exact ends_eq ⟨rfl, rfl⟩
    · have h7 : (memF (nodF (bodS k)) q).1 = 0 := by
        have h9 : (!decide ((memF (nodF (bodS k)) q).1 = 0)) = false := h6
        simpa using h9
      rw [if_pos h7] at hgo
      rw [h7] at g3
      repeat ((conv => whnf); refine ⟨by first | (unfold inI64; omega) | omega | exact ⟨by omega, by omega⟩ | (intro hg; first | (unfold inI64; omega) | omega | exact ⟨by omega, by omega⟩ | (simp [lit] at hg; unfold inI64; omega) | (simp [lit] at hg; omega) | (simp [lit] at hg; exact ⟨by omega, by omega⟩)) | (show (_ : Nat) + 1 ≤ 1000000000000; omega) | exact rfl | (unfold inI64; dsimp only; omega) | (dsimp only; omega) | (intro hg; simp [lit] at hg; first | (unfold inI64; dsimp only; omega) | (dsimp only; omega)) | decide +kernel, ?_⟩)
      conv => whnf
      refine head_intro ((memF (nodF (bodS k)) q).2, n) ?_ ?_ ?_ ?_
      · repeat (first | exact LeL.nil | refine LeL.drop ?_ | refine LeL.same ?_)
      · rfl
      · refine ⟨g3.vld hq, ha.trans g3.adv, (g3.ok rfl).2.1.trans hb, ?_, hgo⟩
        rw [g3.adv.toks]
        have := (g3.ok rfl).1
        show q.toks.length ≤ n + (memF (nodF (bodS k)) q).2.at_
        omega
      · exact Nat.lt_succ_self n
  · have h5 : sgnI q.tok ⟨#[125]⟩ = true := by
      have h6 : (!sgnI q.tok ⟨#[125]⟩) = false := h4
      simpa using h6
    rw [if_pos h5] at hgo
    simp only
    rw [← hgo]
    simp only [if_true]
    have hbi : inI64 ((q.bod : Int) - 1) := by unfold inI64; omega
    have hz : ((((q.bod : Int) - 1).toNat : Nat) : Int) = (q.bod : Int) - 1 := by omega
    have hz2 : ((q.bod : Int) - 1).toNat = q.bod - 1 := by omega
    have vz : Vld { q with bod := ((q.bod : Int) - 1).toNat } := ⟨hq.len, hq.lt, hq.lst, hq.fit, hq.dfs, by show ((q.bod : Int) - 1).toNat ≤ 9; omega⟩
    have hH : [AO.row [.p (.l tkC q.toks), .int .i64 q.at_, .int .i64 ((q.bod : Int) - 1), .own 1 defC q.defs], .tok 52 defC q.defs.length true] = srH { q with bod := ((q.bod : Int) - 1).toNat } := by
      show _ = [AO.row [.p (.l tkC q.toks), .int .i64 q.at_, .int .i64 ((((q.bod : Int) - 1).toNat : Nat) : Int), .own 1 defC q.defs], .tok 52 defC q.defs.length true]
      rw [hz]
    have cap := hq.cap
    have c1 : Vld (({ q with bod := ((q.bod : Int) - 1).toNat } : Sr).add (dfn 2 e0 e0 [] q.tok)) := by
      refine ⟨hq.len, hq.lt, hq.lst, hq.fit, ?_, vz.bod⟩
      show (q.defs ++ [dfn 2 e0 e0 [] q.tok]).length ≤ 2 * q.at_
      rw [List.length_append]
      show q.defs.length + 1 ≤ 2 * q.at_
      have d1 := ha.dfs
      have d2 : q.defs.length + 2 * (r.at_ + 1) ≤ r.defs.length + 2 * q.at_ := d1
      have d3 := hv.dfs
      omega
    repeat ((conv => whnf); refine ⟨by first | exact hbi | exact ⟨⟨rfl, hH, vz⟩, rfl⟩ | exact cap | exact ⟨rfl, srH_addz q _ _ _ hz, c1⟩ | (unfold inI64; omega) | omega | exact ⟨by omega, by omega⟩ | (intro hg; first | (unfold inI64; omega) | omega | exact ⟨by omega, by omega⟩ | (simp [lit] at hg; unfold inI64; omega) | (simp [lit] at hg; omega) | (simp [lit] at hg; exact ⟨by omega, by omega⟩)) | (show (_ : Nat) + 1 ≤ 1000000000000; omega) | exact rfl | (unfold inI64; dsimp only; omega) | (dsimp only; omega) | (intro hg; simp [lit] at hg; first | (unfold inI64; dsimp only; omega) | (dsimp only; omega)) | decide +kernel, ?_⟩)
    conv => whnf
    rw [← hz2]
    exact ends_eq ⟨rfl, rfl⟩

theorem tBk : ∀ k, TSound Tryz.prog (tB k) := by
  intro k
  induction k with
  | zero =>
    refine extR y59 76 (fn := Tryz.f76) rfl rfl da0 ea0 _ _ (fun _ => Nat.le_of_ble_eq_true rfl) [0, 2, 3, 4, 14, 18, 30, 34] fun r _ hs => ?_
    obtain ⟨hv, hk⟩ := hs
    have := hv.lt
    omega
  | succ k ih => exact ext_only (yB k (yM k (yN k ih))) y59
end Go.Ab

/- Package source: Read. -/
namespace Go.Ab
open Go.Proofs
set_option linter.unusedSectionVars false
set_option maxRecDepth 100000
variable [Glob]

def inclW : ByteArray := ⟨#[105, 110, 99, 108, 117, 100, 101]⟩
/-- Texts without includes. -/
def noIncl (toks : List tkC.den) : Prop := ∀ t ∈ toks, wrdI t inclW = false

def Y61 : Table := ext (tN 6001) 32 (saysR da0 ea0 (fun r _ => Vld r ∧ noIncl r.toks) fun r _ => (.int .i64 (topS r).1, (topS r).2))

theorem y61 : TSound Tryz.prog Y61 := by
  refine extR (yN 6001 (tBk 6001)) 32 (fn := Tryz.f32) rfl rfl da0 ea0 _ _ (fun _ => Nat.le_of_ble_eq_true rfl) [0, 1, 2, 3, 6, 12, 19] fun r _ hs => ?_
  obtain ⟨hv, hn⟩ := hs
  have hk : r.toks.length ≤ 6001 + 1 + r.at_ := by have := hv.len; omega
  have h1 : ¬ wrdI r.tok ⟨#[105, 110, 99, 108, 117, 100, 101]⟩ = true := by
    rw [show wrdI r.tok ⟨#[105, 110, 99, 108, 117, 100, 101]⟩ = false from hn _ hv.tok]
    simp
  unfold topS
  rw [if_neg h1]
  repeat ((conv => whnf); refine ⟨by first | exact ⟨rfl, rfl, hv⟩ | (unfold inI64; omega) | omega | exact ⟨by omega, by omega⟩ | (intro hg; first | (unfold inI64; omega) | omega | exact ⟨by omega, by omega⟩ | (simp [lit] at hg; unfold inI64; omega) | (simp [lit] at hg; omega) | (simp [lit] at hg; exact ⟨by omega, by omega⟩)) | (show (_ : Nat) + 1 ≤ 1000000000000; omega) | exact rfl | (unfold inI64; dsimp only; omega) | (dsimp only; omega) | (intro hg; simp [lit] at hg; first | (unfold inI64; dsimp only; omega) | (dsimp only; omega)) | decide +kernel, ?_⟩)
  conv => whnf
  refine cond_intro (fun h => ?_) (fun h => ?_)
  · exact absurd h h1
  repeat ((conv => whnf); refine ⟨by first | (unfold inI64; omega) | omega | exact ⟨by omega, by omega⟩ | (intro hg; first | (unfold inI64; omega) | omega | exact ⟨by omega, by omega⟩ | (simp [lit] at hg; unfold inI64; omega) | (simp [lit] at hg; omega) | (simp [lit] at hg; exact ⟨by omega, by omega⟩)) | (show (_ : Nat) + 1 ≤ 1000000000000; omega) | exact rfl | (unfold inI64; dsimp only; omega) | (dsimp only; omega) | (intro hg; simp [lit] at hg; first | (unfold inI64; dsimp only; omega) | (dsimp only; omega)) | decide +kernel, ?_⟩)
  conv => whnf
  refine cond_intro (fun h2 => ?_) (fun h2 => ?_)
  · have h3 : wrdI r.tok ⟨#[100, 101, 108, 101, 116, 101, 45, 110, 111, 100, 101]⟩ = true := h2
    rw [if_pos h3]
    repeat ((conv => whnf); refine ⟨by first | exact ⟨rfl, rfl, hv, wrdI_kind h3, .inr (.inr (.inl rfl))⟩ | (unfold inI64; omega) | omega | exact ⟨by omega, by omega⟩ | (intro hg; first | (unfold inI64; omega) | omega | exact ⟨by omega, by omega⟩ | (simp [lit] at hg; unfold inI64; omega) | (simp [lit] at hg; omega) | (simp [lit] at hg; exact ⟨by omega, by omega⟩)) | (show (_ : Nat) + 1 ≤ 1000000000000; omega) | exact rfl | (unfold inI64; dsimp only; omega) | (dsimp only; omega) | (intro hg; simp [lit] at hg; first | (unfold inI64; dsimp only; omega) | (dsimp only; omega)) | decide +kernel, ?_⟩)
    conv => whnf
    exact ends_eq ⟨rfl, rfl⟩
  have h3 : ¬ wrdI r.tok ⟨#[100, 101, 108, 101, 116, 101, 45, 110, 111, 100, 101]⟩ = true := by
    have h4 : wrdI r.tok ⟨#[100, 101, 108, 101, 116, 101, 45, 110, 111, 100, 101]⟩ = false := h2
    rw [h4]; simp
  rw [if_neg h3]
  repeat ((conv => whnf); refine ⟨by first | (unfold inI64; omega) | omega | exact ⟨by omega, by omega⟩ | (intro hg; first | (unfold inI64; omega) | omega | exact ⟨by omega, by omega⟩ | (simp [lit] at hg; unfold inI64; omega) | (simp [lit] at hg; omega) | (simp [lit] at hg; exact ⟨by omega, by omega⟩)) | (show (_ : Nat) + 1 ≤ 1000000000000; omega) | exact rfl | (unfold inI64; dsimp only; omega) | (dsimp only; omega) | (intro hg; simp [lit] at hg; first | (unfold inI64; dsimp only; omega) | (dsimp only; omega)) | decide +kernel, ?_⟩)
  conv => whnf
  refine cond_intro (fun h5 => ?_) (fun h5 => ?_)
  · have h6 : r.tok.1 = 6 := of_decide_eq_true h5
    rw [if_pos h6]
    repeat ((conv => whnf); refine ⟨by first | exact ⟨rfl, rfl, hv, hk, .inr (.inr (.inl rfl))⟩ | (unfold inI64; omega) | omega | exact ⟨by omega, by omega⟩ | (intro hg; first | (unfold inI64; omega) | omega | exact ⟨by omega, by omega⟩ | (simp [lit] at hg; unfold inI64; omega) | (simp [lit] at hg; omega) | (simp [lit] at hg; exact ⟨by omega, by omega⟩)) | (show (_ : Nat) + 1 ≤ 1000000000000; omega) | exact rfl | (unfold inI64; dsimp only; omega) | (dsimp only; omega) | (intro hg; simp [lit] at hg; first | (unfold inI64; dsimp only; omega) | (dsimp only; omega)) | decide +kernel, ?_⟩)
    conv => whnf
    exact ends_eq ⟨rfl, rfl⟩
  · have h6 : ¬ r.tok.1 = 6 := of_decide_eq_false h5
    rw [if_neg h6]
    repeat ((conv => whnf); refine ⟨by first | exact ⟨rfl, rfl, hv, hk, .inr (.inr (.inr rfl))⟩ | (unfold inI64; omega) | omega | exact ⟨by omega, by omega⟩ | (intro hg; first | (unfold inI64; omega) | omega | exact ⟨by omega, by omega⟩ | (simp [lit] at hg; unfold inI64; omega) | (simp [lit] at hg; omega) | (simp [lit] at hg; exact ⟨by omega, by omega⟩)) | (show (_ : Nat) + 1 ≤ 1000000000000; omega) | exact rfl | (unfold inI64; dsimp only; omega) | (dsimp only; omega) | (intro hg; simp [lit] at hg; first | (unfold inI64; dsimp only; omega) | (dsimp only; omega)) | decide +kernel, ?_⟩)
    conv => whnf
    exact ends_eq ⟨rfl, rfl⟩

theorem rGo_end : ∀ (k : Nat) (q : RdV) (zs : List tokC.den), (readGo k q zs).toks.length ≤ zs.length + k ∧ ((readGo k q zs).err = 0 → ∃ ys e, (readGo k q zs).toks = ys ++ [e] ∧ e.1 = 8) := by
  intro k
  induction k with
  | zero =>
    intro q zs
    simp only [readGo]
    refine ⟨Nat.zero_le _, fun h => ?_⟩
    split at h
    · omega
    · exact absurd h (by assumption)
  | succ k ih =>
    intro q zs
    simp only [readGo]
    by_cases h1 : (nextV q).2.1 = 0
    · rw [if_pos h1]
      by_cases h2 : (nextV q).1.kind = 8
      · rw [if_pos h2]
        exact ⟨by simp, fun _ => ⟨zs, _, rfl, h2⟩⟩
      · rw [if_neg h2]
        have := ih (nextV q).2.2 (zs ++ [(nextV q).1.den])
        refine ⟨?_, this.2⟩
        have h3 := this.1
        simp at h3
        omega
    · rw [if_neg h1]
      exact ⟨Nat.zero_le _, fun h => absurd h h1⟩

theorem rV_end (s : ByteArray) (f : Int) : (readV s f).toks.length ≤ 6000 ∧ ((readV s f).err = 0 → ∃ ys e, (readV s f).toks = ys ++ [e] ∧ e.1 = 8) := by
  unfold readV
  split
  · exact ⟨Nat.zero_le _, fun h => absurd h (by decide)⟩
  · have := rGo_end 6000 ⟨s, f, 1, 1⟩ []
    exact ⟨by simpa using this.1, this.2⟩

/-- What the tokens of a text are like. -/
def okT (t : tkC.den) : Bool := !wrdI t inclW && decide (t.2.1.size ≤ 16000) && decide (0 ≤ t.2.2.1) && decide (t.2.2.1 ≤ 4294967295)

theorem srV_vld {s : ByteArray} {f : Int} (h0 : (readV s f).err = 0) (h : (readV s f).toks.all okT = true) : Vld ⟨(readV s f).toks, 0, 0, []⟩ ∧ noIncl (readV s f).toks := by
  obtain ⟨h1, h2⟩ := rV_end s f
  obtain ⟨ys, e, h3, h4⟩ := h2 h0
  have hall : ∀ t ∈ (readV s f).toks, wrdI t inclW = false ∧ t.2.1.size ≤ 16000 ∧ 0 ≤ t.2.2.1 ∧ t.2.2.1 ≤ 4294967295 := fun t ht => by
    have := List.all_eq_true.1 h t ht
    unfold okT at this
    obtain ⟨h5, h6⟩ := Bool.and_eq_true_iff.1 this
    obtain ⟨h7, h8⟩ := Bool.and_eq_true_iff.1 h5
    obtain ⟨h9, h10⟩ := Bool.and_eq_true_iff.1 h7
    exact ⟨by simpa using h9, of_decide_eq_true h10, of_decide_eq_true h8, of_decide_eq_true h6⟩
  refine ⟨⟨by show (readV s f).toks.length ≤ 6001; omega, ?_, ?_, fun t ht => (hall t ht).2, Nat.le_refl _, Nat.zero_le _⟩, fun t ht => (hall t ht).1⟩
  · show 0 < (readV s f).toks.length
    rw [h3]; simp
  · intro i hi
    show ((readV s f).toks.getD i tkC.dflt).1 = 8
    have hi' : i + 1 = (readV s f).toks.length := hi
    rw [h3] at hi' ⊢
    have : i = ys.length := by simpa using hi'
    subst this
    rw [List.getD_eq_getElem?_getD]
    simp [h4]

def TokP (r : Sr) : Prop := r.toks.length ≤ 6001 ∧ r.at_ < r.toks.length
theorem Vld.tokP {r : Sr} (h : Vld r) : TokP r := ⟨h.len, h.lt⟩

def Y63 : Table := ext Y61 31 (looks (looksR da0 ea0 (fun r _ => TokP r) fun r _ => tokA r.tok))
theorem y63 : TSound Tryz.prog Y63 := by
  refine extLR y61 31 (fn := Tryz.f31) rfl rfl da0 ea0 _ _ (fun _ => Nat.le_of_ble_eq_true rfl) [0, 2] fun r _ hs => ?_
  obtain ⟨hn, hl⟩ := hs
  have h0 : 0 ≤ (r.at_ : Int) ∧ (r.at_ : Int) < (r.toks.length : Nat) := by omega
  repeat ((conv => whnf); refine ⟨by first | exact h0 | (unfold inI64; omega) | omega | exact ⟨by omega, by omega⟩ | (intro hg; first | (unfold inI64; omega) | omega | exact ⟨by omega, by omega⟩ | (simp [lit] at hg; unfold inI64; omega) | (simp [lit] at hg; omega) | (simp [lit] at hg; exact ⟨by omega, by omega⟩)) | (show (_ : Nat) + 1 ≤ 1000000000000; omega) | exact rfl | (unfold inI64; dsimp only; omega) | (dsimp only; omega) | (intro hg; simp [lit] at hg; first | (unfold inI64; dsimp only; omega) | (dsimp only; omega)) | decide +kernel, ?_⟩)
  conv => whnf
  exact ends_eq ⟨rfl, rfl⟩

def SrcV.sv (x : SrcV) : SV := .tup [.c (.p (.l defC x.defs)), .agg [.int .i64 x.file, .int .i64 x.line, .int .i64 x.column], .c (.int .i64 x.err)]

def Y62 : Table := ext Y63 13 (saysSI fun s f => (some ((readV s f).toks.all okT = true), (srcV s f).sv))

theorem y62 : TSound Tryz.prog Y62 := by
  refine extSI y63 13 (fn := Tryz.f13) rfl rfl (by decide) _ [0, 1, 4, 5, 6, 7, 8, 9, 10, 11, 20, 27, 30] fun s f hs => ?_
  repeat ((conv => whnf); refine ⟨by first | (unfold inI64; omega) | omega | exact ⟨by omega, by omega⟩ | (intro hg; first | (unfold inI64; omega) | omega | exact ⟨by omega, by omega⟩ | (simp [lit] at hg; unfold inI64; omega) | (simp [lit] at hg; omega) | (simp [lit] at hg; exact ⟨by omega, by omega⟩)) | (show (_ : Nat) + 1 ≤ 1000000000000; omega) | exact rfl | (unfold inI64; dsimp only; omega) | (dsimp only; omega) | (intro hg; simp [lit] at hg; first | (unfold inI64; dsimp only; omega) | (dsimp only; omega)) | decide +kernel, ?_⟩)
  conv => whnf
  refine cond_intro (fun h => ?_) (fun h => ?_)
  · have h1 : ¬ (readV s f).err = 0 := by
      have h2 : (!decide ((readV s f).err = 0)) = true := h
      simpa using h2
    repeat ((conv => whnf); refine ⟨by first | (unfold inI64; omega) | omega | exact ⟨by omega, by omega⟩ | (intro hg; first | (unfold inI64; omega) | omega | exact ⟨by omega, by omega⟩ | (simp [lit] at hg; unfold inI64; omega) | (simp [lit] at hg; omega) | (simp [lit] at hg; exact ⟨by omega, by omega⟩)) | (show (_ : Nat) + 1 ≤ 1000000000000; omega) | exact rfl | (unfold inI64; dsimp only; omega) | (dsimp only; omega) | (intro hg; simp [lit] at hg; first | (unfold inI64; dsimp only; omega) | (dsimp only; omega)) | decide +kernel, ?_⟩)
    conv => whnf
    refine ends_of (fun G v hv => ?_) rfl
    have := nil_sle defC G v hv
    show RepS G (srcV s f).sv v
    unfold srcV
    rw [if_neg h1]
    exact this
  have h1 : (readV s f).err = 0 := by
    have h2 : (!decide ((readV s f).err = 0)) = false := h
    simpa using h2
  obtain ⟨hv, hn⟩ := srV_vld h1 hs
  have hS : srcV s f = (let x := topsS (readV s f).toks.length ⟨(readV s f).toks, 0, 0, []⟩
      if x.1 = 0 then ⟨x.2.defs, 0, 0, 0, 0⟩ else ⟨[], x.2.tok.2.2.2.1, x.2.tok.2.2.2.2.1, x.2.tok.2.2.2.2.2, x.1⟩) := by
    unfold srcV
    rw [if_pos h1]
  repeat ((conv => whnf); refine ⟨by first | (unfold inI64; omega) | omega | exact ⟨by omega, by omega⟩ | (intro hg; first | (unfold inI64; omega) | omega | exact ⟨by omega, by omega⟩ | (simp [lit] at hg; unfold inI64; omega) | (simp [lit] at hg; omega) | (simp [lit] at hg; exact ⟨by omega, by omega⟩)) | (show (_ : Nat) + 1 ≤ 1000000000000; omega) | exact rfl | (unfold inI64; dsimp only; omega) | (dsimp only; omega) | (intro hg; simp [lit] at hg; first | (unfold inI64; dsimp only; omega) | (dsimp only; omega)) | decide +kernel, ?_⟩)
  conv => whnf
  refine loop_weak (σ := Sr × Nat) (fun _ => [(0, XV.s .none), (1, XV.s .none), (4, XV.s .none), (5, XV.s (.a (.c (.ptr 0 0)))), (6, XV.s .none), (7, XV.s .none), (8, XV.s .none), (9, XV.s .none), (10, XV.s (.a (.c (.ptr 2 0)))), (11, XV.s .none), (20, XV.s .none), (27, XV.s .none), (30, XV.s .none)])
    (fun ⟨q, _⟩ => [.row [.int .i64 0, .int .i64 0, .int .i64 0], .row [.int .i64 (readV s f).file, .int .i64 (readV s f).line, .int .i64 (readV s f).column], .row [.p (.l tkC q.toks), .int .i64 q.at_, .int .i64 q.bod, .own 3 defC q.defs], .tok 52 defC q.defs.length true])
    (fun ⟨q, n⟩ => Vld q ∧ q.toks = (readV s f).toks ∧ q.toks.length ≤ n + q.at_ ∧ topsS n q = topsS (readV s f).toks.length ⟨(readV s f).toks, 0, 0, []⟩) (fun ⟨_, n⟩ => n)
    (⟨(readV s f).toks, 0, 0, []⟩, (readV s f).toks.length) ?_ ?_ ?_
  · refine (Weak.cell 2 rfl 3 rfl 52 defC).trans (Weak.le _ ?_)
    repeat (first | exact LeL.nil | refine LeL.drop ?_ | refine LeL.same ?_)
  · exact ⟨hv, rfl, Nat.le_add_right _ _, rfl⟩
  rintro ⟨q, n⟩ ⟨hq, htk, hl, hgo⟩
  have hql := hq.lt
  have hnq : noIncl q.toks := by rw [htk]; exact hn
  have hp := hq.tokP
  obtain ⟨n, rfl⟩ : ∃ j, n = j + 1 := ⟨n - 1, by omega⟩
  simp only [topsS] at hgo
  repeat ((conv => whnf); refine ⟨by first | exact ⟨rfl, rfl, hp⟩ | (unfold inI64; omega) | omega | exact ⟨by omega, by omega⟩ | (intro hg; first | (unfold inI64; omega) | omega | exact ⟨by omega, by omega⟩ | (simp [lit] at hg; unfold inI64; omega) | (simp [lit] at hg; omega) | (simp [lit] at hg; exact ⟨by omega, by omega⟩)) | (show (_ : Nat) + 1 ≤ 1000000000000; omega) | exact rfl | (unfold inI64; dsimp only; omega) | (dsimp only; omega) | (intro hg; simp [lit] at hg; first | (unfold inI64; dsimp only; omega) | (dsimp only; omega)) | decide +kernel, ?_⟩)
  conv => whnf
  refine cond_intro (fun h3 => ?_) (fun h3 => ?_)
  · have h4 : ¬ q.tok.1 = 8 := by
      have h5 : (!decide (q.tok.1 = 8)) = true := h3
      simpa using h5
    rw [if_neg h4] at hgo
    have g := topS_good hq
    have hp2 : TokP (topS q).2 := ⟨by rw [g.adv.toks]; exact hq.len, by rw [g.adv.toks]; exact g.adv.lt⟩
    repeat ((conv => whnf); refine ⟨by first | exact ⟨rfl, rfl, hq, hnq⟩ | (unfold inI64; omega) | omega | exact ⟨by omega, by omega⟩ | (intro hg; first | (unfold inI64; omega) | omega | exact ⟨by omega, by omega⟩ | (simp [lit] at hg; unfold inI64; omega) | (simp [lit] at hg; omega) | (simp [lit] at hg; exact ⟨by omega, by omega⟩)) | (show (_ : Nat) + 1 ≤ 1000000000000; omega) | exact rfl | (unfold inI64; dsimp only; omega) | (dsimp only; omega) | (intro hg; simp [lit] at hg; first | (unfold inI64; dsimp only; omega) | (dsimp only; omega)) | decide +kernel, ?_⟩)
    conv => whnf
    refine cond_intro (fun h5 => ?_) (fun h5 => ?_)
    · have h6 : ¬ (topS q).1 = 0 := by
        have h7 : (!decide ((topS q).1 = 0)) = true := h5
        simpa using h7
      rw [if_neg h6] at hgo
      repeat ((conv => whnf); refine ⟨by first | exact ⟨rfl, rfl, hp2⟩ | (unfold inI64; omega) | omega | exact ⟨by omega, by omega⟩ | (intro hg; first | (unfold inI64; omega) | omega | exact ⟨by omega, by omega⟩ | (simp [lit] at hg; unfold inI64; omega) | (simp [lit] at hg; omega) | (simp [lit] at hg; exact ⟨by omega, by omega⟩)) | (show (_ : Nat) + 1 ≤ 1000000000000; omega) | exact rfl | (unfold inI64; dsimp only; omega) | (dsimp only; omega) | (intro hg; simp [lit] at hg; first | (unfold inI64; dsimp only; omega) | (dsimp only; omega)) | decide +kernel, ?_⟩)
      conv => whnf
      refine ends_of (fun G v hv => ?_) rfl
      have hw := nil_sle defC G v hv
      show RepS G (srcV s f).sv v
      rw [hS]
      simp only
      rw [← hgo, if_neg h6]
      exact hw
    · have h6 : (topS q).1 = 0 := by
        have h7 : (!decide ((topS q).1 = 0)) = false := h5
        simpa using h7
      rw [if_pos h6] at hgo
      rw [h6] at g
      repeat ((conv => whnf); refine ⟨by first | (unfold inI64; omega) | omega | exact ⟨by omega, by omega⟩ | (intro hg; first | (unfold inI64; omega) | omega | exact ⟨by omega, by omega⟩ | (simp [lit] at hg; unfold inI64; omega) | (simp [lit] at hg; omega) | (simp [lit] at hg; exact ⟨by omega, by omega⟩)) | (show (_ : Nat) + 1 ≤ 1000000000000; omega) | exact rfl | (unfold inI64; dsimp only; omega) | (dsimp only; omega) | (intro hg; simp [lit] at hg; first | (unfold inI64; dsimp only; omega) | (dsimp only; omega)) | decide +kernel, ?_⟩)
      conv => whnf
      refine head_intro ((topS q).2, n) ?_ ?_ ?_ ?_
      · repeat (first | exact LeL.nil | refine LeL.drop ?_ | refine LeL.same ?_)
      · rfl
      · refine ⟨g.vld hq, g.adv.toks.trans htk, ?_, hgo⟩
        rw [g.adv.toks]
        have := (g.ok rfl).1
        show q.toks.length ≤ n + (topS q).2.at_
        omega
      · exact Nat.lt_succ_self n
  · have h4 : q.tok.1 = 8 := by
      have h5 : (!decide (q.tok.1 = 8)) = false := h3
      simpa using h5
    rw [if_pos h4] at hgo
    repeat ((conv => whnf); refine ⟨by first | (unfold inI64; omega) | omega | exact ⟨by omega, by omega⟩ | (intro hg; first | (unfold inI64; omega) | omega | exact ⟨by omega, by omega⟩ | (simp [lit] at hg; unfold inI64; omega) | (simp [lit] at hg; omega) | (simp [lit] at hg; exact ⟨by omega, by omega⟩)) | (show (_ : Nat) + 1 ≤ 1000000000000; omega) | exact rfl | (unfold inI64; dsimp only; omega) | (dsimp only; omega) | (intro hg; simp [lit] at hg; first | (unfold inI64; dsimp only; omega) | (dsimp only; omega)) | decide +kernel, ?_⟩)
    conv => whnf
    refine ends_eq ⟨?_, rfl⟩
    show _ = (srcV s f).sv
    rw [hS]
    simp only
    rw [← hgo, if_pos rfl]
    rfl
end Go.Ab
