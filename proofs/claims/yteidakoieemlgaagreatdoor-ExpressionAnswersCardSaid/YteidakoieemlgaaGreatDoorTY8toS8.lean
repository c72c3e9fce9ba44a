/- Package expression: Primary, beside Value. -/
import Derived.Test.YteidakoieemlgaaGreatDoorTV10toS1
import Derived.Test.YteidakoieemlgaaGreatDoorTR22toY6
import Derived.Test.YteidakoieemlgaaGreatDoorTS5toS7
namespace Go.Ab
open Go.Proofs
set_option linter.unusedSectionVars false
set_option maxRecDepth 100000
variable [Glob]

theorem pW_dec {r : Xr} (h : r.wl ≤ r.wz.length) : doneC true r.st = decide (r.wl = 0) := by
  have h1 : r.st.ws.isEmpty = decide (r.W = []) := by
    show r.W.isEmpty = _
    cases r.W <;> simp
  have h2 : decide (r.W = []) = decide (r.wl = 0) := by
    have := W_len r h
    apply decide_eq_decide.2
    constructor
    · intro h; rw [h] at this; simpa using this.symm
    · intro h; exact W_nil r h
  unfold doneC
  rw [h1, h2, Bool.true_or, Bool.and_true]

def Y37 : Table := ext X36 36 (saysX da0 ea0 (fun r _ => okP r 0) fun r _ => (.bool (firstR true r).1, (firstR true r).2))

theorem y37 : TSound Tryz.prog Y37 := by
  refine extX x36 36 (fn := Tryz.f36) rfl rfl da0 ea0 _ _ (fun _ => Nat.le_of_ble_eq_true rfl) [0, 2, 11, 17, 20] fun r _ h1 => ?_
  have hsm := h1.small
  unfold firstR
  simp only
  repeat ((conv => whnf); refine ⟨by first | exact ⟨rfl, rfl, hsm⟩ | exact ⟨rfl, rfl, trivial⟩ | (unfold inI64; omega) | omega | exact ⟨by omega, by omega⟩ | (intro hg; first | (unfold inI64; omega) | omega | exact ⟨by omega, by omega⟩ | (simp [lit] at hg; unfold inI64; omega) | (simp [lit] at hg; omega) | (simp [lit] at hg; exact ⟨by omega, by omega⟩)) | (show (_ : Nat) + 1 ≤ 1000000000000; omega) | exact rfl | (unfold inI64; dsimp only; omega) | (dsimp only; omega) | (intro hg; simp [lit] at hg; first | (unfold inI64; dsimp only; omega) | (dsimp only; omega)) | decide +kernel, ?_⟩)
  conv => whnf
  refine cond_intro (fun h => ?_) (fun h => ?_)
  · have hf : frontV (signX r) = false := by
      have h2 : lit false (frontV (signX r)) = true := h
      simpa [lit] using h2
    rw [if_neg (by rw [hf]; simp)]
    repeat ((conv => whnf); refine ⟨by first | exact ⟨rfl, rfl, h1⟩ | (unfold inI64; omega) | omega | exact ⟨by omega, by omega⟩ | (intro hg; first | (unfold inI64; omega) | omega | exact ⟨by omega, by omega⟩ | (simp [lit] at hg; unfold inI64; omega) | (simp [lit] at hg; omega) | (simp [lit] at hg; exact ⟨by omega, by omega⟩)) | (show (_ : Nat) + 1 ≤ 1000000000000; omega) | exact rfl | (unfold inI64; dsimp only; omega) | (dsimp only; omega) | (intro hg; simp [lit] at hg; first | (unfold inI64; dsimp only; omega) | (dsimp only; omega)) | decide +kernel, ?_⟩)
    conv => whnf
    unfold exprR
    refine cond_intro (fun h3 => ?_) (fun h3 => ?_)
    · have h4 : (opX' r).1 = false := by
        have h5 : (frontV (signX r) || !(opX' r).1) = true := h3
        rw [hf] at h5
        simpa using h5
      rw [h4]
      simp only [Bool.false_eq_true, if_false]
      repeat ((conv => whnf); refine ⟨by first | (unfold inI64; omega) | omega | exact ⟨by omega, by omega⟩ | (intro hg; first | (unfold inI64; omega) | omega | exact ⟨by omega, by omega⟩ | (simp [lit] at hg; unfold inI64; omega) | (simp [lit] at hg; omega) | (simp [lit] at hg; exact ⟨by omega, by omega⟩)) | (show (_ : Nat) + 1 ≤ 1000000000000; omega) | exact rfl | (unfold inI64; dsimp only; omega) | (dsimp only; omega) | (intro hg; simp [lit] at hg; first | (unfold inI64; dsimp only; omega) | (dsimp only; omega)) | decide +kernel, ?_⟩)
      conv => whnf
      exact ends_eq ⟨rfl, rfl⟩
    have h4 : (opX' r).1 = true := by
      have h5 : (frontV (signX r) || !(opX' r).1) = false := h3
      rw [hf] at h5
      simpa using h5
    rw [if_pos h4]
    have h6 := opP h1 h4
    repeat ((conv => whnf); refine ⟨by first | (unfold inI64; omega) | omega | exact ⟨by omega, by omega⟩ | (intro hg; first | (unfold inI64; omega) | omega | exact ⟨by omega, by omega⟩ | (simp [lit] at hg; unfold inI64; omega) | (simp [lit] at hg; omega) | (simp [lit] at hg; exact ⟨by omega, by omega⟩)) | (show (_ : Nat) + 1 ≤ 1000000000000; omega) | exact rfl | (unfold inI64; dsimp only; omega) | (dsimp only; omega) | (intro hg; simp [lit] at hg; first | (unfold inI64; dsimp only; omega) | (dsimp only; omega)) | decide +kernel, ?_⟩)
    conv => whnf
    refine loop_intro (σ := Xr) (fun _ => [(0, XV.s (.a (.c (.ptr 0 0)))), (2, XV.s .none), (11, XV.s .none), (17, XV.s .none), (20, XV.s .none)])
      (fun q => xrH q) (fun q => okP q 1 ∧ loopX' true q = loopX' true (opX' r).2) (fun q => mu q.st) (opX' r).2 ?_ rfl ?_ fun q hI => ?_
    · repeat (first | exact LeL.nil | refine LeL.drop ?_ | refine LeL.same ?_)
    · exact ⟨h6, rfl⟩
    obtain ⟨h7, h8⟩ := hI
    have b := h7.bounds
    repeat ((conv => whnf); refine ⟨by first | (unfold inI64; omega) | omega | exact ⟨by omega, by omega⟩ | (intro hg; first | (unfold inI64; omega) | omega | exact ⟨by omega, by omega⟩ | (simp [lit] at hg; unfold inI64; omega) | (simp [lit] at hg; omega) | (simp [lit] at hg; exact ⟨by omega, by omega⟩)) | (show (_ : Nat) + 1 ≤ 1000000000000; omega) | exact rfl | (unfold inI64; dsimp only; omega) | (dsimp only; omega) | (intro hg; simp [lit] at hg; first | (unfold inI64; dsimp only; omega) | (dsimp only; omega)) | decide +kernel, ?_⟩)
    conv => whnf
    refine cond_intro (fun h9 => ?_) (fun h9 => ?_)
    · have hd : doneC true q.st = false := by
        rw [pW_dec h7.ok.hw]
        have : (0 : Int) < q.wl := of_decide_eq_true h9
        exact decide_eq_false (by omega)
      have hs := loop_step h7 hd
      repeat ((conv => whnf); refine ⟨by first | exact ⟨rfl, rfl, h7⟩ | (unfold inI64; omega) | omega | exact ⟨by omega, by omega⟩ | (intro hg; first | (unfold inI64; omega) | omega | exact ⟨by omega, by omega⟩ | (simp [lit] at hg; unfold inI64; omega) | (simp [lit] at hg; omega) | (simp [lit] at hg; exact ⟨by omega, by omega⟩)) | (show (_ : Nat) + 1 ≤ 1000000000000; omega) | exact rfl | (unfold inI64; dsimp only; omega) | (dsimp only; omega) | (intro hg; simp [lit] at hg; first | (unfold inI64; dsimp only; omega) | (dsimp only; omega)) | decide +kernel, ?_⟩)
      conv => whnf
      refine cond_intro (fun ha => ?_) (fun ha => ?_)
      · have hb : (folX q).1 = false := by simpa using ha
        rw [hb] at hs
        simp only [Bool.false_eq_true, if_false] at hs
        rw [← h8, hs]
        repeat ((conv => whnf); refine ⟨by first | (unfold inI64; omega) | omega | exact ⟨by omega, by omega⟩ | (intro hg; first | (unfold inI64; omega) | omega | exact ⟨by omega, by omega⟩ | (simp [lit] at hg; unfold inI64; omega) | (simp [lit] at hg; omega) | (simp [lit] at hg; exact ⟨by omega, by omega⟩)) | (show (_ : Nat) + 1 ≤ 1000000000000; omega) | exact rfl | (unfold inI64; dsimp only; omega) | (dsimp only; omega) | (intro hg; simp [lit] at hg; first | (unfold inI64; dsimp only; omega) | (dsimp only; omega)) | decide +kernel, ?_⟩)
        conv => whnf
        exact ends_eq ⟨rfl, rfl⟩
      · have hb : (folX q).1 = true := by simpa using ha
        rw [if_pos hb] at hs
        repeat ((conv => whnf); refine ⟨by first | (unfold inI64; omega) | omega | exact ⟨by omega, by omega⟩ | (intro hg; first | (unfold inI64; omega) | omega | exact ⟨by omega, by omega⟩ | (simp [lit] at hg; unfold inI64; omega) | (simp [lit] at hg; omega) | (simp [lit] at hg; exact ⟨by omega, by omega⟩)) | (show (_ : Nat) + 1 ≤ 1000000000000; omega) | exact rfl | (unfold inI64; dsimp only; omega) | (dsimp only; omega) | (intro hg; simp [lit] at hg; first | (unfold inI64; dsimp only; omega) | (dsimp only; omega)) | decide +kernel, ?_⟩)
        conv => whnf
        refine head_intro (folX q).2 ?_ rfl ?_ ?_
        · repeat (first | exact LeL.nil | refine LeL.drop ?_ | refine LeL.same ?_)
        · exact ⟨folP h7 hb, by rw [← hs]; exact h8⟩
        · exact fol_lt h7 hb hd
    · have hd : doneC true q.st = true := by
        rw [pW_dec h7.ok.hw]
        have : ¬ (0 : Int) < q.wl := of_decide_eq_false h9
        exact decide_eq_true (by omega)
      rw [← h8, loop_done hd]
      repeat ((conv => whnf); refine ⟨by first | (unfold inI64; omega) | omega | exact ⟨by omega, by omega⟩ | (intro hg; first | (unfold inI64; omega) | omega | exact ⟨by omega, by omega⟩ | (simp [lit] at hg; unfold inI64; omega) | (simp [lit] at hg; omega) | (simp [lit] at hg; exact ⟨by omega, by omega⟩)) | (show (_ : Nat) + 1 ≤ 1000000000000; omega) | exact rfl | (unfold inI64; dsimp only; omega) | (dsimp only; omega) | (intro hg; simp [lit] at hg; first | (unfold inI64; dsimp only; omega) | (dsimp only; omega)) | decide +kernel, ?_⟩)
      conv => whnf
      exact ends_eq ⟨rfl, rfl⟩
  · have hf : frontV (signX r) = true := by
      have h2 : lit false (frontV (signX r)) = false := h
      simpa [lit] using h2
    rw [if_pos hf]
    repeat ((conv => whnf); refine ⟨by first | (unfold inI64; omega) | omega | exact ⟨by omega, by omega⟩ | (intro hg; first | (unfold inI64; omega) | omega | exact ⟨by omega, by omega⟩ | (simp [lit] at hg; unfold inI64; omega) | (simp [lit] at hg; omega) | (simp [lit] at hg; exact ⟨by omega, by omega⟩)) | (show (_ : Nat) + 1 ≤ 1000000000000; omega) | exact rfl | (unfold inI64; dsimp only; omega) | (dsimp only; omega) | (intro hg; simp [lit] at hg; first | (unfold inI64; dsimp only; omega) | (dsimp only; omega)) | decide +kernel, ?_⟩)
    conv => whnf
    refine cond_intro (fun _ => ?_) (fun h3 => ?_)
    · repeat ((conv => whnf); refine ⟨by first | (unfold inI64; omega) | omega | exact ⟨by omega, by omega⟩ | (intro hg; first | (unfold inI64; omega) | omega | exact ⟨by omega, by omega⟩ | (simp [lit] at hg; unfold inI64; omega) | (simp [lit] at hg; omega) | (simp [lit] at hg; exact ⟨by omega, by omega⟩)) | (show (_ : Nat) + 1 ≤ 1000000000000; omega) | exact rfl | (unfold inI64; dsimp only; omega) | (dsimp only; omega) | (intro hg; simp [lit] at hg; first | (unfold inI64; dsimp only; omega) | (dsimp only; omega)) | decide +kernel, ?_⟩)
      conv => whnf
      exact ends_eq ⟨rfl, rfl⟩
    · exfalso
      have h5 : (frontV (signX r) || !false) = false := h3
      simp at h5

/-! The reader, made new: over Primary. -/
def Y38 : Table := ext Y37 36 (saysW fresh (firstR true))

theorem y38 : TSound Tryz.prog Y38 := by
  refine ext_weak y37 36 _ fun args H p r H' hs hp => ?_
  unfold saysW at hs
  split at hs
  · split at hs
    · rename_i toks a _
      cases hs
      obtain ⟨rfl, hf⟩ := hp
      exact ⟨_, xrH (xr0 toks a.toNat), rfl, ⟨rfl, rfl, xr0_ok hf.2 hf.1⟩, rfl, weak_rd toks a.toNat⟩
    · cases hs
  · cases hs

def Y39 : Table := ext Y38 32 (saysRead 36 true)

theorem firstR_P {toks : List tkC.den} {a : Nat} (hl : toks.length ≤ 1000000) (ha : a ≤ toks.length) (h : (firstR true (xr0 toks a)).1 = true) : okX (firstR true (xr0 toks a)).2 1 ∧ u32r ((firstR true (xr0 toks a)).2.vz.getD 0 0) := by
  have e : firstR true (xr0 toks a) = exprR true (xr0 toks a) := by
    unfold firstR at h ⊢
    simp only at h ⊢
    split
    · rename_i h2
      rw [if_pos h2] at h
      cases h
    · rfl
  rw [e] at h ⊢
  obtain ⟨m1, m2⟩ := exprR_ok true toks a ha hl
  refine ⟨?_, (NN.expr (r := xr0 toks a) fun x hx => by cases hx).get 0⟩
  cases hd : opRun true ((toks.drop a).map tkOf) [] [] fl0 with
  | none => rw [hd, h] at m1; cases m1
  | some st => exact (m2 st hd).2.1

theorem y39 : TSound Tryz.prog Y39 := by
  refine ext_run y38 (f := 32) (fn := Tryz.f32) rfl rfl [0, 1, 2, 6, 7, 8, 9, 10, 18, 24, 27] fun args H p r' H' hs hp => ?_
  unfold saysRead at hs
  split at hs
  · split at hs
    · rename_i toks a _
      cases hs
      obtain ⟨rfl, hl⟩ := hp
      refine ⟨Nat.le_of_ble_eq_true rfl, [], rfl, fun k hk => absurd hk (Nat.not_lt_zero k), ?_⟩
      unfold rdArgs readR
      repeat ((conv => whnf); refine ⟨by first | (unfold inI64; omega) | omega | exact ⟨by omega, by omega⟩ | (intro hg; first | (unfold inI64; omega) | omega | exact ⟨by omega, by omega⟩ | (simp [lit] at hg; unfold inI64; omega) | (simp [lit] at hg; omega) | (simp [lit] at hg; exact ⟨by omega, by omega⟩)) | (show (_ : Nat) + 1 ≤ 1000000000000; omega) | exact rfl | (unfold inI64; dsimp only; omega) | (dsimp only; omega) | (intro hg; simp [lit] at hg; first | (unfold inI64; dsimp only; omega) | (dsimp only; omega)) | decide +kernel, ?_⟩)
      conv => whnf
      refine cond_intro (fun h => ?_) (fun h => ?_)
      · have h' : a < 0 ∨ (toks.length : Int) ≤ a := by simpa using h
        rw [if_pos h']
        repeat ((conv => whnf); refine ⟨by first | (unfold inI64; omega) | omega | exact ⟨by omega, by omega⟩ | (intro hg; first | (unfold inI64; omega) | omega | exact ⟨by omega, by omega⟩ | (simp [lit] at hg; unfold inI64; omega) | (simp [lit] at hg; omega) | (simp [lit] at hg; exact ⟨by omega, by omega⟩)) | (show (_ : Nat) + 1 ≤ 1000000000000; omega) | exact rfl | (unfold inI64; dsimp only; omega) | (dsimp only; omega) | (intro hg; simp [lit] at hg; first | (unfold inI64; dsimp only; omega) | (dsimp only; omega)) | decide +kernel, ?_⟩)
        conv => whnf
        exact ends_eq ⟨rfl, rfl⟩
      have h' : ¬ (a < 0 ∨ (toks.length : Int) ≤ a) := by
        have : (decide (a < 0) || decide ((toks.length : Int) ≤ a)) = false := h
        simp at this
        omega
      rw [if_neg h']
      obtain ⟨a, rfl⟩ : ∃ n : Nat, a = n := ⟨a.toNat, by omega⟩
      have ha : a ≤ toks.length := by omega
      rw [Int.toNat_natCast]
      show runC _ _ _ _ _ _ _
      repeat ((conv => whnf); refine ⟨by first | exact ⟨rfl, hl, ha⟩ | (unfold inI64; omega) | omega | exact ⟨by omega, by omega⟩ | (intro hg; first | (unfold inI64; omega) | omega | exact ⟨by omega, by omega⟩ | (simp [lit] at hg; unfold inI64; omega) | (simp [lit] at hg; omega) | (simp [lit] at hg; exact ⟨by omega, by omega⟩)) | (show (_ : Nat) + 1 ≤ 1000000000000; omega) | exact rfl | (unfold inI64; dsimp only; omega) | (dsimp only; omega) | (intro hg; simp [lit] at hg; first | (unfold inI64; dsimp only; omega) | (dsimp only; omega)) | decide +kernel, ?_⟩)
      conv => whnf
      refine cond_intro (fun h2 => ?_) (fun h2 => ?_)
      · have hb : (firstR true (xr0 toks a)).1 = false := by simpa using h2
        rw [if_pos hb]
        repeat ((conv => whnf); refine ⟨by first | (unfold inI64; omega) | omega | exact ⟨by omega, by omega⟩ | (intro hg; first | (unfold inI64; omega) | omega | exact ⟨by omega, by omega⟩ | (simp [lit] at hg; unfold inI64; omega) | (simp [lit] at hg; omega) | (simp [lit] at hg; exact ⟨by omega, by omega⟩)) | (show (_ : Nat) + 1 ≤ 1000000000000; omega) | exact rfl | (unfold inI64; dsimp only; omega) | (dsimp only; omega) | (intro hg; simp [lit] at hg; first | (unfold inI64; dsimp only; omega) | (dsimp only; omega)) | decide +kernel, ?_⟩)
        conv => whnf
        exact ends_eq ⟨rfl, rfl⟩
      have hb : (firstR true (xr0 toks a)).1 = true := by simpa using h2
      obtain ⟨hk, hv0⟩ := firstR_P hl ha hb
      have hvl : 0 < (firstR true (xr0 toks a)).2.vl := by rw [hk.hn]; omega
      rw [if_neg (by rw [hb]; decide)]
      repeat ((conv => whnf); refine ⟨by first | exact ⟨rfl, rfl, trivial⟩ | (unfold inI64; omega) | omega | exact ⟨by omega, by omega⟩ | (intro hg; first | (unfold inI64; omega) | omega | exact ⟨by omega, by omega⟩ | (simp [lit] at hg; unfold inI64; omega) | (simp [lit] at hg; omega) | (simp [lit] at hg; exact ⟨by omega, by omega⟩)) | (show (_ : Nat) + 1 ≤ 1000000000000; omega) | exact rfl | (unfold inI64; dsimp only; omega) | (dsimp only; omega) | (intro hg; simp [lit] at hg; first | (unfold inI64; dsimp only; omega) | (dsimp only; omega)) | decide +kernel, ?_⟩)
      conv => whnf
      refine cond_intro (fun h3 => ?_) (fun h3 => ?_)
      · have hc : ¬ faultF (firstR true (xr0 toks a)).2.fl = 0 := by
          have : (!decide (faultV (firstR true (xr0 toks a)).2 = 0)) = true := h3
          rw [faultV_F] at this
          simpa using this
        rw [if_neg hc]
        repeat ((conv => whnf); refine ⟨by first | (unfold inI64; omega) | omega | exact ⟨by omega, by omega⟩ | (intro hg; first | (unfold inI64; omega) | omega | exact ⟨by omega, by omega⟩ | (simp [lit] at hg; unfold inI64; omega) | (simp [lit] at hg; omega) | (simp [lit] at hg; exact ⟨by omega, by omega⟩)) | (show (_ : Nat) + 1 ≤ 1000000000000; omega) | exact rfl | (unfold inI64; dsimp only; omega) | (dsimp only; omega) | (intro hg; simp [lit] at hg; first | (unfold inI64; dsimp only; omega) | (dsimp only; omega)) | decide +kernel, ?_⟩)
        conv => whnf
        exact ends_eq ⟨rfl, rfl⟩
      have hc : faultF (firstR true (xr0 toks a)).2.fl = 0 := by
        have : (!decide (faultV (firstR true (xr0 toks a)).2 = 0)) = false := h3
        rw [faultV_F] at this
        simpa using this
      rw [if_pos hc]
      repeat ((conv => whnf); refine ⟨by first | exact ⟨rfl, (show (0 : Int) ≤ 0 by decide), (show (0 : Int) < ((firstR true (xr0 toks a)).2.vl : Nat) by omega)⟩ | (show inI64 ((firstR true (xr0 toks a)).2.vz.getD 0 0); have := hv0.1; have := hv0.2; unfold inI64; omega) | (unfold inI64; omega) | omega | exact ⟨by omega, by omega⟩ | (intro hg; first | (unfold inI64; omega) | omega | exact ⟨by omega, by omega⟩ | (simp [lit] at hg; unfold inI64; omega) | (simp [lit] at hg; omega) | (simp [lit] at hg; exact ⟨by omega, by omega⟩)) | (show (_ : Nat) + 1 ≤ 1000000000000; omega) | exact rfl | (unfold inI64; dsimp only; omega) | (dsimp only; omega) | (intro hg; simp [lit] at hg; first | (unfold inI64; dsimp only; omega) | (dsimp only; omega)) | decide +kernel, ?_⟩)
      conv => whnf
      exact ends_eq ⟨rfl, rfl⟩
    · cases hs
  · cases hs

def Y40 : Table := ext Y39 16 (saysVal true)

theorem y40 : TSound Tryz.prog Y40 := by
  refine ext_run y39 (f := 16) (fn := Tryz.f16) rfl rfl [0, 1, 4, 5, 6] fun args H p r' H' hs hp => ?_
  unfold saysVal at hs
  split at hs
  · split at hs
    · rename_i toks a _
      cases hs
      obtain ⟨rfl, hl⟩ := hp
      refine ⟨Nat.le_of_ble_eq_true rfl, [], rfl, fun k hk => absurd hk (Nat.not_lt_zero k), ?_⟩
      repeat ((conv => whnf); refine ⟨by first | exact ⟨rfl, hl⟩ | (unfold inI64; omega) | omega | exact ⟨by omega, by omega⟩ | (intro hg; first | (unfold inI64; omega) | omega | exact ⟨by omega, by omega⟩ | (simp [lit] at hg; unfold inI64; omega) | (simp [lit] at hg; omega) | (simp [lit] at hg; exact ⟨by omega, by omega⟩)) | (show (_ : Nat) + 1 ≤ 1000000000000; omega) | exact rfl | (unfold inI64; dsimp only; omega) | (dsimp only; omega) | (intro hg; simp [lit] at hg; first | (unfold inI64; dsimp only; omega) | (dsimp only; omega)) | decide +kernel, ?_⟩)
      conv => whnf
      refine ends_eq ⟨?_, rfl⟩
      rw [← read_desc true toks a hl]
      rfl
    · cases hs
  · cases hs
end Go.Ab

/- The law of the reader: spoilt texts, and both readers. -/
namespace Go.Ab
open Go.Proofs
set_option linter.unusedSectionVars false
set_option maxRecDepth 100000
variable [Glob]

/-- A spoilt text, and the place of the tape behind it. -/
def spoilM (zs : List Int) (s : ByteArray) (k m n2 : Int) : ByteArray × Int :=
  if m = 0 then (s.extract 0 k.toNat ++ s.extract (k + 1).toNat s.size, n2)
  else if m = 1 then (s.extract 0 k.toNat ++ s.extract k.toNat (k + 1).toNat ++ s.extract k.toNat s.size, n2)
  else if m = 2 then (s.extract 0 k.toNat ++ bytesOf [IntKind.u8.wrap (modV (rawV zs n2) 256)] ++ s.extract (k + 1).toNat s.size, rawN zs n2)
  else if m = 3 then (s.extract 0 k.toNat ++ pickS oddL zs n2 ++ s.extract k.toNat s.size, rawN zs n2)
  else (s.extract 0 k.toNat ++ pickS pieceL zs n2 ++ s.extract k.toNat s.size, rawN zs n2)

def spoilV (zs : List Int) (n : Int) (s : ByteArray) : ByteArray × Int :=
  if s.size = 0 then (pickS oddL zs n, rawN zs n) else spoilM zs s (modV (rawV zs n) s.size) (modV (rawV zs (rawN zs n)) 5) (rawN zs (rawN zs n))

def T73 : Table := ext T72 7 (saysTapeS fun zs n s => (some (0 ≤ n ∧ n ≤ 1000000000 ∧ zs.length ≤ 1000000 ∧ s.size ≤ 1000000), .str (spoilV zs n s).1, (spoilV zs n s).2))

theorem t73 : TSound Tryz.prog T73 := by
  refine extTapeS t72 7 (fn := Tryz.f7) rfl rfl (by decide) _ [0, 1, 4, 5, 8, 16, 17, 27, 42, 58] fun zs n s hn => ?_
  obtain ⟨h0, h1, h2, h3⟩ : 0 ≤ n ∧ n ≤ 1000000000 ∧ zs.length ≤ 1000000 ∧ s.size ≤ 1000000 := hn
  have r1 := rawN_le zs n h0
  have r2 := rawN_le zs _ r1.1
  have r3 := rawN_le zs _ r2.1
  repeat ((conv => whnf); refine ⟨by first | (unfold inI64; omega) | omega | exact ⟨by omega, by omega⟩ | (intro hg; first | (unfold inI64; omega) | omega | exact ⟨by omega, by omega⟩ | (simp [lit] at hg; unfold inI64; omega) | (simp [lit] at hg; omega) | (simp [lit] at hg; exact ⟨by omega, by omega⟩)) | (show (_ : Nat) + 1 ≤ 1000000000000; omega) | exact rfl | (unfold inI64; dsimp only; omega) | (dsimp only; omega) | (intro hg; simp [lit] at hg; first | (unfold inI64; dsimp only; omega) | (dsimp only; omega)) | decide +kernel, ?_⟩)
  conv => whnf
  refine cond_intro (fun g0 => ?_) (fun g0 => ?_)
  · have g0' : s.size = 0 := by have : (s.size : Int) = 0 := of_decide_eq_true g0
                                omega
    repeat ((conv => whnf); refine ⟨by first | exact ⟨h0, by omega, by omega⟩ | (unfold inI64; omega) | omega | exact ⟨by omega, by omega⟩ | (intro hg; first | (unfold inI64; omega) | omega | exact ⟨by omega, by omega⟩ | (simp [lit] at hg; unfold inI64; omega) | (simp [lit] at hg; omega) | (simp [lit] at hg; exact ⟨by omega, by omega⟩)) | (show (_ : Nat) + 1 ≤ 1000000000000; omega) | exact rfl | (unfold inI64; dsimp only; omega) | (dsimp only; omega) | (intro hg; simp [lit] at hg; first | (unfold inI64; dsimp only; omega) | (dsimp only; omega)) | decide +kernel, ?_⟩)
    conv => whnf
    refine ends_eq ⟨?_, ?_⟩
    · show SV.str (pickS oddL zs n) = SV.str (spoilV zs n s).1
      rw [spoilV, if_pos g0']
    · show [tapeO zs (rawN zs n)] = [tapeO zs (spoilV zs n s).2]
      rw [spoilV, if_pos g0']
  have g0' : ¬ s.size = 0 := fun h => of_decide_eq_false g0 (by rw [h]; rfl)
  have hm0 := modV_nonneg (rawV zs n) s.size
  have hm1 := modV_lt (rawV zs n) s.size (by omega)
  have hp1 := modV_nonneg (rawV zs (rawN zs n)) 5
  have hp2 := modV_lt (rawV zs (rawN zs n)) 5 (by decide)
  repeat ((conv => whnf); refine ⟨by first | exact ⟨⟨h0, by omega, by omega⟩, by omega⟩ | exact ⟨⟨r1.1, by show rawN zs n ≤ _; omega, by omega⟩, by decide⟩ | (unfold inI64; omega) | omega | exact ⟨by omega, by omega⟩ | (intro hg; first | (unfold inI64; omega) | omega | exact ⟨by omega, by omega⟩ | (simp [lit] at hg; unfold inI64; omega) | (simp [lit] at hg; omega) | (simp [lit] at hg; exact ⟨by omega, by omega⟩)) | (show (_ : Nat) + 1 ≤ 1000000000000; omega) | exact rfl | (unfold inI64; dsimp only; omega) | (dsimp only; omega) | (intro hg; simp [lit] at hg; first | (unfold inI64; dsimp only; omega) | (dsimp only; omega)) | decide +kernel, ?_⟩)
  conv => whnf
  have hS : spoilV zs n s = spoilM zs s (modV (rawV zs n) s.size) (modV (rawV zs (rawN zs n)) 5) (rawN zs (rawN zs n)) := by rw [spoilV, if_neg g0']
  dsimp only
  have hodd := pick_len (l := oddL) (b := 40) (by decide +kernel) zs (rawN zs (rawN zs n))
  have hpie := pick_len (l := pieceL) (b := 40) (by decide +kernel) zs (rawN zs (rawN zs n))
  generalize hk : modV (rawV zs n) s.size = k at hm0 hm1 hS
  generalize hm : modV (rawV zs (rawN zs n)) 5 = m at hp1 hp2 hS
  have hx : ∀ a b : Nat, (s.extract a b).size ≤ s.size := fun a b => by rw [ByteArray.size_extract]; omega
  refine cond_intro (fun g1 => ?_) (fun g1 => ?_)
  · have g1' : m = 0 := of_decide_eq_true g1
    have hV := hS
    rw [spoilM, if_pos g1'] at hV
    have x1 := hx (0 : Int).toNat k.toNat
    have x2 := hx (k + 1).toNat ((s.size : Int)).toNat
    repeat ((conv => whnf); refine ⟨by first | (unfold inI64; omega) | omega | exact ⟨by omega, by omega⟩ | (intro hg; first | (unfold inI64; omega) | omega | exact ⟨by omega, by omega⟩ | (simp [lit] at hg; unfold inI64; omega) | (simp [lit] at hg; omega) | (simp [lit] at hg; exact ⟨by omega, by omega⟩)) | (show (_ : Nat) + 1 ≤ 1000000000000; omega) | exact rfl | (unfold inI64; dsimp only; omega) | (dsimp only; omega) | (intro hg; simp [lit] at hg; first | (unfold inI64; dsimp only; omega) | (dsimp only; omega)) | decide +kernel, ?_⟩)
    conv => whnf
    refine ends_eq ⟨?_, ?_⟩
    · show _ = SV.str (spoilV zs n s).1
      rw [hV]
      rfl
    · show _ = [tapeO zs (spoilV zs n s).2]
      rw [hV]
  have n1 : ¬ m = 0 := of_decide_eq_false g1
  repeat ((conv => whnf); refine ⟨by first | (unfold inI64; omega) | omega | exact ⟨by omega, by omega⟩ | (intro hg; first | (unfold inI64; omega) | omega | exact ⟨by omega, by omega⟩ | (simp [lit] at hg; unfold inI64; omega) | (simp [lit] at hg; omega) | (simp [lit] at hg; exact ⟨by omega, by omega⟩)) | (show (_ : Nat) + 1 ≤ 1000000000000; omega) | exact rfl | (unfold inI64; dsimp only; omega) | (dsimp only; omega) | (intro hg; simp [lit] at hg; first | (unfold inI64; dsimp only; omega) | (dsimp only; omega)) | decide +kernel, ?_⟩)
  conv => whnf
  refine cond_intro (fun g2 => ?_) (fun g2 => ?_)
  · have g2' : m = 1 := of_decide_eq_true g2
    have hV := hS
    rw [spoilM, if_neg n1, if_pos g2'] at hV
    have x1 := hx (0 : Int).toNat k.toNat
    have x2 : (s.extract k.toNat ((s.size : Int)).toNat).size ≤ s.size := hx _ _
    have x3 : (s.extract (0 : Int).toNat k.toNat ++ s.extract k.toNat (k + 1).toNat).size = (s.extract (0 : Int).toNat k.toNat).size + (s.extract k.toNat (k + 1).toNat).size := ByteArray.size_append ..
    have x4 : (s.extract k.toNat (k + 1).toNat).size ≤ s.size := hx _ _
    repeat ((conv => whnf); refine ⟨by first | (unfold inI64; omega) | omega | exact ⟨by omega, by omega⟩ | (intro hg; first | (unfold inI64; omega) | omega | exact ⟨by omega, by omega⟩ | (simp [lit] at hg; unfold inI64; omega) | (simp [lit] at hg; omega) | (simp [lit] at hg; exact ⟨by omega, by omega⟩)) | (show (_ : Nat) + 1 ≤ 1000000000000; omega) | exact rfl | (unfold inI64; dsimp only; omega) | (dsimp only; omega) | (intro hg; simp [lit] at hg; first | (unfold inI64; dsimp only; omega) | (dsimp only; omega)) | decide +kernel, ?_⟩)
    conv => whnf
    refine ends_eq ⟨?_, ?_⟩
    · show _ = SV.str (spoilV zs n s).1
      rw [hV]
      rfl
    · show _ = [tapeO zs (spoilV zs n s).2]
      rw [hV]
  have n2 : ¬ m = 1 := of_decide_eq_false g2
  repeat ((conv => whnf); refine ⟨by first | (unfold inI64; omega) | omega | exact ⟨by omega, by omega⟩ | (intro hg; first | (unfold inI64; omega) | omega | exact ⟨by omega, by omega⟩ | (simp [lit] at hg; unfold inI64; omega) | (simp [lit] at hg; omega) | (simp [lit] at hg; exact ⟨by omega, by omega⟩)) | (show (_ : Nat) + 1 ≤ 1000000000000; omega) | exact rfl | (unfold inI64; dsimp only; omega) | (dsimp only; omega) | (intro hg; simp [lit] at hg; first | (unfold inI64; dsimp only; omega) | (dsimp only; omega)) | decide +kernel, ?_⟩)
  conv => whnf
  refine cond_intro (fun g3 => ?_) (fun g3 => ?_)
  · have g3' : m = 2 := of_decide_eq_true g3
    have hV := hS
    rw [spoilM, if_neg n1, if_neg n2, if_pos g3'] at hV
    have x1 := hx (0 : Int).toNat k.toNat
    have x2 : (s.extract (k + 1).toNat ((s.size : Int)).toNat).size ≤ s.size := hx _ _
    have x3 : (s.extract (0 : Int).toNat k.toNat ++ bytesOf [IntKind.u8.wrap (modV (rawV zs (rawN zs (rawN zs n))) 256)]).size = (s.extract (0 : Int).toNat k.toNat).size + (bytesOf [IntKind.u8.wrap (modV (rawV zs (rawN zs (rawN zs n))) 256)]).size := ByteArray.size_append ..
    have x4 : (bytesOf [IntKind.u8.wrap (modV (rawV zs (rawN zs (rawN zs n))) 256)]).size = 1 := rfl
    repeat ((conv => whnf); refine ⟨by first | exact ⟨r2.1, by show rawN zs (rawN zs n) ≤ _; omega, by omega⟩ | exact ⟨⟨r2.1, by show rawN zs (rawN zs n) ≤ _; omega, by omega⟩, by decide⟩ | exact rfl | (unfold inI64; omega) | omega | exact ⟨by omega, by omega⟩ | (intro hg; first | (unfold inI64; omega) | omega | exact ⟨by omega, by omega⟩ | (simp [lit] at hg; unfold inI64; omega) | (simp [lit] at hg; omega) | (simp [lit] at hg; exact ⟨by omega, by omega⟩)) | (show (_ : Nat) + 1 ≤ 1000000000000; omega) | exact rfl | (unfold inI64; dsimp only; omega) | (dsimp only; omega) | (intro hg; simp [lit] at hg; first | (unfold inI64; dsimp only; omega) | (dsimp only; omega)) | decide +kernel, ?_⟩)
    conv => whnf
    dsimp only
    repeat ((conv => whnf); refine ⟨by first | (unfold inI64; omega) | omega | exact ⟨by omega, by omega⟩ | (intro hg; first | (unfold inI64; omega) | omega | exact ⟨by omega, by omega⟩ | (simp [lit] at hg; unfold inI64; omega) | (simp [lit] at hg; omega) | (simp [lit] at hg; exact ⟨by omega, by omega⟩)) | (show (_ : Nat) + 1 ≤ 1000000000000; omega) | exact rfl | (unfold inI64; dsimp only; omega) | (dsimp only; omega) | (intro hg; simp [lit] at hg; first | (unfold inI64; dsimp only; omega) | (dsimp only; omega)) | decide +kernel, ?_⟩)
    conv => whnf
    refine ends_eq ⟨?_, ?_⟩
    · show _ = SV.str (spoilV zs n s).1
      rw [hV]
      rfl
    · show _ = [tapeO zs (spoilV zs n s).2]
      rw [hV]
  have n3 : ¬ m = 2 := of_decide_eq_false g3
  repeat ((conv => whnf); refine ⟨by first | (unfold inI64; omega) | omega | exact ⟨by omega, by omega⟩ | (intro hg; first | (unfold inI64; omega) | omega | exact ⟨by omega, by omega⟩ | (simp [lit] at hg; unfold inI64; omega) | (simp [lit] at hg; omega) | (simp [lit] at hg; exact ⟨by omega, by omega⟩)) | (show (_ : Nat) + 1 ≤ 1000000000000; omega) | exact rfl | (unfold inI64; dsimp only; omega) | (dsimp only; omega) | (intro hg; simp [lit] at hg; first | (unfold inI64; dsimp only; omega) | (dsimp only; omega)) | decide +kernel, ?_⟩)
  conv => whnf
  refine cond_intro (fun g4 => ?_) (fun g4 => ?_)
  · have g4' : m = 3 := of_decide_eq_true g4
    have hV := hS
    rw [spoilM, if_neg n1, if_neg n2, if_neg n3, if_pos g4'] at hV
    have x1 := hx (0 : Int).toNat k.toNat
    have x2 : (s.extract k.toNat ((s.size : Int)).toNat).size ≤ s.size := hx _ _
    have x3 : (s.extract (0 : Int).toNat k.toNat ++ pickS oddL zs (rawN zs (rawN zs n))).size = (s.extract (0 : Int).toNat k.toNat).size + (pickS oddL zs (rawN zs (rawN zs n))).size := ByteArray.size_append ..
    repeat ((conv => whnf); refine ⟨by first | exact ⟨r2.1, by show rawN zs (rawN zs n) ≤ _; omega, by omega⟩ | exact ⟨⟨r2.1, by show rawN zs (rawN zs n) ≤ _; omega, by omega⟩, by decide⟩ | exact rfl | (unfold inI64; omega) | omega | exact ⟨by omega, by omega⟩ | (intro hg; first | (unfold inI64; omega) | omega | exact ⟨by omega, by omega⟩ | (simp [lit] at hg; unfold inI64; omega) | (simp [lit] at hg; omega) | (simp [lit] at hg; exact ⟨by omega, by omega⟩)) | (show (_ : Nat) + 1 ≤ 1000000000000; omega) | exact rfl | (unfold inI64; dsimp only; omega) | (dsimp only; omega) | (intro hg; simp [lit] at hg; first | (unfold inI64; dsimp only; omega) | (dsimp only; omega)) | decide +kernel, ?_⟩)
    conv => whnf
    refine ends_eq ⟨?_, ?_⟩
    · show _ = SV.str (spoilV zs n s).1
      rw [hV]
      rfl
    · show _ = [tapeO zs (spoilV zs n s).2]
      rw [hV]
  have n4 : ¬ m = 3 := of_decide_eq_false g4
  have hV := hS
  rw [spoilM, if_neg n1, if_neg n2, if_neg n3, if_neg n4] at hV
  have x1 := hx (0 : Int).toNat k.toNat
  have x2 : (s.extract k.toNat ((s.size : Int)).toNat).size ≤ s.size := hx _ _
  have x3 : (s.extract (0 : Int).toNat k.toNat ++ pickS pieceL zs (rawN zs (rawN zs n))).size = (s.extract (0 : Int).toNat k.toNat).size + (pickS pieceL zs (rawN zs (rawN zs n))).size := ByteArray.size_append ..
  repeat ((conv => whnf); refine ⟨by first | exact ⟨r2.1, by show rawN zs (rawN zs n) ≤ _; omega, by omega⟩ | exact ⟨⟨r2.1, by show rawN zs (rawN zs n) ≤ _; omega, by omega⟩, by decide⟩ | exact rfl | (unfold inI64; omega) | omega | exact ⟨by omega, by omega⟩ | (intro hg; first | (unfold inI64; omega) | omega | exact ⟨by omega, by omega⟩ | (simp [lit] at hg; unfold inI64; omega) | (simp [lit] at hg; omega) | (simp [lit] at hg; exact ⟨by omega, by omega⟩)) | (show (_ : Nat) + 1 ≤ 1000000000000; omega) | exact rfl | (unfold inI64; dsimp only; omega) | (dsimp only; omega) | (intro hg; simp [lit] at hg; first | (unfold inI64; dsimp only; omega) | (dsimp only; omega)) | decide +kernel, ?_⟩)
  conv => whnf
  refine ends_eq ⟨?_, ?_⟩
  · show _ = SV.str (spoilV zs n s).1
    rw [hV]
    rfl
  · show _ = [tapeO zs (spoilV zs n s).2]
    rw [hV]

end Go.Ab

/- Texts of pieces, and their tokens. -/
namespace Go.Ab
open Go.Proofs
set_option linter.unusedSectionVars false
set_option maxRecDepth 100000
variable [Glob]

/-- A number, a sign and a blank, a sign alone, a blank. -/
inductive Pc where
  | num (n : Nat)
  | sg (s : List UInt8)
  | s1 (c : UInt8)
  | sp

def Pc.txt : Pc → List UInt8
  | .num n => fmtL n
  | .sg s => s ++ [32]
  | .s1 c => [c]
  | .sp => [32]

def Pc.toks : Pc → List Tk
  | .num n => [tkNum n]
  | .sg s => [tkSg (B s)]
  | .s1 c => [tkSg (B [c])]
  | .sp => []

def pcTxt : List Pc → List UInt8
  | [] => []
  | p :: ps => p.txt ++ pcTxt ps

def pcToks : List Pc → List Tk
  | [] => []
  | p :: ps => p.toks ++ pcToks ps

/-- What may follow a number. -/
def Pc.after : List Pc → Bool
  | [] => true
  | .sp :: _ => true
  | .s1 c :: _ => plain1 c
  | .sg s :: _ => signs.contains s
  | .num _ :: _ => false

def pcOk : List Pc → Bool
  | [] => true
  | .num _ :: ps => Pc.after ps && pcOk ps
  | .sg s :: ps => signs.contains s && pcOk ps
  | .s1 c :: ps => plain1 c && pcOk ps
  | .sp :: ps => pcOk ps

theorem sign_head : ∀ s ∈ signs, ∀ u, s.head? = some u → wordB (bi u) = false := by decide +kernel
theorem sign_ne : ∀ s ∈ signs, s ≠ [] := by decide +kernel

theorem after_noWord {ps : List Pc} (h : Pc.after ps = true) : noWord (pcTxt ps) := by
  cases ps with
  | nil => exact noWord_nil
  | cons p ps =>
    cases p with
    | num n => cases h
    | sp => exact noWord_sp _
    | s1 c => exact noWord_plain h _
    | sg s =>
      have hs : s ∈ signs := by simpa [Pc.after] using h
      intro u hu
      have hne := sign_ne s hs
      cases hc : s with
      | nil => exact absurd hc hne
      | cons a r =>
        subst hc
        have hu' : some a = some u := hu
        cases hu'
        exact sign_head _ hs _ rfl

theorem pcLx : ∀ ps : List Pc, pcOk ps = true → (∀ n, Pc.num n ∈ ps → n ≤ 4294967295) → Lx (pcTxt ps) (pcToks ps) := by
  intro ps
  induction ps with
  | nil => intro _ _; exact Lx.nil
  | cons p ps ih =>
    intro h hn
    have hn' : ∀ n, Pc.num n ∈ ps → n ≤ 4294967295 := fun n hm => hn n (List.mem_cons_of_mem _ hm)
    cases p with
    | num n =>
      have h2 := Bool.and_eq_true_iff.1 h
      exact Lx.fmt (hn n (by simp)) (after_noWord h2.1) (ih h2.2 hn')
    | sp => exact Lx.sp (ih h hn')
    | s1 c =>
      have h2 := Bool.and_eq_true_iff.1 h
      exact Lx.sg1 h2.1 (ih h2.2 hn')
    | sg s =>
      have h2 := Bool.and_eq_true_iff.1 h
      have hs : s ∈ signs := by simpa using h2.1
      show Lx ((s ++ [32]) ++ pcTxt ps) _
      rw [List.append_assoc]
      exact Lx.sg hs (ih h2.2 hn')

theorem by0_nd {s : ByteArray} (h : divs s = false) (b : Int) : by0 s b = false := by
  unfold by0
  rw [h, Bool.and_false]

theorem oN (D : Nat) {n : Nat} (h : n < 4294967296) (ts : List Tk) : OpdOk D (tkNum n :: ts) n ts := (OpdOk.num (by omega) (by omega) ts).le (Nat.zero_le D)
theorem rE (D m : Nat) (x : Int) : RwsOk D m x [tkEnd] x [tkEnd] := (RwsOk.stop (.inl rfl)).le (Nat.zero_le D)
theorem rP (D m : Nat) (x : Int) (ts : List Tk) : RwsOk D m x (tkSg sRp :: ts) x (tkSg sRp :: ts) := (RwsOk.stop (.inl rfl)).le (Nat.zero_le D)
theorem rS (D m : Nat) (s : ByteArray) (h : Nat.ble m (betw s) = true) (x : Int) (ts : List Tk) : RwsOk D m x (tkSg s :: ts) x (tkSg s :: ts) := (RwsOk.stop (.inr (Nat.le_of_ble_eq_true h))).le (Nat.zero_le D)
theorem wE {D : Nat} {ts ts1 : List Tk} {x c : Int} (hD : D ≤ 8) (h1 : OpdOk D ts x ts1) (h2 : RwsOk D 11 x ts1 c [tkEnd]) : WhlOk D ts c [tkEnd] := WhlOk.plain hD h1 h2 (by decide)
theorem wP {D : Nat} {ts ts1 ts2 : List Tk} {x c : Int} (hD : D ≤ 8) (h1 : OpdOk D ts x ts1) (h2 : RwsOk D 11 x ts1 c (tkSg sRp :: ts2)) : WhlOk D ts c (tkSg sRp :: ts2) := WhlOk.plain hD h1 h2 (by rw [sgn_tk]; decide)
theorem oF {D : Nat} (s : ByteArray) (hs : frontV s = true) {ts ts' : List Tk} {x : Int} (h : OpdOk D ts x ts') : OpdOk D (tkSg s :: ts) (calcV 0 s 0 x) ts' := OpdOk.front hs h
theorem oP {D : Nat} {ts ts' : List Tk} {x : Int} (h : WhlOk D ts x (tkSg sRp :: ts')) : OpdOk (D + 1) (tkSg sLp :: ts) x ts' := OpdOk.paren h
/-- One sign between two operands, taken at once. -/
theorem rO {D m k : Nat} {s : ByteArray} {x y z : Int} {ts1 ts2 ts4 : List Tk} (hD : D ≤ 8) (hk : betw s = k) (hk0 : k ≠ 0) (hkm : k < m) (h1 : OpdOk D ts1 y ts2) (h2 : RwsOk D k y ts2 y ts2) (hb : by0 s y = false)
    (h3 : RwsOk D m (calcV k s x y) ts2 z ts4) : RwsOk D m x (tkSg s :: ts1) z ts4 := RwsOk.step hD hk hk0 hkm h1 h2 hb h3
end Go.Ab
