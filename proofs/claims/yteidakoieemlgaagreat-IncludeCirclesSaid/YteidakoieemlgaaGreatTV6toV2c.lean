/- Package expression: the reader's loops. -/
import Derived.Test.YteidakoieemlgaaGreatTV5
import Derived.Test.YteidakoieemlgaaGreatTV2toV3
namespace Go.Ab
open Go.Proofs
set_option linter.unusedSectionVars false
set_option maxRecDepth 100000
variable [Glob]

def finPre (r : Xr) (n : Int) : Prop := okP r 1 ∧ 0 ≤ n ∧ n ≤ 11
def X32 : Table := ext X31 183 (saysX daI eaI finPre fun r n => (.tup [], finX n.toNat r.wl r))

theorem x32 : TSound Tryz.prog X32 := by
  refine extX x31 183 (fn := Tryz.f183) rfl rfl daI eaI _ _ (fun _ => Nat.le_of_ble_eq_true rfl) [0, 1, 4, 5, 25, 32] fun r n hs => ?_
  obtain ⟨h1, h2, h3⟩ := hs
  obtain ⟨n, rfl⟩ : ∃ m : Nat, n = m := ⟨n.toNat, by omega⟩
  have b := h1.bounds
  repeat ((conv => whnf); refine ⟨by first | (unfold inI64; omega) | omega | exact ⟨by omega, by omega⟩ | (intro hg; first | (unfold inI64; omega) | omega | exact ⟨by omega, by omega⟩ | (simp [lit] at hg; unfold inI64; omega) | (simp [lit] at hg; omega) | (simp [lit] at hg; exact ⟨by omega, by omega⟩)) | (show (_ : Nat) + 1 ≤ 1000000000000; omega) | exact rfl | (unfold inI64; dsimp only; omega) | (dsimp only; omega) | (intro hg; simp [lit] at hg; first | (unfold inI64; dsimp only; omega) | (dsimp only; omega)) | decide +kernel, ?_⟩)
  conv => whnf
  refine loop_intro (σ := Xr × Int) (fun ⟨_, i⟩ => [(0, XV.s (.a (.c (.ptr 0 0)))), (1, XV.s (.int .i64 n)), (4, XV.s (.int .i64 i)), (5, XV.s .none), (25, XV.s .none), (32, XV.s .none)])
    (fun ⟨q, _⟩ => xrH q) (fun ⟨q, i⟩ => okP q 1 ∧ i = q.wl ∧ finX n q.wl q = finX n r.wl r) (fun ⟨q, _⟩ => q.wl) (r, r.wl) ?_ rfl ?_ fun ⟨q, i⟩ hI => ?_
  · repeat (first | exact LeL.nil | refine LeL.drop ?_ | refine LeL.same ?_)
  · exact ⟨h1, rfl, rfl⟩
  obtain ⟨h4, rfl, h6⟩ := hI
  have c := h4.bounds
  have e1 : ((q.wl : Int) - 1).toNat = q.wl - 1 := by omega
  repeat ((conv => whnf); refine ⟨by first | (intro hg; simp [lit] at hg; exact ⟨rfl, by omega, by omega⟩) | (unfold inI64; omega) | omega | exact ⟨by omega, by omega⟩ | (intro hg; first | (unfold inI64; omega) | omega | exact ⟨by omega, by omega⟩ | (simp [lit] at hg; unfold inI64; omega) | (simp [lit] at hg; omega) | (simp [lit] at hg; exact ⟨by omega, by omega⟩)) | (show (_ : Nat) + 1 ≤ 1000000000000; omega) | exact rfl | (unfold inI64; dsimp only; omega) | (dsimp only; omega) | (intro hg; simp [lit] at hg; first | (unfold inI64; dsimp only; omega) | (dsimp only; omega)) | decide +kernel, ?_⟩)
  conv => whnf
  refine cond_intro (fun h => ?_) (fun h => ?_)
  · have h7 : q.wl ≠ 0 ∧ (topX q).2 ≤ (n : Int) := by
      have h' : (decide ((0 : Int) < q.wl) && decide ((q.wz.getD ((q.wl : Int) - 1).toNat (⟨#[]⟩, 0)).2 ≤ (n : Int))) = true := h
      rw [e1] at h'
      have := Bool.and_eq_true_iff.1 h'
      exact ⟨by have := of_decide_eq_true this.1; omega, of_decide_eq_true this.2⟩
    have hs1 := fin_step (by omega) h4.ok h7.1 h7.2
    have hs2 := fin_stepP (by omega) h4 h7.1 h7.2
    have e2 : finX n q.wl q = finX n (q.wl - 1) (redX (takeX q) (topX q)) := by
      obtain ⟨m, hm⟩ : ∃ m, q.wl = m + 1 := ⟨q.wl - 1, by omega⟩
      rw [hm]
      simp only [finX, h7.2, if_true]
      rfl
    rw [e2] at h6
    repeat ((conv => whnf); refine ⟨by first | exact ⟨rfl, rfl, (show q.wl ≤ 1000000 by omega), (show q.wl ≤ q.wz.length by omega), h7.1⟩ | (unfold inI64; omega) | omega | exact ⟨by omega, by omega⟩ | (intro hg; first | (unfold inI64; omega) | omega | exact ⟨by omega, by omega⟩ | (simp [lit] at hg; unfold inI64; omega) | (simp [lit] at hg; omega) | (simp [lit] at hg; exact ⟨by omega, by omega⟩)) | (show (_ : Nat) + 1 ≤ 1000000000000; omega) | exact rfl | (unfold inI64; dsimp only; omega) | (dsimp only; omega) | (intro hg; simp [lit] at hg; first | (unfold inI64; dsimp only; omega) | (dsimp only; omega)) | decide +kernel, ?_⟩)
    conv => whnf
    refine cond_intro (fun h8 => ?_) (fun h8 => ?_)
    · have h9 : (topX q).2 = 11 := of_decide_eq_true h8
      have e3 : redX (takeX q) (topX q) = chooseX (takeX q) := by simp [redX, h9]
      have hne : needF (topX q) = 2 := by simp [needF, h9]
      rw [e3] at hs1 hs2 h6
      repeat ((conv => whnf); refine ⟨by first | exact ⟨rfl, rfl, by show 3 ≤ q.vl; omega, by show q.vl ≤ _; omega, by show q.vl ≤ q.vz.length; omega⟩ | (unfold inI64; omega) | omega | exact ⟨by omega, by omega⟩ | (intro hg; first | (unfold inI64; omega) | omega | exact ⟨by omega, by omega⟩ | (simp [lit] at hg; unfold inI64; omega) | (simp [lit] at hg; omega) | (simp [lit] at hg; exact ⟨by omega, by omega⟩)) | (show (_ : Nat) + 1 ≤ 1000000000000; omega) | exact rfl | (unfold inI64; dsimp only; omega) | (dsimp only; omega) | (intro hg; simp [lit] at hg; first | (unfold inI64; dsimp only; omega) | (dsimp only; omega)) | decide +kernel, ?_⟩)
      conv => whnf
      refine head_keep (chooseX (takeX q), (q.wl : Int) - 1) [0, 1, 2] rfl id3 rfl ?_ ?_ ?_
      · repeat (first | exact KeepL.nil | refine KeepL.drop ?_ | refine KeepL.ren rfl ?_)
      · exact ⟨hs2, by rw [hs1.2.1]; omega, by rw [hs1.2.1]; exact h6⟩
      · show (chooseX (takeX q)).wl < q.wl
        rw [hs1.2.1]; omega
    · have h9 : ¬ (topX q).2 = 11 := of_decide_eq_false h8
      have e3 : redX (takeX q) (topX q) = compX (takeX q) (topX q) := by simp [redX, h9]
      have hne : 1 ≤ needF (topX q) := by
        unfold needF
        rw [if_neg (by omega), if_neg h9]
        exact Nat.le_refl 1
      rw [e3] at hs1 hs2 h6
      have hp : compPre (takeX q) (topX q) := ⟨by show 2 ≤ q.vl; omega, by show q.vl ≤ _; omega, by show q.vl ≤ q.vz.length; omega, h4.nn, okF_ops hs1.2.2.2.2 (by have := h7.2; omega)⟩
      repeat ((conv => whnf); refine ⟨by first | exact ⟨rfl, rfl, hp⟩ | (unfold inI64; omega) | omega | exact ⟨by omega, by omega⟩ | (intro hg; first | (unfold inI64; omega) | omega | exact ⟨by omega, by omega⟩ | (simp [lit] at hg; unfold inI64; omega) | (simp [lit] at hg; omega) | (simp [lit] at hg; exact ⟨by omega, by omega⟩)) | (show (_ : Nat) + 1 ≤ 1000000000000; omega) | exact rfl | (unfold inI64; dsimp only; omega) | (dsimp only; omega) | (intro hg; simp [lit] at hg; first | (unfold inI64; dsimp only; omega) | (dsimp only; omega)) | decide +kernel, ?_⟩)
      conv => whnf
      refine head_keep (compX (takeX q) (topX q), (q.wl : Int) - 1) [0, 1, 2] rfl id3 ?_ ?_ ?_ ?_
      · rfl
      · repeat (first | exact KeepL.nil | refine KeepL.drop ?_ | refine KeepL.ren rfl ?_)
      · exact ⟨hs2, by rw [hs1.2.1]; omega, by rw [hs1.2.1]; exact h6⟩
      · show (compX (takeX q) (topX q)).wl < q.wl
        rw [hs1.2.1]; omega
  · have h7 : ¬ (q.wl ≠ 0 ∧ (topX q).2 ≤ (n : Int)) := by
      have h' : (decide ((0 : Int) < q.wl) && decide ((q.wz.getD ((q.wl : Int) - 1).toNat (⟨#[]⟩, 0)).2 ≤ (n : Int))) = false := h
      rw [e1] at h'
      rintro ⟨h8, h9⟩
      have h10 : (0 : Int) < q.wl := by omega
      have h11 : (q.wz.getD (q.wl - 1) (⟨#[]⟩, 0)).2 ≤ (n : Int) := h9
      rw [decide_eq_true h10, decide_eq_true h11] at h'
      cases h'
    have e2 : finX n q.wl q = q := by
      cases hm : q.wl with
      | zero => rfl
      | succ m =>
        have : ¬ (topX q).2 ≤ (n : Int) := fun h => h7 ⟨by omega, h⟩
        simp only [finX, this, if_false]
    rw [e2] at h6
    repeat ((conv => whnf); refine ⟨by first | (unfold inI64; omega) | omega | exact ⟨by omega, by omega⟩ | (intro hg; first | (unfold inI64; omega) | omega | exact ⟨by omega, by omega⟩ | (simp [lit] at hg; unfold inI64; omega) | (simp [lit] at hg; omega) | (simp [lit] at hg; exact ⟨by omega, by omega⟩)) | (show (_ : Nat) + 1 ≤ 1000000000000; omega) | exact rfl | (unfold inI64; dsimp only; omega) | (dsimp only; omega) | (intro hg; simp [lit] at hg; first | (unfold inI64; dsimp only; omega) | (dsimp only; omega)) | decide +kernel, ?_⟩)
    conv => whnf
    refine ends_eq ⟨rfl, ?_⟩
    show xrH q = xrH (finX n r.wl r)
    rw [← h6]

def faultV (r : Xr) : Int := match r.deep with | true => 3 | false => match r.oor with | true => 2 | false => match r.div with | true => 22 | false => 0
def X33 : Table := ext X32 174 (looks (looksX da0 ea0 (fun _ _ => True) fun r _ => .int .i64 (faultV r)))

theorem x33 : TSound Tryz.prog X33 := by
  refine extLX x32 174 (fn := Tryz.f174) rfl rfl da0 ea0 _ _ (fun _ => Nat.le_of_ble_eq_true rfl) [0, 2, 3, 8, 13] fun r _ hs => ?_
  repeat ((conv => whnf); refine ⟨by first | (unfold inI64; omega) | omega | exact ⟨by omega, by omega⟩ | (intro hg; first | (unfold inI64; omega) | omega | exact ⟨by omega, by omega⟩ | (simp [lit] at hg; unfold inI64; omega) | (simp [lit] at hg; omega) | (simp [lit] at hg; exact ⟨by omega, by omega⟩)) | (show (_ : Nat) + 1 ≤ 1000000000000; omega) | exact rfl | (unfold inI64; dsimp only; omega) | (dsimp only; omega) | (intro hg; simp [lit] at hg; first | (unfold inI64; dsimp only; omega) | (dsimp only; omega)) | decide +kernel, ?_⟩)
  conv => whnf
  refine cond_intro (fun h => ?_) (fun h => ?_)
  · repeat ((conv => whnf); refine ⟨by first | (unfold inI64; omega) | omega | exact ⟨by omega, by omega⟩ | (intro hg; first | (unfold inI64; omega) | omega | exact ⟨by omega, by omega⟩ | (simp [lit] at hg; unfold inI64; omega) | (simp [lit] at hg; omega) | (simp [lit] at hg; exact ⟨by omega, by omega⟩)) | (show (_ : Nat) + 1 ≤ 1000000000000; omega) | exact rfl | (unfold inI64; dsimp only; omega) | (dsimp only; omega) | (intro hg; simp [lit] at hg; first | (unfold inI64; dsimp only; omega) | (dsimp only; omega)) | decide +kernel, ?_⟩)
    conv => whnf
    refine ends_eq ⟨?_, rfl⟩
    simp only [faultV, show r.deep = true from h]
  repeat ((conv => whnf); refine ⟨by first | (unfold inI64; omega) | omega | exact ⟨by omega, by omega⟩ | (intro hg; first | (unfold inI64; omega) | omega | exact ⟨by omega, by omega⟩ | (simp [lit] at hg; unfold inI64; omega) | (simp [lit] at hg; omega) | (simp [lit] at hg; exact ⟨by omega, by omega⟩)) | (show (_ : Nat) + 1 ≤ 1000000000000; omega) | exact rfl | (unfold inI64; dsimp only; omega) | (dsimp only; omega) | (intro hg; simp [lit] at hg; first | (unfold inI64; dsimp only; omega) | (dsimp only; omega)) | decide +kernel, ?_⟩)
  conv => whnf
  refine cond_intro (fun h2 => ?_) (fun h2 => ?_)
  · repeat ((conv => whnf); refine ⟨by first | (unfold inI64; omega) | omega | exact ⟨by omega, by omega⟩ | (intro hg; first | (unfold inI64; omega) | omega | exact ⟨by omega, by omega⟩ | (simp [lit] at hg; unfold inI64; omega) | (simp [lit] at hg; omega) | (simp [lit] at hg; exact ⟨by omega, by omega⟩)) | (show (_ : Nat) + 1 ≤ 1000000000000; omega) | exact rfl | (unfold inI64; dsimp only; omega) | (dsimp only; omega) | (intro hg; simp [lit] at hg; first | (unfold inI64; dsimp only; omega) | (dsimp only; omega)) | decide +kernel, ?_⟩)
    conv => whnf
    refine ends_eq ⟨?_, rfl⟩
    simp only [faultV, show r.deep = false from h, show r.oor = true from h2]
  repeat ((conv => whnf); refine ⟨by first | (unfold inI64; omega) | omega | exact ⟨by omega, by omega⟩ | (intro hg; first | (unfold inI64; omega) | omega | exact ⟨by omega, by omega⟩ | (simp [lit] at hg; unfold inI64; omega) | (simp [lit] at hg; omega) | (simp [lit] at hg; exact ⟨by omega, by omega⟩)) | (show (_ : Nat) + 1 ≤ 1000000000000; omega) | exact rfl | (unfold inI64; dsimp only; omega) | (dsimp only; omega) | (intro hg; simp [lit] at hg; first | (unfold inI64; dsimp only; omega) | (dsimp only; omega)) | decide +kernel, ?_⟩)
  conv => whnf
  refine cond_intro (fun h3 => ?_) (fun h3 => ?_)
  · repeat ((conv => whnf); refine ⟨by first | (unfold inI64; omega) | omega | exact ⟨by omega, by omega⟩ | (intro hg; first | (unfold inI64; omega) | omega | exact ⟨by omega, by omega⟩ | (simp [lit] at hg; unfold inI64; omega) | (simp [lit] at hg; omega) | (simp [lit] at hg; exact ⟨by omega, by omega⟩)) | (show (_ : Nat) + 1 ≤ 1000000000000; omega) | exact rfl | (unfold inI64; dsimp only; omega) | (dsimp only; omega) | (intro hg; simp [lit] at hg; first | (unfold inI64; dsimp only; omega) | (dsimp only; omega)) | decide +kernel, ?_⟩)
    conv => whnf
    refine ends_eq ⟨?_, rfl⟩
    simp only [faultV, show r.deep = false from h, show r.oor = false from h2, show r.div = true from h3]
  repeat ((conv => whnf); refine ⟨by first | (unfold inI64; omega) | omega | exact ⟨by omega, by omega⟩ | (intro hg; first | (unfold inI64; omega) | omega | exact ⟨by omega, by omega⟩ | (simp [lit] at hg; unfold inI64; omega) | (simp [lit] at hg; omega) | (simp [lit] at hg; exact ⟨by omega, by omega⟩)) | (show (_ : Nat) + 1 ≤ 1000000000000; omega) | exact rfl | (unfold inI64; dsimp only; omega) | (dsimp only; omega) | (intro hg; simp [lit] at hg; first | (unfold inI64; dsimp only; omega) | (dsimp only; omega)) | decide +kernel, ?_⟩)
  conv => whnf
  refine ends_eq ⟨?_, rfl⟩
  simp only [faultV, show r.deep = false from h, show r.oor = false from h2, show r.div = false from h3]
end Go.Ab

/- Package expression: the reader's loops over operands. -/
namespace Go.Ab
open Go.Proofs
set_option linter.unusedSectionVars false
set_option maxRecDepth 100000
variable [Glob]

theorem okP.small {r : Xr} {x : Nat} (h : okP r x) : small r := by
  have b := h.bounds
  exact ⟨h.len, by omega, by omega, by omega, by omega, by omega, by omega, by omega⟩

theorem okP.lp {q : Xr} (h : okP q 0) (ha : q.at_ < q.toks.length) : okP (waitX { q with br := q.br + 1 } sLp 12) 0 :=
  ⟨(wait_ok (s := sLp) (k := 12) (x := 0) (by simpa [needF] using h.ok) ha (b := q.br + 1) (by rw [h.ok.hbr]; simp [depth]; omega) (.inr (.inr (.inr ⟨rfl, .inl rfl⟩)))).1, h.nn, h.len⟩

theorem okP.front {q : Xr} (h : okP q 0) (ha : q.at_ < q.toks.length) {s : ByteArray} (hs : frontV s = true) : okP (waitX (pushX q 0) s 0) 0 :=
  ⟨(push_ok h.ok ha hs).1, NN.push (r := q) h.nn ⟨by decide, by decide⟩, h.len⟩

def X34 : Table := ext X33 177 (saysX da0 ea0 (fun r _ => okP r 0) fun r _ => (.bool (opX' r).1, (opX' r).2))

theorem x34 : TSound Tryz.prog X34 := by
  refine extX x33 177 (fn := Tryz.f177) rfl rfl da0 ea0 _ _ (fun _ => Nat.le_of_ble_eq_true rfl) [0, 2, 3, 4, 14, 27, 35, 48] fun r _ h1 => ?_
  repeat ((conv => whnf); refine ⟨by first | (unfold inI64; omega) | omega | exact ⟨by omega, by omega⟩ | (intro hg; first | (unfold inI64; omega) | omega | exact ⟨by omega, by omega⟩ | (simp [lit] at hg; unfold inI64; omega) | (simp [lit] at hg; omega) | (simp [lit] at hg; exact ⟨by omega, by omega⟩)) | (show (_ : Nat) + 1 ≤ 1000000000000; omega) | exact rfl | (unfold inI64; dsimp only; omega) | (dsimp only; omega) | (intro hg; simp [lit] at hg; first | (unfold inI64; dsimp only; omega) | (dsimp only; omega)) | decide +kernel, ?_⟩)
  conv => whnf
  refine loop_intro (σ := Xr) (fun _ => [(0, XV.s (.a (.c (.ptr 0 0)))), (2, XV.s (.bool false)), (3, XV.s .none), (4, XV.s .none), (14, XV.s .none), (27, XV.s .none), (35, XV.s .none), (48, XV.s .none)])
    (fun q => xrH q) (fun q => okP q 0 ∧ opX (q.toks.length - q.at_) q = opX' r) (fun q => q.toks.length - q.at_) r ?_ rfl ?_ fun q hI => ?_
  · repeat (first | exact LeL.nil | refine LeL.drop ?_ | refine LeL.same ?_)
  · exact ⟨h1, rfl⟩
  obtain ⟨h2, h3⟩ := hI
  have b := h2.bounds
  have hsm := h2.small
  repeat ((conv => whnf); refine ⟨by first | (unfold inI64; omega) | omega | exact ⟨by omega, by omega⟩ | (intro hg; first | (unfold inI64; omega) | omega | exact ⟨by omega, by omega⟩ | (simp [lit] at hg; unfold inI64; omega) | (simp [lit] at hg; omega) | (simp [lit] at hg; exact ⟨by omega, by omega⟩)) | (show (_ : Nat) + 1 ≤ 1000000000000; omega) | exact rfl | (unfold inI64; dsimp only; omega) | (dsimp only; omega) | (intro hg; simp [lit] at hg; first | (unfold inI64; dsimp only; omega) | (dsimp only; omega)) | decide +kernel, ?_⟩)
  conv => whnf
  refine cond_intro (fun h => ?_) (fun h => ?_)
  · have ha : q.at_ < q.toks.length := by have : (q.at_ : Int) < q.toks.length := of_decide_eq_true h
                                          omega
    have hn : q.toks.length - q.at_ = (q.toks.length - (q.at_ + 1)) + 1 := by omega
    rw [hn] at h3
    simp only [opX] at h3
    repeat ((conv => whnf); refine ⟨by first | exact ⟨⟨rfl, rfl, hsm⟩, rfl⟩ | (repeat ((conv => whnf); refine ⟨by ((conv => whnf); first | exact ⟨rfl, rfl, rfl⟩ | exact ⟨⟨⟨rfl, rfl, hsm⟩, rfl⟩, rfl, rfl, rfl⟩), ?_⟩)); ((conv => whnf); exact trivial) | (unfold inI64; omega) | omega | exact ⟨by omega, by omega⟩ | (intro hg; first | (unfold inI64; omega) | omega | exact ⟨by omega, by omega⟩ | (simp [lit] at hg; unfold inI64; omega) | (simp [lit] at hg; omega) | (simp [lit] at hg; exact ⟨by omega, by omega⟩)) | (show (_ : Nat) + 1 ≤ 1000000000000; omega) | exact rfl | (unfold inI64; dsimp only; omega) | (dsimp only; omega) | (intro hg; simp [lit] at hg; first | (unfold inI64; dsimp only; omega) | (dsimp only; omega)) | decide +kernel, ?_⟩)
    conv => whnf
    refine cond_intro (fun h4 => ?_) (fun h4 => ?_)
    · have h5 : (q.toks.getD q.at_ tkC.dflt).1 = 2 := of_decide_eq_true h4
      rw [if_pos h5] at h3
      repeat ((conv => whnf); refine ⟨by first | exact ⟨rfl, rfl, (show q.vl ≤ 1000000 by omega), (show q.vl ≤ q.vz.length by omega), (show q.at_ ≤ 1000000 by omega)⟩ | (unfold inI64; omega) | omega | exact ⟨by omega, by omega⟩ | (intro hg; first | (unfold inI64; omega) | omega | exact ⟨by omega, by omega⟩ | (simp [lit] at hg; unfold inI64; omega) | (simp [lit] at hg; omega) | (simp [lit] at hg; exact ⟨by omega, by omega⟩)) | (show (_ : Nat) + 1 ≤ 1000000000000; omega) | exact rfl | (unfold inI64; dsimp only; omega) | (dsimp only; omega) | (intro hg; simp [lit] at hg; first | (unfold inI64; dsimp only; omega) | (dsimp only; omega)) | decide +kernel, ?_⟩)
      conv => whnf
      rw [← h3]
      exact ends_eq ⟨rfl, rfl⟩
    have h5 : ¬ (q.toks.getD q.at_ tkC.dflt).1 = 2 := of_decide_eq_false h4
    rw [if_neg h5] at h3
    repeat ((conv => whnf); refine ⟨by first | (unfold inI64; omega) | omega | exact ⟨by omega, by omega⟩ | (intro hg; first | (unfold inI64; omega) | omega | exact ⟨by omega, by omega⟩ | (simp [lit] at hg; unfold inI64; omega) | (simp [lit] at hg; omega) | (simp [lit] at hg; exact ⟨by omega, by omega⟩)) | (show (_ : Nat) + 1 ≤ 1000000000000; omega) | exact rfl | (unfold inI64; dsimp only; omega) | (dsimp only; omega) | (intro hg; simp [lit] at hg; first | (unfold inI64; dsimp only; omega) | (dsimp only; omega)) | decide +kernel, ?_⟩)
    conv => whnf
    refine cond_intro (fun h6 => ?_) (fun h6 => ?_)
    · have h7 : signX q = sLp := of_decide_eq_true h6
      rw [if_pos h7, h7] at h3
      repeat ((conv => whnf); refine ⟨by first | exact ⟨rfl, rfl, (show q.wl ≤ 1000000 by omega), (show q.at_ ≤ 1000000 by omega), (show q.wl ≤ q.wz.length by omega)⟩ | (unfold inI64; omega) | omega | exact ⟨by omega, by omega⟩ | (intro hg; first | (unfold inI64; omega) | omega | exact ⟨by omega, by omega⟩ | (simp [lit] at hg; unfold inI64; omega) | (simp [lit] at hg; omega) | (simp [lit] at hg; exact ⟨by omega, by omega⟩)) | (show (_ : Nat) + 1 ≤ 1000000000000; omega) | exact rfl | (unfold inI64; dsimp only; omega) | (dsimp only; omega) | (intro hg; simp [lit] at hg; first | (unfold inI64; dsimp only; omega) | (dsimp only; omega)) | decide +kernel, ?_⟩)
      conv => whnf
      refine head_keep (waitX { q with br := q.br + 1 } sLp 12) [0, 1, 2] rfl id3 ?_ ?_ ?_ ?_
      · rw [← h7]; rfl
      · repeat (first | exact KeepL.nil | refine KeepL.drop ?_ | refine KeepL.ren rfl ?_)
      · exact ⟨h2.lp ha, h3⟩
      · show q.toks.length - (q.at_ + 1) < q.toks.length - q.at_
        omega
    have h7 : ¬ signX q = sLp := of_decide_eq_false h6
    rw [if_neg h7] at h3
    repeat ((conv => whnf); refine ⟨by first | exact ⟨rfl, rfl, trivial⟩ | (unfold inI64; omega) | omega | exact ⟨by omega, by omega⟩ | (intro hg; first | (unfold inI64; omega) | omega | exact ⟨by omega, by omega⟩ | (simp [lit] at hg; unfold inI64; omega) | (simp [lit] at hg; omega) | (simp [lit] at hg; exact ⟨by omega, by omega⟩)) | (show (_ : Nat) + 1 ≤ 1000000000000; omega) | exact rfl | (unfold inI64; dsimp only; omega) | (dsimp only; omega) | (intro hg; simp [lit] at hg; first | (unfold inI64; dsimp only; omega) | (dsimp only; omega)) | decide +kernel, ?_⟩)
    conv => whnf
    refine cond_intro (fun h8 => ?_) (fun h8 => ?_)
    · have h9 : frontV (signX q) = true := h8
      rw [if_pos h9] at h3
      repeat ((conv => whnf); refine ⟨by first | exact Nat.zero_lt_one | exact ⟨rfl, rfl, (show q.wl ≤ 1000000 by omega), (show q.at_ ≤ 1000000 by omega), (show q.wl ≤ q.wz.length by omega)⟩ | (unfold inI64; omega) | omega | exact ⟨by omega, by omega⟩ | (intro hg; first | (unfold inI64; omega) | omega | exact ⟨by omega, by omega⟩ | (simp [lit] at hg; unfold inI64; omega) | (simp [lit] at hg; omega) | (simp [lit] at hg; exact ⟨by omega, by omega⟩)) | (show (_ : Nat) + 1 ≤ 1000000000000; omega) | exact rfl | (unfold inI64; dsimp only; omega) | (dsimp only; omega) | (intro hg; simp [lit] at hg; first | (unfold inI64; dsimp only; omega) | (dsimp only; omega)) | decide +kernel, ?_⟩)
      conv => whnf
      refine head_keep (waitX (pushX q 0) (signX q) 0) [0, 1, 2] rfl id3 ?_ ?_ ?_ ?_
      · rfl
      · repeat (first | exact KeepL.nil | refine KeepL.drop ?_ | refine KeepL.ren rfl ?_)
      · exact ⟨h2.front ha h9, h3⟩
      · show q.toks.length - (q.at_ + 1) < q.toks.length - q.at_
        omega
    · have h9 : ¬ frontV (signX q) = true := by rw [show frontV (signX q) = false from h8]; simp
      rw [if_neg h9] at h3
      repeat ((conv => whnf); refine ⟨by first | (unfold inI64; omega) | omega | exact ⟨by omega, by omega⟩ | (intro hg; first | (unfold inI64; omega) | omega | exact ⟨by omega, by omega⟩ | (simp [lit] at hg; unfold inI64; omega) | (simp [lit] at hg; omega) | (simp [lit] at hg; exact ⟨by omega, by omega⟩)) | (show (_ : Nat) + 1 ≤ 1000000000000; omega) | exact rfl | (unfold inI64; dsimp only; omega) | (dsimp only; omega) | (intro hg; simp [lit] at hg; first | (unfold inI64; dsimp only; omega) | (dsimp only; omega)) | decide +kernel, ?_⟩)
      conv => whnf
      rw [← h3]
      exact ends_eq ⟨rfl, rfl⟩
  · have ha : ¬ q.at_ < q.toks.length := by have : ¬ (q.at_ : Int) < q.toks.length := of_decide_eq_false h
                                            omega
    rw [show q.toks.length - q.at_ = 0 from by omega] at h3
    simp only [opX] at h3
    repeat ((conv => whnf); refine ⟨by first | (unfold inI64; omega) | omega | exact ⟨by omega, by omega⟩ | (intro hg; first | (unfold inI64; omega) | omega | exact ⟨by omega, by omega⟩ | (simp [lit] at hg; unfold inI64; omega) | (simp [lit] at hg; omega) | (simp [lit] at hg; exact ⟨by omega, by omega⟩)) | (show (_ : Nat) + 1 ≤ 1000000000000; omega) | exact rfl | (unfold inI64; dsimp only; omega) | (dsimp only; omega) | (intro hg; simp [lit] at hg; first | (unfold inI64; dsimp only; omega) | (dsimp only; omega)) | decide +kernel, ?_⟩)
    conv => whnf
    rw [← h3]
    exact ends_eq ⟨rfl, rfl⟩
end Go.Ab

/- The reader of expressions: what a step keeps that goes on to an operand. -/
namespace Go.Ab
set_option linter.unusedSectionVars false

theorem finP {r : Xr} (h : okP r 1) {k : Nat} (hk : k ≤ 11) : okP (finX k r.wl r) 1 ∧ signX (finX k r.wl r) = signX r ∧ (finX k r.wl r).toks = r.toks ∧ (finX k r.wl r).at_ = r.at_ := by
  obtain ⟨i1, i2, i3, i4⟩ := fin_ok k hk r.wl r h.ok rfl
  refine ⟨⟨i1, NN.fin k _ r h.nn, by rw [i3]; exact h.len⟩, ?_, i3, i4⟩
  unfold signX Xr.ts
  rw [i3, i4]

theorem wait_same {r : Xr} {s : ByteArray} {k : Int} : waitX { r with br := r.br } s k = waitX r s k := rfl

theorem fol_q {r : Xr} (h : okP r 1) (h11 : betw (signX r) = 11) : okP (waitX (finX 10 r.wl r) (signX r) 12) 0 := by
  have hq := betw_q.1 h11
  have ha : r.at_ < r.toks.length := sgn_at (betw_ne (by rw [show sgn r.ts = signX r from rfl, h11]; decide))
  obtain ⟨i1, _, i3, i4⟩ := finP h (k := 10) (by omega)
  have hne : ¬ sQ = sLp := by decide
  refine ⟨?_, i1.nn, i1.len⟩
  exact (wait_ok (r := finX 10 r.wl r) (s := signX r) (k := 12) (x := 0) (by
      have : needF (signX r, 12) = 1 := by
        rw [hq]
        simp [needF, hne]
      rw [this]; exact i1.ok) (by rw [i3, i4]; exact ha) (b := (finX 10 r.wl r).br) (by
      rw [i1.ok.hbr, hq]
      simp [depth, hne]) (.inr (.inr (.inr ⟨rfl, .inr hq⟩)))).1

theorem fol_k {r : Xr} (h : okP r 1) (h0 : betw (signX r) ≠ 0) (h11 : betw (signX r) ≠ 11) : okP (waitX (finX (betw (signX r)) r.wl r) (signX r) (betw (signX r))) 0 := by
  have hle := betw_le (signX r)
  have ha : r.at_ < r.toks.length := sgn_at (betw_ne h0)
  obtain ⟨i1, _, i3, i4⟩ := finP h (k := betw (signX r)) (by omega)
  have hlp : ¬ signX r = sLp := fun e => h0 (by rw [e]; exact lp_ne.1)
  refine ⟨?_, i1.nn, i1.len⟩
  exact (wait_ok (r := finX (betw (signX r)) r.wl r) (s := signX r) (k := betw (signX r)) (x := 0) (by
      have : needF (signX r, (betw (signX r) : Int)) = 1 := by
        have h12 : ¬ ((betw (signX r) : Int)) = 12 := by omega
        have h13 : ¬ ((betw (signX r) : Int)) = 11 := by omega
        simp [needF, h12, h13]
      rw [this]; exact i1.ok) (by rw [i3, i4]; exact ha) (b := (finX (betw (signX r)) r.wl r).br) (by
      rw [i1.ok.hbr]
      simp [depth, hlp]) (.inr (.inl ⟨by dsimp only; omega, by dsimp only; omega, rfl⟩))).1

theorem end_col {r : Xr} (h : okP r 1) (h0 : r.wl ≠ 0) (h1 : (topX r).1 = sQ) (h2 : signX r = sCol) : okP (waitX (takeX r) sCol 11) 0 := by
  have hW := W_top r h0 h.ok.hw
  have hF : okF (topX r) := h.ok.hf _ (by rw [hW]; simp)
  have hneed : r.vl = needF (topX r) + needW (takeX r).W + 1 := by
    have := h.ok.hn
    rw [hW] at this
    simpa [needW] using this
  have hdep : r.br = depth (topX r :: (takeX r).W) := by rw [h.ok.hbr, hW]
  have ha : r.at_ < r.toks.length := sgn_at (by rw [show sgn r.ts = signX r from rfl, h2]; decide)
  have hk : (topX r).2 = 12 := by
    rcases hF with h' | h' | h' | h'
    · exact absurd h1 (front_ne h'.2).2.2
    · have := h'.2.2; rw [h1] at this; rw [show betw sQ = 11 from by decide] at this; omega
    · rw [h'.2] at h1; exact absurd h1 (by decide)
    · exact h'.1
  have hn1 : needF (topX r) = 1 := by
    have : ¬ sQ = sLp := by decide
    simp [needF, hk, h1, this]
  have htk : okX (takeX r) (0 + needF (sCol, 11)) := by
    refine ⟨h.ok.hv, ?_, h.ok.hat, ?_, ?_, h.ok.hvl, ?_, ?_⟩
    · show r.wl - 1 ≤ r.wz.length
      have := h.ok.hw; omega
    · show r.vl = _
      have : needF (sCol, 11) = 2 := by simp [needF]
      omega
    · show r.wl - 1 ≤ r.at_
      have := h.ok.hwl; omega
    · show r.br = _
      rw [hdep]
      have : ¬ sQ = sLp := by decide
      simp [depth, h1, this]
    · intro w hw
      exact h.ok.hf w (by rw [hW]; exact List.mem_cons_of_mem _ hw)
  refine ⟨?_, h.nn, h.len⟩
  exact (wait_ok (r := takeX r) (s := sCol) (k := 11) (x := 0) htk ha (b := r.br) (by
      have h3 := htk.hbr
      have : ¬ sCol = sLp := by decide
      simp only [depth, this, if_false]
      rw [show r.br = (takeX r).br from rfl, h3]; simp) (.inr (.inr (.inl ⟨rfl, rfl⟩)))).1

theorem NN.endX {s : ByteArray} {r : Xr} (h : NN r) : NN (endX s r).2 := by
  unfold Go.Ab.endX
  split
  · exact h
  split
  · exact h
  split
  · exact NN.op _ _ h
  · exact h

theorem NN.fol {r : Xr} (h : NN r) : NN (folX r).2 := by
  unfold folX
  split
  · exact NN.endX (NN.fin _ _ _ h)
  split
  · exact NN.op _ _ (NN.fin 10 r.wl r h)
  · exact NN.op _ _ (NN.fin (betw (signX r)) r.wl r h)

theorem NN.loop (pm : Bool) : ∀ (n : Nat) (r : Xr), NN r → NN (loopX pm n r).2 := by
  intro n
  induction n with
  | zero => intro r h; exact h
  | succ n ih =>
    intro r h
    simp only [loopX]
    split
    · exact h
    · have := NN.fol h
      cases hx : folX r with
      | mk b r' =>
        rw [hx] at this
        cases b with
        | true => exact ih _ this
        | false => exact this

/-- Where a step goes on, all is kept. -/
theorem folP {r : Xr} (h : okP r 1) (hf : (folX r).1 = true) : okP (folX r).2 1 := by
  obtain ⟨m1, m2⟩ := fol_ok r h.ok
  cases hc : folC r.st with
  | none => rw [hc, hf] at m1; cases m1
  | some st =>
    obtain ⟨_, e2, e3⟩ := m2 st hc
    exact ⟨e2, NN.fol h.nn, by rw [e3]; exact h.len⟩

theorem fol_lt {pm : Bool} {r : Xr} (h : okP r 1) (hf : (folX r).1 = true) (hd : doneC pm r.st = false) : mu (folX r).2.st < mu r.st := by
  obtain ⟨m1, m2⟩ := fol_ok r h.ok
  cases hc : folC r.st with
  | none => rw [hc, hf] at m1; cases m1
  | some st =>
    obtain ⟨e1, _, _⟩ := m2 st hc
    rw [e1]
    exact fol_mu pm _ _ hc hd

theorem opP {r : Xr} (h : okP r 0) (hf : (opX' r).1 = true) : okP (opX' r).2 1 := by
  obtain ⟨m1, m2⟩ := op_ok' h.ok rfl
  cases hc : opC r.ts r.W r.V r.fl with
  | none => rw [hc, hf] at m1; cases m1
  | some st =>
    obtain ⟨_, e2, e3⟩ := m2 st hc
    exact ⟨e2, NN.op _ _ h.nn, by rw [e3]; exact h.len⟩

/-- The loop's end does not depend on how often it may go round. -/
theorem loop_fuel (pm : Bool) : ∀ (n m : Nat) (r : Xr), okP r 1 → mu r.st ≤ n → mu r.st ≤ m → loopX pm n r = loopX pm m r := by
  have zero : ∀ r : Xr, mu r.st = 0 → doneC pm r.st = true := by
    intro r h
    unfold mu at h
    have h1 : r.st.ts = [] := List.eq_nil_of_length_eq_zero (by omega)
    have h2 : r.st.ws.isEmpty = true := by
      cases hw : r.st.ws.isEmpty with
      | true => rfl
      | false => rw [hw] at h; simp at h
    unfold doneC
    rw [h1, h2]
    simp [sgn, betw]
  intro n
  induction n with
  | zero =>
    intro m r h h1 h2
    have hz := zero r (by omega)
    cases m <;> simp [loopX, hz]
  | succ n ih =>
    intro m r h h1 h2
    cases m with
    | zero =>
      have hz := zero r (by omega)
      simp [loopX, hz]
    | succ m =>
      simp only [loopX]
      cases hd : doneC pm r.st with
      | true => rfl
      | false =>
        simp only [Bool.false_eq_true, if_false]
        cases hx : folX r with
        | mk b r' =>
          cases b with
          | false => rfl
          | true =>
            have h3 := fol_lt (pm := pm) h (by rw [hx]) hd
            have h4 := folP h (by rw [hx])
            rw [hx] at h3 h4
            dsimp only at h3 h4 ⊢
            exact ih m r' h4 (by omega) (by omega)

def loopX' (pm : Bool) (r : Xr) : Bool × Xr := loopX pm (mu r.st) r

theorem loop_done {pm : Bool} {r : Xr} (h : doneC pm r.st = true) : loopX' pm r = (true, r) := by
  unfold loopX'
  cases mu r.st <;> simp [loopX, h]

theorem loop_step {pm : Bool} {r : Xr} (h : okP r 1) (hd : doneC pm r.st = false) : loopX' pm r = if (folX r).1 = true then loopX' pm (folX r).2 else (false, (folX r).2) := by
  have e : loopX' pm r = loopX pm (mu r.st + 1) r := loop_fuel pm _ _ r h (Nat.le_refl _) (by omega)
  rw [e]
  simp only [loopX, hd, Bool.false_eq_true, if_false]
  cases hx : folX r with
  | mk b r' =>
    cases b with
    | false => rfl
    | true =>
      have h3 := fol_lt (pm := pm) h (by rw [hx]) hd
      have h4 := folP h (by rw [hx])
      rw [hx] at h3 h4
      dsimp only at h3 h4
      simp only [if_true]
      exact loop_fuel pm _ _ r' h4 (by omega) (Nat.le_refl _)
end Go.Ab
