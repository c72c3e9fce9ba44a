/- Package expression: Primary. -/
import Derived.Test.YteidakoieemlgaaGreatTV8toV2d
import Derived.Test.YteidakoieemlgaaGreatTR6toG3
import Derived.Test.YteidakoieemlgaaGreatTPtoR1
namespace Go.Ab
open Go.Proofs
set_option linter.unusedSectionVars false
set_option maxRecDepth 100000
variable [Glob]

theorem pW_dec {r : Xr} (h : r.wl ≤ r.wz.length) : doneC true r.st = decide (r.wl = 0) := by
  have h1 : r.st.ws.isEmpty = decide (r.W = []) := by
    show r.W.isEmpty = _
    cases r.W <;> simp
  have h2 : decide (r.W = []) = decide (r.wl = 0) := by
    have := W_len r h
    apply decide_eq_decide.2
    constructor
    · intro h; rw [h] at this; simpa using this.symm
    · intro h; exact W_nil r h
  unfold doneC
  rw [h1, h2, Bool.true_or, Bool.and_true]

def Y37 : Table := ext X36 171 (saysX da0 ea0 (fun r _ => okP r 0) fun r _ => (.bool (firstR true r).1, (firstR true r).2))

theorem y37 : TSound Tryz.prog Y37 := by
  refine extX x36 171 (fn := Tryz.f171) rfl rfl da0 ea0 _ _ (fun _ => Nat.le_of_ble_eq_true rfl) [0, 2, 11, 17, 20] fun r _ h1 => ?_
  have hsm := h1.small
  unfold firstR
  simp only
  repeat ((conv => whnf); refine ⟨by first | exact ⟨rfl, rfl, hsm⟩ | exact ⟨rfl, rfl, trivial⟩ | (unfold inI64; omega) | omega | exact ⟨by omega, by omega⟩ | (intro hg; first | (unfold inI64; omega) | omega | exact ⟨by omega, by omega⟩ | (simp [lit] at hg; unfold inI64; omega) | (simp [lit] at hg; omega) | (simp [lit] at hg; exact ⟨by omega, by omega⟩)) | (show (_ : Nat) + 1 ≤ 1000000000000; omega) | exact rfl | (unfold inI64; dsimp only; omega) | (dsimp only; omega) | (intro hg; simp [lit] at hg; first | (unfold inI64; dsimp only; omega) | (dsimp only; omega)) | decide +kernel, ?_⟩)
  conv => whnf
  refine cond_intro (fun h => ?_) (fun h => ?_)
  · have hf : frontV (signX r) = false := by
      have h2 : lit false (frontV (signX r)) = true := h
      simpa [lit] using h2
    rw [if_neg (by rw [hf]; simp)]
    repeat ((conv => whnf); refine ⟨by first | exact ⟨rfl, rfl, h1⟩ | (unfold inI64; omega) | omega | exact ⟨by omega, by omega⟩ | (intro hg; first | (unfold inI64; omega) | omega | exact ⟨by omega, by omega⟩ | (simp [lit] at hg; unfold inI64; omega) | (simp [lit] at hg; omega) | (simp [lit] at hg; exact ⟨by omega, by omega⟩)) | (show (_ : Nat) + 1 ≤ 1000000000000; omega) | exact rfl | (unfold inI64; dsimp only; omega) | (dsimp only; omega) | (intro hg; simp [lit] at hg; first | (unfold inI64; dsimp only; omega) | (dsimp only; omega)) | decide +kernel, ?_⟩)
    conv => whnf
    unfold exprR
    refine cond_intro (fun h3 => ?_) (fun h3 => ?_)
    · have h4 : (opX' r).1 = false := by
        have h5 : (frontV (signX r) || !(opX' r).1) = true := h3
        rw [hf] at h5
        simpa using h5
      rw [h4]
      simp only [Bool.false_eq_true, if_false]
      repeat ((conv => whnf); refine ⟨by first | (unfold inI64; omega) | omega | exact ⟨by omega, by omega⟩ | (intro hg; first | (unfold inI64; omega) | omega | exact ⟨by omega, by omega⟩ | (simp [lit] at hg; unfold inI64; omega) | (simp [lit] at hg; omega) | (simp [lit] at hg; exact ⟨by omega, by omega⟩)) | (show (_ : Nat) + 1 ≤ 1000000000000; omega) | exact rfl | (unfold inI64; dsimp only; omega) | (dsimp only; omega) | (intro hg; simp [lit] at hg; first | (unfold inI64; dsimp only; omega) | (dsimp only; omega)) | decide +kernel, ?_⟩)
      conv => whnf
      exact ends_eq ⟨rfl, rfl⟩
    have h4 : (opX' r).1 = true := by
      have h5 : (frontV (signX r) || !(opX' r).1) = false := h3
      rw [hf] at h5
      simpa using h5
    rw [if_pos h4]
    have h6 := opP h1 h4
    repeat ((conv => whnf); refine ⟨by first | (unfold inI64; omega) | omega | exact ⟨by omega, by omega⟩ | (intro hg; first | (unfold inI64; omega) | omega | exact ⟨by omega, by omega⟩ | (simp [lit] at hg; unfold inI64; omega) | (simp [lit] at hg; omega) | (simp [lit] at hg; exact ⟨by omega, by omega⟩)) | (show (_ : Nat) + 1 ≤ 1000000000000; omega) | exact rfl | (unfold inI64; dsimp only; omega) | (dsimp only; omega) | (intro hg; simp [lit] at hg; first | (unfold inI64; dsimp only; omega) | (dsimp only; omega)) | decide +kernel, ?_⟩)
    conv => whnf
    refine loop_intro (σ := Xr) (fun _ => [(0, XV.s (.a (.c (.ptr 0 0)))), (2, XV.s .none), (11, XV.s .none), (17, XV.s .none), (20, XV.s .none)])
      (fun q => xrH q) (fun q => okP q 1 ∧ loopX' true q = loopX' true (opX' r).2) (fun q => mu q.st) (opX' r).2 ?_ rfl ?_ fun q hI => ?_
    · repeat (first | exact LeL.nil | refine LeL.drop ?_ | refine LeL.same ?_)
    · exact ⟨h6, rfl⟩
    obtain ⟨h7, h8⟩ := hI
    have b := h7.bounds
    repeat ((conv => whnf); refine ⟨by first | (unfold inI64; omega) | omega | exact ⟨by omega, by omega⟩ | (intro hg; first | (unfold inI64; omega) | omega | exact ⟨by omega, by omega⟩ | (simp [lit] at hg; unfold inI64; omega) | (simp [lit] at hg; omega) | (simp [lit] at hg; exact ⟨by omega, by omega⟩)) | (show (_ : Nat) + 1 ≤ 1000000000000; omega) | exact rfl | (unfold inI64; dsimp only; omega) | (dsimp only; omega) | (intro hg; simp [lit] at hg; first | (unfold inI64; dsimp only; omega) | (dsimp only; omega)) | decide +kernel, ?_⟩)
    conv => whnf
    refine cond_intro (fun h9 => ?_) (fun h9 => ?_)
    · have hd : doneC true q.st = false := by
        rw [pW_dec h7.ok.hw]
        have : (0 : Int) < q.wl := of_decide_eq_true h9
        exact decide_eq_false (by omega)
      have hs := loop_step h7 hd
      repeat ((conv => whnf); refine ⟨by first | exact ⟨rfl, rfl, h7⟩ | (unfold inI64; omega) | omega | exact ⟨by omega, by omega⟩ | (intro hg; first | (unfold inI64; omega) | omega | exact ⟨by omega, by omega⟩ | (simp [lit] at hg; unfold inI64; omega) | (simp [lit] at hg; omega) | (simp [lit] at hg; exact ⟨by omega, by omega⟩)) | (show (_ : Nat) + 1 ≤ 1000000000000; omega) | exact rfl | (unfold inI64; dsimp only; omega) | (dsimp only; omega) | (intro hg; simp [lit] at hg; first | (unfold inI64; dsimp only; omega) | (dsimp only; omega)) | decide +kernel, ?_⟩)
      conv => whnf
      refine cond_intro (fun ha => ?_) (fun ha => ?_)
      · have hb : (folX q).1 = false := by simpa using ha
        rw [hb] at hs
        simp only [Bool.false_eq_true, if_false] at hs
        rw [← h8, hs]
        repeat ((conv => whnf); refine ⟨by first | (unfold inI64; omega) | omega | exact ⟨by omega, by omega⟩ | (intro hg; first | (unfold inI64; omega) | omega | exact ⟨by omega, by omega⟩ | (simp [lit] at hg; unfold inI64; omega) | (simp [lit] at hg; omega) | (simp [lit] at hg; exact ⟨by omega, by omega⟩)) | (show (_ : Nat) + 1 ≤ 1000000000000; omega) | exact rfl | (unfold inI64; dsimp only; omega) | (dsimp only; omega) | (intro hg; simp [lit] at hg; first | (unfold inI64; dsimp only; omega) | (dsimp only; omega)) | decide +kernel, ?_⟩)
        conv => whnf
        exact ends_eq ⟨rfl, rfl⟩
      · have hb : (folX q).1 = true := by simpa using ha
        rw [if_pos hb] at hs
        repeat ((conv => whnf); refine ⟨by first | (unfold inI64; omega) | omega | exact ⟨by omega, by omega⟩ | (intro hg; first | (unfold inI64; omega) | omega | exact ⟨by omega, by omega⟩ | (simp [lit] at hg; unfold inI64; omega) | (simp [lit] at hg; omega) | (simp [lit] at hg; exact ⟨by omega, by omega⟩)) | (show (_ : Nat) + 1 ≤ 1000000000000; omega) | exact rfl | (unfold inI64; dsimp only; omega) | (dsimp only; omega) | (intro hg; simp [lit] at hg; first | (unfold inI64; dsimp only; omega) | (dsimp only; omega)) | decide +kernel, ?_⟩)
        conv => whnf
        refine head_intro (folX q).2 ?_ rfl ?_ ?_
        · repeat (first | exact LeL.nil | refine LeL.drop ?_ | refine LeL.same ?_)
        · exact ⟨folP h7 hb, by rw [← hs]; exact h8⟩
        · exact fol_lt h7 hb hd
    · have hd : doneC true q.st = true := by
        rw [pW_dec h7.ok.hw]
        have : ¬ (0 : Int) < q.wl := of_decide_eq_false h9
        exact decide_eq_true (by omega)
      rw [← h8, loop_done hd]
      repeat ((conv => whnf); refine ⟨by first | (unfold inI64; omega) | omega | exact ⟨by omega, by omega⟩ | (intro hg; first | (unfold inI64; omega) | omega | exact ⟨by omega, by omega⟩ | (simp [lit] at hg; unfold inI64; omega) | (simp [lit] at hg; omega) | (simp [lit] at hg; exact ⟨by omega, by omega⟩)) | (show (_ : Nat) + 1 ≤ 1000000000000; omega) | exact rfl | (unfold inI64; dsimp only; omega) | (dsimp only; omega) | (intro hg; simp [lit] at hg; first | (unfold inI64; dsimp only; omega) | (dsimp only; omega)) | decide +kernel, ?_⟩)
      conv => whnf
      exact ends_eq ⟨rfl, rfl⟩
  · have hf : frontV (signX r) = true := by
      have h2 : lit false (frontV (signX r)) = false := h
      simpa [lit] using h2
    rw [if_pos hf]
    repeat ((conv => whnf); refine ⟨by first | (unfold inI64; omega) | omega | exact ⟨by omega, by omega⟩ | (intro hg; first | (unfold inI64; omega) | omega | exact ⟨by omega, by omega⟩ | (simp [lit] at hg; unfold inI64; omega) | (simp [lit] at hg; omega) | (simp [lit] at hg; exact ⟨by omega, by omega⟩)) | (show (_ : Nat) + 1 ≤ 1000000000000; omega) | exact rfl | (unfold inI64; dsimp only; omega) | (dsimp only; omega) | (intro hg; simp [lit] at hg; first | (unfold inI64; dsimp only; omega) | (dsimp only; omega)) | decide +kernel, ?_⟩)
    conv => whnf
    refine cond_intro (fun _ => ?_) (fun h3 => ?_)
    · repeat ((conv => whnf); refine ⟨by first | (unfold inI64; omega) | omega | exact ⟨by omega, by omega⟩ | (intro hg; first | (unfold inI64; omega) | omega | exact ⟨by omega, by omega⟩ | (simp [lit] at hg; unfold inI64; omega) | (simp [lit] at hg; omega) | (simp [lit] at hg; exact ⟨by omega, by omega⟩)) | (show (_ : Nat) + 1 ≤ 1000000000000; omega) | exact rfl | (unfold inI64; dsimp only; omega) | (dsimp only; omega) | (intro hg; simp [lit] at hg; first | (unfold inI64; dsimp only; omega) | (dsimp only; omega)) | decide +kernel, ?_⟩)
      conv => whnf
      exact ends_eq ⟨rfl, rfl⟩
    · exfalso
      have h5 : (frontV (signX r) || !false) = false := h3
      simp at h5

/-! The reader, made new: over Primary. -/
abbrev nilA : AC := .p (.v (.slice none 0 0))
def rd0H (toks : List tkC.den) (a : Nat) : List AO := [.row [.p (.l tkC toks), .int .i64 a, nilA, nilA, nilA, .int .i64 0, .bool false, .bool false, .bool false]]

def rd0Of (H : List AO) : Option (List tkC.den × Int) :=
  match H with
  | [.row [.p (.l c0 toks), .p (.v (.int .i64 a)), .p (.v (.slice none 0 0)), _, _, _, _, _, _]] => match castD (e := tkC) (e' := c0) toks with
    | some toks => some (toks, a)
    | none => none
  | _ => none

def saysW (pre : List tkC.den → Nat → Prop) (g : Xr → Bool × Xr) : Says := fun args H => match args with
  | [.c (.ptr 0 0)] => match rd0Of H with
    | some (toks, a) => some (some (H = rd0H toks a.toNat ∧ pre toks a.toNat), .bool (g (xr0 toks a.toNat)).1, xrH (g (xr0 toks a.toNat)).2)
    | none => none
  | _ => none

theorem weak_rd (toks : List tkC.den) (a : Nat) : ∀ G : View, Sim G → G.H = rd0H toks a → ∃ G' : View, G'.w = G.w ∧ Ext G G' ∧ Sim G' ∧ G'.H = xrH (xr0 toks a) := by
  intro G hS hH
  obtain ⟨G1, w1, x1, s1, h1⟩ := weak_sl hS (id := 0) (by rw [hH]; rfl) 3 rfl 141 (.int .u32)
  rw [hH] at h1
  obtain ⟨G2, w2, x2, s2, h2⟩ := weak_sl s1 (id := 0) (by rw [h1]; rfl) 4 rfl 206 frC
  rw [h1] at h2
  obtain ⟨G3, w3, x3, s3, h3⟩ := may_join s2 (id := 0) (by rw [h2]; rfl) 2 (.l mpC rowsM) (.inr rfl)
  rw [h2] at h3
  exact ⟨G3, w3.trans (w2.trans w1), (x1.trans x2).trans x3, s3, h3⟩

def fresh (toks : List tkC.den) (a : Nat) : Prop := toks.length ≤ 1000000 ∧ a ≤ toks.length

def Y38 : Table := ext Y37 171 (saysW fresh (firstR true))

theorem y38 : TSound Tryz.prog Y38 := by
  refine ext_weak y37 171 _ fun args H p r H' hs hp => ?_
  unfold saysW at hs
  split at hs
  · split at hs
    · rename_i toks a _
      cases hs
      obtain ⟨rfl, hf⟩ := hp
      exact ⟨_, xrH (xr0 toks a.toNat), rfl, ⟨rfl, rfl, xr0_ok hf.2 hf.1⟩, rfl, weak_rd toks a.toNat⟩
    · cases hs
  · cases hs

def resSV (x : Int × Int × Int) : SV := .tup [.c (.int .i64 x.1), .c (.int .i64 x.2.1), .c (.int .i64 x.2.2)]

def daRd (id : Nat) : List AV → Option (List tkC.den × Int)
  | [.c (.p (.l c0 toks)), .c (.p (.v (.int .i64 a))), .c (.p (.v (.func (.func f) x y)))] => match castD (e := tkC) (e' := c0) toks, Nat.beq f id, x.toList, y.toList with
    | some toks, true, [], [] => some (toks, a)
    | _, _, _, _ => none
  | _ => none
def rdArgs (id : Nat) (toks : List tkC.den) (a : Int) : List AV := [.c (.p (.l tkC toks)), .c (.int .i64 a), .c (.p (.v (.func (.func id) #[] #[])))]

def saysRead (id : Nat) (pm : Bool) : Says := fun args H => match H with
  | [] => match daRd id args with
    | some (toks, a) => some (some (args = rdArgs id toks a ∧ toks.length ≤ 1000000), resSV (readR pm toks a), [])
    | none => none
  | _ => none

def Y39 : Table := ext Y38 170 (saysRead 171 true)

theorem firstR_P {toks : List tkC.den} {a : Nat} (hl : toks.length ≤ 1000000) (ha : a ≤ toks.length) (h : (firstR true (xr0 toks a)).1 = true) : okX (firstR true (xr0 toks a)).2 1 ∧ u32r ((firstR true (xr0 toks a)).2.vz.getD 0 0) := by
  have e : firstR true (xr0 toks a) = exprR true (xr0 toks a) := by
    unfold firstR at h ⊢
    simp only at h ⊢
    split
    · rename_i h2
      rw [if_pos h2] at h
      cases h
    · rfl
  rw [e] at h ⊢
  obtain ⟨m1, m2⟩ := exprR_ok true toks a ha hl
  refine ⟨?_, (NN.expr (r := xr0 toks a) fun x hx => by cases hx).get 0⟩
  cases hd : opRun true ((toks.drop a).map tkOf) [] [] fl0 with
  | none => rw [hd, h] at m1; cases m1
  | some st => exact (m2 st hd).2.1

theorem faultV_F (r : Xr) : faultV r = faultF r.fl := rfl

theorem y39 : TSound Tryz.prog Y39 := by
  refine ext_run y38 (f := 170) (fn := Tryz.f170) rfl rfl [0, 1, 2, 6, 7, 8, 9, 10, 18, 24, 27] fun args H p r' H' hs hp => ?_
  unfold saysRead at hs
  split at hs
  · split at hs
    · rename_i toks a _
      cases hs
      obtain ⟨rfl, hl⟩ := hp
      refine ⟨Nat.le_of_ble_eq_true rfl, [], rfl, fun k hk => absurd hk (Nat.not_lt_zero k), ?_⟩
      unfold rdArgs readR
      repeat ((conv => whnf); refine ⟨by first | (unfold inI64; omega) | omega | exact ⟨by omega, by omega⟩ | (intro hg; first | (unfold inI64; omega) | omega | exact ⟨by omega, by omega⟩ | (simp [lit] at hg; unfold inI64; omega) | (simp [lit] at hg; omega) | (simp [lit] at hg; exact ⟨by omega, by omega⟩)) | (show (_ : Nat) + 1 ≤ 1000000000000; omega) | exact rfl | (unfold inI64; dsimp only; omega) | (dsimp only; omega) | (intro hg; simp [lit] at hg; first | (unfold inI64; dsimp only; omega) | (dsimp only; omega)) | decide +kernel, ?_⟩)
      conv => whnf
      refine cond_intro (fun h => ?_) (fun h => ?_)
      · have h' : a < 0 ∨ (toks.length : Int) ≤ a := by simpa using h
        rw [if_pos h']
        repeat ((conv => whnf); refine ⟨by first | (unfold inI64; omega) | omega | exact ⟨by omega, by omega⟩ | (intro hg; first | (unfold inI64; omega) | omega | exact ⟨by omega, by omega⟩ | (simp [lit] at hg; unfold inI64; omega) | (simp [lit] at hg; omega) | (simp [lit] at hg; exact ⟨by omega, by omega⟩)) | (show (_ : Nat) + 1 ≤ 1000000000000; omega) | exact rfl | (unfold inI64; dsimp only; omega) | (dsimp only; omega) | (intro hg; simp [lit] at hg; first | (unfold inI64; dsimp only; omega) | (dsimp only; omega)) | decide +kernel, ?_⟩)
        conv => whnf
        exact ends_eq ⟨rfl, rfl⟩
      have h' : ¬ (a < 0 ∨ (toks.length : Int) ≤ a) := by
        have : (decide (a < 0) || decide ((toks.length : Int) ≤ a)) = false := h
        simp at this
        omega
      rw [if_neg h']
      obtain ⟨a, rfl⟩ : ∃ n : Nat, a = n := ⟨a.toNat, by omega⟩
      have ha : a ≤ toks.length := by omega
      rw [Int.toNat_natCast]
      show runC _ _ _ _ _ _ _
      repeat ((conv => whnf); refine ⟨by first | exact ⟨rfl, hl, ha⟩ | (unfold inI64; omega) | omega | exact ⟨by omega, by omega⟩ | (intro hg; first | (unfold inI64; omega) | omega | exact ⟨by omega, by omega⟩ | (simp [lit] at hg; unfold inI64; omega) | (simp [lit] at hg; omega) | (simp [lit] at hg; exact ⟨by omega, by omega⟩)) | (show (_ : Nat) + 1 ≤ 1000000000000; omega) | exact rfl | (unfold inI64; dsimp only; omega) | (dsimp only; omega) | (intro hg; simp [lit] at hg; first | (unfold inI64; dsimp only; omega) | (dsimp only; omega)) | decide +kernel, ?_⟩)
      conv => whnf
      refine cond_intro (fun h2 => ?_) (fun h2 => ?_)
      · have hb : (firstR true (xr0 toks a)).1 = false := by simpa using h2
        rw [if_pos hb]
        repeat ((conv => whnf); refine ⟨by first | (unfold inI64; omega) | omega | exact ⟨by omega, by omega⟩ | (intro hg; first | (unfold inI64; omega) | omega | exact ⟨by omega, by omega⟩ | (simp [lit] at hg; unfold inI64; omega) | (simp [lit] at hg; omega) | (simp [lit] at hg; exact ⟨by omega, by omega⟩)) | (show (_ : Nat) + 1 ≤ 1000000000000; omega) | exact rfl | (unfold inI64; dsimp only; omega) | (dsimp only; omega) | (intro hg; simp [lit] at hg; first | (unfold inI64; dsimp only; omega) | (dsimp only; omega)) | decide +kernel, ?_⟩)
        conv => whnf
        exact ends_eq ⟨rfl, rfl⟩
      have hb : (firstR true (xr0 toks a)).1 = true := by simpa using h2
      obtain ⟨hk, hv0⟩ := firstR_P hl ha hb
      have hvl : 0 < (firstR true (xr0 toks a)).2.vl := by rw [hk.hn]; omega
      rw [if_neg (by rw [hb]; decide)]
      repeat ((conv => whnf); refine ⟨by first | exact ⟨rfl, rfl, trivial⟩ | (unfold inI64; omega) | omega | exact ⟨by omega, by omega⟩ | (intro hg; first | (unfold inI64; omega) | omega | exact ⟨by omega, by omega⟩ | (simp [lit] at hg; unfold inI64; omega) | (simp [lit] at hg; omega) | (simp [lit] at hg; exact ⟨by omega, by omega⟩)) | (show (_ : Nat) + 1 ≤ 1000000000000; omega) | exact rfl | (unfold inI64; dsimp only; omega) | (dsimp only; omega) | (intro hg; simp [lit] at hg; first | (unfold inI64; dsimp only; omega) | (dsimp only; omega)) | decide +kernel, ?_⟩)
      conv => whnf
      refine cond_intro (fun h3 => ?_) (fun h3 => ?_)
      · have hc : ¬ faultF (firstR true (xr0 toks a)).2.fl = 0 := by
          have : (!decide (faultV (firstR true (xr0 toks a)).2 = 0)) = true := h3
          rw [faultV_F] at this
          simpa using this
        rw [if_neg hc]
        repeat ((conv => whnf); refine ⟨by first | (unfold inI64; omega) | omega | exact ⟨by omega, by omega⟩ | (intro hg; first | (unfold inI64; omega) | omega | exact ⟨by omega, by omega⟩ | (simp [lit] at hg; unfold inI64; omega) | (simp [lit] at hg; omega) | (simp [lit] at hg; exact ⟨by omega, by omega⟩)) | (show (_ : Nat) + 1 ≤ 1000000000000; omega) | exact rfl | (unfold inI64; dsimp only; omega) | (dsimp only; omega) | (intro hg; simp [lit] at hg; first | (unfold inI64; dsimp only; omega) | (dsimp only; omega)) | decide +kernel, ?_⟩)
        conv => whnf
        exact ends_eq ⟨rfl, rfl⟩
      have hc : faultF (firstR true (xr0 toks a)).2.fl = 0 := by
        have : (!decide (faultV (firstR true (xr0 toks a)).2 = 0)) = false := h3
        rw [faultV_F] at this
        simpa using this
      rw [if_pos hc]
      repeat ((conv => whnf); refine ⟨by first | exact ⟨rfl, (show (0 : Int) ≤ 0 by decide), (show (0 : Int) < ((firstR true (xr0 toks a)).2.vl : Nat) by omega)⟩ | (show inI64 ((firstR true (xr0 toks a)).2.vz.getD 0 0); have := hv0.1; have := hv0.2; unfold inI64; omega) | (unfold inI64; omega) | omega | exact ⟨by omega, by omega⟩ | (intro hg; first | (unfold inI64; omega) | omega | exact ⟨by omega, by omega⟩ | (simp [lit] at hg; unfold inI64; omega) | (simp [lit] at hg; omega) | (simp [lit] at hg; exact ⟨by omega, by omega⟩)) | (show (_ : Nat) + 1 ≤ 1000000000000; omega) | exact rfl | (unfold inI64; dsimp only; omega) | (dsimp only; omega) | (intro hg; simp [lit] at hg; first | (unfold inI64; dsimp only; omega) | (dsimp only; omega)) | decide +kernel, ?_⟩)
      conv => whnf
      exact ends_eq ⟨rfl, rfl⟩
    · cases hs
  · cases hs

def daVal : List AV → Option (List tkC.den × Int)
  | [.c (.p (.l c0 toks)), .c (.p (.v (.int .i64 a)))] => match castD (e := tkC) (e' := c0) toks with
    | some toks => some (toks, a)
    | none => none
  | _ => none

def saysVal (pm : Bool) : Says := fun args H => match H with
  | [] => match daVal args with
    | some (toks, a) => some (some (args = [.c (.p (.l tkC toks)), .c (.int .i64 a)] ∧ toks.length ≤ 1000000), resSV (exprV pm toks a), [])
    | none => none
  | _ => none

def Y40 : Table := ext Y39 168 (saysVal true)

theorem y40 : TSound Tryz.prog Y40 := by
  refine ext_run y39 (f := 168) (fn := Tryz.f168) rfl rfl [0, 1, 4, 5, 6] fun args H p r' H' hs hp => ?_
  unfold saysVal at hs
  split at hs
  · split at hs
    · rename_i toks a _
      cases hs
      obtain ⟨rfl, hl⟩ := hp
      refine ⟨Nat.le_of_ble_eq_true rfl, [], rfl, fun k hk => absurd hk (Nat.not_lt_zero k), ?_⟩
      repeat ((conv => whnf); refine ⟨by first | exact ⟨rfl, hl⟩ | (unfold inI64; omega) | omega | exact ⟨by omega, by omega⟩ | (intro hg; first | (unfold inI64; omega) | omega | exact ⟨by omega, by omega⟩ | (simp [lit] at hg; unfold inI64; omega) | (simp [lit] at hg; omega) | (simp [lit] at hg; exact ⟨by omega, by omega⟩)) | (show (_ : Nat) + 1 ≤ 1000000000000; omega) | exact rfl | (unfold inI64; dsimp only; omega) | (dsimp only; omega) | (intro hg; simp [lit] at hg; first | (unfold inI64; dsimp only; omega) | (dsimp only; omega)) | decide +kernel, ?_⟩)
      conv => whnf
      refine ends_eq ⟨?_, rfl⟩
      rw [← read_desc true toks a hl]
      rfl
    · cases hs
  · cases hs
end Go.Ab

/- Expressions: rules for what is read without an error. -/
namespace Go.Ab
set_option linter.unusedSectionVars false

def OpdOk (D : Nat) (ts : List Tk) (x : Int) (ts' : List Tk) : Prop := ∀ n d f, 3 * ts.length < n → d + D ≤ 8 → opd n d ts f = some (x, ts', f)
def RwsOk (D m : Nat) (x : Int) (ts : List Tk) (y : Int) (ts' : List Tk) : Prop := ∀ n d f, 3 * ts.length < n → d + D ≤ 8 → rws n m d x ts f = some (y, ts', f)
def WhlOk (D : Nat) (ts : List Tk) (x : Int) (ts' : List Tk) : Prop := ∀ n d f, 3 * ts.length + 1 < n → d + D ≤ 8 → whl n d ts f = some (x, ts', f)

theorem OpdOk.le {D D' : Nat} {ts ts' : List Tk} {x : Int} (h : OpdOk D ts x ts') (hd : D ≤ D') : OpdOk D' ts x ts' := fun n d f hn hd' => h n d f hn (by omega)
theorem RwsOk.le {D D' m : Nat} {ts ts' : List Tk} {x y : Int} (h : RwsOk D m x ts y ts') (hd : D ≤ D') : RwsOk D' m x ts y ts' := fun n d f hn hd' => h n d f hn (by omega)
theorem WhlOk.le {D D' : Nat} {ts ts' : List Tk} {x : Int} (h : WhlOk D ts x ts') (hd : D ≤ D') : WhlOk D' ts x ts' := fun n d f hn hd' => h n d f hn (by omega)

abbrev tkNum (v : Int) : Tk := (2, ⟨#[]⟩, v)
abbrev tkSg (s : ByteArray) : Tk := (4, s, 0)
abbrev tkEnd : Tk := (8, ⟨#[]⟩, 0)

theorem w32_id {v : Int} (h0 : 0 ≤ v) (h1 : v ≤ 4294967295) : w32 v = v := by
  unfold w32 IntKind.wrap
  simp only [IntKind.signed, IntKind.bits]
  simp
  omega

theorem sgn_tk (s : ByteArray) (ts : List Tk) : sgn (tkSg s :: ts) = s := rfl

theorem OpdOk.num {v : Int} (h0 : 0 ≤ v) (h1 : v ≤ 4294967295) (ts : List Tk) : OpdOk 0 (tkNum v :: ts) v ts := by
  intro n d f hn hd
  obtain ⟨n, rfl⟩ : ∃ m, n = m + 1 := ⟨n - 1, by omega⟩
  unfold opd
  rw [if_pos rfl, w32_id h0 h1]
  have : f.num d v = f := by
    unfold Fl.num
    have e1 : decide (8 < d) = false := decide_eq_false (by omega)
    have e2 : decide (v < 0) = false := decide_eq_false (by omega)
    have e3 : decide (4294967295 < v) = false := decide_eq_false (by omega)
    show Fl.mk (f.deep || decide (8 < d)) (f.oor || (decide (v < 0) || decide (4294967295 < v))) f.div = f
    rw [e1, e2, e3]
    simp
  show some (v, ts, f.num d v) = _
  rw [this]

theorem OpdOk.paren {D : Nat} {ts ts' : List Tk} {x : Int} (h : WhlOk D ts x (tkSg sRp :: ts')) : OpdOk (D + 1) (tkSg sLp :: ts) x ts' := by
  intro n d f hn hd
  obtain ⟨n, rfl⟩ : ∃ m, n = m + 1 := ⟨n - 1, by omega⟩
  simp only [List.length_cons] at hn
  unfold opd
  rw [if_neg (by decide), if_pos (sgn_tk _ _), h n (d + 1) f (by omega) (by omega)]
  simp only
  rw [if_pos (sgn_tk _ _)]
  rfl

theorem dv_no (f : Fl) {s : ByteArray} {b : Int} (h : by0 s b = false) : f.dv s b = f := by
  unfold Fl.dv
  rw [h, Bool.or_false]

theorem calcD_no {k : Nat} {s : ByteArray} {a b : Int} (h : by0 s b = false) : calcD k s a b = calcV k s a b := by
  unfold calcD
  rw [h]
  rfl

theorem by0_front {s : ByteArray} (h : frontV s = true) (b : Int) : by0 s b = false := by
  unfold by0 divs
  have h1 : ¬ s = ⟨#[47]⟩ := by rintro rfl; revert h; decide
  have h2 : ¬ s = ⟨#[37]⟩ := by rintro rfl; revert h; decide
  rw [decide_eq_false h1, decide_eq_false h2]
  simp

theorem OpdOk.front {D : Nat} {s : ByteArray} (hs : frontV s = true) {ts ts' : List Tk} {x : Int} (h : OpdOk D ts x ts') : OpdOk D (tkSg s :: ts) (calcV 0 s 0 x) ts' := by
  intro n d f hn hd
  obtain ⟨n, rfl⟩ : ∃ m, n = m + 1 := ⟨n - 1, by omega⟩
  simp only [List.length_cons] at hn
  have hf := front_ne hs
  unfold opd
  rw [if_neg (show ¬ (4 : Int) = 2 by decide), sgn_tk, if_neg hf.1, if_pos hs, h n d f (by omega) hd]
  simp only
  rw [calcD_no (by0_front hs x), dv_no f (by0_front hs x)]

theorem RwsOk.stop {m : Nat} {x : Int} {ts : List Tk} (h : betw (sgn ts) = 0 ∨ m ≤ betw (sgn ts)) : RwsOk 0 m x ts x ts := by
  intro n d f hn hd
  obtain ⟨n, rfl⟩ : ∃ k, n = k + 1 := ⟨n - 1, by omega⟩
  unfold rws
  rw [if_pos h]

theorem opd_len {D : Nat} {ts ts' : List Tk} {x : Int} (h : OpdOk D ts x ts') (hD : D ≤ 8) : ts'.length < ts.length :=
  (k1 false (3 * ts.length + 1)).opl _ _ _ _ (h _ 0 fl0 (by omega) (by omega))
theorem rws_len {D m : Nat} {ts ts' : List Tk} {x y : Int} (h : RwsOk D m x ts y ts') (hD : D ≤ 8) : ts'.length ≤ ts.length :=
  ((k1 false (3 * ts.length + 1)).rwl _ _ _ _ _ _ (h _ 0 fl0 (by omega) (by omega))).1
theorem whl_len {D : Nat} {ts ts' : List Tk} {x : Int} (h : WhlOk D ts x ts') (hD : D ≤ 8) : ts'.length < ts.length :=
  ((k1 false (3 * ts.length + 2)).whll _ _ _ _ (h _ 0 fl0 (by omega) (by omega))).1

theorem RwsOk.step {D m k : Nat} {s : ByteArray} {x y y' z : Int} {ts1 ts2 ts3 ts4 : List Tk} (hD : D ≤ 8) (hk : betw s = k) (hk0 : k ≠ 0) (hkm : k < m) (h1 : OpdOk D ts1 y ts2) (h2 : RwsOk D k y ts2 y' ts3) (hb : by0 s y' = false)
    (h3 : RwsOk D m (calcV k s x y') ts3 z ts4) : RwsOk D m x (tkSg s :: ts1) z ts4 := by
  intro n d f hn hd
  obtain ⟨n, rfl⟩ : ∃ k, n = k + 1 := ⟨n - 1, by omega⟩
  simp only [List.length_cons] at hn
  have l1 := opd_len h1 hD
  have l2 := rws_len h2 hD
  unfold rws
  rw [sgn_tk, hk, if_neg (by omega), show (tkSg s :: ts1).drop 1 = ts1 from rfl, h1 n d f (by omega) hd]
  simp only
  rw [h2 n d f (by omega) hd]
  simp only
  rw [calcD_no hb, dv_no f hb]
  exact h3 n d f (by omega) hd

theorem WhlOk.plain {D : Nat} {ts ts1 ts2 : List Tk} {x c : Int} (hD : D ≤ 8) (h1 : OpdOk D ts x ts1) (h2 : RwsOk D 11 x ts1 c ts2) (hq : sgn ts2 ≠ sQ) : WhlOk D ts c ts2 := by
  intro n d f hn hd
  obtain ⟨n, rfl⟩ : ∃ k, n = k + 1 := ⟨n - 1, by omega⟩
  have l1 := opd_len h1 hD
  rw [whl, h1 n d f (by omega) hd]
  simp only
  rw [h2 n d f (by omega) hd]
  simp only
  rw [if_neg hq]

theorem WhlOk.choice {D : Nat} {ts ts1 ts2 ts3 ts4 : List Tk} {x c a b : Int} (hD : D ≤ 8) (h1 : OpdOk D ts x ts1) (h2 : RwsOk D 11 x ts1 c (tkSg sQ :: ts2)) (h3 : WhlOk D ts2 a (tkSg sCol :: ts3)) (h4 : WhlOk D ts3 b ts4) :
    WhlOk D ts (if c ≠ 0 then a else b) ts4 := by
  intro n d f hn hd
  obtain ⟨n, rfl⟩ : ∃ k, n = k + 1 := ⟨n - 1, by omega⟩
  have l1 := opd_len h1 hD
  have l2 := rws_len h2 hD
  have l3 := whl_len h3 hD
  simp only [List.length_cons] at l2 l3
  rw [whl, h1 n d f (by omega) hd]
  simp only
  rw [h2 n d f (by omega) hd]
  simp only
  rw [if_pos (sgn_tk _ _), show (tkSg sQ :: ts2).drop 1 = ts2 from rfl, h3 n d f (by omega) hd]
  simp only
  rw [if_pos (sgn_tk _ _), show (tkSg sCol :: ts3).drop 1 = ts3 from rfl, h4 n d f (by omega) hd]

/-- A whole text of tokens. -/
theorem exprV_ok {toks : List tkC.den} {ts : List Tk} {x : Int} {D : Nat} (hD : D ≤ 8) (ht : toks.map tkOf = ts ++ [tkEnd]) (h : WhlOk D (ts ++ [tkEnd]) x [tkEnd]) : exprV false toks 0 = (x, (toks.length : Int) - 1, 0) := by
  have hlen : toks.length = ts.length + 1 := by
    have := congrArg List.length ht
    simpa using this
  unfold exprV
  rw [if_neg (by omega), show (0 : Int).toNat = 0 from rfl, List.drop_zero, ht]
  unfold descV
  simp only
  rw [h _ 0 fl0 (by omega) (by omega)]
  simp only
  rw [if_pos (by rfl)]
  rfl
end Go.Ab

/- The examples of the chapter. -/
namespace Go.Ab
open Go.Proofs
set_option linter.unusedSectionVars false
set_option maxRecDepth 100000
variable [Glob]

def aw1S : ByteArray := ⟨#[97, 58, 32, 98, 64, 49, 32, 123, 32, 120, 32, 61, 32, 60, 38, 97, 32, 48, 120, 49, 48, 62, 59, 32, 125, 59]⟩
def aw2S : ByteArray := ⟨#[34, 97, 98]⟩
theorem aw2 : (readV aw2S 2).err = 21 ∧ (readV aw2S 2).file = 2 ∧ (readV aw2S 2).line = 1 ∧ (readV aw2S 2).column = 1 := by decide +kernel
theorem aw1 : (readV aw1S 3).err = 0 ∧ (readV aw1S 3).toks.length = 13 ∧ (readV aw1S 3).toks.getD 0 tokC.dflt = (5, ⟨#[97]⟩, 0, 3, 1, 1) ∧ ((readV aw1S 3).toks.getD 7 tokC.dflt).2.2.1 = 16 := by decide +kernel

theorem good43 : eqGood Tryz.prog 43 := by
  refine ⟨?_, ?_⟩ <;> decide +kernel

theorem good31 : eqGood Tryz.prog 31 := by
  refine ⟨?_, ?_⟩ <;> decide +kernel

def T51 : Table := T50

theorem t51 : TSound Tryz.prog T51 := t50

end Go.Ab

/- Texts as lists of bytes. -/
namespace Go.Ab

abbrev B (l : List UInt8) : ByteArray := ⟨⟨l⟩⟩

theorem B_data (s : ByteArray) : B s.data.toList = s := rfl
theorem B_size (l : List UInt8) : (B l).size = l.length := rfl
theorem B_inj {l m : List UInt8} : B l = B m ↔ l = m := by
  constructor
  · intro h
    have := congrArg (fun s : ByteArray => s.data.toList) h
    exact this
  · intro h; rw [h]
theorem B_eq (l m : List UInt8) : decide (B l = B m) = decide (l = m) := by
  rw [Bool.eq_iff_iff]; simp only [decide_eq_true_eq]; exact B_inj
theorem B_append (l m : List UInt8) : B l ++ B m = B (l ++ m) := by
  have h : ∀ a b : ByteArray, a.data.toList = b.data.toList → a = b := fun a b h => (B_inj (l := a.data.toList) (m := b.data.toList)).2 h
  apply h
  rw [ByteArray.data_append]
  simp
theorem B_extract (l : List UInt8) (a b : Nat) : (B l).extract a b = B ((l.take b).drop a) := by
  have h : ∀ a b : ByteArray, a.data.toList = b.data.toList → a = b := fun a b h => (B_inj (l := a.data.toList) (m := b.data.toList)).2 h
  apply h
  rw [ByteArray.data_extract]
  simp [List.drop_take]
theorem byteAt_B (l : List UInt8) (i : Nat) : byteAt (B l) i = ((l.getD i 0).toNat : Int) := rfl
theorem byteAt_cons (a : UInt8) (l : List UInt8) : byteAt (B (a :: l)) 0 = (a.toNat : Int) := rfl
theorem byteAt_cons1 (a b : UInt8) (l : List UInt8) : byteAt (B (a :: b :: l)) 1 = (b.toNat : Int) := rfl
theorem byteAt_succ (a : UInt8) (l : List UInt8) (i : Nat) : byteAt (B (a :: l)) ((i + 1 : Nat) : Int) = byteAt (B l) i := rfl
end Go.Ab
