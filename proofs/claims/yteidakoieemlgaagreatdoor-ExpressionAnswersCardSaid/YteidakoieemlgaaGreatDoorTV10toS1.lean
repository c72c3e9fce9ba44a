/- Package expression: Value and Compute. -/
import Derived.Test.YteidakoieemlgaaGreatDoorTV8toV9
import Derived.Test.YteidakoieemlgaaGreatDoorTR6toG3
import Derived.Test.YteidakoieemlgaaGreatDoorTPtoR1
namespace Go.Ab
open Go.Proofs
set_option linter.unusedSectionVars false
set_option maxRecDepth 100000
variable [Glob]

abbrev nilA : AC := .p (.v (.slice none 0 0))
def rd0H (toks : List tkC.den) (a : Nat) : List AO := [.row [.p (.l tkC toks), .int .i64 a, nilA, nilA, nilA, .int .i64 0, .bool false, .bool false, .bool false]]

def rd0Of (H : List AO) : Option (List tkC.den × Int) :=
  match H with
  | [.row [.p (.l c0 toks), .p (.v (.int .i64 a)), .p (.v (.slice none 0 0)), _, _, _, _, _, _]] => match castD (e := tkC) (e' := c0) toks with
    | some toks => some (toks, a)
    | none => none
  | _ => none

/-- A function of the reader, at a new one. -/
def saysW (pre : List tkC.den → Nat → Prop) (g : Xr → Bool × Xr) : Says := fun args H => match args with
  | [.c (.ptr 0 0)] => match rd0Of H with
    | some (toks, a) => some (some (H = rd0H toks a.toNat ∧ pre toks a.toNat), .bool (g (xr0 toks a.toNat)).1, xrH (g (xr0 toks a.toNat)).2)
    | none => none
  | _ => none

theorem weak_rd (toks : List tkC.den) (a : Nat) : ∀ G : View, Sim G → G.H = rd0H toks a → ∃ G' : View, G'.w = G.w ∧ Ext G G' ∧ Sim G' ∧ G'.H = xrH (xr0 toks a) := by
  intro G hS hH
  obtain ⟨G1, w1, x1, s1, h1⟩ := weak_sl hS (id := 0) (by rw [hH]; rfl) 3 rfl 27 (.int .u32)
  rw [hH] at h1
  obtain ⟨G2, w2, x2, s2, h2⟩ := weak_sl s1 (id := 0) (by rw [h1]; rfl) 4 rfl 114 frC
  rw [h1] at h2
  obtain ⟨G3, w3, x3, s3, h3⟩ := may_join s2 (id := 0) (by rw [h2]; rfl) 2 (.l mpC rowsM) (.inr rfl)
  rw [h2] at h3
  exact ⟨G3, w3.trans (w2.trans w1), (x1.trans x2).trans x3, s3, h3⟩

def fresh (toks : List tkC.den) (a : Nat) : Prop := toks.length ≤ 1000000 ∧ a ≤ toks.length

def X38 : Table := ext X37 33 (saysW fresh (exprR false))

theorem x38 : TSound Tryz.prog X38 := by
  refine ext_weak x37 33 _ fun args H p r H' hs hp => ?_
  unfold saysW at hs
  split at hs
  · split at hs
    · rename_i toks a _
      cases hs
      obtain ⟨rfl, hf⟩ := hp
      exact ⟨_, xrH (xr0 toks a.toNat), rfl, ⟨rfl, rfl, xr0_ok hf.2 hf.1⟩, rfl, weak_rd toks a.toNat⟩
    · cases hs
  · cases hs

def resSV (x : Int × Int × Int) : SV := .tup [.c (.int .i64 x.1), .c (.int .i64 x.2.1), .c (.int .i64 x.2.2)]

def daRd (id : Nat) : List AV → Option (List tkC.den × Int)
  | [.c (.p (.l c0 toks)), .c (.p (.v (.int .i64 a))), .c (.p (.v (.func (.func f) x y)))] => match castD (e := tkC) (e' := c0) toks, Nat.beq f id, x.toList, y.toList with
    | some toks, true, [], [] => some (toks, a)
    | _, _, _, _ => none
  | _ => none
def rdArgs (id : Nat) (toks : List tkC.den) (a : Int) : List AV := [.c (.p (.l tkC toks)), .c (.int .i64 a), .c (.p (.v (.func (.func id) #[] #[])))]

def saysRead (id : Nat) (pm : Bool) : Says := fun args H => match H with
  | [] => match daRd id args with
    | some (toks, a) => some (some (args = rdArgs id toks a ∧ toks.length ≤ 1000000), resSV (readR pm toks a), [])
    | none => none
  | _ => none

def X39 : Table := ext X38 32 (saysRead 33 false)

theorem exprR_P {pm : Bool} {toks : List tkC.den} {a : Nat} (hl : toks.length ≤ 1000000) (ha : a ≤ toks.length) (h : (exprR pm (xr0 toks a)).1 = true) : okX (exprR pm (xr0 toks a)).2 1 := by
  obtain ⟨m1, m2⟩ := exprR_ok pm toks a ha hl
  cases hd : opRun pm ((toks.drop a).map tkOf) [] [] fl0 with
  | none => rw [hd, h] at m1; cases m1
  | some st => exact (m2 st hd).2.1

theorem faultV_F (r : Xr) : faultV r = faultF r.fl := rfl

theorem x39 : TSound Tryz.prog X39 := by
  refine ext_run x38 (f := 32) (fn := Tryz.f32) rfl rfl [0, 1, 2, 6, 7, 8, 9, 10, 18, 24, 27] fun args H p r' H' hs hp => ?_
  unfold saysRead at hs
  split at hs
  · split at hs
    · rename_i toks a _
      cases hs
      obtain ⟨rfl, hl⟩ := hp
      refine ⟨Nat.le_of_ble_eq_true rfl, [], rfl, fun k hk => absurd hk (Nat.not_lt_zero k), ?_⟩
      unfold rdArgs readR
      repeat ((conv => whnf); refine ⟨by first | (unfold inI64; omega) | omega | exact ⟨by omega, by omega⟩ | (intro hg; first | (unfold inI64; omega) | omega | exact ⟨by omega, by omega⟩ | (simp [lit] at hg; unfold inI64; omega) | (simp [lit] at hg; omega) | (simp [lit] at hg; exact ⟨by omega, by omega⟩)) | (show (_ : Nat) + 1 ≤ 1000000000000; omega) | exact rfl | (unfold inI64; dsimp only; omega) | (dsimp only; omega) | (intro hg; simp [lit] at hg; first | (unfold inI64; dsimp only; omega) | (dsimp only; omega)) | decide +kernel, ?_⟩)
      conv => whnf
      refine cond_intro (fun h => ?_) (fun h => ?_)
      · have h' : a < 0 ∨ (toks.length : Int) ≤ a := by simpa using h
        rw [if_pos h']
        repeat ((conv => whnf); refine ⟨by first | (unfold inI64; omega) | omega | exact ⟨by omega, by omega⟩ | (intro hg; first | (unfold inI64; omega) | omega | exact ⟨by omega, by omega⟩ | (simp [lit] at hg; unfold inI64; omega) | (simp [lit] at hg; omega) | (simp [lit] at hg; exact ⟨by omega, by omega⟩)) | (show (_ : Nat) + 1 ≤ 1000000000000; omega) | exact rfl | (unfold inI64; dsimp only; omega) | (dsimp only; omega) | (intro hg; simp [lit] at hg; first | (unfold inI64; dsimp only; omega) | (dsimp only; omega)) | decide +kernel, ?_⟩)
        conv => whnf
        exact ends_eq ⟨rfl, rfl⟩
      have h' : ¬ (a < 0 ∨ (toks.length : Int) ≤ a) := by
        have : (decide (a < 0) || decide ((toks.length : Int) ≤ a)) = false := h
        simp at this
        omega
      rw [if_neg h']
      obtain ⟨a, rfl⟩ : ∃ n : Nat, a = n := ⟨a.toNat, by omega⟩
      have ha : a ≤ toks.length := by omega
      rw [Int.toNat_natCast, show firstR false (xr0 toks a) = exprR false (xr0 toks a) from rfl]
      show runC _ _ _ _ _ _ _
      repeat ((conv => whnf); refine ⟨by first | exact ⟨rfl, hl, ha⟩ | (unfold inI64; omega) | omega | exact ⟨by omega, by omega⟩ | (intro hg; first | (unfold inI64; omega) | omega | exact ⟨by omega, by omega⟩ | (simp [lit] at hg; unfold inI64; omega) | (simp [lit] at hg; omega) | (simp [lit] at hg; exact ⟨by omega, by omega⟩)) | (show (_ : Nat) + 1 ≤ 1000000000000; omega) | exact rfl | (unfold inI64; dsimp only; omega) | (dsimp only; omega) | (intro hg; simp [lit] at hg; first | (unfold inI64; dsimp only; omega) | (dsimp only; omega)) | decide +kernel, ?_⟩)
      conv => whnf
      refine cond_intro (fun h2 => ?_) (fun h2 => ?_)
      · have hb : (exprR false (xr0 toks a)).1 = false := by simpa using h2
        rw [if_pos hb]
        repeat ((conv => whnf); refine ⟨by first | (unfold inI64; omega) | omega | exact ⟨by omega, by omega⟩ | (intro hg; first | (unfold inI64; omega) | omega | exact ⟨by omega, by omega⟩ | (simp [lit] at hg; unfold inI64; omega) | (simp [lit] at hg; omega) | (simp [lit] at hg; exact ⟨by omega, by omega⟩)) | (show (_ : Nat) + 1 ≤ 1000000000000; omega) | exact rfl | (unfold inI64; dsimp only; omega) | (dsimp only; omega) | (intro hg; simp [lit] at hg; first | (unfold inI64; dsimp only; omega) | (dsimp only; omega)) | decide +kernel, ?_⟩)
        conv => whnf
        exact ends_eq ⟨rfl, rfl⟩
      have hb : (exprR false (xr0 toks a)).1 = true := by simpa using h2
      have hk := exprR_P hl ha hb
      have hvl : 0 < (exprR false (xr0 toks a)).2.vl := by rw [hk.hn]; omega
      rw [if_neg (by rw [hb]; decide)]
      repeat ((conv => whnf); refine ⟨by first | exact ⟨rfl, rfl, trivial⟩ | (unfold inI64; omega) | omega | exact ⟨by omega, by omega⟩ | (intro hg; first | (unfold inI64; omega) | omega | exact ⟨by omega, by omega⟩ | (simp [lit] at hg; unfold inI64; omega) | (simp [lit] at hg; omega) | (simp [lit] at hg; exact ⟨by omega, by omega⟩)) | (show (_ : Nat) + 1 ≤ 1000000000000; omega) | exact rfl | (unfold inI64; dsimp only; omega) | (dsimp only; omega) | (intro hg; simp [lit] at hg; first | (unfold inI64; dsimp only; omega) | (dsimp only; omega)) | decide +kernel, ?_⟩)
      conv => whnf
      refine cond_intro (fun h3 => ?_) (fun h3 => ?_)
      · have hc : ¬ faultF (exprR false (xr0 toks a)).2.fl = 0 := by
          have : (!decide (faultV (exprR false (xr0 toks a)).2 = 0)) = true := h3
          rw [faultV_F] at this
          simpa using this
        rw [if_neg hc]
        repeat ((conv => whnf); refine ⟨by first | (unfold inI64; omega) | omega | exact ⟨by omega, by omega⟩ | (intro hg; first | (unfold inI64; omega) | omega | exact ⟨by omega, by omega⟩ | (simp [lit] at hg; unfold inI64; omega) | (simp [lit] at hg; omega) | (simp [lit] at hg; exact ⟨by omega, by omega⟩)) | (show (_ : Nat) + 1 ≤ 1000000000000; omega) | exact rfl | (unfold inI64; dsimp only; omega) | (dsimp only; omega) | (intro hg; simp [lit] at hg; first | (unfold inI64; dsimp only; omega) | (dsimp only; omega)) | decide +kernel, ?_⟩)
        conv => whnf
        exact ends_eq ⟨rfl, rfl⟩
      have hc : faultF (exprR false (xr0 toks a)).2.fl = 0 := by
        have : (!decide (faultV (exprR false (xr0 toks a)).2 = 0)) = false := h3
        rw [faultV_F] at this
        simpa using this
      rw [if_pos hc]
      have hv0 : u32r ((exprR false (xr0 toks a)).2.vz.getD 0 0) := (NN.expr (r := xr0 toks a) fun x hx => by cases hx).get 0
      repeat ((conv => whnf); refine ⟨by first | exact ⟨rfl, (show (0 : Int) ≤ 0 by decide), (show (0 : Int) < ((exprR false (xr0 toks a)).2.vl : Nat) by omega)⟩ | (show inI64 ((exprR false (xr0 toks a)).2.vz.getD 0 0); have := hv0.1; have := hv0.2; unfold inI64; omega) | (unfold inI64; omega) | omega | exact ⟨by omega, by omega⟩ | (intro hg; first | (unfold inI64; omega) | omega | exact ⟨by omega, by omega⟩ | (simp [lit] at hg; unfold inI64; omega) | (simp [lit] at hg; omega) | (simp [lit] at hg; exact ⟨by omega, by omega⟩)) | (show (_ : Nat) + 1 ≤ 1000000000000; omega) | exact rfl | (unfold inI64; dsimp only; omega) | (dsimp only; omega) | (intro hg; simp [lit] at hg; first | (unfold inI64; dsimp only; omega) | (dsimp only; omega)) | decide +kernel, ?_⟩)
      conv => whnf
      exact ends_eq ⟨rfl, rfl⟩
    · cases hs
  · cases hs
end Go.Ab

/- Package expression: Compute. -/
namespace Go.Ab
open Go.Proofs
set_option linter.unusedSectionVars false
set_option maxRecDepth 100000
variable [Glob]

def daVal : List AV → Option (List tkC.den × Int)
  | [.c (.p (.l c0 toks)), .c (.p (.v (.int .i64 a)))] => match castD (e := tkC) (e' := c0) toks with
    | some toks => some (toks, a)
    | none => none
  | _ => none

def saysVal (pm : Bool) : Says := fun args H => match H with
  | [] => match daVal args with
    | some (toks, a) => some (some (args = [.c (.p (.l tkC toks)), .c (.int .i64 a)] ∧ toks.length ≤ 1000000), resSV (exprV pm toks a), [])
    | none => none
  | _ => none

def X40 : Table := ext X39 14 (saysVal false)

theorem x40 : TSound Tryz.prog X40 := by
  refine ext_run x39 (f := 14) (fn := Tryz.f14) rfl rfl [0, 1, 4, 5, 6] fun args H p r' H' hs hp => ?_
  unfold saysVal at hs
  split at hs
  · split at hs
    · rename_i toks a _
      cases hs
      obtain ⟨rfl, hl⟩ := hp
      refine ⟨Nat.le_of_ble_eq_true rfl, [], rfl, fun k hk => absurd hk (Nat.not_lt_zero k), ?_⟩
      repeat ((conv => whnf); refine ⟨by first | exact ⟨rfl, hl⟩ | (unfold inI64; omega) | omega | exact ⟨by omega, by omega⟩ | (intro hg; first | (unfold inI64; omega) | omega | exact ⟨by omega, by omega⟩ | (simp [lit] at hg; unfold inI64; omega) | (simp [lit] at hg; omega) | (simp [lit] at hg; exact ⟨by omega, by omega⟩)) | (show (_ : Nat) + 1 ≤ 1000000000000; omega) | exact rfl | (unfold inI64; dsimp only; omega) | (dsimp only; omega) | (intro hg; simp [lit] at hg; first | (unfold inI64; dsimp only; omega) | (dsimp only; omega)) | decide +kernel, ?_⟩)
      conv => whnf
      refine ends_eq ⟨?_, rfl⟩
      rw [← read_desc false toks a hl]
      rfl
    · cases hs
  · cases hs

theorem readGo_end : ∀ (k : Nat) (q : RdV) (zs : List tokC.den), (readGo k q zs).toks.length ≤ zs.length + k ∧ ((readGo k q zs).err = 0 → ∃ ys e, (readGo k q zs).toks = ys ++ [e] ∧ e.1 = 8) := by
  intro k
  induction k with
  | zero =>
    intro q zs
    simp only [readGo]
    refine ⟨Nat.zero_le _, fun h => ?_⟩
    split at h
    · omega
    · exact absurd h (by assumption)
  | succ k ih =>
    intro q zs
    simp only [readGo]
    by_cases h1 : (nextV q).2.1 = 0
    · rw [if_pos h1]
      by_cases h2 : (nextV q).1.kind = 8
      · rw [if_pos h2]
        exact ⟨by simp, fun _ => ⟨zs, _, rfl, h2⟩⟩
      · rw [if_neg h2]
        have := ih (nextV q).2.2 (zs ++ [(nextV q).1.den])
        refine ⟨?_, this.2⟩
        have h3 := this.1
        simp at h3
        omega
    · rw [if_neg h1]
      exact ⟨Nat.zero_le _, fun h => absurd h h1⟩

theorem readV_end (s : ByteArray) (f : Int) : (readV s f).toks.length ≤ 6000 ∧ ((readV s f).err = 0 → ∃ ys e, (readV s f).toks = ys ++ [e] ∧ e.1 = 8) := by
  unfold readV
  split
  · exact ⟨Nat.zero_le _, fun h => absurd h (by decide)⟩
  · have := readGo_end 6000 ⟨s, f, 1, 1⟩ []
    exact ⟨by simpa using this.1, this.2⟩

theorem exprV_in {toks ys : List tkC.den} {e : tkC.den} (ht : toks = ys ++ [e]) (he : e.1 = 8) (h : (exprV false toks 0).2.2 = 0) : 0 ≤ (exprV false toks 0).2.1 ∧ (exprV false toks 0).2.1 < toks.length := by
  unfold exprV at h ⊢
  have h0 : ¬ ((0 : Int) < 0 ∨ (toks.length : Int) ≤ 0) := by rw [ht]; simp
  rw [if_neg h0] at h ⊢
  have hm : (toks.drop (0 : Int).toNat).map tkOf = ys.map tkOf ++ [tkOf e] := by rw [ht]; simp
  rw [hm] at h ⊢
  cases hd : descV false (ys.map tkOf ++ [tkOf e]) with
  | none => rw [hd] at h; cases h
  | some r =>
    obtain ⟨x, ts, fl⟩ := r
    rw [hd] at h
    dsimp only at h ⊢
    have hk := descV_took hd
    have hne := took_last hk (show (tkOf e).1 ≠ 2 ∧ (tkOf e).1 ≠ 4 by
      have : (tkOf e).1 = 8 := he
      rw [this]; exact ⟨by decide, by decide⟩)
    obtain ⟨p, hp, _⟩ := hk
    have hl := congrArg List.length hp
    have hl2 : toks.length = p.length + ts.length := by
      rw [ht]
      simpa using hl
    have : 0 < ts.length := by
      cases ts with
      | nil => exact absurd rfl hne
      | cons => simp
    by_cases hf : faultF fl = 0
    · rw [if_pos hf]
      dsimp only
      omega
    · rw [if_neg hf] at h
      exact absurd h hf

def cmpV (s : ByteArray) : Int × Int :=
  if (readV s 0).err = 0 then
    if (exprV false (readV s 0).toks 0).2.2 = 0 then
      if ((readV s 0).toks.getD (exprV false (readV s 0).toks 0).2.1.toNat tkC.dflt).1 = 8 then ((exprV false (readV s 0).toks 0).1, 0) else (0, 6)
    else (0, (exprV false (readV s 0).toks 0).2.2)
  else (0, (readV s 0).err)

def X41 : Table := ext X40 10 (saysS fun s => (none, .tup [.c (.int .i64 (cmpV s).1), .c (.int .i64 (cmpV s).2)]))

theorem x41 : TSound Tryz.prog X41 := by
  refine extS x40 10 (fn := Tryz.f10) rfl rfl (by decide) _ [0, 2, 3, 4, 6, 7, 8, 16, 25, 32] fun s _ => ?_
  have hr := readV_end s 0
  unfold cmpV
  repeat ((conv => whnf); refine ⟨by first | (unfold inI64; omega) | omega | exact ⟨by omega, by omega⟩ | (intro hg; first | (unfold inI64; omega) | omega | exact ⟨by omega, by omega⟩ | (simp [lit] at hg; unfold inI64; omega) | (simp [lit] at hg; omega) | (simp [lit] at hg; exact ⟨by omega, by omega⟩)) | (show (_ : Nat) + 1 ≤ 1000000000000; omega) | exact rfl | (unfold inI64; dsimp only; omega) | (dsimp only; omega) | (intro hg; simp [lit] at hg; first | (unfold inI64; dsimp only; omega) | (dsimp only; omega)) | decide +kernel, ?_⟩)
  conv => whnf
  refine cond_intro (fun h => ?_) (fun h => ?_)
  · have h1 : ¬ (readV s 0).err = 0 := by simpa using h
    rw [if_neg h1]
    repeat ((conv => whnf); refine ⟨by first | (unfold inI64; omega) | omega | exact ⟨by omega, by omega⟩ | (intro hg; first | (unfold inI64; omega) | omega | exact ⟨by omega, by omega⟩ | (simp [lit] at hg; unfold inI64; omega) | (simp [lit] at hg; omega) | (simp [lit] at hg; exact ⟨by omega, by omega⟩)) | (show (_ : Nat) + 1 ≤ 1000000000000; omega) | exact rfl | (unfold inI64; dsimp only; omega) | (dsimp only; omega) | (intro hg; simp [lit] at hg; first | (unfold inI64; dsimp only; omega) | (dsimp only; omega)) | decide +kernel, ?_⟩)
    conv => whnf
    exact ends_eq ⟨rfl, rfl⟩
  have h1 : (readV s 0).err = 0 := by simpa using h
  obtain ⟨ys, e, ht, he⟩ := hr.2 h1
  rw [if_pos h1]
  repeat ((conv => whnf); refine ⟨by first | exact ⟨rfl, (show (readV s 0).toks.length ≤ 1000000 by omega)⟩ | (unfold inI64; omega) | omega | exact ⟨by omega, by omega⟩ | (intro hg; first | (unfold inI64; omega) | omega | exact ⟨by omega, by omega⟩ | (simp [lit] at hg; unfold inI64; omega) | (simp [lit] at hg; omega) | (simp [lit] at hg; exact ⟨by omega, by omega⟩)) | (show (_ : Nat) + 1 ≤ 1000000000000; omega) | exact rfl | (unfold inI64; dsimp only; omega) | (dsimp only; omega) | (intro hg; simp [lit] at hg; first | (unfold inI64; dsimp only; omega) | (dsimp only; omega)) | decide +kernel, ?_⟩)
  conv => whnf
  refine cond_intro (fun h2 => ?_) (fun h2 => ?_)
  · have h3 : ¬ (exprV false (readV s 0).toks 0).2.2 = 0 := by simpa using h2
    rw [if_neg h3]
    repeat ((conv => whnf); refine ⟨by first | (unfold inI64; omega) | omega | exact ⟨by omega, by omega⟩ | (intro hg; first | (unfold inI64; omega) | omega | exact ⟨by omega, by omega⟩ | (simp [lit] at hg; unfold inI64; omega) | (simp [lit] at hg; omega) | (simp [lit] at hg; exact ⟨by omega, by omega⟩)) | (show (_ : Nat) + 1 ≤ 1000000000000; omega) | exact rfl | (unfold inI64; dsimp only; omega) | (dsimp only; omega) | (intro hg; simp [lit] at hg; first | (unfold inI64; dsimp only; omega) | (dsimp only; omega)) | decide +kernel, ?_⟩)
    conv => whnf
    exact ends_eq ⟨rfl, rfl⟩
  have h3 : (exprV false (readV s 0).toks 0).2.2 = 0 := by simpa using h2
  have h4 := exprV_in ht he h3
  rw [if_pos h3]
  repeat ((conv => whnf); refine ⟨by first | exact h4 | (unfold inI64; omega) | omega | exact ⟨by omega, by omega⟩ | (intro hg; first | (unfold inI64; omega) | omega | exact ⟨by omega, by omega⟩ | (simp [lit] at hg; unfold inI64; omega) | (simp [lit] at hg; omega) | (simp [lit] at hg; exact ⟨by omega, by omega⟩)) | (show (_ : Nat) + 1 ≤ 1000000000000; omega) | exact rfl | (unfold inI64; dsimp only; omega) | (dsimp only; omega) | (intro hg; simp [lit] at hg; first | (unfold inI64; dsimp only; omega) | (dsimp only; omega)) | decide +kernel, ?_⟩)
  conv => whnf
  refine cond_intro (fun h5 => ?_) (fun h5 => ?_)
  · have h6 : ¬ ((readV s 0).toks.getD (exprV false (readV s 0).toks 0).2.1.toNat tkC.dflt).1 = 8 := by
      have : (!decide (((readV s 0).toks.getD (exprV false (readV s 0).toks 0).2.1.toNat tkC.dflt).1 = 8)) = true := h5
      simpa using this
    rw [if_neg h6]
    repeat ((conv => whnf); refine ⟨by first | (unfold inI64; omega) | omega | exact ⟨by omega, by omega⟩ | (intro hg; first | (unfold inI64; omega) | omega | exact ⟨by omega, by omega⟩ | (simp [lit] at hg; unfold inI64; omega) | (simp [lit] at hg; omega) | (simp [lit] at hg; exact ⟨by omega, by omega⟩)) | (show (_ : Nat) + 1 ≤ 1000000000000; omega) | exact rfl | (unfold inI64; dsimp only; omega) | (dsimp only; omega) | (intro hg; simp [lit] at hg; first | (unfold inI64; dsimp only; omega) | (dsimp only; omega)) | decide +kernel, ?_⟩)
    conv => whnf
    exact ends_eq ⟨rfl, rfl⟩
  · have h6 : ((readV s 0).toks.getD (exprV false (readV s 0).toks 0).2.1.toNat tkC.dflt).1 = 8 := by
      have : (!decide (((readV s 0).toks.getD (exprV false (readV s 0).toks 0).2.1.toNat tkC.dflt).1 = 8)) = false := h5
      simpa using this
    rw [if_pos h6]
    repeat ((conv => whnf); refine ⟨by first | (unfold inI64; omega) | omega | exact ⟨by omega, by omega⟩ | (intro hg; first | (unfold inI64; omega) | omega | exact ⟨by omega, by omega⟩ | (simp [lit] at hg; unfold inI64; omega) | (simp [lit] at hg; omega) | (simp [lit] at hg; exact ⟨by omega, by omega⟩)) | (show (_ : Nat) + 1 ≤ 1000000000000; omega) | exact rfl | (unfold inI64; dsimp only; omega) | (dsimp only; omega) | (intro hg; simp [lit] at hg; first | (unfold inI64; dsimp only; omega) | (dsimp only; omega)) | decide +kernel, ?_⟩)
    conv => whnf
    exact ends_eq ⟨rfl, rfl⟩
end Go.Ab

/- The examples of the chapter. -/
namespace Go.Ab
open Go.Proofs
set_option linter.unusedSectionVars false
set_option maxRecDepth 100000
variable [Glob]

def aw1S : ByteArray := ⟨#[97, 58, 32, 98, 64, 49, 32, 123, 32, 120, 32, 61, 32, 60, 38, 97, 32, 48, 120, 49, 48, 62, 59, 32, 125, 59]⟩
def aw2S : ByteArray := ⟨#[34, 97, 98]⟩
theorem aw2 : (readV aw2S 2).err = 21 ∧ (readV aw2S 2).file = 2 ∧ (readV aw2S 2).line = 1 ∧ (readV aw2S 2).column = 1 := by decide +kernel
theorem aw1 : (readV aw1S 3).err = 0 ∧ (readV aw1S 3).toks.length = 13 ∧ (readV aw1S 3).toks.getD 0 tokC.dflt = (5, ⟨#[97]⟩, 0, 3, 1, 1) ∧ ((readV aw1S 3).toks.getD 7 tokC.dflt).2.2.1 = 16 := by decide +kernel

theorem good43 : eqGood Tryz.prog 43 := by
  refine ⟨?_, ?_⟩ <;> decide +kernel

theorem good31 : eqGood Tryz.prog 31 := by
  refine ⟨?_, ?_⟩ <;> decide +kernel

def T51 : Table := T50

theorem t51 : TSound Tryz.prog T51 := t50

end Go.Ab

/- Texts as lists of bytes. -/
namespace Go.Ab

abbrev B (l : List UInt8) : ByteArray := ⟨⟨l⟩⟩

theorem B_data (s : ByteArray) : B s.data.toList = s := rfl
theorem B_size (l : List UInt8) : (B l).size = l.length := rfl
theorem B_inj {l m : List UInt8} : B l = B m ↔ l = m := by
  constructor
  · intro h
    have := congrArg (fun s : ByteArray => s.data.toList) h
    exact this
  · intro h; rw [h]
theorem B_eq (l m : List UInt8) : decide (B l = B m) = decide (l = m) := by
  rw [Bool.eq_iff_iff]; simp only [decide_eq_true_eq]; exact B_inj
theorem B_append (l m : List UInt8) : B l ++ B m = B (l ++ m) := by
  have h : ∀ a b : ByteArray, a.data.toList = b.data.toList → a = b := fun a b h => (B_inj (l := a.data.toList) (m := b.data.toList)).2 h
  apply h
  rw [ByteArray.data_append]
  simp
theorem B_extract (l : List UInt8) (a b : Nat) : (B l).extract a b = B ((l.take b).drop a) := by
  have h : ∀ a b : ByteArray, a.data.toList = b.data.toList → a = b := fun a b h => (B_inj (l := a.data.toList) (m := b.data.toList)).2 h
  apply h
  rw [ByteArray.data_extract]
  simp [List.drop_take]
theorem byteAt_B (l : List UInt8) (i : Nat) : byteAt (B l) i = ((l.getD i 0).toNat : Int) := rfl
theorem byteAt_cons (a : UInt8) (l : List UInt8) : byteAt (B (a :: l)) 0 = (a.toNat : Int) := rfl
theorem byteAt_cons1 (a b : UInt8) (l : List UInt8) : byteAt (B (a :: b :: l)) 1 = (b.toNat : Int) := rfl
theorem byteAt_succ (a : UInt8) (l : List UInt8) (i : Nat) : byteAt (B (a :: l)) ((i + 1 : Nat) : Int) = byteAt (B l) i := rfl
end Go.Ab

/- Reading a text, as a function on lists of bytes. -/
namespace Go.Ab
open Go.Proofs
set_option linter.unusedSectionVars false
variable [Glob]

def tw (p : Int → Bool) (l : List UInt8) : List UInt8 := l.takeWhile fun u : UInt8 => p ((u.toNat : Nat) : Int)
def dw (p : Int → Bool) (l : List UInt8) : List UInt8 := l.dropWhile fun u : UInt8 => p ((u.toNat : Nat) : Int)

theorem leadN_B (p : Int → Bool) (l : List UInt8) : leadN p (B l) = (tw p l).length := rfl
theorem tw_dw (p : Int → Bool) (l : List UInt8) : tw p l ++ dw p l = l := List.takeWhile_append_dropWhile
theorem take_tw (p : Int → Bool) (l : List UInt8) : l.take (tw p l).length = tw p l := by
  have h := List.take_left (l₁ := tw p l) (l₂ := dw p l)
  rwa [tw_dw] at h
theorem drop_tw (p : Int → Bool) (l : List UInt8) : l.drop (tw p l).length = dw p l := by
  have h := List.drop_left (l₁ := tw p l) (l₂ := dw p l)
  rwa [tw_dw] at h
theorem tw_cons_pos {p : Int → Bool} {a : UInt8} {l : List UInt8} (h : p ((a.toNat : Nat) : Int) = true) : tw p (a :: l) = a :: tw p l := List.takeWhile_cons_of_pos (p := fun u : UInt8 => p ((u.toNat : Nat) : Int)) h
theorem tw_cons_neg {p : Int → Bool} {a : UInt8} {l : List UInt8} (h : p ((a.toNat : Nat) : Int) = false) : tw p (a :: l) = [] := List.takeWhile_cons_of_neg (p := fun u : UInt8 => p ((u.toNat : Nat) : Int)) (by rw [h]; decide)
theorem dw_cons_pos {p : Int → Bool} {a : UInt8} {l : List UInt8} (h : p ((a.toNat : Nat) : Int) = true) : dw p (a :: l) = dw p l := List.dropWhile_cons_of_pos (p := fun u : UInt8 => p ((u.toNat : Nat) : Int)) h
theorem dw_cons_neg {p : Int → Bool} {a : UInt8} {l : List UInt8} (h : p ((a.toNat : Nat) : Int) = false) : dw p (a :: l) = a :: l := List.dropWhile_cons_of_neg (p := fun u : UInt8 => p ((u.toNat : Nat) : Int)) (by rw [h]; decide)
theorem tw_len (p : Int → Bool) (l : List UInt8) : (tw p l).length + (dw p l).length = l.length := by
  have h := congrArg List.length (tw_dw p l)
  simpa using h
theorem byteAt_tw (p : Int → Bool) (l : List UInt8) : byteAt (B l) ((tw p l).length : Int) = (((dw p l).getD 0 0).toNat : Int) := by
  rw [byteAt_B, ← drop_tw]
  simp

theorem pref2 (x y : UInt8) (l : List UInt8) : prefB (B l) ⟨#[x, y]⟩ = (match l with | a :: b :: _ => decide (a = x) && decide (b = y) | _ => false) := by
  unfold prefB
  have h2 : (ByteArray.mk #[x, y]).size = 2 := rfl
  rw [h2, B_extract, show (ByteArray.mk #[x, y]) = B [x, y] from rfl, B_eq, B_size]
  match l with
  | [] => simp
  | [a] => simp
  | a :: b :: r =>
    have h3 : (((2 : Nat) : Int) ≤ ((a :: b :: r).length : Nat)) := by simp only [List.length_cons]; omega
    rw [decide_eq_true h3]
    simp

/-- Where the end of a comment is. -/
def endAt : List UInt8 → Option Nat
  | [] => none
  | a :: r => if a = 42 ∧ r.head? = some 47 then some 0 else (endAt r).map (· + 1)

theorem index_end : ∀ l : List UInt8, Lib.index l [42, 47] = (match endAt l with | some n => (n : Int) | none => -1)
  | [] => rfl
  | a :: r => by
    have ih := index_end r
    unfold Lib.index endAt
    rw [ih]
    by_cases h : a = 42 ∧ r.head? = some 47
    · rw [if_pos h]
      obtain ⟨rfl, h2⟩ := h
      cases r with
      | nil => cases h2
      | cons b r => cases h2; rfl
    · rw [if_neg h, if_neg]
      · cases endAt r with
        | none => rfl
        | some n =>
          simp only [Option.map_some]
          rw [if_neg]
          · simp
          · simp only [beq_iff_eq]; omega
      · intro h2
        apply h
        cases r with
        | nil => simp [List.isPrefixOf] at h2
        | cons b r =>
          simp [List.isPrefixOf] at h2
          exact ⟨h2.1.symm, by rw [List.head?_cons, ← h2.2]⟩

/-- What separates: so many bytes, and an error. -/
def sepL (l : List UInt8) : Nat × Int :=
  if l.head? = some 47 ∧ l.tail.head? = some 47 then ((tw lineB l).length, 0)
  else if l.head? = some 47 ∧ l.tail.head? = some 42 then (match endAt (l.drop 2) with | some n => (n + 4, 0) | none => (0, 21))
  else ((tw spaceB l).length, 0)

theorem pref2' (x y : UInt8) (l : List UInt8) : prefB (B l) ⟨#[x, y]⟩ = decide (l.head? = some x ∧ l.tail.head? = some y) := by
  rw [pref2]
  match l with
  | [] => simp
  | [a] => simp
  | a :: b :: r => simp

theorem sepV_L (l : List UInt8) : sepV (B l) = (((sepL l).1 : Int), (sepL l).2) := by
  unfold sepV sepL
  rw [pref2', pref2']
  by_cases h1 : l.head? = some 47 ∧ l.tail.head? = some 47
  · rw [if_pos h1, if_pos (decide_eq_true h1)]; rfl
  · rw [if_neg h1, if_neg (by rw [decide_eq_false h1]; decide)]
    by_cases h2 : l.head? = some 47 ∧ l.tail.head? = some 42
    · rw [if_pos h2, if_pos (decide_eq_true h2)]
      have e : indexV ((B l).extract 2 (B l).size) ⟨#[42, 47]⟩ = (match endAt (l.drop 2) with | some n => (n : Int) | none => -1) := by
        rw [B_extract, B_size, List.take_of_length_le (Nat.le_refl _)]
        exact index_end _
      rw [e]
      cases endAt (l.drop 2) with
      | none => rfl
      | some n =>
        simp only
        rw [if_neg (by omega)]
        rfl
    · rw [if_neg h2, if_neg (by rw [decide_eq_false h2]; decide)]; rfl

/-! One token. -/
def nameLx (l : List UInt8) : TokV × Nat × Int :=
  if (dw nameB l).head? = some 58 then (if (tw wordB l).length < (tw nameB l).length then ({}, 0, 6) else ({ kind := 5, text := B (tw nameB l) }, (tw nameB l).length + 1, 0))
  else ({ kind := 1, text := B (tw nameB l) }, (tw nameB l).length, 0)

def fitsL (x : TokV × Nat × Int) : TokV × Int × Int := (x.1, (x.2.1 : Int), x.2.2)

theorem head_byte {l : List UInt8} (c : UInt8) (hc : c ≠ 0) : decide ((((l.getD 0 0).toNat : Nat) : Int) = ((c.toNat : Nat) : Int)) = decide (l.head? = some c) := by
  cases l with
  | nil =>
    simp only [List.getD_nil, List.head?_nil, reduceCtorEq, decide_false]
    apply decide_eq_false
    intro h
    apply hc
    apply UInt8.toNat_inj.1
    have : (0 : UInt8).toNat = c.toNat := by exact_mod_cast h
    exact this.symm
  | cons a l =>
    simp only [List.getD_cons_zero, List.head?_cons, Option.some.injEq]
    rw [decide_eq_decide]
    rw [Int.ofNat_inj, UInt8.toNat_inj]

theorem nameV_L (l : List UInt8) : nameV (B l) = fitsL (nameLx l) := by
  unfold nameV nameLx
  rw [leadN_B, leadN_B, byteAt_tw, B_size, B_extract, List.drop_zero, take_tw]
  have h58 : decide (((((dw nameB l).getD 0 0).toNat : Nat) : Int) = 58) = decide ((dw nameB l).head? = some 58) := head_byte 58 (by decide)
  have hl := tw_len nameB l
  by_cases h : (dw nameB l).head? = some 58
  · have hne : decide (((tw nameB l).length : Int) = l.length) = false := by
      apply decide_eq_false
      intro h2
      have : (dw nameB l).length = 0 := by omega
      rw [List.length_eq_zero_iff] at this
      rw [this] at h
      cases h
    rw [h58, decide_eq_true h, hne, if_neg (by decide), if_pos h]
    by_cases h2 : (tw wordB l).length < (tw nameB l).length
    · rw [if_pos h2, if_pos (by omega)]; rfl
    · rw [if_neg h2, if_neg (by omega)]; rfl
  · rw [h58, decide_eq_false h, if_neg h, if_pos (by simp)]; rfl

/-- Digits, and their base. -/
def splitL (l : List UInt8) : List UInt8 × Int :=
  if l.head? = some 48 ∧ l.tail.head? = some 120 then (l.drop 2, 16) else if l.head? = some 48 then (l, 8) else (l, 10)

def compLgo (b : Int) : List UInt8 → Int → Int × Int
  | [], v => if 4294967295 < v then (0, 2) else (v, 0)
  | d :: r, v => if b ≤ digitV ((d.toNat : Nat) : Int) then (0, 6) else compLgo b r (if 4294967296 < v * b + digitV ((d.toNat : Nat) : Int) then 4294967296 else v * b + digitV ((d.toNat : Nat) : Int))

def compL (l : List UInt8) (b : Int) : Int × Int := if l = [] then (0, 6) else compLgo b l 0

theorem compGo_L (b : Int) : ∀ (r p : List UInt8) (v : Int), compGo (B (p ++ r)) b r.length p.length v = compLgo b r v
  | [], p, v => rfl
  | d :: r, p, v => by
    have ih := compGo_L b r (p ++ [d])
    have e : p ++ [d] ++ r = p ++ d :: r := by simp
    have e2 : (p ++ [d]).length = p.length + 1 := by simp
    rw [e, e2] at ih
    simp only [compLgo, List.length_cons, compGo]
    have hb : byteAt (B (p ++ d :: r)) (p.length : Int) = ((d.toNat : Nat) : Int) := by
      rw [byteAt_B]; simp
    rw [hb, ih]

theorem compV_L (l : List UInt8) (b : Int) : compV (B l) b = compL l b := by
  unfold compV compL
  by_cases h : l = []
  · rw [if_pos h, if_pos (B_inj.2 h)]
  · rw [if_neg h, if_neg (fun h2 => h (B_inj.1 h2))]
    exact compGo_L b l [] 0

def numLx (l : List UInt8) : TokV × Nat × Int :=
  if (compL (splitL (tw wordB l)).1 (splitL (tw wordB l)).2).2 = 0 then ({ kind := 2, value := (compL (splitL (tw wordB l)).1 (splitL (tw wordB l)).2).1 }, (tw wordB l).length, 0)
  else ({}, 0, (compL (splitL (tw wordB l)).1 (splitL (tw wordB l)).2).2)

theorem split_L (l : List UInt8) : splitD (B l) = B (splitL l).1 ∧ splitB (B l) = (splitL l).2 := by
  have h48 : decide (byteAt (B l) 0 = 48) = decide (l.head? = some 48) := head_byte 48 (by decide)
  have hp : prefB (B l) ⟨#[48, 120]⟩ = decide (l.head? = some 48 ∧ l.tail.head? = some 120) := pref2' _ _ _
  by_cases h : l.head? = some 48 ∧ l.tail.head? = some 120
  · have hp' := hp.trans (decide_eq_true h)
    refine ⟨?_, ?_⟩
    · unfold splitD splitL trimP
      rw [if_pos hp', if_pos hp', if_pos h, B_extract]
      show B (List.drop 2 (List.take l.length l)) = B (List.drop 2 l)
      rw [List.take_of_length_le (Nat.le_refl _)]
    · unfold splitB splitL
      rw [if_pos hp', if_pos h]
  · have hp' : ¬ prefB (B l) ⟨#[48, 120]⟩ = true := by rw [hp, decide_eq_false h]; decide
    refine ⟨?_, ?_⟩
    · unfold splitD splitL
      rw [if_neg hp', if_neg h]
      split <;> rfl
    · unfold splitB splitL
      rw [if_neg hp', if_neg h]
      by_cases h2 : l.head? = some 48
      · rw [if_pos h2, if_pos (of_decide_eq_true (h48.trans (decide_eq_true h2)))]
      · rw [if_neg h2, if_neg (of_decide_eq_false (h48.trans (decide_eq_false h2)))]

theorem numV_L (l : List UInt8) : numV (B l) = fitsL (numLx l) := by
  unfold numV numLx
  rw [leadN_B, B_extract, List.drop_zero, take_tw, (split_L _).1, (split_L _).2, compV_L]
  split <;> rfl

/-! Strings. -/
def escL (l : List UInt8) : Int × Int × Int := escV (B l)

def strL : Nat → List UInt8 → List Int → Nat → TokV × Nat × Int
  | 0, _, _, _ => ({}, 0, 21)
  | k + 1, l, out, n => match l with
    | [] => ({}, 0, 21)
    | a :: r => if a = 10 then ({}, 0, 21) else if a = 34 then ({ kind := 3, text := bytesOf out }, n + 1, 0)
      else if a = 92 then (if (escL l).2.2 = 0 then strL k (l.drop (escL l).2.1.toNat) (out ++ [(escL l).1]) (n + (escL l).2.1.toNat) else ({}, 0, (escL l).2.2))
      else strL k r (out ++ [((a.toNat : Nat) : Int)]) (n + 1)

theorem byte_dec (a : UInt8) (c : UInt8) : decide (((a.toNat : Nat) : Int) = ((c.toNat : Nat) : Int)) = decide (a = c) := by
  rw [decide_eq_decide, Int.ofNat_inj, UInt8.toNat_inj]

theorem byte_iff (a c : UInt8) : (((a.toNat : Nat) : Int) = ((c.toNat : Nat) : Int)) = (a = c) := by
  rw [Int.ofNat_inj, UInt8.toNat_inj]

theorem escV_size (s : ByteArray) (h : (escV s).2.2 = 0) : (escV s).2.1 ≤ s.size := by
  revert h
  have hend : ∀ {i : Int}, ¬ endB s i = true → i < s.size := fun {i} h => (end_lt (by simpa using h)).1
  unfold escV
  split
  · intro h; simp at h
  rename_i h1
  have hl := hend h1
  split
  · intro _; simp only; omega
  split
  · intro _; simp only; omega
  split
  · intro _; simp only; omega
  split
  · intro _; simp only; omega
  split
  · unfold escNum
    simp only [escGo]
    split
    · intro h; simp at h
    split
    · intro h; simp at h
    split
    · intro h; simp at h
    rename_i h2
    have hl2 := hend h2
    split
    · intro h; simp at h
    · intro _; simp only; omega
  · intro h; simp at h

theorem strGo_L : ∀ (k : Nat) (p l : List UInt8) (out : List Int), strGo (B (p ++ l)) k (p.length : Int) out = fitsL (strL k l out p.length)
  | 0, p, l, out => rfl
  | k + 1, p, l, out => by
    have hb : byteAt (B (p ++ l)) (p.length : Int) = (((l.getD 0 0).toNat : Nat) : Int) := by
      rw [byteAt_B, List.getD_eq_getElem?_getD, List.getD_eq_getElem?_getD, List.getElem?_append_right (Nat.le_refl _), Nat.sub_self]
    have hx : (B (p ++ l)).extract (p.length : Int).toNat (B (p ++ l)).size = B l := by
      rw [B_extract, B_size, List.take_of_length_le (Nat.le_refl _)]
      simp
    simp only [strGo, strL]
    rw [hx, hb]
    cases l with
    | nil =>
      have : endB (B (p ++ [])) (p.length : Int) = true := by
        unfold endB
        rw [B_size, List.append_nil, decide_eq_true (Int.le_refl _), Bool.true_or]
      rw [if_pos this]
      rfl
    | cons a r =>
      have hend : endB (B (p ++ a :: r)) (p.length : Int) = decide (a = 10) := by
        unfold endB
        rw [hb, B_size, decide_eq_false (by simp only [List.length_append, List.length_cons]; omega), Bool.false_or]
        exact byte_dec a 10
      rw [hend]
      simp only [List.getD_cons_zero]
      have e34 : ((((a.toNat : Nat) : Int)) = 34) ↔ (a = 34) := iff_of_eq (byte_iff a 34)
      have e92 : ((((a.toNat : Nat) : Int)) = 92) ↔ (a = 92) := iff_of_eq (byte_iff a 92)
      by_cases h1 : a = 10
      · rw [if_pos (decide_eq_true h1), if_pos h1]; rfl
      rw [if_neg (by rw [decide_eq_false h1]; decide), if_neg h1]
      by_cases h2 : a = 34
      · rw [if_pos (e34.2 h2), if_pos h2]; rfl
      rw [if_neg (fun h => h2 (e34.1 h)), if_neg h2]
      by_cases h3 : a = 92
      · rw [if_pos (e92.2 h3), if_pos h3]
        show (if (escL (a :: r)).2.2 = 0 then strGo _ k (_ + (escL (a :: r)).2.1) (out ++ [(escL (a :: r)).1]) else _) = _
        by_cases h4 : (escL (a :: r)).2.2 = 0
        · rw [if_pos h4, if_pos h4]
          have hn' : (escL (a :: r)).2.1 = 2 ∨ (escL (a :: r)).2.1 = 4 := escV_n _ h4
          have hsz : (escL (a :: r)).2.1 ≤ (a :: r).length := escV_size _ h4
          have ih := strGo_L k (p ++ (a :: r).take (escL (a :: r)).2.1.toNat) ((a :: r).drop (escL (a :: r)).2.1.toNat) (out ++ [(escL (a :: r)).1])
          rw [List.append_assoc, List.take_append_drop] at ih
          have hl : (p ++ (a :: r).take (escL (a :: r)).2.1.toNat).length = p.length + (escL (a :: r)).2.1.toNat := by
            rw [List.length_append, List.length_take]; omega
          rw [hl] at ih
          rw [← ih]
          congr 1
          omega
        · rw [if_neg h4, if_neg h4]; rfl
      rw [if_neg (fun h => h3 (e92.1 h)), if_neg h3]
      have ih := strGo_L k (p ++ [a]) r (out ++ [((a.toNat : Nat) : Int)])
      rw [List.append_assoc, List.length_append] at ih
      exact ih
end Go.Ab
