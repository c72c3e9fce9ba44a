/- Package source: names. -/
import Derived.Test.YteidakoieemlgaaGreatTX1toX4
namespace Go.Ab
open Go.Proofs
set_option linter.unusedSectionVars false
set_option maxRecDepth 100000
variable [Glob]

def saysAt : Says := fun args H => match args, H with
  | [.c (.p (.v (.string s))), .c (.p (.v (.string t)))], [] => some (some (t = ⟨#[64]⟩), .bool (atB s), [])
  | _, _ => none

def Y47 : Table := ext Y46 158 saysAt
theorem y47 : TSound Tryz.prog Y47 := by
  refine ext_calls y46 158 (fn := Tryz.f158) rfl rfl rfl fun args H p r H' hs hp => ?_
  unfold saysAt at hs
  split at hs
  · rename_i s t
    cases hs
    refine ⟨rfl, fun G hS hH cargs ha => ?_⟩
    have hp' : t = ⟨#[64]⟩ := hp
    subst hp'
    cases ha with
    | cons h1 t1 =>
      cases t1 with
      | cons h2 t2 =>
        cases t2
        obtain ⟨_, rfl⟩ := h1
        obtain ⟨_, rfl⟩ := h2
        exact ⟨_, ⟨rfl, rfl⟩, Tryz.strings_Contains_one s 64 _⟩
  · cases hs

def Y48 : Table := ext Y47 151 (saysS fun s => (some (fits s), .bool (prpB s)))
theorem y48 : TSound Tryz.prog Y48 := by
  refine extS y47 151 (fn := Tryz.f151) rfl rfl (by decide) _ [0, 2, 3, 4, 11, 17] fun s hs => ?_
  have hf : s.size ≤ 1000000000 := hs
  unfold prpB
  repeat ((conv => whnf); refine ⟨by first | exact fun _ => rfl | (unfold inI64; omega) | omega | exact ⟨by omega, by omega⟩ | (intro hg; first | (unfold inI64; omega) | omega | exact ⟨by omega, by omega⟩ | (simp [lit] at hg; unfold inI64; omega) | (simp [lit] at hg; omega) | (simp [lit] at hg; exact ⟨by omega, by omega⟩)) | (show (_ : Nat) + 1 ≤ 1000000000000; omega) | exact rfl | (unfold inI64; dsimp only; omega) | (dsimp only; omega) | (intro hg; simp [lit] at hg; first | (unfold inI64; dsimp only; omega) | (dsimp only; omega)) | decide +kernel, ?_⟩)
  conv => whnf
  refine cond_intro (fun h => ?_) (fun h => ?_)
  · have h1 : (decide (31 < (s.size : Int)) || atB s) = true := h
    have h2 : (if 31 < (s.size : Int) then false else if atB s = true then false else namB (if prefB s ⟨#[35]⟩ = true then ⟨#[95]⟩ ++ trimP s ⟨#[35]⟩ else s)) = false := by
      rcases Bool.or_eq_true_iff.1 h1 with h3 | h3
      · rw [if_pos (of_decide_eq_true h3)]
      · split <;> first | rfl | rw [if_pos h3]
    rw [h2]
    repeat ((conv => whnf); refine ⟨by first | (unfold inI64; omega) | omega | exact ⟨by omega, by omega⟩ | (intro hg; first | (unfold inI64; omega) | omega | exact ⟨by omega, by omega⟩ | (simp [lit] at hg; unfold inI64; omega) | (simp [lit] at hg; omega) | (simp [lit] at hg; exact ⟨by omega, by omega⟩)) | (show (_ : Nat) + 1 ≤ 1000000000000; omega) | exact rfl | (unfold inI64; dsimp only; omega) | (dsimp only; omega) | (intro hg; simp [lit] at hg; first | (unfold inI64; dsimp only; omega) | (dsimp only; omega)) | decide +kernel, ?_⟩)
    conv => whnf
    exact ends_eq ⟨rfl, rfl⟩
  have h1 : (decide (31 < (s.size : Int)) || atB s) = false := h
  obtain ⟨h2, h3⟩ := Bool.or_eq_false_iff.1 h1
  have h2' := of_decide_eq_false h2
  rw [if_neg h2', if_neg (by rw [h3]; simp)]
  repeat ((conv => whnf); refine ⟨by first | (unfold inI64; omega) | omega | exact ⟨by omega, by omega⟩ | (intro hg; first | (unfold inI64; omega) | omega | exact ⟨by omega, by omega⟩ | (simp [lit] at hg; unfold inI64; omega) | (simp [lit] at hg; omega) | (simp [lit] at hg; exact ⟨by omega, by omega⟩)) | (show (_ : Nat) + 1 ≤ 1000000000000; omega) | exact rfl | (unfold inI64; dsimp only; omega) | (dsimp only; omega) | (intro hg; simp [lit] at hg; first | (unfold inI64; dsimp only; omega) | (dsimp only; omega)) | decide +kernel, ?_⟩)
  conv => whnf
  have hb1 : (⟨#[95]⟩ : ByteArray).size = 1 := rfl
  have ht : (trimP s ⟨#[35]⟩).size ≤ s.size := by
    unfold trimP
    split
    · rw [ByteArray.size_extract]; omega
    · exact Nat.le_refl _
  refine cond_intro (fun h4 => ?_) (fun h4 => ?_)
  · have h5 : prefB s ⟨#[35]⟩ = true := h4
    rw [if_pos h5]
    have hf2 : (⟨#[95]⟩ ++ trimP s ⟨#[35]⟩ : ByteArray).size ≤ 1000000000 := by rw [ByteArray.size_append, hb1]; omega
    repeat ((conv => whnf); refine ⟨by first | exact hf2 | (show (((⟨#[95]⟩ : ByteArray).size + (trimP s ⟨#[35]⟩).size : Nat) : Int) ≤ 9223372036854775807; rw [hb1]; omega) | (unfold inI64; omega) | omega | exact ⟨by omega, by omega⟩ | (intro hg; first | (unfold inI64; omega) | omega | exact ⟨by omega, by omega⟩ | (simp [lit] at hg; unfold inI64; omega) | (simp [lit] at hg; omega) | (simp [lit] at hg; exact ⟨by omega, by omega⟩)) | (show (_ : Nat) + 1 ≤ 1000000000000; omega) | exact rfl | (unfold inI64; dsimp only; omega) | (dsimp only; omega) | (intro hg; simp [lit] at hg; first | (unfold inI64; dsimp only; omega) | (dsimp only; omega)) | decide +kernel, ?_⟩)
    conv => whnf
    exact ends_eq ⟨rfl, rfl⟩
  · have h5 : ¬ prefB s ⟨#[35]⟩ = true := by
      have h6 : prefB s ⟨#[35]⟩ = false := h4
      rw [h6]; simp
    rw [if_neg h5]
    repeat ((conv => whnf); refine ⟨by first | exact hf | (unfold inI64; omega) | omega | exact ⟨by omega, by omega⟩ | (intro hg; first | (unfold inI64; omega) | omega | exact ⟨by omega, by omega⟩ | (simp [lit] at hg; unfold inI64; omega) | (simp [lit] at hg; omega) | (simp [lit] at hg; exact ⟨by omega, by omega⟩)) | (show (_ : Nat) + 1 ≤ 1000000000000; omega) | exact rfl | (unfold inI64; dsimp only; omega) | (dsimp only; omega) | (intro hg; simp [lit] at hg; first | (unfold inI64; dsimp only; omega) | (dsimp only; omega)) | decide +kernel, ?_⟩)
    conv => whnf
    exact ends_eq ⟨rfl, rfl⟩

/-! Names. -/
def vF (f : FuncId) : ByteArray → Bool := match Nat.beq f 75 with
  | true => labB
  | false => match Nat.beq f 152 with
    | true => namB
    | false => match Nat.beq f 151 with
      | true => prpB
      | false => fun _ => true

def daIF : List AV → Option (Int × FuncId)
  | [.c (.p (.v (.int .i64 k))), .c (.p (.v (.func (.func f) _ _)))] => some (k, f)
  | _ => none
def eaIF (a : Int × FuncId) : List AV := [.c (.int .i64 a.1), .c (.p (.v (.func (.func a.2) #[] #[])))]
def nmSV (p : ByteArray × Int) : SV := .tup [.c (.str p.1), .c (.int .i64 p.2)]

def takPre (r : Sr) (a : Int × FuncId) : Prop := Vld r ∧ a.1 ≠ 8 ∧ (a.2 = 75 ∨ a.2 = 152 ∨ a.2 = 151 ∨ a.2 = 53)

def Y49 : Table := ext Y48 52 (saysR daIF eaIF takPre fun r a => (nmSV (takeS a.1 (vF a.2) r).1, (takeS a.1 (vF a.2) r).2))
theorem y49 : TSound Tryz.prog Y49 := by
  refine extR y48 52 (fn := Tryz.f52) rfl rfl daIF eaIF _ _ (fun _ => Nat.le_of_ble_eq_true rfl) [0, 1, 2, 6, 7, 8, 11, 16] fun r a hs => ?_
  obtain ⟨k, f⟩ := a
  obtain ⟨hv, hk, hf⟩ := hs
  have hi := hv.i64
  have hfit : fits r.tok.2.1 := by
    have := (hv.fit _ hv.tok).1
    show r.tok.2.1.size ≤ 1000000000
    omega
  unfold takeS
  simp only at hf hk ⊢
  repeat ((conv => whnf); refine ⟨by first | exact ⟨rfl, rfl, hv⟩ | (unfold inI64; omega) | omega | exact ⟨by omega, by omega⟩ | (intro hg; first | (unfold inI64; omega) | omega | exact ⟨by omega, by omega⟩ | (simp [lit] at hg; unfold inI64; omega) | (simp [lit] at hg; omega) | (simp [lit] at hg; exact ⟨by omega, by omega⟩)) | (show (_ : Nat) + 1 ≤ 1000000000000; omega) | exact rfl | (unfold inI64; dsimp only; omega) | (dsimp only; omega) | (intro hg; simp [lit] at hg; first | (unfold inI64; dsimp only; omega) | (dsimp only; omega)) | decide +kernel, ?_⟩)
  conv => whnf
  refine cond_intro (fun h => ?_) (fun h => ?_)
  · have h1 : ¬ r.tok.1 = k := by
      have h2 : (!decide (r.tok.1 = k)) = true := h
      simpa using h2
    rw [if_neg h1]
    repeat ((conv => whnf); refine ⟨by first | (unfold inI64; omega) | omega | exact ⟨by omega, by omega⟩ | (intro hg; first | (unfold inI64; omega) | omega | exact ⟨by omega, by omega⟩ | (simp [lit] at hg; unfold inI64; omega) | (simp [lit] at hg; omega) | (simp [lit] at hg; exact ⟨by omega, by omega⟩)) | (show (_ : Nat) + 1 ≤ 1000000000000; omega) | exact rfl | (unfold inI64; dsimp only; omega) | (dsimp only; omega) | (intro hg; simp [lit] at hg; first | (unfold inI64; dsimp only; omega) | (dsimp only; omega)) | decide +kernel, ?_⟩)
    conv => whnf
    exact ends_eq ⟨rfl, rfl⟩
  have h1 : r.tok.1 = k := by
    have h2 : (!decide (r.tok.1 = k)) = false := h
    simpa using h2
  rw [if_pos h1]
  rcases hf with rfl | rfl | rfl | rfl
  · repeat ((conv => whnf); refine ⟨by first | exact hfit | (unfold inI64; omega) | omega | exact ⟨by omega, by omega⟩ | (intro hg; first | (unfold inI64; omega) | omega | exact ⟨by omega, by omega⟩ | (simp [lit] at hg; unfold inI64; omega) | (simp [lit] at hg; omega) | (simp [lit] at hg; exact ⟨by omega, by omega⟩)) | (show (_ : Nat) + 1 ≤ 1000000000000; omega) | exact rfl | (unfold inI64; dsimp only; omega) | (dsimp only; omega) | (intro hg; simp [lit] at hg; first | (unfold inI64; dsimp only; omega) | (dsimp only; omega)) | decide +kernel, ?_⟩)
    conv => whnf
    refine cond_intro (fun h3 => ?_) (fun h3 => ?_)
    · have h4 : labB r.tok.2.1 = false := by
        have h5 : (!labB r.tok.2.1) = true := h3
        simpa using h5
      rw [if_neg (show ¬ vF 75 r.tok.2.1 = true from fun h6 => by have h7 : labB r.tok.2.1 = true := h6; rw [h4] at h7; cases h7)]
      repeat ((conv => whnf); refine ⟨by first | (unfold inI64; omega) | omega | exact ⟨by omega, by omega⟩ | (intro hg; first | (unfold inI64; omega) | omega | exact ⟨by omega, by omega⟩ | (simp [lit] at hg; unfold inI64; omega) | (simp [lit] at hg; omega) | (simp [lit] at hg; exact ⟨by omega, by omega⟩)) | (show (_ : Nat) + 1 ≤ 1000000000000; omega) | exact rfl | (unfold inI64; dsimp only; omega) | (dsimp only; omega) | (intro hg; simp [lit] at hg; first | (unfold inI64; dsimp only; omega) | (dsimp only; omega)) | decide +kernel, ?_⟩)
      conv => whnf
      exact ends_eq ⟨rfl, rfl⟩
    · have h4 : labB r.tok.2.1 = true := by
        have h5 : (!labB r.tok.2.1) = false := h3
        simpa using h5
      rw [if_pos (show vF 75 r.tok.2.1 = true from h4)]
      repeat ((conv => whnf); refine ⟨by first | exact hi | (unfold inI64; omega) | omega | exact ⟨by omega, by omega⟩ | (intro hg; first | (unfold inI64; omega) | omega | exact ⟨by omega, by omega⟩ | (simp [lit] at hg; unfold inI64; omega) | (simp [lit] at hg; omega) | (simp [lit] at hg; exact ⟨by omega, by omega⟩)) | (show (_ : Nat) + 1 ≤ 1000000000000; omega) | exact rfl | (unfold inI64; dsimp only; omega) | (dsimp only; omega) | (intro hg; simp [lit] at hg; first | (unfold inI64; dsimp only; omega) | (dsimp only; omega)) | decide +kernel, ?_⟩)
      conv => whnf
      exact ends_eq ⟨rfl, rfl⟩
  · repeat ((conv => whnf); refine ⟨by first | exact hfit | (unfold inI64; omega) | omega | exact ⟨by omega, by omega⟩ | (intro hg; first | (unfold inI64; omega) | omega | exact ⟨by omega, by omega⟩ | (simp [lit] at hg; unfold inI64; omega) | (simp [lit] at hg; omega) | (simp [lit] at hg; exact ⟨by omega, by omega⟩)) | (show (_ : Nat) + 1 ≤ 1000000000000; omega) | exact rfl | (unfold inI64; dsimp only; omega) | (dsimp only; omega) | (intro hg; simp [lit] at hg; first | (unfold inI64; dsimp only; omega) | (dsimp only; omega)) | decide +kernel, ?_⟩)
    conv => whnf
    refine cond_intro (fun h3 => ?_) (fun h3 => ?_)
    · have h4 : namB r.tok.2.1 = false := by
        have h5 : (!namB r.tok.2.1) = true := h3
        simpa using h5
      rw [if_neg (show ¬ vF 152 r.tok.2.1 = true from fun h6 => by have h7 : namB r.tok.2.1 = true := h6; rw [h4] at h7; cases h7)]
      repeat ((conv => whnf); refine ⟨by first | (unfold inI64; omega) | omega | exact ⟨by omega, by omega⟩ | (intro hg; first | (unfold inI64; omega) | omega | exact ⟨by omega, by omega⟩ | (simp [lit] at hg; unfold inI64; omega) | (simp [lit] at hg; omega) | (simp [lit] at hg; exact ⟨by omega, by omega⟩)) | (show (_ : Nat) + 1 ≤ 1000000000000; omega) | exact rfl | (unfold inI64; dsimp only; omega) | (dsimp only; omega) | (intro hg; simp [lit] at hg; first | (unfold inI64; dsimp only; omega) | (dsimp only; omega)) | decide +kernel, ?_⟩)
      conv => whnf
      exact ends_eq ⟨rfl, rfl⟩
    · have h4 : namB r.tok.2.1 = true := by
        have h5 : (!namB r.tok.2.1) = false := h3
        simpa using h5
      rw [if_pos (show vF 152 r.tok.2.1 = true from h4)]
      repeat ((conv => whnf); refine ⟨by first | exact hi | (unfold inI64; omega) | omega | exact ⟨by omega, by omega⟩ | (intro hg; first | (unfold inI64; omega) | omega | exact ⟨by omega, by omega⟩ | (simp [lit] at hg; unfold inI64; omega) | (simp [lit] at hg; omega) | (simp [lit] at hg; exact ⟨by omega, by omega⟩)) | (show (_ : Nat) + 1 ≤ 1000000000000; omega) | exact rfl | (unfold inI64; dsimp only; omega) | (dsimp only; omega) | (intro hg; simp [lit] at hg; first | (unfold inI64; dsimp only; omega) | (dsimp only; omega)) | decide +kernel, ?_⟩)
      conv => whnf
      exact ends_eq ⟨rfl, rfl⟩
  · repeat ((conv => whnf); refine ⟨by first | exact hfit | (unfold inI64; omega) | omega | exact ⟨by omega, by omega⟩ | (intro hg; first | (unfold inI64; omega) | omega | exact ⟨by omega, by omega⟩ | (simp [lit] at hg; unfold inI64; omega) | (simp [lit] at hg; omega) | (simp [lit] at hg; exact ⟨by omega, by omega⟩)) | (show (_ : Nat) + 1 ≤ 1000000000000; omega) | exact rfl | (unfold inI64; dsimp only; omega) | (dsimp only; omega) | (intro hg; simp [lit] at hg; first | (unfold inI64; dsimp only; omega) | (dsimp only; omega)) | decide +kernel, ?_⟩)
    conv => whnf
    refine cond_intro (fun h3 => ?_) (fun h3 => ?_)
    · have h4 : prpB r.tok.2.1 = false := by
        have h5 : (!prpB r.tok.2.1) = true := h3
        simpa using h5
      rw [if_neg (show ¬ vF 151 r.tok.2.1 = true from fun h6 => by have h7 : prpB r.tok.2.1 = true := h6; rw [h4] at h7; cases h7)]
      repeat ((conv => whnf); refine ⟨by first | (unfold inI64; omega) | omega | exact ⟨by omega, by omega⟩ | (intro hg; first | (unfold inI64; omega) | omega | exact ⟨by omega, by omega⟩ | (simp [lit] at hg; unfold inI64; omega) | (simp [lit] at hg; omega) | (simp [lit] at hg; exact ⟨by omega, by omega⟩)) | (show (_ : Nat) + 1 ≤ 1000000000000; omega) | exact rfl | (unfold inI64; dsimp only; omega) | (dsimp only; omega) | (intro hg; simp [lit] at hg; first | (unfold inI64; dsimp only; omega) | (dsimp only; omega)) | decide +kernel, ?_⟩)
      conv => whnf
      exact ends_eq ⟨rfl, rfl⟩
    · have h4 : prpB r.tok.2.1 = true := by
        have h5 : (!prpB r.tok.2.1) = false := h3
        simpa using h5
      rw [if_pos (show vF 151 r.tok.2.1 = true from h4)]
      repeat ((conv => whnf); refine ⟨by first | exact hi | (unfold inI64; omega) | omega | exact ⟨by omega, by omega⟩ | (intro hg; first | (unfold inI64; omega) | omega | exact ⟨by omega, by omega⟩ | (simp [lit] at hg; unfold inI64; omega) | (simp [lit] at hg; omega) | (simp [lit] at hg; exact ⟨by omega, by omega⟩)) | (show (_ : Nat) + 1 ≤ 1000000000000; omega) | exact rfl | (unfold inI64; dsimp only; omega) | (dsimp only; omega) | (intro hg; simp [lit] at hg; first | (unfold inI64; dsimp only; omega) | (dsimp only; omega)) | decide +kernel, ?_⟩)
      conv => whnf
      exact ends_eq ⟨rfl, rfl⟩
  · repeat ((conv => whnf); refine ⟨by first | exact hfit | exact hi | (unfold inI64; omega) | omega | exact ⟨by omega, by omega⟩ | (intro hg; first | (unfold inI64; omega) | omega | exact ⟨by omega, by omega⟩ | (simp [lit] at hg; unfold inI64; omega) | (simp [lit] at hg; omega) | (simp [lit] at hg; exact ⟨by omega, by omega⟩)) | (show (_ : Nat) + 1 ≤ 1000000000000; omega) | exact rfl | (unfold inI64; dsimp only; omega) | (dsimp only; omega) | (intro hg; simp [lit] at hg; first | (unfold inI64; dsimp only; omega) | (dsimp only; omega)) | decide +kernel, ?_⟩)
    conv => whnf
    exact ends_eq ⟨rfl, rfl⟩

def nmT (nm : Nm) : Says := saysR da0 ea0 (fun r _ => Vld r) fun r _ => (nmSV (nmS nm r).1, (nmS nm r).2)

def Y50 : Table := ext Y49 138 (nmT .node)
theorem y50 : TSound Tryz.prog Y50 := by
  refine extR y49 138 (fn := Tryz.f138) rfl rfl da0 ea0 _ _ (fun _ => Nat.le_of_ble_eq_true rfl) [0, 2, 3] fun r a hs => ?_
  repeat ((conv => whnf); refine ⟨by first | exact ⟨rfl, rfl, hs, by decide, .inr (.inl rfl)⟩ | (unfold inI64; omega) | omega | exact ⟨by omega, by omega⟩ | (intro hg; first | (unfold inI64; omega) | omega | exact ⟨by omega, by omega⟩ | (simp [lit] at hg; unfold inI64; omega) | (simp [lit] at hg; omega) | (simp [lit] at hg; exact ⟨by omega, by omega⟩)) | (show (_ : Nat) + 1 ≤ 1000000000000; omega) | exact rfl | (unfold inI64; dsimp only; omega) | (dsimp only; omega) | (intro hg; simp [lit] at hg; first | (unfold inI64; dsimp only; omega) | (dsimp only; omega)) | decide +kernel, ?_⟩)
  conv => whnf
  exact ends_eq ⟨rfl, rfl⟩

def Y51 : Table := ext Y50 137 (nmT .prop)
theorem y51 : TSound Tryz.prog Y51 := by
  refine extR y50 137 (fn := Tryz.f137) rfl rfl da0 ea0 _ _ (fun _ => Nat.le_of_ble_eq_true rfl) [0, 2, 3] fun r a hs => ?_
  repeat ((conv => whnf); refine ⟨by first | exact ⟨rfl, rfl, hs, by decide, .inr (.inr (.inl rfl))⟩ | (unfold inI64; omega) | omega | exact ⟨by omega, by omega⟩ | (intro hg; first | (unfold inI64; omega) | omega | exact ⟨by omega, by omega⟩ | (simp [lit] at hg; unfold inI64; omega) | (simp [lit] at hg; omega) | (simp [lit] at hg; exact ⟨by omega, by omega⟩)) | (show (_ : Nat) + 1 ≤ 1000000000000; omega) | exact rfl | (unfold inI64; dsimp only; omega) | (dsimp only; omega) | (intro hg; simp [lit] at hg; first | (unfold inI64; dsimp only; omega) | (dsimp only; omega)) | decide +kernel, ?_⟩)
  conv => whnf
  exact ends_eq ⟨rfl, rfl⟩

theorem takeS_size {r : Sr} (h : Vld r) (k : Int) (v : ByteArray → Bool) : (takeS k v r).1.1.size ≤ 16000 := by
  unfold takeS
  split
  · split
    · exact (h.fit _ h.tok).1
    · exact Nat.zero_le _
  · exact Nat.zero_le _

def Y52 : Table := ext Y51 54 (nmT .ref)
theorem y52 : TSound Tryz.prog Y52 := by
  refine extR y51 54 (fn := Tryz.f54) rfl rfl da0 ea0 _ _ (fun _ => Nat.le_of_ble_eq_true rfl) [0, 2, 3, 4, 5] fun r a hs => ?_
  have hz := takeS_size hs 6 labB
  have hb1 : (⟨#[38]⟩ : ByteArray).size = 1 := rfl
  repeat ((conv => whnf); refine ⟨by first | exact ⟨rfl, rfl, hs, by decide, .inl rfl⟩ | (show (((⟨#[38]⟩ : ByteArray).size + (takeS 6 labB r).1.1.size : Nat) : Int) ≤ 9223372036854775807; rw [hb1]; omega) | (unfold inI64; omega) | omega | exact ⟨by omega, by omega⟩ | (intro hg; first | (unfold inI64; omega) | omega | exact ⟨by omega, by omega⟩ | (simp [lit] at hg; unfold inI64; omega) | (simp [lit] at hg; omega) | (simp [lit] at hg; exact ⟨by omega, by omega⟩)) | (show (_ : Nat) + 1 ≤ 1000000000000; omega) | exact rfl | (unfold inI64; dsimp only; omega) | (dsimp only; omega) | (intro hg; simp [lit] at hg; first | (unfold inI64; dsimp only; omega) | (dsimp only; omega)) | decide +kernel, ?_⟩)
  conv => whnf
  exact ends_eq ⟨rfl, rfl⟩

def Y53 : Table := ext Y52 56 (nmT .root)
theorem y53 : TSound Tryz.prog Y53 := by
  refine extR y52 56 (fn := Tryz.f56) rfl rfl da0 ea0 _ _ (fun _ => Nat.le_of_ble_eq_true rfl) [0, 2, 3] fun r a hs => ?_
  repeat ((conv => whnf); refine ⟨by first | exact ⟨rfl, rfl, hs⟩ | (unfold inI64; omega) | omega | exact ⟨by omega, by omega⟩ | (intro hg; first | (unfold inI64; omega) | omega | exact ⟨by omega, by omega⟩ | (simp [lit] at hg; unfold inI64; omega) | (simp [lit] at hg; omega) | (simp [lit] at hg; exact ⟨by omega, by omega⟩)) | (show (_ : Nat) + 1 ≤ 1000000000000; omega) | exact rfl | (unfold inI64; dsimp only; omega) | (dsimp only; omega) | (intro hg; simp [lit] at hg; first | (unfold inI64; dsimp only; omega) | (dsimp only; omega)) | decide +kernel, ?_⟩)
  conv => whnf
  exact ends_eq ⟨rfl, rfl⟩
end Go.Ab

/- Package source: commands. -/
namespace Go.Ab
open Go.Proofs
set_option linter.unusedSectionVars false
set_option maxRecDepth 100000
variable [Glob]

def nmF (f : FuncId) : Nm := match Nat.beq f 138 with
  | true => .node
  | false => match Nat.beq f 137 with
    | true => .prop
    | false => match Nat.beq f 54 with
      | true => .ref
      | false => .root

def isNm (f : FuncId) : Prop := f = 138 ∨ f = 137 ∨ f = 54 ∨ f = 56

def daIC : List AV → Option (Int × FuncId)
  | [.c (.p (.v (.int .i64 k))), .c (.clo _ f _)] => some (k, f)
  | _ => none
def eaIC (a : Int × FuncId) : List AV := [.c (.int .i64 a.1), .c (.clo true a.2 [0])]

def cmdPre (r : Sr) (a : Int × FuncId) : Prop := Vld r ∧ r.tok.1 ≠ 8 ∧ isNm a.2

def Y54 : Table := ext Y53 50 (saysR daIC eaIC cmdPre fun r a => (.int .i64 (cmdS a.1 (nmF a.2) r).1, (cmdS a.1 (nmF a.2) r).2))

theorem Vld.adv_v {r : Sr} (h : Vld r) (hk : r.tok.1 ≠ 8) : Vld r.adv := (h.adv hk 0).vld h

theorem srH_add (x : Sr) (d : defC.den) : [AO.row (srC (x.add d)), .tok 52 defC (x.defs.length + 1) true] = srH (x.add d) := by
  show _ = [AO.row (srC (x.add d)), .tok 52 defC (x.defs ++ [d]).length true]
  rw [List.length_append]
  rfl

theorem Vld.cap {r : Sr} (h : Vld r) : r.defs.length + 1 ≤ capBound := by
  have := h.dfs
  have := h.lt
  have := h.len
  show _ ≤ 1000000000000
  omega

theorem cmd_add {r : Sr} (h : Vld r) (hk : r.tok.1 ≠ 8) {nm : Nm} (h0 : (nmS nm r.adv).1.2 = 0) (d : defC.den) : Vld ((nmS nm r.adv).2.add d) ∧ (nmS nm r.adv).2.defs.length + 1 ≤ capBound := by
  have h1 := h.adv hk 0
  have v1 := h1.vld h
  have h2 := nmS_good v1 nm
  rw [h0] at h2
  have h4 := h1.trans h2
  have h5 := h4.add d
  exact ⟨h5.vld h (by show (nmS nm r.adv).2.bod ≤ 9; rw [(h4.ok rfl).2.1]; exact h.bod), (h4.vld h).cap⟩

set_option maxHeartbeats 1000000 in
theorem y54 : TSound Tryz.prog Y54 := by
  refine extR y53 50 (fn := Tryz.f50) rfl rfl daIC eaIC _ _ (fun _ => Nat.le_of_ble_eq_true rfl) [0, 1, 2, 6, 7, 8, 28] fun r a hs => ?_
  obtain ⟨k, f⟩ := a
  obtain ⟨hv, hk, hf⟩ := hs
  have hi := hv.i64
  have hv1 := hv.adv_v hk
  simp only at hf
  rcases hf with rfl | rfl | rfl | rfl
  · have hg := nmS_good hv1 .node
    unfold cmdS
    repeat ((conv => whnf); refine ⟨by first | exact ⟨rfl, rfl, hv⟩ | exact hi | exact ⟨rfl, rfl, hv1⟩ | (unfold inI64; omega) | omega | exact ⟨by omega, by omega⟩ | (intro hg; first | (unfold inI64; omega) | omega | exact ⟨by omega, by omega⟩ | (simp [lit] at hg; unfold inI64; omega) | (simp [lit] at hg; omega) | (simp [lit] at hg; exact ⟨by omega, by omega⟩)) | (show (_ : Nat) + 1 ≤ 1000000000000; omega) | exact rfl | (unfold inI64; dsimp only; omega) | (dsimp only; omega) | (intro hg; simp [lit] at hg; first | (unfold inI64; dsimp only; omega) | (dsimp only; omega)) | decide +kernel, ?_⟩)
    conv => whnf
    refine cond_intro (fun h => ?_) (fun h => ?_)
    · have h1 : ¬ (nmS .node r.adv).1.2 = 0 := by
        have h2 : (!decide ((nmS .node r.adv).1.2 = 0)) = true := h
        simpa using h2
      rw [show nmF 138 = .node from rfl, if_neg h1]
      repeat ((conv => whnf); refine ⟨by first | (unfold inI64; omega) | omega | exact ⟨by omega, by omega⟩ | (intro hg; first | (unfold inI64; omega) | omega | exact ⟨by omega, by omega⟩ | (simp [lit] at hg; unfold inI64; omega) | (simp [lit] at hg; omega) | (simp [lit] at hg; exact ⟨by omega, by omega⟩)) | (show (_ : Nat) + 1 ≤ 1000000000000; omega) | exact rfl | (unfold inI64; dsimp only; omega) | (dsimp only; omega) | (intro hg; simp [lit] at hg; first | (unfold inI64; dsimp only; omega) | (dsimp only; omega)) | decide +kernel, ?_⟩)
      conv => whnf
      exact ends_eq ⟨rfl, rfl⟩
    · have h1 : (nmS .node r.adv).1.2 = 0 := by
        have h2 : (!decide ((nmS .node r.adv).1.2 = 0)) = false := h
        simpa using h2
      rw [show nmF 138 = .node from rfl, if_pos h1]
      obtain ⟨c1, c2⟩ := cmd_add hv hk h1 (dfn k e0 (nmS .node r.adv).1.1 [] r.tok)
      repeat ((conv => whnf); refine ⟨by first | exact c2 | exact ⟨rfl, srH_add _ _, c1⟩ | (unfold inI64; omega) | omega | exact ⟨by omega, by omega⟩ | (intro hg; first | (unfold inI64; omega) | omega | exact ⟨by omega, by omega⟩ | (simp [lit] at hg; unfold inI64; omega) | (simp [lit] at hg; omega) | (simp [lit] at hg; exact ⟨by omega, by omega⟩)) | (show (_ : Nat) + 1 ≤ 1000000000000; omega) | exact rfl | (unfold inI64; dsimp only; omega) | (dsimp only; omega) | (intro hg; simp [lit] at hg; first | (unfold inI64; dsimp only; omega) | (dsimp only; omega)) | decide +kernel, ?_⟩)
      conv => whnf
      exact ends_eq ⟨rfl, rfl⟩
  · have hg := nmS_good hv1 .prop
    unfold cmdS
    repeat ((conv => whnf); refine ⟨by first | exact ⟨rfl, rfl, hv⟩ | exact hi | exact ⟨rfl, rfl, hv1⟩ | (unfold inI64; omega) | omega | exact ⟨by omega, by omega⟩ | (intro hg; first | (unfold inI64; omega) | omega | exact ⟨by omega, by omega⟩ | (simp [lit] at hg; unfold inI64; omega) | (simp [lit] at hg; omega) | (simp [lit] at hg; exact ⟨by omega, by omega⟩)) | (show (_ : Nat) + 1 ≤ 1000000000000; omega) | exact rfl | (unfold inI64; dsimp only; omega) | (dsimp only; omega) | (intro hg; simp [lit] at hg; first | (unfold inI64; dsimp only; omega) | (dsimp only; omega)) | decide +kernel, ?_⟩)
    conv => whnf
    refine cond_intro (fun h => ?_) (fun h => ?_)
    · have h1 : ¬ (nmS .prop r.adv).1.2 = 0 := by
        have h2 : (!decide ((nmS .prop r.adv).1.2 = 0)) = true := h
        simpa using h2
      rw [show nmF 137 = .prop from rfl, if_neg h1]
      repeat ((conv => whnf); refine ⟨by first | (unfold inI64; omega) | omega | exact ⟨by omega, by omega⟩ | (intro hg; first | (unfold inI64; omega) | omega | exact ⟨by omega, by omega⟩ | (simp [lit] at hg; unfold inI64; omega) | (simp [lit] at hg; omega) | (simp [lit] at hg; exact ⟨by omega, by omega⟩)) | (show (_ : Nat) + 1 ≤ 1000000000000; omega) | exact rfl | (unfold inI64; dsimp only; omega) | (dsimp only; omega) | (intro hg; simp [lit] at hg; first | (unfold inI64; dsimp only; omega) | (dsimp only; omega)) | decide +kernel, ?_⟩)
      conv => whnf
      exact ends_eq ⟨rfl, rfl⟩
    · have h1 : (nmS .prop r.adv).1.2 = 0 := by
        have h2 : (!decide ((nmS .prop r.adv).1.2 = 0)) = false := h
        simpa using h2
      rw [show nmF 137 = .prop from rfl, if_pos h1]
      obtain ⟨c1, c2⟩ := cmd_add hv hk h1 (dfn k e0 (nmS .prop r.adv).1.1 [] r.tok)
      repeat ((conv => whnf); refine ⟨by first | exact c2 | exact ⟨rfl, srH_add _ _, c1⟩ | (unfold inI64; omega) | omega | exact ⟨by omega, by omega⟩ | (intro hg; first | (unfold inI64; omega) | omega | exact ⟨by omega, by omega⟩ | (simp [lit] at hg; unfold inI64; omega) | (simp [lit] at hg; omega) | (simp [lit] at hg; exact ⟨by omega, by omega⟩)) | (show (_ : Nat) + 1 ≤ 1000000000000; omega) | exact rfl | (unfold inI64; dsimp only; omega) | (dsimp only; omega) | (intro hg; simp [lit] at hg; first | (unfold inI64; dsimp only; omega) | (dsimp only; omega)) | decide +kernel, ?_⟩)
      conv => whnf
      exact ends_eq ⟨rfl, rfl⟩
  · have hg := nmS_good hv1 .ref
    unfold cmdS
    repeat ((conv => whnf); refine ⟨by first | exact ⟨rfl, rfl, hv⟩ | exact hi | exact ⟨rfl, rfl, hv1⟩ | (unfold inI64; omega) | omega | exact ⟨by omega, by omega⟩ | (intro hg; first | (unfold inI64; omega) | omega | exact ⟨by omega, by omega⟩ | (simp [lit] at hg; unfold inI64; omega) | (simp [lit] at hg; omega) | (simp [lit] at hg; exact ⟨by omega, by omega⟩)) | (show (_ : Nat) + 1 ≤ 1000000000000; omega) | exact rfl | (unfold inI64; dsimp only; omega) | (dsimp only; omega) | (intro hg; simp [lit] at hg; first | (unfold inI64; dsimp only; omega) | (dsimp only; omega)) | decide +kernel, ?_⟩)
    conv => whnf
    refine cond_intro (fun h => ?_) (fun h => ?_)
    · have h1 : ¬ (nmS .ref r.adv).1.2 = 0 := by
        have h2 : (!decide ((nmS .ref r.adv).1.2 = 0)) = true := h
        simpa using h2
      rw [show nmF 54 = .ref from rfl, if_neg h1]
      repeat ((conv => whnf); refine ⟨by first | (unfold inI64; omega) | omega | exact ⟨by omega, by omega⟩ | (intro hg; first | (unfold inI64; omega) | omega | exact ⟨by omega, by omega⟩ | (simp [lit] at hg; unfold inI64; omega) | (simp [lit] at hg; omega) | (simp [lit] at hg; exact ⟨by omega, by omega⟩)) | (show (_ : Nat) + 1 ≤ 1000000000000; omega) | exact rfl | (unfold inI64; dsimp only; omega) | (dsimp only; omega) | (intro hg; simp [lit] at hg; first | (unfold inI64; dsimp only; omega) | (dsimp only; omega)) | decide +kernel, ?_⟩)
      conv => whnf
      exact ends_eq ⟨rfl, rfl⟩
    · have h1 : (nmS .ref r.adv).1.2 = 0 := by
        have h2 : (!decide ((nmS .ref r.adv).1.2 = 0)) = false := h
        simpa using h2
      rw [show nmF 54 = .ref from rfl, if_pos h1]
      obtain ⟨c1, c2⟩ := cmd_add hv hk h1 (dfn k e0 (nmS .ref r.adv).1.1 [] r.tok)
      repeat ((conv => whnf); refine ⟨by first | exact c2 | exact ⟨rfl, srH_add _ _, c1⟩ | (unfold inI64; omega) | omega | exact ⟨by omega, by omega⟩ | (intro hg; first | (unfold inI64; omega) | omega | exact ⟨by omega, by omega⟩ | (simp [lit] at hg; unfold inI64; omega) | (simp [lit] at hg; omega) | (simp [lit] at hg; exact ⟨by omega, by omega⟩)) | (show (_ : Nat) + 1 ≤ 1000000000000; omega) | exact rfl | (unfold inI64; dsimp only; omega) | (dsimp only; omega) | (intro hg; simp [lit] at hg; first | (unfold inI64; dsimp only; omega) | (dsimp only; omega)) | decide +kernel, ?_⟩)
      conv => whnf
      exact ends_eq ⟨rfl, rfl⟩
  · have hg := nmS_good hv1 .root
    unfold cmdS
    repeat ((conv => whnf); refine ⟨by first | exact ⟨rfl, rfl, hv⟩ | exact hi | exact ⟨rfl, rfl, hv1⟩ | (unfold inI64; omega) | omega | exact ⟨by omega, by omega⟩ | (intro hg; first | (unfold inI64; omega) | omega | exact ⟨by omega, by omega⟩ | (simp [lit] at hg; unfold inI64; omega) | (simp [lit] at hg; omega) | (simp [lit] at hg; exact ⟨by omega, by omega⟩)) | (show (_ : Nat) + 1 ≤ 1000000000000; omega) | exact rfl | (unfold inI64; dsimp only; omega) | (dsimp only; omega) | (intro hg; simp [lit] at hg; first | (unfold inI64; dsimp only; omega) | (dsimp only; omega)) | decide +kernel, ?_⟩)
    conv => whnf
    refine cond_intro (fun h => ?_) (fun h => ?_)
    · have h1 : ¬ (nmS .root r.adv).1.2 = 0 := by
        have h2 : (!decide ((nmS .root r.adv).1.2 = 0)) = true := h
        simpa using h2
      rw [show nmF 56 = .root from rfl, if_neg h1]
      repeat ((conv => whnf); refine ⟨by first | (unfold inI64; omega) | omega | exact ⟨by omega, by omega⟩ | (intro hg; first | (unfold inI64; omega) | omega | exact ⟨by omega, by omega⟩ | (simp [lit] at hg; unfold inI64; omega) | (simp [lit] at hg; omega) | (simp [lit] at hg; exact ⟨by omega, by omega⟩)) | (show (_ : Nat) + 1 ≤ 1000000000000; omega) | exact rfl | (unfold inI64; dsimp only; omega) | (dsimp only; omega) | (intro hg; simp [lit] at hg; first | (unfold inI64; dsimp only; omega) | (dsimp only; omega)) | decide +kernel, ?_⟩)
      conv => whnf
      exact ends_eq ⟨rfl, rfl⟩
    · have h1 : (nmS .root r.adv).1.2 = 0 := by
        have h2 : (!decide ((nmS .root r.adv).1.2 = 0)) = false := h
        simpa using h2
      rw [show nmF 56 = .root from rfl, if_pos h1]
      obtain ⟨c1, c2⟩ := cmd_add hv hk h1 (dfn k e0 (nmS .root r.adv).1.1 [] r.tok)
      repeat ((conv => whnf); refine ⟨by first | exact c2 | exact ⟨rfl, srH_add _ _, c1⟩ | (unfold inI64; omega) | omega | exact ⟨by omega, by omega⟩ | (intro hg; first | (unfold inI64; omega) | omega | exact ⟨by omega, by omega⟩ | (simp [lit] at hg; unfold inI64; omega) | (simp [lit] at hg; omega) | (simp [lit] at hg; exact ⟨by omega, by omega⟩)) | (show (_ : Nat) + 1 ≤ 1000000000000; omega) | exact rfl | (unfold inI64; dsimp only; omega) | (dsimp only; omega) | (intro hg; simp [lit] at hg; first | (unfold inI64; dsimp only; omega) | (dsimp only; omega)) | decide +kernel, ?_⟩)
      conv => whnf
      exact ends_eq ⟨rfl, rfl⟩
end Go.Ab

/- Package source: bytes and cells. -/
namespace Go.Ab
open Go.Proofs
set_option linter.unusedSectionVars false
set_option maxRecDepth 100000
variable [Glob]

theorem Vld.tokv {r : Sr} (h : Vld r) : 0 ≤ r.tok.2.2.1 ∧ r.tok.2.2.1 ≤ 4294967295 := (h.fit _ h.tok).2

def Y55 : Table := ext Y54 160 (saysR da0 ea0 (fun r _ => Vld r) fun r _ => (nmSV (numsS r.toks.length r []).1, (numsS r.toks.length r []).2))

theorem id3' : ∀ k, k < 2 → [0, 1, 2][k]? = some k := fun k hk => by
  have : k = 0 ∨ k = 1 := by omega
  rcases this with rfl | rfl <;> rfl

theorem pass_no {s : ByteArray} {q : Sr} (h : (!(passS s q).1) = true) : ¬ sgnI q.tok s = true := by
  unfold passS at h
  split at h
  · cases h
  · assumption
theorem pass_yes {s : ByteArray} {q : Sr} (h : (!(passS s q).1) = false) : sgnI q.tok s = true := by
  unfold passS at h
  split at h
  · assumption
  · cases h

abbrev tokU (n : Nat) : AO := .tok 5 (.int .u8) n true

theorem y55 : TSound Tryz.prog Y55 := by
  refine extR y54 160 (fn := Tryz.f160) rfl rfl da0 ea0 _ _ (fun _ => Nat.le_of_ble_eq_true rfl) [0, 2, 3, 4, 5, 8, 17, 21] fun r a hs => ?_
  have hv : Vld r := hs
  have hlt := hv.lt
  repeat ((conv => whnf); refine ⟨by first | (unfold inI64; omega) | omega | exact ⟨by omega, by omega⟩ | (intro hg; first | (unfold inI64; omega) | omega | exact ⟨by omega, by omega⟩ | (simp [lit] at hg; unfold inI64; omega) | (simp [lit] at hg; omega) | (simp [lit] at hg; exact ⟨by omega, by omega⟩)) | (show (_ : Nat) + 1 ≤ 1000000000000; omega) | exact rfl | (unfold inI64; dsimp only; omega) | (dsimp only; omega) | (intro hg; simp [lit] at hg; first | (unfold inI64; dsimp only; omega) | (dsimp only; omega)) | decide +kernel, ?_⟩)
  conv => whnf
  refine loop_weak (σ := Sr × List Int × Nat) (fun ⟨_, zs, _⟩ => [(0, XV.s (.a (.c (.ptr 0 0)))), (2, XV.s .none), (3, XV.s .none), (4, XV.s (.a (.c (.own 2 (.int .u8) zs)))), (5, XV.s .none), (8, XV.s .none), (17, XV.s .none), (21, XV.s .none)])
    (fun ⟨q, zs, _⟩ => srH q ++ [tokU zs.length])
    (fun ⟨q, zs, k⟩ => Vld q ∧ q.toks = r.toks ∧ q.toks.length ≤ k + q.at_ ∧ zs.length ≤ q.at_ ∧ numsS k q zs = numsS r.toks.length r []) (fun ⟨_, _, k⟩ => k) (r, [], r.toks.length) ?_ ?_ fun ⟨q, zs, k⟩ hI => ?_
  · refine Weak.own 5 ?_
    repeat (first | exact OwnL.nil | refine OwnL.drop ?_ | refine OwnL.same ?_ | refine OwnL.own ?_)
  · exact ⟨hv, rfl, Nat.le_add_right _ _, Nat.zero_le _, rfl⟩
  obtain ⟨hq, htk, hk, hz, hgo⟩ := hI
  have hql := hq.lt
  have hqn := hq.len
  have hi := hq.i64
  obtain ⟨k, rfl⟩ : ∃ j, k = j + 1 := ⟨k - 1, by omega⟩
  simp only [numsS] at hgo
  repeat ((conv => whnf); refine ⟨by first | exact ⟨rfl, rfl, hq⟩ | (unfold inI64; omega) | omega | exact ⟨by omega, by omega⟩ | (intro hg; first | (unfold inI64; omega) | omega | exact ⟨by omega, by omega⟩ | (simp [lit] at hg; unfold inI64; omega) | (simp [lit] at hg; omega) | (simp [lit] at hg; exact ⟨by omega, by omega⟩)) | (show (_ : Nat) + 1 ≤ 1000000000000; omega) | exact rfl | (unfold inI64; dsimp only; omega) | (dsimp only; omega) | (intro hg; simp [lit] at hg; first | (unfold inI64; dsimp only; omega) | (dsimp only; omega)) | decide +kernel, ?_⟩)
  conv => whnf
  refine cond_intro (fun h => ?_) (fun h => ?_)
  · have hp : ¬ sgnI q.tok ⟨#[93]⟩ = true := pass_no h
    have e : passS ⟨#[93]⟩ q = (false, q) := by unfold passS; rw [if_neg hp]
    have v1 : Vld (passS ⟨#[93]⟩ q).2 := by rw [e]; exact hq
    have i1 : inI64 (((passS ⟨#[93]⟩ q).2.at_ : Int) + 1) := by rw [e]; exact hi
    have hcap : zs.length + 1 ≤ capBound := by show _ ≤ 1000000000000; omega
    have ht := hq.tokv
    rw [if_neg hp] at hgo
    repeat ((conv => whnf); refine ⟨by first | exact ⟨rfl, rfl, v1⟩ | (unfold inI64; omega) | omega | exact ⟨by omega, by omega⟩ | (intro hg; first | (unfold inI64; omega) | omega | exact ⟨by omega, by omega⟩ | (simp [lit] at hg; unfold inI64; omega) | (simp [lit] at hg; omega) | (simp [lit] at hg; exact ⟨by omega, by omega⟩)) | (show (_ : Nat) + 1 ≤ 1000000000000; omega) | exact rfl | (unfold inI64; dsimp only; omega) | (dsimp only; omega) | (intro hg; simp [lit] at hg; first | (unfold inI64; dsimp only; omega) | (dsimp only; omega)) | decide +kernel, ?_⟩)
    conv => whnf
    refine cond_intro (fun h2 => ?_) (fun h2 => ?_)
    · have h3 : ¬ q.tok.1 = 2 := by
        have h4 : (!decide ((passS ⟨#[93]⟩ q).2.tok.1 = 2)) = true := h2
        rw [e] at h4
        simpa using h4
      rw [if_neg h3] at hgo
      rw [← hgo]
      repeat ((conv => whnf); refine ⟨by first | (unfold inI64; omega) | omega | exact ⟨by omega, by omega⟩ | (intro hg; first | (unfold inI64; omega) | omega | exact ⟨by omega, by omega⟩ | (simp [lit] at hg; unfold inI64; omega) | (simp [lit] at hg; omega) | (simp [lit] at hg; exact ⟨by omega, by omega⟩)) | (show (_ : Nat) + 1 ≤ 1000000000000; omega) | exact rfl | (unfold inI64; dsimp only; omega) | (dsimp only; omega) | (intro hg; simp [lit] at hg; first | (unfold inI64; dsimp only; omega) | (dsimp only; omega)) | decide +kernel, ?_⟩)
      conv => whnf
      refine ends_eq ⟨rfl, ?_⟩
      show srH (passS ⟨#[93]⟩ q).2 = srH q
      rw [e]
    have h3 : q.tok.1 = 2 := by
      have h4 : (!decide ((passS ⟨#[93]⟩ q).2.tok.1 = 2)) = false := h2
      rw [e] at h4
      simpa using h4
    rw [if_pos h3] at hgo
    repeat ((conv => whnf); refine ⟨by first | (unfold inI64; omega) | omega | exact ⟨by omega, by omega⟩ | (intro hg; first | (unfold inI64; omega) | omega | exact ⟨by omega, by omega⟩ | (simp [lit] at hg; unfold inI64; omega) | (simp [lit] at hg; omega) | (simp [lit] at hg; exact ⟨by omega, by omega⟩)) | (show (_ : Nat) + 1 ≤ 1000000000000; omega) | exact rfl | (unfold inI64; dsimp only; omega) | (dsimp only; omega) | (intro hg; simp [lit] at hg; first | (unfold inI64; dsimp only; omega) | (dsimp only; omega)) | decide +kernel, ?_⟩)
    conv => whnf
    refine cond_intro (fun h5 => ?_) (fun h5 => ?_)
    · have h6 : 255 < q.tok.2.2.1 := by
        have h7 : decide (255 < (passS ⟨#[93]⟩ q).2.tok.2.2.1) = true := h5
        rw [e] at h7
        exact of_decide_eq_true h7
      rw [if_pos h6] at hgo
      rw [← hgo]
      repeat ((conv => whnf); refine ⟨by first | (unfold inI64; omega) | omega | exact ⟨by omega, by omega⟩ | (intro hg; first | (unfold inI64; omega) | omega | exact ⟨by omega, by omega⟩ | (simp [lit] at hg; unfold inI64; omega) | (simp [lit] at hg; omega) | (simp [lit] at hg; exact ⟨by omega, by omega⟩)) | (show (_ : Nat) + 1 ≤ 1000000000000; omega) | exact rfl | (unfold inI64; dsimp only; omega) | (dsimp only; omega) | (intro hg; simp [lit] at hg; first | (unfold inI64; dsimp only; omega) | (dsimp only; omega)) | decide +kernel, ?_⟩)
      conv => whnf
      refine ends_eq ⟨rfl, ?_⟩
      show srH (passS ⟨#[93]⟩ q).2 = srH q
      rw [e]
    · have h6 : ¬ 255 < q.tok.2.2.1 := by
        have h7 : decide (255 < (passS ⟨#[93]⟩ q).2.tok.2.2.1) = false := h5
        rw [e] at h7
        exact of_decide_eq_false h7
      rw [if_neg h6] at hgo
      have g1 := hq.adv (show q.tok.1 ≠ 8 by rw [h3]; decide) 0
      repeat ((conv => whnf); refine ⟨by first | exact ⟨rfl, hcap⟩ | exact hcap | exact i1 | (unfold inI64; omega) | omega | exact ⟨by omega, by omega⟩ | (intro hg; first | (unfold inI64; omega) | omega | exact ⟨by omega, by omega⟩ | (simp [lit] at hg; unfold inI64; omega) | (simp [lit] at hg; omega) | (simp [lit] at hg; exact ⟨by omega, by omega⟩)) | (show (_ : Nat) + 1 ≤ 1000000000000; omega) | exact rfl | (unfold inI64; dsimp only; omega) | (dsimp only; omega) | (intro hg; simp [lit] at hg; first | (unfold inI64; dsimp only; omega) | (dsimp only; omega)) | decide +kernel, ?_⟩)
      conv => whnf
      refine head_keep ((passS ⟨#[93]⟩ q).2.adv, zs ++ [IntKind.u8.wrap (passS ⟨#[93]⟩ q).2.tok.2.2.1], k) [0, 1, 2] rfl id3' ?_ ?_ ?_ ?_
      · show _ = some (srH (passS ⟨#[93]⟩ q).2.adv ++ [tokU (zs ++ [IntKind.u8.wrap (passS ⟨#[93]⟩ q).2.tok.2.2.1]).length])
        rw [List.length_append]
        rfl
      · repeat (first | exact KeepL.nil | refine KeepL.drop ?_ | refine KeepL.ren rfl ?_)
      · rw [e]
        have g2 := g1.adv.lt
        refine ⟨g1.vld hq, htk, ?_, ?_, hgo⟩
        · show q.toks.length ≤ k + (q.at_ + 1)
          omega
        · rw [List.length_append]
          show zs.length + 1 ≤ q.at_ + 1
          omega
      · exact Nat.lt_succ_self k
  · have hp : sgnI q.tok ⟨#[93]⟩ = true := pass_yes h
    have e : passS ⟨#[93]⟩ q = (true, q.adv) := by unfold passS; rw [if_pos hp]
    rw [if_pos hp] at hgo
    rw [← hgo]
    repeat ((conv => whnf); refine ⟨by first | (unfold inI64; omega) | omega | exact ⟨by omega, by omega⟩ | (intro hg; first | (unfold inI64; omega) | omega | exact ⟨by omega, by omega⟩ | (simp [lit] at hg; unfold inI64; omega) | (simp [lit] at hg; omega) | (simp [lit] at hg; exact ⟨by omega, by omega⟩)) | (show (_ : Nat) + 1 ≤ 1000000000000; omega) | exact rfl | (unfold inI64; dsimp only; omega) | (dsimp only; omega) | (intro hg; simp [lit] at hg; first | (unfold inI64; dsimp only; omega) | (dsimp only; omega)) | decide +kernel, ?_⟩)
    conv => whnf
    refine ends_eq ⟨rfl, ?_⟩
    show srH (passS ⟨#[93]⟩ q).2 = srH q.adv
    rw [e]
end Go.Ab
