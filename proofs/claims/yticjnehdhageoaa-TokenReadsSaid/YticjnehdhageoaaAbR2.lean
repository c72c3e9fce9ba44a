/- Names and labels: the program's and the reference's. -/
import Derived.Test.YticjnehdhageoaaAbR1
namespace Go.Ab
open Go.Proofs
set_option linter.unusedSectionVars false
set_option maxRecDepth 100000
variable [Base]

def consB (p : Int → Bool) (s : ByteArray) : Bool := !decide (s = ⟨#[]⟩) && decide ((s.size : Int) ≤ 31) && firstB (byteAt s 0) && decide ((leadN p s : Int) = s.size)

def saysCons : Says := fun args H => match args, H with
  | [.c (.p (.v (.string s))), .c (.p (.v (.func (.func f) a b)))], [] => match cls f, a.toList, b.toList with
    | some p, [], [] => some (some (fits s), .bool (consB p s), [])
    | _, _, _ => none
  | _, _ => none

def T11 : Table := ext T10 31 saysCons
def T12 : Table := ext T11 20 (saysS fun s => (some (fits s), .bool (consB nameB s)))
def T13 : Table := ext T12 22 (saysS fun s => (some (fits s), .bool (consB wordB s)))
def rwordB (c : Int) : Bool := letterB c || (decide (48 ≤ c) && decide (c ≤ 57)) || decide (c = 95)
def amongB (c : Int) (s : ByteArray) : Bool := s.data.toList.any fun u : UInt8 => decide (((u.toNat : Nat) : Int) = c)
def rnameB (c : Int) : Bool := rwordB c || amongB c ⟨#[44, 46, 43, 45, 63, 35, 64]⟩
def allB (p : Int → Bool) (s : ByteArray) : Bool := s.data.toList.all fun u : UInt8 => p ((u.toNat : Nat) : Int)
def rNameS (s : ByteArray) : Bool := !(decide ((s.size : Int) < 1) || decide (31 < (s.size : Int)) || (!letterB (byteAt s 0) && !decide (byteAt s 0 = 95))) && allB rnameB s
def rLabelS (s : ByteArray) : Bool := !(decide ((s.size : Int) < 1) || decide (31 < (s.size : Int)) || (decide (48 ≤ byteAt s 0) && decide (byteAt s 0 ≤ 57))) && allB rwordB s
def T14 : Table := ext T13 33 (saysU fun c => (none, .bool (letterB c)))
def T15 : Table := ext T14 52 (saysU fun c => (none, .bool (rwordB c)))
def T16 : Table := ext T15 42 (saysUS fun c s => (some (fits s), .bool (amongB c s)))
def T17 : Table := ext T16 34 (saysU fun c => (none, .bool (rnameB c)))
def T18 : Table := ext T17 36 (saysS fun s => (some (fits s), .bool (allB rwordB s)))
def T19 : Table := ext T18 21 (saysS fun s => (some (fits s), .bool (rNameS s)))
def T20 : Table := ext T19 23 (saysS fun s => (some (fits s), .bool (rLabelS s)))

theorem getD_get {α : Type} {l : List α} {i : Nat} {d : α} (h : i < l.length) : l.getD i d = l[i] := by
  simp [List.getD, h]

theorem any_true {p : UInt8 → Bool} {s : ByteArray} (i : Nat) (h : i < s.size) (hi : p (s.data.toList.getD i 0) = true) : s.data.toList.any p = true := by
  rw [List.any_eq_true]
  have h' : i < s.data.toList.length := h
  refine ⟨s.data.toList[i], List.getElem_mem h', ?_⟩
  rwa [getD_get h'] at hi

theorem any_false {p : UInt8 → Bool} {s : ByteArray} (h : ∀ j, j < s.size → p (s.data.toList.getD j 0) = false) : s.data.toList.any p = false := by
  rw [List.any_eq_false]
  intro x hx
  obtain ⟨i, hi, rfl⟩ := List.getElem_of_mem hx
  have := h i hi
  rw [getD_get hi] at this
  rw [this]; decide

theorem allB_true {p : Int → Bool} {s : ByteArray} (h : ∀ j : Nat, j < s.size → p (byteAt s j) = true) : allB p s = true := by
  unfold allB
  rw [List.all_eq_true]
  intro x hx
  obtain ⟨i, hi, rfl⟩ := List.getElem_of_mem hx
  have := h i hi
  unfold byteAt at this
  rw [show ((i : Int).toNat) = i from rfl, getD_get hi] at this
  exact this

theorem allB_false {p : Int → Bool} {s : ByteArray} (i : Nat) (h : i < s.size) (hi : p (byteAt s i) = false) : allB p s = false := by
  unfold allB
  have h' : i < s.data.toList.length := h
  unfold byteAt at hi
  rw [show ((i : Int).toNat) = i from rfl, getD_get h'] at hi
  rw [List.all_eq_false]
  exact ⟨_, List.getElem_mem h', by rw [hi]; decide⟩

theorem size_pos {s : ByteArray} (h : ¬ s = ⟨#[]⟩) : 0 < s.size := by
  rcases Nat.eq_zero_or_pos s.size with h0 | h0
  · refine absurd ?_ h
    obtain ⟨d⟩ := s
    have : d = #[] := Array.eq_empty_of_size_eq_zero h0
    rw [this]
  · exact h0

theorem cons32 (s : ByteArray) (hs : fits s) :
    runF ⟨Try.prog, T10⟩ Try.f31 [0, 1, 4] [] [.c (.p (.v (.string s))), .c (.p (.v (.func (.func 32) #[] #[])))] [] fun r' H'' => Ends r' H'' (.bool (consB nameB s)) [] := by
  conv => whnf
  refine ⟨fun h => ?_, ?_⟩
  · simp [lit] at h
    have := size_pos h.1
    omega
  conv => whnf
  refine ⟨fun _ => hs, ?_⟩
  conv => whnf
  exact ends_eq ⟨rfl, rfl⟩

theorem cons35 (s : ByteArray) (hs : fits s) :
    runF ⟨Try.prog, T10⟩ Try.f31 [0, 1, 4] [] [.c (.p (.v (.string s))), .c (.p (.v (.func (.func 35) #[] #[])))] [] fun r' H'' => Ends r' H'' (.bool (consB wordB s)) [] := by
  conv => whnf
  refine ⟨fun h => ?_, ?_⟩
  · simp [lit] at h
    have := size_pos h.1
    omega
  conv => whnf
  refine ⟨fun _ => hs, ?_⟩
  conv => whnf
  exact ends_eq ⟨rfl, rfl⟩

theorem cons60 (s : ByteArray) (hs : fits s) :
    runF ⟨Try.prog, T10⟩ Try.f31 [0, 1, 4] [] [.c (.p (.v (.string s))), .c (.p (.v (.func (.func 60) #[] #[])))] [] fun r' H'' => Ends r' H'' (.bool (consB lineB s)) [] := by
  conv => whnf
  refine ⟨fun h => ?_, ?_⟩
  · simp [lit] at h
    have := size_pos h.1
    omega
  conv => whnf
  refine ⟨fun _ => hs, ?_⟩
  conv => whnf
  exact ends_eq ⟨rfl, rfl⟩

theorem cons62 (s : ByteArray) (hs : fits s) :
    runF ⟨Try.prog, T10⟩ Try.f31 [0, 1, 4] [] [.c (.p (.v (.string s))), .c (.p (.v (.func (.func 62) #[] #[])))] [] fun r' H'' => Ends r' H'' (.bool (consB spaceB s)) [] := by
  conv => whnf
  refine ⟨fun h => ?_, ?_⟩
  · simp [lit] at h
    have := size_pos h.1
    omega
  conv => whnf
  refine ⟨fun _ => hs, ?_⟩
  conv => whnf
  exact ends_eq ⟨rfl, rfl⟩

theorem cons71 (s : ByteArray) (hs : fits s) :
    runF ⟨Try.prog, T10⟩ Try.f31 [0, 1, 4] [] [.c (.p (.v (.string s))), .c (.p (.v (.func (.func 71) #[] #[])))] [] fun r' H'' => Ends r' H'' (.bool (consB slashB s)) [] := by
  conv => whnf
  refine ⟨fun h => ?_, ?_⟩
  · simp [lit] at h
    have := size_pos h.1
    omega
  conv => whnf
  refine ⟨fun _ => hs, ?_⟩
  conv => whnf
  exact ends_eq ⟨rfl, rfl⟩

theorem t11 : TSound Try.prog T11 := by
  refine ext_run t10 (f := 31) (fn := Try.f31) rfl rfl [0, 1, 4] fun args H p r H' hs hp => ?_
  unfold saysCons at hs
  split at hs
  · rename_i s f a b
    split at hs
    · rename_i q hc ha hb
      cases hs
      have ha' : a = #[] := by simpa using ha
      have hb' : b = #[] := by simpa using hb
      subst ha' hb'
      refine ⟨by show 2 ≤ _; decide, [], rfl, fun k hk => absurd hk (Nat.not_lt_zero k), ?_⟩
      rcases cls_cases hc with ⟨rfl, rfl⟩ | ⟨rfl, rfl⟩ | ⟨rfl, rfl⟩ | ⟨rfl, rfl⟩ | ⟨rfl, rfl⟩
      · exact cons32 s hp
      · exact cons35 s hp
      · exact cons60 s hp
      · exact cons62 s hp
      · exact cons71 s hp
    · cases hs
  · cases hs

theorem t12 : TSound Try.prog T12 := by
  refine extS t11 20 (fn := Try.f20) rfl rfl (by decide) _ [0, 2] fun s hs => ?_
  conv => whnf
  refine ⟨hs, ?_⟩
  conv => whnf
  exact ends_eq ⟨rfl, rfl⟩

theorem t13 : TSound Try.prog T13 := by
  refine extS t12 22 (fn := Try.f22) rfl rfl (by decide) _ [0, 2] fun s hs => ?_
  conv => whnf
  refine ⟨hs, ?_⟩
  conv => whnf
  exact ends_eq ⟨rfl, rfl⟩

theorem t14 : TSound Try.prog T14 := by
  refine extU t13 33 (fn := Try.f33) rfl rfl (by decide) _ [0, 2] fun c _ => ?_
  conv => whnf
  exact ends_eq ⟨rfl, rfl⟩

theorem t15 : TSound Try.prog T15 := by
  refine extU t14 52 (fn := Try.f52) rfl rfl (by decide) _ [0, 2] fun c _ => ?_
  conv => whnf
  exact ends_eq ⟨rfl, rfl⟩

theorem t16 : TSound Try.prog T16 := by
  refine extUS t15 42 (fn := Try.f42) rfl rfl (by decide) _ [0, 1, 4, 5, 9, 16] fun c s hs => ?_
  conv => whnf
  refine loop_intro (σ := Nat) (fun i => [(0, XV.s (.int .u8 c)), (1, XV.s (SV.str s)), (4, XV.s (.bool false)), (5, XV.s (.int .i64 i)), (9, XV.s .none), (16, XV.s .none)]) (fun _ => [])
    (fun i => i ≤ s.size ∧ ∀ j : Nat, j < i → byteAt s j ≠ c) (fun i => s.size - i) 0 ?_ rfl ?_ fun i hI => ?_
  · repeat (first | exact LeL.nil | refine LeL.drop ?_ | refine LeL.same ?_)
  · exact ⟨Nat.zero_le _, fun j hj => absurd hj (Nat.not_lt_zero j)⟩
  have hs' : s.size ≤ 1000000000 := hs
  conv => whnf
  refine cond_intro (fun h => ?_) (fun h => ?_)
  · have h' : i < s.size := by simpa using h
    conv => whnf
    refine ⟨by omega, ?_⟩
    conv => whnf
    refine cond_intro (fun h2 => ?_) (fun h2 => ?_)
    · have h3 : byteAt s i = c := by simpa using h2
      conv => whnf
      refine ends_eq ⟨?_, rfl⟩
      unfold amongB
      rw [any_true i h' (by simpa [byteAt] using h3)]
    · have h3 : ¬ byteAt s i = c := by simpa using h2
      conv => whnf
      refine ⟨by unfold inI64; omega, ?_⟩
      conv => whnf
      refine head_intro (i + 1) ?_ rfl ?_ ?_
      · repeat (first | exact LeL.nil | refine LeL.drop ?_ | refine LeL.same ?_)
      · refine ⟨h', fun j hj => ?_⟩
        rcases Nat.lt_succ_iff_lt_or_eq.1 hj with h4 | rfl
        · exact hI.2 j h4
        · exact h3
      · omega
  · have h' : ¬ i < s.size := by simpa using h
    conv => whnf
    refine ends_eq ⟨?_, rfl⟩
    unfold amongB
    rw [any_false fun j hj => by simpa [byteAt] using hI.2 j (by omega)]

theorem t17 : TSound Try.prog T17 := by
  refine extU t16 34 (fn := Try.f34) rfl rfl (by decide) _ [0, 2] fun c _ => ?_
  conv => whnf
  refine ⟨fun _ => by decide, ?_⟩
  conv => whnf
  exact ends_eq ⟨rfl, rfl⟩

theorem t18 : TSound Try.prog T18 := by
  refine extS t17 36 (fn := Try.f36) rfl rfl (by decide) _ [0, 2, 3, 7, 14] fun s hs => ?_
  conv => whnf
  refine loop_intro (σ := Nat) (fun i => [(0, XV.s (SV.str s)), (2, XV.s (.bool false)), (3, XV.s (.int .i64 i)), (7, XV.s .none), (14, XV.s .none)]) (fun _ => [])
    (fun i => i ≤ s.size ∧ ∀ j : Nat, j < i → rwordB (byteAt s j) = true) (fun i => s.size - i) 0 ?_ rfl ?_ fun i hI => ?_
  · repeat (first | exact LeL.nil | refine LeL.drop ?_ | refine LeL.same ?_)
  · exact ⟨Nat.zero_le _, fun j hj => absurd hj (Nat.not_lt_zero j)⟩
  have hs' : s.size ≤ 1000000000 := hs
  conv => whnf
  refine cond_intro (fun h => ?_) (fun h => ?_)
  · have h' : i < s.size := by simpa using h
    conv => whnf
    refine ⟨by omega, ?_⟩
    conv => whnf
    refine cond_intro (fun h2 => ?_) (fun h2 => ?_)
    · have h3 : rwordB (byteAt s i) = false := by simpa using h2
      conv => whnf
      refine ends_eq ⟨?_, rfl⟩
      rw [allB_false i h' h3]
    · have h3 : rwordB (byteAt s i) = true := by simpa using h2
      conv => whnf
      refine ⟨by unfold inI64; omega, ?_⟩
      conv => whnf
      refine head_intro (i + 1) ?_ rfl ?_ ?_
      · repeat (first | exact LeL.nil | refine LeL.drop ?_ | refine LeL.same ?_)
      · refine ⟨h', fun j hj => ?_⟩
        rcases Nat.lt_succ_iff_lt_or_eq.1 hj with h4 | rfl
        · exact hI.2 j h4
        · exact h3
      · omega
  · have h' : ¬ i < s.size := by simpa using h
    conv => whnf
    refine ends_eq ⟨?_, rfl⟩
    rw [allB_true fun j hj => hI.2 j (by omega)]

theorem t19 : TSound Try.prog T19 := by
  refine extS t18 21 (fn := Try.f21) rfl rfl (by decide) _ [0, 2, 3, 22, 26, 33] fun s hs => ?_
  have hs' : s.size ≤ 1000000000 := hs
  conv => whnf
  refine ⟨fun h => ?_, ?_⟩
  · simp [lit] at h; omega
  conv => whnf
  refine ⟨fun h => ?_, ?_⟩
  · simp [lit] at h; omega
  conv => whnf
  refine cond_intro (fun h0 => ?_) (fun h0 => ?_)
  · conv => whnf
    refine ends_eq ⟨?_, rfl⟩
    have : rNameS s = false := by
      unfold rNameS
      simp only [h0]
      rfl
    rw [this]
  conv => whnf
  refine loop_intro (σ := Nat) (fun i => [(0, XV.s (SV.str s)), (2, XV.s (.bool false)), (3, XV.s (.int .i64 i)), (22, XV.s .none), (26, XV.s .none), (33, XV.s .none)]) (fun _ => [])
    (fun i => i ≤ s.size ∧ ∀ j : Nat, j < i → rnameB (byteAt s j) = true) (fun i => s.size - i) 0 ?_ rfl ?_ fun i hI => ?_
  · repeat (first | exact LeL.nil | refine LeL.drop ?_ | refine LeL.same ?_)
  · exact ⟨Nat.zero_le _, fun j hj => absurd hj (Nat.not_lt_zero j)⟩
  conv => whnf
  refine cond_intro (fun h => ?_) (fun h => ?_)
  · have h' : i < s.size := by simpa using h
    conv => whnf
    refine ⟨by omega, ?_⟩
    conv => whnf
    refine cond_intro (fun h2 => ?_) (fun h2 => ?_)
    · have h3 : rnameB (byteAt s i) = false := by simpa using h2
      conv => whnf
      refine ends_eq ⟨?_, rfl⟩
      have : rNameS s = false := by
        unfold rNameS
        rw [allB_false i h' h3, Bool.and_false]
      rw [this]
    · have h3 : rnameB (byteAt s i) = true := by simpa using h2
      conv => whnf
      refine ⟨by unfold inI64; omega, ?_⟩
      conv => whnf
      refine head_intro (i + 1) ?_ rfl ?_ ?_
      · repeat (first | exact LeL.nil | refine LeL.drop ?_ | refine LeL.same ?_)
      · refine ⟨h', fun j hj => ?_⟩
        rcases Nat.lt_succ_iff_lt_or_eq.1 hj with h4 | rfl
        · exact hI.2 j h4
        · exact h3
      · omega
  · have h' : ¬ i < s.size := by simpa using h
    conv => whnf
    refine ends_eq ⟨?_, rfl⟩
    have : rNameS s = true := by
      unfold rNameS
      rw [allB_true fun j hj => hI.2 j (by omega)]
      simp only [h0]
      rfl
    rw [this]

theorem t20 : TSound Try.prog T20 := by
  refine extS t19 23 (fn := Try.f23) rfl rfl (by decide) _ [0, 2, 20] fun s hs => ?_
  have hs' : s.size ≤ 1000000000 := hs
  conv => whnf
  refine ⟨fun h => ?_, ?_⟩
  · simp [lit] at h; omega
  conv => whnf
  refine ⟨fun h => ?_, ?_⟩
  · simp [lit] at h; omega
  conv => whnf
  refine cond_intro (fun h0 => ?_) (fun h0 => ?_)
  · conv => whnf
    refine ends_eq ⟨?_, rfl⟩
    have : rLabelS s = false := by
      unfold rLabelS
      simp only [h0]
      rfl
    rw [this]
  conv => whnf
  refine ⟨hs, ?_⟩
  conv => whnf
  refine ends_eq ⟨?_, rfl⟩
  have : rLabelS s = allB rwordB s := by
    unfold rLabelS
    simp only [h0]
    rfl
  rw [this]

/-! Both are the same. -/
theorem bytes_all {P : Int → Prop} (h : ∀ n : Fin 256, P (n.val : Int)) (u : UInt8) : P ((u.toNat : Nat) : Int) := h ⟨u.toNat, u.toNat_lt⟩

theorem name_same (u : UInt8) : rnameB ((u.toNat : Nat) : Int) = nameB ((u.toNat : Nat) : Int) := bytes_all (P := fun c => rnameB c = nameB c) (by decide +kernel) u
theorem word_same (u : UInt8) : rwordB ((u.toNat : Nat) : Int) = wordB ((u.toNat : Nat) : Int) := bytes_all (P := fun c => rwordB c = wordB c) (by decide +kernel) u
theorem first_same (u : UInt8) : firstB ((u.toNat : Nat) : Int) = (letterB ((u.toNat : Nat) : Int) || decide (((u.toNat : Nat) : Int) = 95)) := rfl

theorem lead_all {p : Int → Bool} (s : ByteArray) : decide ((leadN p s : Int) = s.size) = allB p s := by
  have : ∀ l : List UInt8, decide (((l.takeWhile fun u : UInt8 => p ((u.toNat : Nat) : Int)).length : Int) = l.length) = l.all fun u : UInt8 => p ((u.toNat : Nat) : Int) := by
    intro l
    induction l with
    | nil => rfl
    | cons x l ih =>
      cases h : p ((x.toNat : Nat) : Int) with
      | true => simp [h, ← ih]; 
      | false => simp [h]; omega
  exact this s.data.toList

theorem allB_congr {p q : Int → Bool} (h : ∀ u : UInt8, p ((u.toNat : Nat) : Int) = q ((u.toNat : Nat) : Int)) (s : ByteArray) : allB p s = allB q s := by
  unfold allB
  congr 1
  funext u
  exact h u

theorem byteAt_byte (s : ByteArray) (i : Int) : ∃ u : UInt8, byteAt s i = ((u.toNat : Nat) : Int) := ⟨_, rfl⟩

theorem empty_size (s : ByteArray) : decide (s = ⟨#[]⟩) = decide ((s.size : Int) < 1) := by
  by_cases h : s = ⟨#[]⟩
  · subst h; rfl
  · have := size_pos h
    simp [h]; omega

theorem nameS_same (s : ByteArray) : rNameS s = consB nameB s := by
  unfold rNameS consB
  rw [lead_all, allB_congr name_same, empty_size]
  obtain ⟨u, hu⟩ := byteAt_byte s 0
  rw [hu]
  unfold firstB
  cases letterB (u.toNat : Int) <;> cases decide ((u.toNat : Int) = 95) <;> cases allB nameB s <;> by_cases h1 : (s.size : Int) < 1 <;> by_cases h2 : (s.size : Int) ≤ 31 <;> simp [h1, h2] <;> omega

theorem label_first : ∀ n : Fin 256, wordB (n.val : Int) = true → (!(decide (48 ≤ (n.val : Int)) && decide ((n.val : Int) ≤ 57))) = firstB (n.val : Int) := by decide +kernel

theorem labelS_same (s : ByteArray) : rLabelS s = consB wordB s := by
  unfold rLabelS consB
  rw [lead_all, allB_congr word_same, empty_size]
  by_cases h1 : (s.size : Int) < 1
  · simp [h1]
  cases ha : allB wordB s with
  | false => simp
  | true =>
    obtain ⟨u, hu⟩ := byteAt_byte s 0
    have hw : wordB (byteAt s 0) = true := by
      cases h : wordB (byteAt s 0) with
      | true => rfl
      | false => rw [allB_false (p := wordB) 0 (by omega) h] at ha; cases ha
    have := label_first ⟨u.toNat, u.toNat_lt⟩ (hu ▸ hw)
    simp only at this
    rw [hu, ← this]
    cases (decide (48 ≤ (u.toNat : Int)) && decide ((u.toNat : Int) ≤ 57)) <;> by_cases h2 : (s.size : Int) ≤ 31 <;> simp [h1, h2] <;> omega
end Go.Ab
