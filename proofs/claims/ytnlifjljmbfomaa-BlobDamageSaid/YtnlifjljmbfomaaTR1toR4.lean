/- The characters of package token. -/
import Derived.Test.YtnlifjljmbfomaaTOtoP
import Derived.Test.YtnlifjljmbfomaaShelf
namespace Go.Ab
open Go.Proofs
set_option linter.unusedSectionVars false
set_option maxRecDepth 100000
variable [Base]

def letterB (c : Int) : Bool := decide (97 ≤ c) && decide (c ≤ 122) || (decide (65 ≤ c) && decide (c ≤ 90))
def digitB (c : Int) : Bool := decide (48 ≤ c) && decide (c ≤ 57)
def firstB (c : Int) : Bool := letterB c || decide (c = 95)
def wordB (c : Int) : Bool := firstB c || digitB c
def idxB (s : ByteArray) (c : Int) : Int := Lib.indexByte s.data.toList c.toNat.toUInt8
def nameB (c : Int) : Bool := wordB c || decide (0 ≤ idxB ⟨#[44, 46, 43, 45, 63, 35, 64]⟩ c)
def slashB (c : Int) : Bool := decide (97 ≤ c) && decide (c ≤ 122) || decide (c = 45)
def spaceB (c : Int) : Bool := decide (c = 32) || decide (c = 9) || decide (c = 13) || decide (c = 10)
def lineB (c : Int) : Bool := !decide (c = 10)

def T1 : Table := ext noTable 86 (saysSU fun s c => (none, .int .i64 (idxB s c)))
def T2 : Table := ext T1 93 (saysU fun c => (none, .bool (letterB c)))
def T3 : Table := ext T2 94 (saysU fun c => (none, .bool (digitB c)))
def T4 : Table := ext T3 83 (saysU fun c => (none, .bool (firstB c)))
def T5 : Table := ext T4 85 (saysU fun c => (none, .bool (wordB c)))
def T6 : Table := ext T5 72 (saysU fun c => (none, .bool (nameB c)))
def T7 : Table := T6

def T8 : Table := T7

def T9 : Table := T8

theorem t1 : TSound Try.prog T1 := by
  refine ext_calls (noTable_sound _) 86 (fn := Try.f86) rfl rfl rfl fun args H p r H' hs hp => ?_
  unfold saysSU at hs
  split at hs
  · cases hs
    refine ⟨rfl, fun G hS hH cargs ha => ?_⟩
    cases ha with
    | cons h1 t1 =>
      cases t1 with
      | cons h2 t2 =>
        cases t2
        obtain ⟨_, rfl⟩ := h1
        obtain ⟨_, rfl⟩ := h2
        exact ⟨_, ⟨rfl, rfl⟩, Try.strings_IndexByte _ _ _⟩
  · cases hs

theorem t2 : TSound Try.prog T2 := by
  refine extU t1 93 (fn := Try.f93) rfl rfl (by decide) _ [0, 2] fun c _ => ?_
  conv => whnf
  exact ends_eq ⟨rfl, rfl⟩

theorem t3 : TSound Try.prog T3 := by
  refine extU t2 94 (fn := Try.f94) rfl rfl (by decide) _ [0, 2] fun c _ => ?_
  conv => whnf
  exact ends_eq ⟨rfl, rfl⟩

theorem t4 : TSound Try.prog T4 := by
  refine extU t3 83 (fn := Try.f83) rfl rfl (by decide) _ [0, 2] fun c _ => ?_
  conv => whnf
  exact ends_eq ⟨rfl, rfl⟩

theorem t5 : TSound Try.prog T5 := by
  refine extU t4 85 (fn := Try.f85) rfl rfl (by decide) _ [0, 2] fun c _ => ?_
  conv => whnf
  exact ends_eq ⟨rfl, rfl⟩

theorem t6 : TSound Try.prog T6 := by
  refine extU t5 72 (fn := Try.f72) rfl rfl (by decide) _ [0, 2] fun c _ => ?_
  conv => whnf
  exact ends_eq ⟨rfl, rfl⟩

theorem t7 : TSound Try.prog T7 := t6

theorem t8 : TSound Try.prog T8 := t7

theorem t9 : TSound Try.prog T9 := t8

/-- How many characters of a class a text begins with. -/
def leadN (p : Int → Bool) (s : ByteArray) : Nat := (s.data.toList.takeWhile fun u : UInt8 => p ((u.toNat : Nat) : Int)).length

theorem takeWhile_len {α : Type} (P : α → Bool) (d : α) : ∀ (l : List α) (i : Nat), i ≤ l.length → (∀ j, j < i → P (l.getD j d) = true) → (i = l.length ∨ P (l.getD i d) = false) → (l.takeWhile P).length = i
  | [], i, h, _, _ => by simp at h; simp [h]
  | x :: l, 0, _, _, h => by
    rcases h with h | h
    · simp at h
    · simp at h; simp [h]
  | x :: l, i + 1, h, ha, hb => by
    have h0 : P x = true := by simpa using ha 0 (Nat.succ_pos i)
    have := takeWhile_len P d l i (by simpa using h) (fun j hj => by simpa using ha (j + 1) (by omega)) (by simpa using hb)
    simp [h0, this]

theorem takeWhile_le {α : Type} (P : α → Bool) : ∀ (l : List α), (l.takeWhile P).length ≤ l.length
  | [] => Nat.le_refl _
  | x :: l => by
    have := takeWhile_le P l
    simp only [List.takeWhile_cons]
    split
    · simp only [List.length_cons]; omega
    · simp

theorem size_list (s : ByteArray) : s.data.toList.length = s.size := rfl

theorem leadN_eq {p : Int → Bool} {s : ByteArray} (i : Nat) (h : i ≤ s.size) (ha : ∀ j : Nat, j < i → p (byteAt s j) = true) (hb : i = s.size ∨ p (byteAt s i) = false) : leadN p s = i :=
  takeWhile_len (fun u : UInt8 => p ((u.toNat : Nat) : Int)) 0 s.data.toList i h ha hb

theorem leadN_le (p : Int → Bool) (s : ByteArray) : leadN p s ≤ s.size := takeWhile_le _ _

abbrev fits (s : ByteArray) : Prop := s.size ≤ 1000000000

def cls (f : FuncId) : Option (Int → Bool) := match Nat.beq f 72, Nat.beq f 85 with
  | true, _ => some nameB
  | _, true => some wordB
  | _, _ => none

theorem cls_cases {f : FuncId} {p : Int → Bool} (h : cls f = some p) : (f = 72 ∧ p = nameB) ∨ (f = 85 ∧ p = wordB) := by
  unfold cls at h
  by_cases h1 : f = 72
  · subst h1; exact .inl ⟨rfl, (Option.some.inj h).symm⟩
  by_cases h2 : f = 85
  · subst h2; exact .inr ⟨rfl, (Option.some.inj h).symm⟩
  have e : ∀ n, ¬ f = n → Nat.beq f n = false := fun n hn => by
    cases hb : Nat.beq f n with
    | false => rfl
    | true => exact absurd (Nat.eq_of_beq_eq_true hb) hn
  rw [e _ h1, e _ h2] at h
  cases h

def saysLead : Says := fun args H => match args, H with
  | [.c (.p (.v (.string s))), .c (.p (.v (.func (.func f) a b)))], [] => match cls f, a.toList, b.toList with
    | some p, [], [] => some (some (fits s), .int .i64 (leadN p s), [])
    | _, _, _ => none
  | _, _ => none

def T10 : Table := ext T9 84 saysLead

theorem lead32 (s : ByteArray) (hs : fits s) :
    runF ⟨Try.prog, T9⟩ Try.f84 [0, 1, 4, 5, 7, 8, 9, 16] [] [.c (.p (.v (.string s))), .c (.p (.v (.func (.func 72) #[] #[])))] [] fun r' H'' => Ends r' H'' (.int .i64 (leadN nameB s)) [] := by
  conv => whnf
  refine loop_intro (σ := Nat) (fun i => [(0, XV.s (SV.str s)), (1, XV.s (.v (.func (.func 72) #[] #[]))), (4, XV.s (SV.int .i64 0)), (5, XV.s .none), (7, XV.s (.int .i64 s.size)), (8, XV.s (.int .i64 i)), (9, XV.s .none), (16, XV.s .none)]) (fun _ => [])
    (fun i => i ≤ s.size ∧ ∀ j : Nat, j < i → nameB (byteAt s j) = true) (fun i => s.size - i) 0 ?_ rfl ?_ fun i hI => ?_
  · repeat (first | exact LeL.nil | refine LeL.drop ?_ | refine LeL.same ?_)
  · exact ⟨Nat.zero_le _, fun j hj => absurd hj (Nat.not_lt_zero j)⟩
  conv => whnf
  refine cond_intro (fun h => ?_) (fun h => ?_)
  · have h' : i < s.size := by simpa using h
    conv => whnf
    refine ⟨by omega, ?_⟩
    conv => whnf
    refine cond_intro (fun h2 => ?_) (fun h2 => ?_)
    · have h3 : nameB (byteAt s i) = false := by simpa using h2
      conv => whnf
      refine ends_eq ⟨?_, rfl⟩
      rw [leadN_eq i hI.1 hI.2 (.inr h3)]
    · have h3 : nameB (byteAt s i) = true := by simpa using h2
      conv => whnf
      refine ⟨by unfold inI64; omega, ?_⟩
      conv => whnf
      refine head_intro (i + 1) ?_ rfl ?_ ?_
      · repeat (first | exact LeL.nil | refine LeL.drop ?_ | refine LeL.same ?_)
      · refine ⟨h', fun j hj => ?_⟩
        rcases Nat.lt_succ_iff_lt_or_eq.1 hj with h4 | rfl
        · exact hI.2 j h4
        · exact h3
      · omega
  · have h' : ¬ i < s.size := by simpa using h
    conv => whnf
    refine ends_eq ⟨?_, rfl⟩
    rw [leadN_eq s.size (Nat.le_refl _) (fun j hj => hI.2 j (by omega)) (.inl rfl)]

theorem lead35 (s : ByteArray) (hs : fits s) :
    runF ⟨Try.prog, T9⟩ Try.f84 [0, 1, 4, 5, 7, 8, 9, 16] [] [.c (.p (.v (.string s))), .c (.p (.v (.func (.func 85) #[] #[])))] [] fun r' H'' => Ends r' H'' (.int .i64 (leadN wordB s)) [] := by
  conv => whnf
  refine loop_intro (σ := Nat) (fun i => [(0, XV.s (SV.str s)), (1, XV.s (.v (.func (.func 85) #[] #[]))), (4, XV.s (SV.int .i64 0)), (5, XV.s .none), (7, XV.s (.int .i64 s.size)), (8, XV.s (.int .i64 i)), (9, XV.s .none), (16, XV.s .none)]) (fun _ => [])
    (fun i => i ≤ s.size ∧ ∀ j : Nat, j < i → wordB (byteAt s j) = true) (fun i => s.size - i) 0 ?_ rfl ?_ fun i hI => ?_
  · repeat (first | exact LeL.nil | refine LeL.drop ?_ | refine LeL.same ?_)
  · exact ⟨Nat.zero_le _, fun j hj => absurd hj (Nat.not_lt_zero j)⟩
  conv => whnf
  refine cond_intro (fun h => ?_) (fun h => ?_)
  · have h' : i < s.size := by simpa using h
    conv => whnf
    refine ⟨by omega, ?_⟩
    conv => whnf
    refine cond_intro (fun h2 => ?_) (fun h2 => ?_)
    · have h3 : wordB (byteAt s i) = false := by simpa using h2
      conv => whnf
      refine ends_eq ⟨?_, rfl⟩
      rw [leadN_eq i hI.1 hI.2 (.inr h3)]
    · have h3 : wordB (byteAt s i) = true := by simpa using h2
      conv => whnf
      refine ⟨by unfold inI64; omega, ?_⟩
      conv => whnf
      refine head_intro (i + 1) ?_ rfl ?_ ?_
      · repeat (first | exact LeL.nil | refine LeL.drop ?_ | refine LeL.same ?_)
      · refine ⟨h', fun j hj => ?_⟩
        rcases Nat.lt_succ_iff_lt_or_eq.1 hj with h4 | rfl
        · exact hI.2 j h4
        · exact h3
      · omega
  · have h' : ¬ i < s.size := by simpa using h
    conv => whnf
    refine ends_eq ⟨?_, rfl⟩
    rw [leadN_eq s.size (Nat.le_refl _) (fun j hj => hI.2 j (by omega)) (.inl rfl)]

theorem t10 : TSound Try.prog T10 := by
  refine ext_run t9 (f := 84) (fn := Try.f84) rfl rfl [0, 1, 4, 5, 7, 8, 9, 16] fun args H p r H' hs hp => ?_
  unfold saysLead at hs
  split at hs
  · rename_i s f a b
    split at hs
    · rename_i q hc ha hb
      cases hs
      have ha' : a = #[] := by simpa using ha
      have hb' : b = #[] := by simpa using hb
      subst ha' hb'
      refine ⟨by show 2 ≤ _; decide, [], rfl, fun k hk => absurd hk (Nat.not_lt_zero k), ?_⟩
      rcases cls_cases hc with ⟨rfl, rfl⟩ | ⟨rfl, rfl⟩
      · exact lead32 s hp
      · exact lead35 s hp
    · cases hs
  · cases hs

def consB (p : Int → Bool) (s : ByteArray) : Bool := !decide (s = ⟨#[]⟩) && decide ((s.size : Int) ≤ 31) && firstB (byteAt s 0) && decide ((leadN p s : Int) = s.size)

def saysCons : Says := fun args H => match args, H with
  | [.c (.p (.v (.string s))), .c (.p (.v (.func (.func f) a b)))], [] => match cls f, a.toList, b.toList with
    | some p, [], [] => some (some (fits s), .bool (consB p s), [])
    | _, _, _ => none
  | _, _ => none

def T11 : Table := ext T10 71 saysCons
def T12 : Table := ext T11 51 (saysS fun s => (some (fits s), .bool (consB nameB s)))
def T13 : Table := T12

def rwordB (c : Int) : Bool := letterB c || (decide (48 ≤ c) && decide (c ≤ 57)) || decide (c = 95)
def amongB (c : Int) (s : ByteArray) : Bool := s.data.toList.any fun u : UInt8 => decide (((u.toNat : Nat) : Int) = c)
def rnameB (c : Int) : Bool := rwordB c || amongB c ⟨#[44, 46, 43, 45, 63, 35, 64]⟩
def allB (p : Int → Bool) (s : ByteArray) : Bool := s.data.toList.all fun u : UInt8 => p ((u.toNat : Nat) : Int)
def rNameS (s : ByteArray) : Bool := !(decide ((s.size : Int) < 1) || decide (31 < (s.size : Int)) || (!letterB (byteAt s 0) && !decide (byteAt s 0 = 95))) && allB rnameB s
def rLabelS (s : ByteArray) : Bool := !(decide ((s.size : Int) < 1) || decide (31 < (s.size : Int)) || (decide (48 ≤ byteAt s 0) && decide (byteAt s 0 ≤ 57))) && allB rwordB s
def T14 : Table := ext T13 75 (saysU fun c => (none, .bool (letterB c)))
def T15 : Table := ext T14 89 (saysU fun c => (none, .bool (rwordB c)))
def T16 : Table := ext T15 90 (saysUS fun c s => (some (fits s), .bool (amongB c s)))
def T17 : Table := ext T16 76 (saysU fun c => (none, .bool (rnameB c)))
def T18 : Table := T17

def T19 : Table := ext T18 61 (saysS fun s => (some (fits s), .bool (rNameS s)))
def T20 : Table := T19

theorem getD_get {α : Type} {l : List α} {i : Nat} {d : α} (h : i < l.length) : l.getD i d = l[i] := by
  simp [List.getD, h]

theorem any_true {p : UInt8 → Bool} {s : ByteArray} (i : Nat) (h : i < s.size) (hi : p (s.data.toList.getD i 0) = true) : s.data.toList.any p = true := by
  rw [List.any_eq_true]
  have h' : i < s.data.toList.length := h
  refine ⟨s.data.toList[i], List.getElem_mem h', ?_⟩
  rwa [getD_get h'] at hi

theorem any_false {p : UInt8 → Bool} {s : ByteArray} (h : ∀ j, j < s.size → p (s.data.toList.getD j 0) = false) : s.data.toList.any p = false := by
  rw [List.any_eq_false]
  intro x hx
  obtain ⟨i, hi, rfl⟩ := List.getElem_of_mem hx
  have := h i hi
  rw [getD_get hi] at this
  rw [this]; decide

theorem allB_true {p : Int → Bool} {s : ByteArray} (h : ∀ j : Nat, j < s.size → p (byteAt s j) = true) : allB p s = true := by
  unfold allB
  rw [List.all_eq_true]
  intro x hx
  obtain ⟨i, hi, rfl⟩ := List.getElem_of_mem hx
  have := h i hi
  unfold byteAt at this
  rw [show ((i : Int).toNat) = i from rfl, getD_get hi] at this
  exact this

theorem allB_false {p : Int → Bool} {s : ByteArray} (i : Nat) (h : i < s.size) (hi : p (byteAt s i) = false) : allB p s = false := by
  unfold allB
  have h' : i < s.data.toList.length := h
  unfold byteAt at hi
  rw [show ((i : Int).toNat) = i from rfl, getD_get h'] at hi
  rw [List.all_eq_false]
  exact ⟨_, List.getElem_mem h', by rw [hi]; decide⟩

theorem size_pos {s : ByteArray} (h : ¬ s = ⟨#[]⟩) : 0 < s.size := by
  rcases Nat.eq_zero_or_pos s.size with h0 | h0
  · refine absurd ?_ h
    obtain ⟨d⟩ := s
    have : d = #[] := Array.eq_empty_of_size_eq_zero h0
    rw [this]
  · exact h0

theorem cons32 (s : ByteArray) (hs : fits s) :
    runF ⟨Try.prog, T10⟩ Try.f71 [0, 1, 4] [] [.c (.p (.v (.string s))), .c (.p (.v (.func (.func 72) #[] #[])))] [] fun r' H'' => Ends r' H'' (.bool (consB nameB s)) [] := by
  conv => whnf
  refine ⟨fun h => ?_, ?_⟩
  · simp [lit] at h
    have := size_pos h.1
    omega
  conv => whnf
  refine ⟨fun _ => hs, ?_⟩
  conv => whnf
  exact ends_eq ⟨rfl, rfl⟩

theorem cons35 (s : ByteArray) (hs : fits s) :
    runF ⟨Try.prog, T10⟩ Try.f71 [0, 1, 4] [] [.c (.p (.v (.string s))), .c (.p (.v (.func (.func 85) #[] #[])))] [] fun r' H'' => Ends r' H'' (.bool (consB wordB s)) [] := by
  conv => whnf
  refine ⟨fun h => ?_, ?_⟩
  · simp [lit] at h
    have := size_pos h.1
    omega
  conv => whnf
  refine ⟨fun _ => hs, ?_⟩
  conv => whnf
  exact ends_eq ⟨rfl, rfl⟩

theorem t11 : TSound Try.prog T11 := by
  refine ext_run t10 (f := 71) (fn := Try.f71) rfl rfl [0, 1, 4] fun args H p r H' hs hp => ?_
  unfold saysCons at hs
  split at hs
  · rename_i s f a b
    split at hs
    · rename_i q hc ha hb
      cases hs
      have ha' : a = #[] := by simpa using ha
      have hb' : b = #[] := by simpa using hb
      subst ha' hb'
      refine ⟨by show 2 ≤ _; decide, [], rfl, fun k hk => absurd hk (Nat.not_lt_zero k), ?_⟩
      rcases cls_cases hc with ⟨rfl, rfl⟩ | ⟨rfl, rfl⟩
      · exact cons32 s hp
      · exact cons35 s hp
    · cases hs
  · cases hs

theorem t12 : TSound Try.prog T12 := by
  refine extS t11 51 (fn := Try.f51) rfl rfl (by decide) _ [0, 2] fun s hs => ?_
  conv => whnf
  refine ⟨hs, ?_⟩
  conv => whnf
  exact ends_eq ⟨rfl, rfl⟩

theorem t13 : TSound Try.prog T13 := t12

theorem t14 : TSound Try.prog T14 := by
  refine extU t13 75 (fn := Try.f75) rfl rfl (by decide) _ [0, 2] fun c _ => ?_
  conv => whnf
  exact ends_eq ⟨rfl, rfl⟩

theorem t15 : TSound Try.prog T15 := by
  refine extU t14 89 (fn := Try.f89) rfl rfl (by decide) _ [0, 2] fun c _ => ?_
  conv => whnf
  exact ends_eq ⟨rfl, rfl⟩

theorem t16 : TSound Try.prog T16 := by
  refine extUS t15 90 (fn := Try.f90) rfl rfl (by decide) _ [0, 1, 4, 5, 9, 16] fun c s hs => ?_
  conv => whnf
  refine loop_intro (σ := Nat) (fun i => [(0, XV.s (.int .u8 c)), (1, XV.s (SV.str s)), (4, XV.s (.bool false)), (5, XV.s (.int .i64 i)), (9, XV.s .none), (16, XV.s .none)]) (fun _ => [])
    (fun i => i ≤ s.size ∧ ∀ j : Nat, j < i → byteAt s j ≠ c) (fun i => s.size - i) 0 ?_ rfl ?_ fun i hI => ?_
  · repeat (first | exact LeL.nil | refine LeL.drop ?_ | refine LeL.same ?_)
  · exact ⟨Nat.zero_le _, fun j hj => absurd hj (Nat.not_lt_zero j)⟩
  have hs' : s.size ≤ 1000000000 := hs
  conv => whnf
  refine cond_intro (fun h => ?_) (fun h => ?_)
  · have h' : i < s.size := by simpa using h
    conv => whnf
    refine ⟨by omega, ?_⟩
    conv => whnf
    refine cond_intro (fun h2 => ?_) (fun h2 => ?_)
    · have h3 : byteAt s i = c := by simpa using h2
      conv => whnf
      refine ends_eq ⟨?_, rfl⟩
      unfold amongB
      rw [any_true i h' (by simpa [byteAt] using h3)]
    · have h3 : ¬ byteAt s i = c := by simpa using h2
      conv => whnf
      refine ⟨by unfold inI64; omega, ?_⟩
      conv => whnf
      refine head_intro (i + 1) ?_ rfl ?_ ?_
      · repeat (first | exact LeL.nil | refine LeL.drop ?_ | refine LeL.same ?_)
      · refine ⟨h', fun j hj => ?_⟩
        rcases Nat.lt_succ_iff_lt_or_eq.1 hj with h4 | rfl
        · exact hI.2 j h4
        · exact h3
      · omega
  · have h' : ¬ i < s.size := by simpa using h
    conv => whnf
    refine ends_eq ⟨?_, rfl⟩
    unfold amongB
    rw [any_false fun j hj => by simpa [byteAt] using hI.2 j (by omega)]

theorem t17 : TSound Try.prog T17 := by
  refine extU t16 76 (fn := Try.f76) rfl rfl (by decide) _ [0, 2] fun c _ => ?_
  conv => whnf
  refine ⟨fun _ => by decide, ?_⟩
  conv => whnf
  exact ends_eq ⟨rfl, rfl⟩

theorem t18 : TSound Try.prog T18 := t17

theorem t19 : TSound Try.prog T19 := by
  refine extS t18 61 (fn := Try.f61) rfl rfl (by decide) _ [0, 2, 3, 22, 26, 33] fun s hs => ?_
  have hs' : s.size ≤ 1000000000 := hs
  conv => whnf
  refine ⟨fun h => ?_, ?_⟩
  · simp [lit] at h; omega
  conv => whnf
  refine ⟨fun h => ?_, ?_⟩
  · simp [lit] at h; omega
  conv => whnf
  refine cond_intro (fun h0 => ?_) (fun h0 => ?_)
  · conv => whnf
    refine ends_eq ⟨?_, rfl⟩
    have : rNameS s = false := by
      unfold rNameS
      simp only [h0]
      rfl
    rw [this]
  conv => whnf
  refine loop_intro (σ := Nat) (fun i => [(0, XV.s (SV.str s)), (2, XV.s (.bool false)), (3, XV.s (.int .i64 i)), (22, XV.s .none), (26, XV.s .none), (33, XV.s .none)]) (fun _ => [])
    (fun i => i ≤ s.size ∧ ∀ j : Nat, j < i → rnameB (byteAt s j) = true) (fun i => s.size - i) 0 ?_ rfl ?_ fun i hI => ?_
  · repeat (first | exact LeL.nil | refine LeL.drop ?_ | refine LeL.same ?_)
  · exact ⟨Nat.zero_le _, fun j hj => absurd hj (Nat.not_lt_zero j)⟩
  conv => whnf
  refine cond_intro (fun h => ?_) (fun h => ?_)
  · have h' : i < s.size := by simpa using h
    conv => whnf
    refine ⟨by omega, ?_⟩
    conv => whnf
    refine cond_intro (fun h2 => ?_) (fun h2 => ?_)
    · have h3 : rnameB (byteAt s i) = false := by simpa using h2
      conv => whnf
      refine ends_eq ⟨?_, rfl⟩
      have : rNameS s = false := by
        unfold rNameS
        rw [allB_false i h' h3, Bool.and_false]
      rw [this]
    · have h3 : rnameB (byteAt s i) = true := by simpa using h2
      conv => whnf
      refine ⟨by unfold inI64; omega, ?_⟩
      conv => whnf
      refine head_intro (i + 1) ?_ rfl ?_ ?_
      · repeat (first | exact LeL.nil | refine LeL.drop ?_ | refine LeL.same ?_)
      · refine ⟨h', fun j hj => ?_⟩
        rcases Nat.lt_succ_iff_lt_or_eq.1 hj with h4 | rfl
        · exact hI.2 j h4
        · exact h3
      · omega
  · have h' : ¬ i < s.size := by simpa using h
    conv => whnf
    refine ends_eq ⟨?_, rfl⟩
    have : rNameS s = true := by
      unfold rNameS
      rw [allB_true fun j hj => hI.2 j (by omega)]
      simp only [h0]
      rfl
    rw [this]

theorem t20 : TSound Try.prog T20 := t19

/-! Both are the same. -/
theorem bytes_all {P : Int → Prop} (h : ∀ n : Fin 256, P (n.val : Int)) (u : UInt8) : P ((u.toNat : Nat) : Int) := h ⟨u.toNat, u.toNat_lt⟩

theorem name_same (u : UInt8) : rnameB ((u.toNat : Nat) : Int) = nameB ((u.toNat : Nat) : Int) := bytes_all (P := fun c => rnameB c = nameB c) (by decide +kernel) u
theorem word_same (u : UInt8) : rwordB ((u.toNat : Nat) : Int) = wordB ((u.toNat : Nat) : Int) := bytes_all (P := fun c => rwordB c = wordB c) (by decide +kernel) u
theorem first_same (u : UInt8) : firstB ((u.toNat : Nat) : Int) = (letterB ((u.toNat : Nat) : Int) || decide (((u.toNat : Nat) : Int) = 95)) := rfl

theorem lead_all {p : Int → Bool} (s : ByteArray) : decide ((leadN p s : Int) = s.size) = allB p s := by
  have : ∀ l : List UInt8, decide (((l.takeWhile fun u : UInt8 => p ((u.toNat : Nat) : Int)).length : Int) = l.length) = l.all fun u : UInt8 => p ((u.toNat : Nat) : Int) := by
    intro l
    induction l with
    | nil => rfl
    | cons x l ih =>
      cases h : p ((x.toNat : Nat) : Int) with
      | true => simp [h, ← ih]; 
      | false => simp [h]; omega
  exact this s.data.toList

theorem allB_congr {p q : Int → Bool} (h : ∀ u : UInt8, p ((u.toNat : Nat) : Int) = q ((u.toNat : Nat) : Int)) (s : ByteArray) : allB p s = allB q s := by
  unfold allB
  congr 1
  funext u
  exact h u

theorem byteAt_byte (s : ByteArray) (i : Int) : ∃ u : UInt8, byteAt s i = ((u.toNat : Nat) : Int) := ⟨_, rfl⟩

theorem empty_size (s : ByteArray) : decide (s = ⟨#[]⟩) = decide ((s.size : Int) < 1) := by
  by_cases h : s = ⟨#[]⟩
  · subst h; rfl
  · have := size_pos h
    simp [h]; omega

theorem nameS_same (s : ByteArray) : rNameS s = consB nameB s := by
  unfold rNameS consB
  rw [lead_all, allB_congr name_same, empty_size]
  obtain ⟨u, hu⟩ := byteAt_byte s 0
  rw [hu]
  unfold firstB
  cases letterB (u.toNat : Int) <;> cases decide ((u.toNat : Int) = 95) <;> cases allB nameB s <;> by_cases h1 : (s.size : Int) < 1 <;> by_cases h2 : (s.size : Int) ≤ 31 <;> simp [h1, h2] <;> omega

theorem label_first : ∀ n : Fin 256, wordB (n.val : Int) = true → (!(decide (48 ≤ (n.val : Int)) && decide ((n.val : Int) ≤ 57))) = firstB (n.val : Int) := by decide +kernel

theorem labelS_same (s : ByteArray) : rLabelS s = consB wordB s := by
  unfold rLabelS consB
  rw [lead_all, allB_congr word_same, empty_size]
  by_cases h1 : (s.size : Int) < 1
  · simp [h1]
  cases ha : allB wordB s with
  | false => simp
  | true =>
    obtain ⟨u, hu⟩ := byteAt_byte s 0
    have hw : wordB (byteAt s 0) = true := by
      cases h : wordB (byteAt s 0) with
      | true => rfl
      | false => rw [allB_false (p := wordB) 0 (by omega) h] at ha; cases ha
    have := label_first ⟨u.toNat, u.toNat_lt⟩ (hu ▸ hw)
    simp only at this
    rw [hu, ← this]
    cases (decide (48 ≤ (u.toNat : Int)) && decide ((u.toNat : Int) ≤ 57)) <;> by_cases h2 : (s.size : Int) ≤ 31 <;> simp [h1, h2] <;> omega

def modV (x n : Int) : Int := if n < 1 then 0 else if x.tmod n < 0 then x.tmod n + n else x.tmod n

theorem modV_nonneg (x n : Int) : 0 ≤ modV x n := by
  unfold modV
  split
  · omega
  · have h1 := Int.tmod_lt_of_pos x (b := n) (by omega)
    have h2 := Int.lt_tmod_of_pos x (b := n) (by omega)
    split <;> omega

theorem modV_lt (x n : Int) (h : 1 ≤ n) : modV x n < n := by
  unfold modV
  rw [if_neg (by omega)]
  have h1 := Int.tmod_lt_of_pos x (b := n) (by omega)
  split <;> omega

def rawV (zs : List Int) (n : Int) : Int := if (zs.length : Int) ≤ n then 0 else zs.getD n.toNat 0
def rawN (zs : List Int) (n : Int) : Int := if (zs.length : Int) ≤ n then n else n + 1

abbrev tapeO (zs : List Int) (n : Int) : AO := .row [.p (.l (.int .i64) zs), .p (.v (.int .i64 n))]
abbrev tapeOk (zs : List Int) (n : Int) : Prop := 0 ≤ n ∧ n ≤ 4611686018427387904 ∧ zs.length ≤ 4611686018427387904

def saysTape (g : List Int → Int → Option Prop × SV × Int) : Says := fun args H => match args, H with
  | [.c (.ptr 0 0)], [.row [.p (.l (.int .i64) zs), .p (.v (.int .i64 n))]] => some ((g zs n).1, (g zs n).2.1, [tapeO zs (g zs n).2.2])
  | _, _ => none

def saysTapeI (g : List Int → Int → Int → Option Prop × SV × Int) : Says := fun args H => match args, H with
  | [.c (.ptr 0 0), .c (.p (.v (.int .i64 k)))], [.row [.p (.l (.int .i64) zs), .p (.v (.int .i64 n))]] => some ((g zs n k).1, (g zs n k).2.1, [tapeO zs (g zs n k).2.2])
  | _, _ => none

def saysTapeS (g : List Int → Int → ByteArray → Option Prop × SV × Int) : Says := fun args H => match args, H with
  | [.c (.ptr 0 0), .c (.p (.v (.string k)))], [.row [.p (.l (.int .i64) zs), .p (.v (.int .i64 n))]] => some ((g zs n k).1, (g zs n k).2.1, [tapeO zs (g zs n k).2.2])
  | _, _ => none

theorem id0 : ∀ k, k < 1 → [0][k]? = some k := fun k hk => by
  have : k = 0 := by omega
  subst this; rfl

theorem extTape {P : Program} {T : Table} (hT : TSound P T) (f : FuncId) {fn : Func} (hf : P.funcs[f]? = some fn) (hname : (fn.name == "runtime.NumGoroutine") = false) (hn : 1 ≤ fn.ntmps) (g : List Int → Int → Option Prop × SV × Int) (ks : List Nat)
    (h : ∀ zs n, holdsO (g zs n).1 → runF ⟨P, T⟩ fn ks [0] [.c (.ptr 0 0)] [tapeO zs n] fun r' H'' => Ends r' H'' (g zs n).2.1 [tapeO zs (g zs n).2.2]) : TSound P (ext T f (saysTape g)) :=
  ext_run hT hf hname ks fun args H p r H' hs hp => by
    unfold saysTape at hs
    split at hs
    · cases hs
      exact ⟨hn, [0], rfl, id0, h _ _ hp⟩
    · cases hs

theorem extTapeI {P : Program} {T : Table} (hT : TSound P T) (f : FuncId) {fn : Func} (hf : P.funcs[f]? = some fn) (hname : (fn.name == "runtime.NumGoroutine") = false) (hn : 2 ≤ fn.ntmps) (g : List Int → Int → Int → Option Prop × SV × Int) (ks : List Nat)
    (h : ∀ zs n k, holdsO (g zs n k).1 → runF ⟨P, T⟩ fn ks [0] [.c (.ptr 0 0), .c (.p (.v (.int .i64 k)))] [tapeO zs n] fun r' H'' => Ends r' H'' (g zs n k).2.1 [tapeO zs (g zs n k).2.2]) : TSound P (ext T f (saysTapeI g)) :=
  ext_run hT hf hname ks fun args H p r H' hs hp => by
    unfold saysTapeI at hs
    split at hs
    · cases hs
      exact ⟨hn, [0], rfl, id0, h _ _ _ hp⟩
    · cases hs

theorem extTapeS {P : Program} {T : Table} (hT : TSound P T) (f : FuncId) {fn : Func} (hf : P.funcs[f]? = some fn) (hname : (fn.name == "runtime.NumGoroutine") = false) (hn : 2 ≤ fn.ntmps) (g : List Int → Int → ByteArray → Option Prop × SV × Int) (ks : List Nat)
    (h : ∀ zs n k, holdsO (g zs n k).1 → runF ⟨P, T⟩ fn ks [0] [.c (.ptr 0 0), .c (.p (.v (.string k)))] [tapeO zs n] fun r' H'' => Ends r' H'' (g zs n k).2.1 [tapeO zs (g zs n k).2.2]) : TSound P (ext T f (saysTapeS g)) :=
  ext_run hT hf hname ks fun args H p r H' hs hp => by
    unfold saysTapeS at hs
    split at hs
    · cases hs
      exact ⟨hn, [0], rfl, id0, h _ _ _ hp⟩
    · cases hs

def nameL : List ByteArray := [⟨#[97]⟩, ⟨#[98]⟩, ⟨#[99]⟩, ⟨#[99, 112, 117]⟩, ⟨#[99, 108, 107]⟩, ⟨#[98, 117, 115, 64, 49, 48]⟩, ⟨#[100, 101, 118, 64, 50]⟩, ⟨#[120, 95, 49]⟩, ⟨#[122]⟩]
def propL : List ByteArray := [⟨#[114, 101, 103]⟩, ⟨#[99, 111, 109, 112, 97, 116, 105, 98, 108, 101]⟩, ⟨#[115, 116, 97, 116, 117, 115]⟩, ⟨#[99, 108, 111, 99, 107, 115]⟩, ⟨#[35, 99, 101, 108, 108, 115]⟩, ⟨#[112]⟩, ⟨#[113]⟩, ⟨#[108, 97, 98, 101, 108]⟩, ⟨#[118, 97, 108, 117, 101]⟩]
def pieceL : List ByteArray := [⟨#[97]⟩, ⟨#[110, 111, 100, 101, 64, 49]⟩, ⟨#[35, 99, 101, 108, 108, 115]⟩, ⟨#[99, 111, 109, 112, 97, 116, 105, 98, 108, 101]⟩, ⟨#[120, 58]⟩, ⟨#[108, 97, 98, 95, 49, 58]⟩, ⟨#[38, 97]⟩, ⟨#[38, 108, 97, 98, 95, 49]⟩, ⟨#[48]⟩, ⟨#[55]⟩, ⟨#[48, 49, 48]⟩, ⟨#[48, 120, 49, 102]⟩, ⟨#[48, 120, 70, 70, 70, 70, 70, 70, 70, 70]⟩, ⟨#[52, 50, 57, 52, 57, 54, 55, 50, 57, 53]⟩, ⟨#[34, 116, 101, 120, 116, 34]⟩, ⟨#[34, 97, 92, 110, 92, 120, 52, 49, 92, 34, 34]⟩, ⟨#[47, 105, 110, 99, 108, 117, 100, 101, 47]⟩, ⟨#[47, 100, 101, 108, 101, 116, 101, 45, 110, 111, 100, 101, 47]⟩, ⟨#[47]⟩, ⟨#[123]⟩, ⟨#[125]⟩, ⟨#[40]⟩, ⟨#[41]⟩, ⟨#[60]⟩, ⟨#[62]⟩, ⟨#[91]⟩, ⟨#[93]⟩, ⟨#[59]⟩, ⟨#[61]⟩, ⟨#[44]⟩, ⟨#[43]⟩, ⟨#[45]⟩, ⟨#[42]⟩, ⟨#[37]⟩, ⟨#[60, 60]⟩, ⟨#[62, 62]⟩, ⟨#[60, 61]⟩, ⟨#[62, 61]⟩, ⟨#[61, 61]⟩, ⟨#[33, 61]⟩, ⟨#[38, 38]⟩, ⟨#[124, 124]⟩, ⟨#[94]⟩, ⟨#[126]⟩, ⟨#[33]⟩, ⟨#[63]⟩, ⟨#[58]⟩, ⟨#[124]⟩, ⟨#[38]⟩, ⟨#[32]⟩, ⟨#[10]⟩, ⟨#[9]⟩, ⟨#[47, 47, 32, 110, 111, 116, 101, 10]⟩, ⟨#[47, 42, 32, 97, 10, 42, 32, 98, 32, 42, 47]⟩, ⟨#[13, 10]⟩]
def oddL : List ByteArray := [⟨#[48, 57]⟩, ⟨#[48, 120]⟩, ⟨#[48, 120, 103]⟩, ⟨#[49, 50, 97, 98]⟩, ⟨#[52, 50, 57, 52, 57, 54, 55, 50, 57, 54]⟩, ⟨#[57, 57, 57, 57, 57, 57, 57, 57, 57, 57, 57, 57, 57, 57, 57, 57, 57, 57, 57, 57]⟩, ⟨#[34]⟩, ⟨#[34, 97, 98, 10, 34]⟩, ⟨#[34, 92, 113, 34]⟩, ⟨#[34, 92, 120, 52]⟩, ⟨#[34, 92]⟩, ⟨#[47, 42]⟩, ⟨#[47, 42, 32, 120]⟩, ⟨#[47, 42, 47]⟩, ⟨#[36]⟩, ⟨#[64]⟩, ⟨#[46]⟩, ⟨#[0]⟩, ⟨#[255]⟩, ⟨#[97, 45, 98, 58]⟩, ⟨#[35, 120, 58]⟩, ⟨#[47, 97]⟩, ⟨#[47, 45, 47]⟩, ⟨#[47, 47]⟩, ⟨#[56]⟩, ⟨#[48, 56]⟩, ⟨#[39]⟩]

def pickS (l : List ByteArray) (zs : List Int) (n : Int) : ByteArray := l.getD (modV (rawV zs n) l.length).toNat ByteArray.empty

def saysNew : Says := fun args H => match args, H with
  | [.c (.p (.l (.int .i64) zs))], [] => some (none, .a (.c (.ptr 0 0)), [tapeO (zs.take 500) 0])
  | _, _ => none

def T21 : Table := ext T20 9 (saysII fun x n => (some (n ≤ 4611686018427387904), .int .i64 (modV x n)))
def T22 : Table := ext T21 32 (saysTape fun zs n => (some (tapeOk zs n), .int .i64 (rawV zs n), rawN zs n))
def T23 : Table := ext T22 14 (saysTapeI fun zs n k => (some (tapeOk zs n ∧ k ≤ 4611686018427387904), .int .i64 (modV (rawV zs n) k), rawN zs n))
def T24 : Table := ext T23 34 (saysTape fun zs n => (some (tapeOk zs n), .str (pickS nameL zs n), rawN zs n))
def T25 : Table := ext T24 18 (saysTape fun zs n => (some (tapeOk zs n), .str (pickS propL zs n), rawN zs n))
def T26 : Table := T25

def T27 : Table := T26

def T28 : Table := ext T27 6 saysNew

theorem t21 : TSound Try.prog T21 := by
  refine extII t20 9 (fn := Try.f9) rfl rfl (by decide) _ [0, 1, 4, 6, 11] fun x n hn => ?_
  have hn' : n ≤ 4611686018427387904 := hn
  conv => whnf
  refine cond_intro (fun h => ?_) (fun h => ?_)
  · have h' : n < 1 := by simpa using h
    conv => whnf
    refine ends_eq ⟨?_, rfl⟩
    simp only [modV, if_pos h']
  · have h' : ¬ n < 1 := by simpa using h
    conv => whnf
    refine ⟨by omega, ?_⟩
    conv => whnf
    have h1 := Int.tmod_lt_of_pos x (b := n) (by omega)
    have h2 := Int.lt_tmod_of_pos x (b := n) (by omega)
    refine cond_intro (fun h2 => ?_) (fun h2 => ?_)
    · have h3 : x.tmod n < 0 := by simpa using h2
      conv => whnf
      refine ⟨by unfold inI64; omega, ?_⟩
      conv => whnf
      refine ends_eq ⟨?_, rfl⟩
      simp only [modV, if_neg h', if_pos h3]
    · have h3 : ¬ x.tmod n < 0 := by simpa using h2
      conv => whnf
      refine ends_eq ⟨?_, rfl⟩
      simp only [modV, if_neg h', if_neg h3]

theorem t22 : TSound Try.prog T22 := by
  refine extTape t21 32 (fn := Try.f32) rfl rfl (by decide) _ [0, 2, 12] fun zs n hn => ?_
  obtain ⟨h0, h1, h2⟩ : tapeOk zs n := hn
  conv => whnf
  refine ⟨by decide +kernel, ?_⟩
  conv => whnf
  refine cond_intro (fun h => ?_) (fun h => ?_)
  · have h' : (zs.length : Int) ≤ n := by simpa using h
    conv => whnf
    refine ends_eq ⟨?_, ?_⟩ <;> simp only [rawV, rawN, if_pos h']
  · have h' : ¬ (zs.length : Int) ≤ n := by simpa using h
    conv => whnf
    refine ⟨by unfold inI64; omega, ?_⟩
    conv => whnf
    refine ⟨by unfold inI64; omega, ?_⟩
    conv => whnf
    refine ⟨by omega, ?_⟩
    conv => whnf
    refine ⟨by decide +kernel, ?_⟩
    conv => whnf
    refine ends_eq ⟨?_, ?_⟩ <;> simp only [rawV, rawN, if_neg h']
    rw [show n + 1 - 1 = n from by omega]
    rfl

theorem t23 : TSound Try.prog T23 := by
  refine extTapeI t22 14 (fn := Try.f14) rfl rfl (by decide) _ [0, 1, 4] fun zs n k hn => ?_
  obtain ⟨h0, h1⟩ : tapeOk zs n ∧ k ≤ 4611686018427387904 := hn
  conv => whnf
  refine ⟨h0, ?_⟩
  conv => whnf
  refine ⟨h1, ?_⟩
  conv => whnf
  exact ends_eq ⟨rfl, rfl⟩

theorem t24 : TSound Try.prog T24 := by
  refine extTape t23 34 (fn := Try.f34) rfl rfl (by decide) _ [0, 2, 3] fun zs n hn => ?_
  conv => whnf
  refine ⟨⟨hn, by decide⟩, ?_⟩
  conv => whnf
  refine ⟨⟨modV_nonneg _ _, modV_lt _ _ (by decide)⟩, ?_⟩
  conv => whnf
  exact ends_eq ⟨rfl, rfl⟩

theorem t25 : TSound Try.prog T25 := by
  refine extTape t24 18 (fn := Try.f18) rfl rfl (by decide) _ [0, 2, 3] fun zs n hn => ?_
  conv => whnf
  refine ⟨⟨hn, by decide⟩, ?_⟩
  conv => whnf
  refine ⟨⟨modV_nonneg _ _, modV_lt _ _ (by decide)⟩, ?_⟩
  conv => whnf
  exact ends_eq ⟨rfl, rfl⟩

theorem t26 : TSound Try.prog T26 := t25

theorem t27 : TSound Try.prog T27 := t26

theorem new_take (zs : List Int) : List.drop (Int.toNat 0) (List.take (if 500 < (zs.length : Int) then 500 else (zs.length : Int)).toNat zs) = zs.take 500 := by
  show List.take _ zs = _
  split
  · rfl
  · rw [List.take_of_length_le (by omega), List.take_of_length_le (by omega)]

theorem t28 : TSound Try.prog T28 := by
  refine ext_run t27 (f := 6) (fn := Try.f6) rfl rfl [0, 2] fun args H p r H' hs hp => ?_
  unfold saysNew at hs
  split at hs
  · cases hs
    refine ⟨by show 1 ≤ _; decide, [0], rfl, fun k hk => absurd hk (Nat.not_lt_zero k), ?_⟩
    conv => whnf
    rename_i zs
    refine ⟨⟨by omega, by split <;> omega, by split <;> omega⟩, ?_⟩
    conv => whnf
    refine ends_eq ⟨rfl, ?_⟩
    rw [new_take zs]
  · cases hs

theorem wrap_u8 {n : Int} (h0 : 0 ≤ n) (h1 : n < 256) : IntKind.u8.wrap n = n := by
  simp only [IntKind.wrap, IntKind.bits, IntKind.signed, Bool.false_and]
  simp
  omega

def digitV (c : Int) : Int := if digitB c then c - 48 else if decide (97 ≤ c) && decide (c ≤ 102) then c - 97 + 10 else if decide (65 ≤ c) && decide (c ≤ 70) then c - 65 + 10 else 16
def endB (s : ByteArray) (i : Int) : Bool := decide ((s.size : Int) ≤ i) || decide (byteAt s i = 10)

theorem digitV_range (c : Int) : 0 ≤ digitV c ∧ digitV c ≤ 16 := by
  unfold digitV digitB
  split
  · rename_i h; simp at h; omega
  · split
    · rename_i h; simp at h; omega
    · split
      · rename_i h; simp at h; omega
      · omega

/-- A token, and where it stands. -/
structure TokV where
  kind : Int := 0
  text : ByteArray := ⟨#[]⟩
  value : Int := 0
  file : Int := 0
  line : Int := 0
  column : Int := 0

def TokV.av (t : TokV) : AV := .agg [.int .i64 t.kind, .str t.text, .int .i64 t.value, .int .i64 t.file, .int .i64 t.line, .int .i64 t.column]

def escGo (s : ByteArray) : Nat → Nat → Int → Int × Int × Int
  | 0, _, v => (IntKind.u8.wrap v, 4, 0)
  | k + 1, i, v => if endB s (2 + i) then (0, 0, 21) else if digitV (byteAt s (2 + i)) = 16 then (0, 0, 6) else escGo s k (i + 1) (v * 16 + digitV (byteAt s (2 + i)))

def escNum (s : ByteArray) : Int × Int × Int := escGo s 2 0 0

def escV (s : ByteArray) : Int × Int × Int :=
  if endB s 1 then (0, 0, 21) else if byteAt s 1 = 110 then (10, 2, 0) else if byteAt s 1 = 116 then (9, 2, 0) else if byteAt s 1 = 34 then (byteAt s 1, 2, 0) else if byteAt s 1 = 92 then (byteAt s 1, 2, 0)
  else if byteAt s 1 = 120 then escNum s else (0, 0, 6)

def escSV (x : Int × Int × Int) : SV := .tup [.c (.int .u8 x.1), .c (.int .i64 x.2.1), .c (.int .i64 x.2.2)]

def T29 : Table := T28

def T30 : Table := T29

def T31 : Table := T30

def T32 : Table := T31

theorem t29 : TSound Try.prog T29 := t28

theorem t30 : TSound Try.prog T30 := t29

theorem end_lt {s : ByteArray} {i : Int} (h : endB s i = false) : i < s.size ∧ byteAt s i ≠ 10 := by
  unfold endB at h; simp at h; omega

theorem t31 : TSound Try.prog T31 := t30

theorem t32 : TSound Try.prog T32 := t31

/-! Strings. -/
def strGo (s : ByteArray) : Nat → Int → List Int → TokV × Int × Int
  | 0, _, _ => ({}, 0, 21)
  | k + 1, at', out =>
    if endB s at' then ({}, 0, 21)
    else if byteAt s at' = 34 then ({ kind := 3, text := bytesOf out }, at' + 1, 0)
    else if byteAt s at' = 92 then
      if (escV (s.extract at'.toNat s.size)).2.2 = 0 then strGo s k (at' + (escV (s.extract at'.toNat s.size)).2.1) (out ++ [(escV (s.extract at'.toNat s.size)).1])
      else ({}, 0, (escV (s.extract at'.toNat s.size)).2.2)
    else strGo s k (at' + 1) (out ++ [byteAt s at'])

def cutStr (s : ByteArray) : TokV × Int × Int := strGo s s.size 1 []

def cutSV (x : TokV × Int × Int) : SV := .tup [x.1.av, .c (.int .i64 x.2.1), .c (.int .i64 x.2.2)]

def T33 : Table := T32

theorem escNum_n (s : ByteArray) : (escNum s).2.2 = 0 → (escNum s).2.1 = 4 := by
  unfold escNum escGo
  repeat' split
  all_goals simp [escGo]
  repeat' split
  all_goals simp

theorem escV_n (s : ByteArray) (h : (escV s).2.2 = 0) : (escV s).2.1 = 2 ∨ (escV s).2.1 = 4 := by
  revert h
  unfold escV
  repeat' split
  all_goals first | (intro h; exact .inr (escNum_n s h)) | simp

theorem t33 : TSound Try.prog T33 := t32

end Go.Ab
