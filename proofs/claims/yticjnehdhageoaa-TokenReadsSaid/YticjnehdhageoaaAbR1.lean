/- The characters of package token. -/
import Derived.Test.YticjnehdhageoaaAbP
import Derived.Test.YticjnehdhageoaaShelf
namespace Go.Ab
open Go.Proofs
set_option linter.unusedSectionVars false
set_option maxRecDepth 100000
variable [Base]

def letterB (c : Int) : Bool := decide (97 ≤ c) && decide (c ≤ 122) || (decide (65 ≤ c) && decide (c ≤ 90))
def digitB (c : Int) : Bool := decide (48 ≤ c) && decide (c ≤ 57)
def firstB (c : Int) : Bool := letterB c || decide (c = 95)
def wordB (c : Int) : Bool := firstB c || digitB c
def idxB (s : ByteArray) (c : Int) : Int := Lib.indexByte s.data.toList c.toNat.toUInt8
def nameB (c : Int) : Bool := wordB c || decide (0 ≤ idxB ⟨#[44, 46, 43, 45, 63, 35, 64]⟩ c)
def slashB (c : Int) : Bool := decide (97 ≤ c) && decide (c ≤ 122) || decide (c = 45)
def spaceB (c : Int) : Bool := decide (c = 32) || decide (c = 9) || decide (c = 13) || decide (c = 10)
def lineB (c : Int) : Bool := !decide (c = 10)

def T1 : Table := ext noTable 51 (saysSU fun s c => (none, .int .i64 (idxB s c)))
def T2 : Table := ext T1 65 (saysU fun c => (none, .bool (letterB c)))
def T3 : Table := ext T2 53 (saysU fun c => (none, .bool (digitB c)))
def T4 : Table := ext T3 49 (saysU fun c => (none, .bool (firstB c)))
def T5 : Table := ext T4 35 (saysU fun c => (none, .bool (wordB c)))
def T6 : Table := ext T5 32 (saysU fun c => (none, .bool (nameB c)))
def T7 : Table := ext T6 71 (saysU fun c => (none, .bool (slashB c)))
def T8 : Table := ext T7 62 (saysU fun c => (none, .bool (spaceB c)))
def T9 : Table := ext T8 60 (saysU fun c => (none, .bool (lineB c)))

theorem t1 : TSound Try.prog T1 := by
  refine ext_calls (noTable_sound _) 51 (fn := Try.f51) rfl rfl rfl fun args H p r H' hs hp => ?_
  unfold saysSU at hs
  split at hs
  · cases hs
    refine ⟨rfl, fun G hS hH cargs ha => ?_⟩
    cases ha with
    | cons h1 t1 =>
      cases t1 with
      | cons h2 t2 =>
        cases t2
        obtain ⟨_, rfl⟩ := h1
        obtain ⟨_, rfl⟩ := h2
        exact ⟨_, ⟨rfl, rfl⟩, Try.strings_IndexByte _ _ _⟩
  · cases hs

theorem t2 : TSound Try.prog T2 := by
  refine extU t1 65 (fn := Try.f65) rfl rfl (by decide) _ [0, 2] fun c _ => ?_
  conv => whnf
  exact ends_eq ⟨rfl, rfl⟩

theorem t3 : TSound Try.prog T3 := by
  refine extU t2 53 (fn := Try.f53) rfl rfl (by decide) _ [0, 2] fun c _ => ?_
  conv => whnf
  exact ends_eq ⟨rfl, rfl⟩

theorem t4 : TSound Try.prog T4 := by
  refine extU t3 49 (fn := Try.f49) rfl rfl (by decide) _ [0, 2] fun c _ => ?_
  conv => whnf
  exact ends_eq ⟨rfl, rfl⟩

theorem t5 : TSound Try.prog T5 := by
  refine extU t4 35 (fn := Try.f35) rfl rfl (by decide) _ [0, 2] fun c _ => ?_
  conv => whnf
  exact ends_eq ⟨rfl, rfl⟩

theorem t6 : TSound Try.prog T6 := by
  refine extU t5 32 (fn := Try.f32) rfl rfl (by decide) _ [0, 2] fun c _ => ?_
  conv => whnf
  exact ends_eq ⟨rfl, rfl⟩

theorem t7 : TSound Try.prog T7 := by
  refine extU t6 71 (fn := Try.f71) rfl rfl (by decide) _ [0, 2] fun c _ => ?_
  conv => whnf
  exact ends_eq ⟨rfl, rfl⟩

theorem t8 : TSound Try.prog T8 := by
  refine extU t7 62 (fn := Try.f62) rfl rfl (by decide) _ [0, 2] fun c _ => ?_
  conv => whnf
  exact ends_eq ⟨rfl, rfl⟩

theorem t9 : TSound Try.prog T9 := by
  refine extU t8 60 (fn := Try.f60) rfl rfl (by decide) _ [0, 2] fun c _ => ?_
  conv => whnf
  exact ends_eq ⟨rfl, rfl⟩


/-- How many characters of a class a text begins with. -/
def leadN (p : Int → Bool) (s : ByteArray) : Nat := (s.data.toList.takeWhile fun u : UInt8 => p ((u.toNat : Nat) : Int)).length

theorem takeWhile_len {α : Type} (P : α → Bool) (d : α) : ∀ (l : List α) (i : Nat), i ≤ l.length → (∀ j, j < i → P (l.getD j d) = true) → (i = l.length ∨ P (l.getD i d) = false) → (l.takeWhile P).length = i
  | [], i, h, _, _ => by simp at h; simp [h]
  | x :: l, 0, _, _, h => by
    rcases h with h | h
    · simp at h
    · simp at h; simp [h]
  | x :: l, i + 1, h, ha, hb => by
    have h0 : P x = true := by simpa using ha 0 (Nat.succ_pos i)
    have := takeWhile_len P d l i (by simpa using h) (fun j hj => by simpa using ha (j + 1) (by omega)) (by simpa using hb)
    simp [h0, this]

theorem takeWhile_le {α : Type} (P : α → Bool) : ∀ (l : List α), (l.takeWhile P).length ≤ l.length
  | [] => Nat.le_refl _
  | x :: l => by
    have := takeWhile_le P l
    simp only [List.takeWhile_cons]
    split
    · simp only [List.length_cons]; omega
    · simp

theorem size_list (s : ByteArray) : s.data.toList.length = s.size := rfl

theorem leadN_eq {p : Int → Bool} {s : ByteArray} (i : Nat) (h : i ≤ s.size) (ha : ∀ j : Nat, j < i → p (byteAt s j) = true) (hb : i = s.size ∨ p (byteAt s i) = false) : leadN p s = i :=
  takeWhile_len (fun u : UInt8 => p ((u.toNat : Nat) : Int)) 0 s.data.toList i h ha hb

theorem leadN_le (p : Int → Bool) (s : ByteArray) : leadN p s ≤ s.size := takeWhile_le _ _

abbrev fits (s : ByteArray) : Prop := s.size ≤ 1000000000

def cls (f : FuncId) : Option (Int → Bool) := match Nat.beq f 32, Nat.beq f 35, Nat.beq f 60, Nat.beq f 62, Nat.beq f 71 with
  | true, _, _, _, _ => some nameB
  | _, true, _, _, _ => some wordB
  | _, _, true, _, _ => some lineB
  | _, _, _, true, _ => some spaceB
  | _, _, _, _, true => some slashB
  | _, _, _, _, _ => none

theorem cls_cases {f : FuncId} {p : Int → Bool} (h : cls f = some p) : (f = 32 ∧ p = nameB) ∨ (f = 35 ∧ p = wordB) ∨ (f = 60 ∧ p = lineB) ∨ (f = 62 ∧ p = spaceB) ∨ (f = 71 ∧ p = slashB) := by
  unfold cls at h
  by_cases h1 : f = 32
  · subst h1; exact .inl ⟨rfl, (Option.some.inj h).symm⟩
  by_cases h2 : f = 35
  · subst h2; exact .inr (.inl ⟨rfl, (Option.some.inj h).symm⟩)
  by_cases h3 : f = 60
  · subst h3; exact .inr (.inr (.inl ⟨rfl, (Option.some.inj h).symm⟩))
  by_cases h4 : f = 62
  · subst h4; exact .inr (.inr (.inr (.inl ⟨rfl, (Option.some.inj h).symm⟩)))
  by_cases h5 : f = 71
  · subst h5; exact .inr (.inr (.inr (.inr ⟨rfl, (Option.some.inj h).symm⟩)))
  have e : ∀ n, ¬ f = n → Nat.beq f n = false := fun n hn => by
    cases hb : Nat.beq f n with
    | false => rfl
    | true => exact absurd (Nat.eq_of_beq_eq_true hb) hn
  rw [e _ h1, e _ h2, e _ h3, e _ h4, e _ h5] at h
  cases h

def saysLead : Says := fun args H => match args, H with
  | [.c (.p (.v (.string s))), .c (.p (.v (.func (.func f) a b)))], [] => match cls f, a.toList, b.toList with
    | some p, [], [] => some (some (fits s), .int .i64 (leadN p s), [])
    | _, _, _ => none
  | _, _ => none

def T10 : Table := ext T9 50 saysLead

theorem lead32 (s : ByteArray) (hs : fits s) :
    runF ⟨Try.prog, T9⟩ Try.f50 [0, 1, 4, 5, 7, 8, 9, 16] [] [.c (.p (.v (.string s))), .c (.p (.v (.func (.func 32) #[] #[])))] [] fun r' H'' => Ends r' H'' (.int .i64 (leadN nameB s)) [] := by
  conv => whnf
  refine loop_intro (σ := Nat) (fun i => [(0, XV.s (SV.str s)), (1, XV.s (.v (.func (.func 32) #[] #[]))), (4, XV.s (SV.int .i64 0)), (5, XV.s .none), (7, XV.s (.int .i64 s.size)), (8, XV.s (.int .i64 i)), (9, XV.s .none), (16, XV.s .none)]) (fun _ => [])
    (fun i => i ≤ s.size ∧ ∀ j : Nat, j < i → nameB (byteAt s j) = true) (fun i => s.size - i) 0 ?_ rfl ?_ fun i hI => ?_
  · repeat (first | exact LeL.nil | refine LeL.drop ?_ | refine LeL.same ?_)
  · exact ⟨Nat.zero_le _, fun j hj => absurd hj (Nat.not_lt_zero j)⟩
  conv => whnf
  refine cond_intro (fun h => ?_) (fun h => ?_)
  · have h' : i < s.size := by simpa using h
    conv => whnf
    refine ⟨by omega, ?_⟩
    conv => whnf
    refine cond_intro (fun h2 => ?_) (fun h2 => ?_)
    · have h3 : nameB (byteAt s i) = false := by simpa using h2
      conv => whnf
      refine ends_eq ⟨?_, rfl⟩
      rw [leadN_eq i hI.1 hI.2 (.inr h3)]
    · have h3 : nameB (byteAt s i) = true := by simpa using h2
      conv => whnf
      refine ⟨by unfold inI64; omega, ?_⟩
      conv => whnf
      refine head_intro (i + 1) ?_ rfl ?_ ?_
      · repeat (first | exact LeL.nil | refine LeL.drop ?_ | refine LeL.same ?_)
      · refine ⟨h', fun j hj => ?_⟩
        rcases Nat.lt_succ_iff_lt_or_eq.1 hj with h4 | rfl
        · exact hI.2 j h4
        · exact h3
      · omega
  · have h' : ¬ i < s.size := by simpa using h
    conv => whnf
    refine ends_eq ⟨?_, rfl⟩
    rw [leadN_eq s.size (Nat.le_refl _) (fun j hj => hI.2 j (by omega)) (.inl rfl)]

theorem lead35 (s : ByteArray) (hs : fits s) :
    runF ⟨Try.prog, T9⟩ Try.f50 [0, 1, 4, 5, 7, 8, 9, 16] [] [.c (.p (.v (.string s))), .c (.p (.v (.func (.func 35) #[] #[])))] [] fun r' H'' => Ends r' H'' (.int .i64 (leadN wordB s)) [] := by
  conv => whnf
  refine loop_intro (σ := Nat) (fun i => [(0, XV.s (SV.str s)), (1, XV.s (.v (.func (.func 35) #[] #[]))), (4, XV.s (SV.int .i64 0)), (5, XV.s .none), (7, XV.s (.int .i64 s.size)), (8, XV.s (.int .i64 i)), (9, XV.s .none), (16, XV.s .none)]) (fun _ => [])
    (fun i => i ≤ s.size ∧ ∀ j : Nat, j < i → wordB (byteAt s j) = true) (fun i => s.size - i) 0 ?_ rfl ?_ fun i hI => ?_
  · repeat (first | exact LeL.nil | refine LeL.drop ?_ | refine LeL.same ?_)
  · exact ⟨Nat.zero_le _, fun j hj => absurd hj (Nat.not_lt_zero j)⟩
  conv => whnf
  refine cond_intro (fun h => ?_) (fun h => ?_)
  · have h' : i < s.size := by simpa using h
    conv => whnf
    refine ⟨by omega, ?_⟩
    conv => whnf
    refine cond_intro (fun h2 => ?_) (fun h2 => ?_)
    · have h3 : wordB (byteAt s i) = false := by simpa using h2
      conv => whnf
      refine ends_eq ⟨?_, rfl⟩
      rw [leadN_eq i hI.1 hI.2 (.inr h3)]
    · have h3 : wordB (byteAt s i) = true := by simpa using h2
      conv => whnf
      refine ⟨by unfold inI64; omega, ?_⟩
      conv => whnf
      refine head_intro (i + 1) ?_ rfl ?_ ?_
      · repeat (first | exact LeL.nil | refine LeL.drop ?_ | refine LeL.same ?_)
      · refine ⟨h', fun j hj => ?_⟩
        rcases Nat.lt_succ_iff_lt_or_eq.1 hj with h4 | rfl
        · exact hI.2 j h4
        · exact h3
      · omega
  · have h' : ¬ i < s.size := by simpa using h
    conv => whnf
    refine ends_eq ⟨?_, rfl⟩
    rw [leadN_eq s.size (Nat.le_refl _) (fun j hj => hI.2 j (by omega)) (.inl rfl)]

theorem lead60 (s : ByteArray) (hs : fits s) :
    runF ⟨Try.prog, T9⟩ Try.f50 [0, 1, 4, 5, 7, 8, 9, 16] [] [.c (.p (.v (.string s))), .c (.p (.v (.func (.func 60) #[] #[])))] [] fun r' H'' => Ends r' H'' (.int .i64 (leadN lineB s)) [] := by
  conv => whnf
  refine loop_intro (σ := Nat) (fun i => [(0, XV.s (SV.str s)), (1, XV.s (.v (.func (.func 60) #[] #[]))), (4, XV.s (SV.int .i64 0)), (5, XV.s .none), (7, XV.s (.int .i64 s.size)), (8, XV.s (.int .i64 i)), (9, XV.s .none), (16, XV.s .none)]) (fun _ => [])
    (fun i => i ≤ s.size ∧ ∀ j : Nat, j < i → lineB (byteAt s j) = true) (fun i => s.size - i) 0 ?_ rfl ?_ fun i hI => ?_
  · repeat (first | exact LeL.nil | refine LeL.drop ?_ | refine LeL.same ?_)
  · exact ⟨Nat.zero_le _, fun j hj => absurd hj (Nat.not_lt_zero j)⟩
  conv => whnf
  refine cond_intro (fun h => ?_) (fun h => ?_)
  · have h' : i < s.size := by simpa using h
    conv => whnf
    refine ⟨by omega, ?_⟩
    conv => whnf
    refine cond_intro (fun h2 => ?_) (fun h2 => ?_)
    · have h3 : lineB (byteAt s i) = false := by simpa using h2
      conv => whnf
      refine ends_eq ⟨?_, rfl⟩
      rw [leadN_eq i hI.1 hI.2 (.inr h3)]
    · have h3 : lineB (byteAt s i) = true := by simpa using h2
      conv => whnf
      refine ⟨by unfold inI64; omega, ?_⟩
      conv => whnf
      refine head_intro (i + 1) ?_ rfl ?_ ?_
      · repeat (first | exact LeL.nil | refine LeL.drop ?_ | refine LeL.same ?_)
      · refine ⟨h', fun j hj => ?_⟩
        rcases Nat.lt_succ_iff_lt_or_eq.1 hj with h4 | rfl
        · exact hI.2 j h4
        · exact h3
      · omega
  · have h' : ¬ i < s.size := by simpa using h
    conv => whnf
    refine ends_eq ⟨?_, rfl⟩
    rw [leadN_eq s.size (Nat.le_refl _) (fun j hj => hI.2 j (by omega)) (.inl rfl)]

theorem lead62 (s : ByteArray) (hs : fits s) :
    runF ⟨Try.prog, T9⟩ Try.f50 [0, 1, 4, 5, 7, 8, 9, 16] [] [.c (.p (.v (.string s))), .c (.p (.v (.func (.func 62) #[] #[])))] [] fun r' H'' => Ends r' H'' (.int .i64 (leadN spaceB s)) [] := by
  conv => whnf
  refine loop_intro (σ := Nat) (fun i => [(0, XV.s (SV.str s)), (1, XV.s (.v (.func (.func 62) #[] #[]))), (4, XV.s (SV.int .i64 0)), (5, XV.s .none), (7, XV.s (.int .i64 s.size)), (8, XV.s (.int .i64 i)), (9, XV.s .none), (16, XV.s .none)]) (fun _ => [])
    (fun i => i ≤ s.size ∧ ∀ j : Nat, j < i → spaceB (byteAt s j) = true) (fun i => s.size - i) 0 ?_ rfl ?_ fun i hI => ?_
  · repeat (first | exact LeL.nil | refine LeL.drop ?_ | refine LeL.same ?_)
  · exact ⟨Nat.zero_le _, fun j hj => absurd hj (Nat.not_lt_zero j)⟩
  conv => whnf
  refine cond_intro (fun h => ?_) (fun h => ?_)
  · have h' : i < s.size := by simpa using h
    conv => whnf
    refine ⟨by omega, ?_⟩
    conv => whnf
    refine cond_intro (fun h2 => ?_) (fun h2 => ?_)
    · have h3 : spaceB (byteAt s i) = false := by simpa using h2
      conv => whnf
      refine ends_eq ⟨?_, rfl⟩
      rw [leadN_eq i hI.1 hI.2 (.inr h3)]
    · have h3 : spaceB (byteAt s i) = true := by simpa using h2
      conv => whnf
      refine ⟨by unfold inI64; omega, ?_⟩
      conv => whnf
      refine head_intro (i + 1) ?_ rfl ?_ ?_
      · repeat (first | exact LeL.nil | refine LeL.drop ?_ | refine LeL.same ?_)
      · refine ⟨h', fun j hj => ?_⟩
        rcases Nat.lt_succ_iff_lt_or_eq.1 hj with h4 | rfl
        · exact hI.2 j h4
        · exact h3
      · omega
  · have h' : ¬ i < s.size := by simpa using h
    conv => whnf
    refine ends_eq ⟨?_, rfl⟩
    rw [leadN_eq s.size (Nat.le_refl _) (fun j hj => hI.2 j (by omega)) (.inl rfl)]

theorem lead71 (s : ByteArray) (hs : fits s) :
    runF ⟨Try.prog, T9⟩ Try.f50 [0, 1, 4, 5, 7, 8, 9, 16] [] [.c (.p (.v (.string s))), .c (.p (.v (.func (.func 71) #[] #[])))] [] fun r' H'' => Ends r' H'' (.int .i64 (leadN slashB s)) [] := by
  conv => whnf
  refine loop_intro (σ := Nat) (fun i => [(0, XV.s (SV.str s)), (1, XV.s (.v (.func (.func 71) #[] #[]))), (4, XV.s (SV.int .i64 0)), (5, XV.s .none), (7, XV.s (.int .i64 s.size)), (8, XV.s (.int .i64 i)), (9, XV.s .none), (16, XV.s .none)]) (fun _ => [])
    (fun i => i ≤ s.size ∧ ∀ j : Nat, j < i → slashB (byteAt s j) = true) (fun i => s.size - i) 0 ?_ rfl ?_ fun i hI => ?_
  · repeat (first | exact LeL.nil | refine LeL.drop ?_ | refine LeL.same ?_)
  · exact ⟨Nat.zero_le _, fun j hj => absurd hj (Nat.not_lt_zero j)⟩
  conv => whnf
  refine cond_intro (fun h => ?_) (fun h => ?_)
  · have h' : i < s.size := by simpa using h
    conv => whnf
    refine ⟨by omega, ?_⟩
    conv => whnf
    refine cond_intro (fun h2 => ?_) (fun h2 => ?_)
    · have h3 : slashB (byteAt s i) = false := by simpa using h2
      conv => whnf
      refine ends_eq ⟨?_, rfl⟩
      rw [leadN_eq i hI.1 hI.2 (.inr h3)]
    · have h3 : slashB (byteAt s i) = true := by simpa using h2
      conv => whnf
      refine ⟨by unfold inI64; omega, ?_⟩
      conv => whnf
      refine head_intro (i + 1) ?_ rfl ?_ ?_
      · repeat (first | exact LeL.nil | refine LeL.drop ?_ | refine LeL.same ?_)
      · refine ⟨h', fun j hj => ?_⟩
        rcases Nat.lt_succ_iff_lt_or_eq.1 hj with h4 | rfl
        · exact hI.2 j h4
        · exact h3
      · omega
  · have h' : ¬ i < s.size := by simpa using h
    conv => whnf
    refine ends_eq ⟨?_, rfl⟩
    rw [leadN_eq s.size (Nat.le_refl _) (fun j hj => hI.2 j (by omega)) (.inl rfl)]

theorem t10 : TSound Try.prog T10 := by
  refine ext_run t9 (f := 50) (fn := Try.f50) rfl rfl [0, 1, 4, 5, 7, 8, 9, 16] fun args H p r H' hs hp => ?_
  unfold saysLead at hs
  split at hs
  · rename_i s f a b
    split at hs
    · rename_i q hc ha hb
      cases hs
      have ha' : a = #[] := by simpa using ha
      have hb' : b = #[] := by simpa using hb
      subst ha' hb'
      refine ⟨by show 2 ≤ _; decide, [], rfl, fun k hk => absurd hk (Nat.not_lt_zero k), ?_⟩
      rcases cls_cases hc with ⟨rfl, rfl⟩ | ⟨rfl, rfl⟩ | ⟨rfl, rfl⟩ | ⟨rfl, rfl⟩ | ⟨rfl, rfl⟩
      · exact lead32 s hp
      · exact lead35 s hp
      · exact lead60 s hp
      · exact lead62 s hp
      · exact lead71 s hp
    · cases hs
  · cases hs
end Go.Ab
