/- Package token: numbers, names, words, signs. -/
import Derived.Test.YtnlifjljmbfomaaTR1toR4
namespace Go.Ab
open Go.Proofs
set_option linter.unusedSectionVars false
set_option maxRecDepth 100000
variable [Base]

def prefB (s t : ByteArray) : Bool := decide ((t.size : Int) ≤ s.size) && decide (s.extract 0 t.size = t)
def trimP (s t : ByteArray) : ByteArray := if prefB s t then s.extract t.size s.size else s
def cutPre (s t : ByteArray) : SV := .tup [.c (.str (trimP s t)), .c (.bool (prefB s t))]

def T34 : Table := ext T33 97 (saysSS fun s t => (none, .bool (prefB s t)))
def T35 : Table := T34

def T36 : Table := ext T35 88 (saysSS fun s t => (none, cutPre s t))
def T37 : Table := ext T36 74 (saysSS fun s t => (none, cutPre s t))

theorem t34 : TSound Try.prog T34 := by
  refine extSS t33 97 (fn := Try.f97) rfl rfl (by decide) _ [0, 1, 4] fun s t _ => ?_
  conv => whnf
  refine ⟨fun h => ?_, ?_⟩
  · simp [lit] at h; omega
  conv => whnf
  exact ends_eq ⟨rfl, rfl⟩

theorem t35 : TSound Try.prog T35 := t34

theorem t36 : TSound Try.prog T36 := by
  refine extSS t35 88 (fn := Try.f88) rfl rfl (by decide) _ [0, 1, 4, 5, 9] fun s t _ => ?_
  conv => whnf
  refine cond_intro (fun h => ?_) (fun h => ?_)
  · have h' : prefB s t = false := by simpa using h
    conv => whnf
    refine ends_eq ⟨?_, rfl⟩
    simp only [cutPre, trimP, h', Bool.false_eq_true, if_false]
  · have h' : prefB s t = true := by simpa using h
    have h2 : (t.size : Int) ≤ s.size := by simp [prefB] at h'; omega
    conv => whnf
    refine ⟨by omega, ?_⟩
    conv => whnf
    refine ends_eq ⟨?_, rfl⟩
    simp only [cutPre, trimP, h', if_true]
    rfl

theorem t37 : TSound Try.prog T37 := by
  refine extSS t36 74 (fn := Try.f74) rfl rfl (by decide) _ [0, 1, 4, 5] fun s t _ => ?_
  conv => whnf
  exact ends_eq ⟨rfl, rfl⟩

/-! Numbers. -/
def splitD (s : ByteArray) : ByteArray := if prefB s ⟨#[48, 120]⟩ then trimP s ⟨#[48, 120]⟩ else s
def splitB (s : ByteArray) : Int := if prefB s ⟨#[48, 120]⟩ then 16 else if byteAt s 0 = 48 then 8 else 10

def compGo (s : ByteArray) (b : Int) : Nat → Nat → Int → Int × Int
  | 0, _, v => if 4294967295 < v then (0, 2) else (v, 0)
  | k + 1, i, v => if b ≤ digitV (byteAt s i) then (0, 6) else compGo s b k (i + 1) (if 4294967296 < v * b + digitV (byteAt s i) then 4294967296 else v * b + digitV (byteAt s i))

def compV (s : ByteArray) (b : Int) : Int × Int := if s = ⟨#[]⟩ then (0, 6) else compGo s b s.size 0 0

def numV (s : ByteArray) : TokV × Int × Int :=
  if (compV (splitD (s.extract 0 (leadN wordB s))) (splitB (s.extract 0 (leadN wordB s)))).2 = 0 then
    ({ kind := 2, value := (compV (splitD (s.extract 0 (leadN wordB s))) (splitB (s.extract 0 (leadN wordB s)))).1 }, leadN wordB s, 0)
  else ({}, 0, (compV (splitD (s.extract 0 (leadN wordB s))) (splitB (s.extract 0 (leadN wordB s)))).2)

def nameV (s : ByteArray) : TokV × Int × Int :=
  if decide ((leadN nameB s : Int) = s.size) || !decide (byteAt s (leadN nameB s) = 58) then ({ kind := 1, text := s.extract 0 (leadN nameB s) }, leadN nameB s, 0)
  else if (leadN wordB s : Int) < leadN nameB s then ({}, 0, 6)
  else ({ kind := 5, text := s.extract 0 (leadN nameB s) }, leadN nameB s + 1, 0)

def wordV (s : ByteArray) : Int :=
  if !decide (byteAt s 0 = 47) then 0
  else if decide (1 + (leadN slashB (s.extract 1 s.size) : Int) = 1) || decide (1 + (leadN slashB (s.extract 1 s.size) : Int) = s.size) || !decide (byteAt s (1 + (leadN slashB (s.extract 1 s.size) : Int)) = 47) then 0
  else 1 + (leadN slashB (s.extract 1 s.size) : Int) + 1

def twoL : List ByteArray := [⟨#[60, 60]⟩, ⟨#[62, 62]⟩, ⟨#[60, 61]⟩, ⟨#[62, 61]⟩, ⟨#[61, 61]⟩, ⟨#[33, 61]⟩, ⟨#[38, 38]⟩, ⟨#[124, 124]⟩]
def oneS : ByteArray := ⟨#[123, 125, 40, 41, 60, 62, 91, 93, 59, 61, 44, 43, 45, 42, 47, 37, 38, 124, 94, 126, 33, 63, 58]⟩

def signV (s : ByteArray) : Int :=
  if decide (1 < (s.size : Int)) && twoL.any (fun t => decide (s.extract 0 2 = t)) then 2
  else if 0 ≤ idxB oneS (byteAt s 0) then 1 else 0

def numSV (x : Int × Int) : SV := .tup [.c (.int .i64 x.1), .c (.int .i64 x.2)]

def T38 : Table := T37

def T39 : Table := T38

def T40 : Table := T39

def T41 : Table := T40

def T42 : Table := T41

def T43 : Table := T42

theorem t38 : TSound Try.prog T38 := t37

theorem t39 : TSound Try.prog T39 := t38

theorem splitB_range (s : ByteArray) : 1 ≤ splitB s ∧ splitB s ≤ 16 := by
  unfold splitB
  split
  · omega
  · split <;> omega

theorem extract_size_le (s : ByteArray) (a b : Nat) : (s.extract a b).size ≤ s.size := by
  rw [ByteArray.size_extract]; omega

theorem trimP_le (s t : ByteArray) : (trimP s t).size ≤ s.size := by
  unfold trimP
  split
  · exact extract_size_le _ _ _
  · exact Nat.le_refl _

theorem splitD_le (s : ByteArray) : (splitD s).size ≤ s.size := by
  unfold splitD
  split
  · exact trimP_le _ _
  · exact Nat.le_refl _

theorem t40 : TSound Try.prog T40 := t39

theorem t41 : TSound Try.prog T41 := t40

theorem t42 : TSound Try.prog T42 := t41

theorem signV_two {s : ByteArray} (h : 1 < (s.size : Int)) (t : ByteArray) (ht : t ∈ twoL) (he : s.extract 0 2 = t) : signV s = 2 := by
  unfold signV
  rw [if_pos]
  simp only [decide_eq_true h, Bool.true_and, List.any_eq_true]
  exact ⟨t, ht, by simpa using he⟩

theorem signV_one {s : ByteArray} (h : ¬ 1 < (s.size : Int) ∨ ∀ t ∈ twoL, ¬ s.extract 0 2 = t) : signV s = if 0 ≤ idxB oneS (byteAt s 0) then 1 else 0 := by
  unfold signV
  rw [if_neg]
  rcases h with h | h
  · simp only [decide_eq_false h, Bool.false_and]
    decide
  · rw [Bool.and_eq_true, List.any_eq_true]
    rintro ⟨_, t, ht, he⟩
    exact h t ht (by simpa using he)

theorem t43 : TSound Try.prog T43 := t42

end Go.Ab
