/- Reading a text, as a function on lists of bytes. -/
import Derived.Test.YteidakoieemlgaaGreatTR6toG3
import Derived.Test.YteidakoieemlgaaGreatTX3toS0
namespace Go.Ab
open Go.Proofs
set_option linter.unusedSectionVars false
variable [Glob]

def tw (p : Int → Bool) (l : List UInt8) : List UInt8 := l.takeWhile fun u : UInt8 => p ((u.toNat : Nat) : Int)
def dw (p : Int → Bool) (l : List UInt8) : List UInt8 := l.dropWhile fun u : UInt8 => p ((u.toNat : Nat) : Int)

theorem leadN_B (p : Int → Bool) (l : List UInt8) : leadN p (B l) = (tw p l).length := rfl
theorem tw_dw (p : Int → Bool) (l : List UInt8) : tw p l ++ dw p l = l := List.takeWhile_append_dropWhile
theorem take_tw (p : Int → Bool) (l : List UInt8) : l.take (tw p l).length = tw p l := by
  have h := List.take_left (l₁ := tw p l) (l₂ := dw p l)
  rwa [tw_dw] at h
theorem drop_tw (p : Int → Bool) (l : List UInt8) : l.drop (tw p l).length = dw p l := by
  have h := List.drop_left (l₁ := tw p l) (l₂ := dw p l)
  rwa [tw_dw] at h
theorem tw_cons_pos {p : Int → Bool} {a : UInt8} {l : List UInt8} (h : p ((a.toNat : Nat) : Int) = true) : tw p (a :: l) = a :: tw p l := List.takeWhile_cons_of_pos (p := fun u : UInt8 => p ((u.toNat : Nat) : Int)) h
theorem tw_cons_neg {p : Int → Bool} {a : UInt8} {l : List UInt8} (h : p ((a.toNat : Nat) : Int) = false) : tw p (a :: l) = [] := List.takeWhile_cons_of_neg (p := fun u : UInt8 => p ((u.toNat : Nat) : Int)) (by rw [h]; decide)
theorem dw_cons_pos {p : Int → Bool} {a : UInt8} {l : List UInt8} (h : p ((a.toNat : Nat) : Int) = true) : dw p (a :: l) = dw p l := List.dropWhile_cons_of_pos (p := fun u : UInt8 => p ((u.toNat : Nat) : Int)) h
theorem dw_cons_neg {p : Int → Bool} {a : UInt8} {l : List UInt8} (h : p ((a.toNat : Nat) : Int) = false) : dw p (a :: l) = a :: l := List.dropWhile_cons_of_neg (p := fun u : UInt8 => p ((u.toNat : Nat) : Int)) (by rw [h]; decide)
theorem tw_len (p : Int → Bool) (l : List UInt8) : (tw p l).length + (dw p l).length = l.length := by
  have h := congrArg List.length (tw_dw p l)
  simpa using h
theorem byteAt_tw (p : Int → Bool) (l : List UInt8) : byteAt (B l) ((tw p l).length : Int) = (((dw p l).getD 0 0).toNat : Int) := by
  rw [byteAt_B, ← drop_tw]
  simp

theorem pref2 (x y : UInt8) (l : List UInt8) : prefB (B l) ⟨#[x, y]⟩ = (match l with | a :: b :: _ => decide (a = x) && decide (b = y) | _ => false) := by
  unfold prefB
  have h2 : (ByteArray.mk #[x, y]).size = 2 := rfl
  rw [h2, B_extract, show (ByteArray.mk #[x, y]) = B [x, y] from rfl, B_eq, B_size]
  match l with
  | [] => simp
  | [a] => simp
  | a :: b :: r =>
    have h3 : (((2 : Nat) : Int) ≤ ((a :: b :: r).length : Nat)) := by simp only [List.length_cons]; omega
    rw [decide_eq_true h3]
    simp

/-- Where the end of a comment is. -/
def endAt : List UInt8 → Option Nat
  | [] => none
  | a :: r => if a = 42 ∧ r.head? = some 47 then some 0 else (endAt r).map (· + 1)

theorem index_end : ∀ l : List UInt8, Lib.index l [42, 47] = (match endAt l with | some n => (n : Int) | none => -1)
  | [] => rfl
  | a :: r => by
    have ih := index_end r
    unfold Lib.index endAt
    rw [ih]
    by_cases h : a = 42 ∧ r.head? = some 47
    · rw [if_pos h]
      obtain ⟨rfl, h2⟩ := h
      cases r with
      | nil => cases h2
      | cons b r => cases h2; rfl
    · rw [if_neg h, if_neg]
      · cases endAt r with
        | none => rfl
        | some n =>
          simp only [Option.map_some]
          rw [if_neg]
          · simp
          · simp only [beq_iff_eq]; omega
      · intro h2
        apply h
        cases r with
        | nil => simp [List.isPrefixOf] at h2
        | cons b r =>
          simp [List.isPrefixOf] at h2
          exact ⟨h2.1.symm, by rw [List.head?_cons, ← h2.2]⟩

/-- What separates: so many bytes, and an error. -/
def sepL (l : List UInt8) : Nat × Int :=
  if l.head? = some 47 ∧ l.tail.head? = some 47 then ((tw lineB l).length, 0)
  else if l.head? = some 47 ∧ l.tail.head? = some 42 then (match endAt (l.drop 2) with | some n => (n + 4, 0) | none => (0, 21))
  else ((tw spaceB l).length, 0)

theorem pref2' (x y : UInt8) (l : List UInt8) : prefB (B l) ⟨#[x, y]⟩ = decide (l.head? = some x ∧ l.tail.head? = some y) := by
  rw [pref2]
  match l with
  | [] => simp
  | [a] => simp
  | a :: b :: r => simp

theorem sepV_L (l : List UInt8) : sepV (B l) = (((sepL l).1 : Int), (sepL l).2) := by
  unfold sepV sepL
  rw [pref2', pref2']
  by_cases h1 : l.head? = some 47 ∧ l.tail.head? = some 47
  · rw [if_pos h1, if_pos (decide_eq_true h1)]; rfl
  · rw [if_neg h1, if_neg (by rw [decide_eq_false h1]; decide)]
    by_cases h2 : l.head? = some 47 ∧ l.tail.head? = some 42
    · rw [if_pos h2, if_pos (decide_eq_true h2)]
      have e : indexV ((B l).extract 2 (B l).size) ⟨#[42, 47]⟩ = (match endAt (l.drop 2) with | some n => (n : Int) | none => -1) := by
        rw [B_extract, B_size, List.take_of_length_le (Nat.le_refl _)]
        exact index_end _
      rw [e]
      cases endAt (l.drop 2) with
      | none => rfl
      | some n =>
        simp only
        rw [if_neg (by omega)]
        rfl
    · rw [if_neg h2, if_neg (by rw [decide_eq_false h2]; decide)]; rfl

/-! One token. -/
def nameLx (l : List UInt8) : TokV × Nat × Int :=
  if (dw nameB l).head? = some 58 then (if (tw wordB l).length < (tw nameB l).length then ({}, 0, 6) else ({ kind := 5, text := B (tw nameB l) }, (tw nameB l).length + 1, 0))
  else ({ kind := 1, text := B (tw nameB l) }, (tw nameB l).length, 0)

def fitsL (x : TokV × Nat × Int) : TokV × Int × Int := (x.1, (x.2.1 : Int), x.2.2)

theorem head_byte {l : List UInt8} (c : UInt8) (hc : c ≠ 0) : decide ((((l.getD 0 0).toNat : Nat) : Int) = ((c.toNat : Nat) : Int)) = decide (l.head? = some c) := by
  cases l with
  | nil =>
    simp only [List.getD_nil, List.head?_nil, reduceCtorEq, decide_false]
    apply decide_eq_false
    intro h
    apply hc
    apply UInt8.toNat_inj.1
    have : (0 : UInt8).toNat = c.toNat := by exact_mod_cast h
    exact this.symm
  | cons a l =>
    simp only [List.getD_cons_zero, List.head?_cons, Option.some.injEq]
    rw [decide_eq_decide]
    rw [Int.ofNat_inj, UInt8.toNat_inj]

theorem nameV_L (l : List UInt8) : nameV (B l) = fitsL (nameLx l) := by
  unfold nameV nameLx
  rw [leadN_B, leadN_B, byteAt_tw, B_size, B_extract, List.drop_zero, take_tw]
  have h58 : decide (((((dw nameB l).getD 0 0).toNat : Nat) : Int) = 58) = decide ((dw nameB l).head? = some 58) := head_byte 58 (by decide)
  have hl := tw_len nameB l
  by_cases h : (dw nameB l).head? = some 58
  · have hne : decide (((tw nameB l).length : Int) = l.length) = false := by
      apply decide_eq_false
      intro h2
      have : (dw nameB l).length = 0 := by omega
      rw [List.length_eq_zero_iff] at this
      rw [this] at h
      cases h
    rw [h58, decide_eq_true h, hne, if_neg (by decide), if_pos h]
    by_cases h2 : (tw wordB l).length < (tw nameB l).length
    · rw [if_pos h2, if_pos (by omega)]; rfl
    · rw [if_neg h2, if_neg (by omega)]; rfl
  · rw [h58, decide_eq_false h, if_neg h, if_pos (by simp)]; rfl

/-- Digits, and their base. -/
def splitL (l : List UInt8) : List UInt8 × Int :=
  if l.head? = some 48 ∧ l.tail.head? = some 120 then (l.drop 2, 16) else if l.head? = some 48 then (l, 8) else (l, 10)

def compLgo (b : Int) : List UInt8 → Int → Int × Int
  | [], v => if 4294967295 < v then (0, 2) else (v, 0)
  | d :: r, v => if b ≤ digitV ((d.toNat : Nat) : Int) then (0, 6) else compLgo b r (if 4294967296 < v * b + digitV ((d.toNat : Nat) : Int) then 4294967296 else v * b + digitV ((d.toNat : Nat) : Int))

def compL (l : List UInt8) (b : Int) : Int × Int := if l = [] then (0, 6) else compLgo b l 0

theorem compGo_L (b : Int) : ∀ (r p : List UInt8) (v : Int), compGo (B (p ++ r)) b r.length p.length v = compLgo b r v
  | [], p, v => rfl
  | d :: r, p, v => by
    have ih := compGo_L b r (p ++ [d])
    have e : p ++ [d] ++ r = p ++ d :: r := by simp
    have e2 : (p ++ [d]).length = p.length + 1 := by simp
    rw [e, e2] at ih
    simp only [compLgo, List.length_cons, compGo]
    have hb : byteAt (B (p ++ d :: r)) (p.length : Int) = ((d.toNat : Nat) : Int) := by
      rw [byteAt_B]; simp
    rw [hb, ih]

theorem compV_L (l : List UInt8) (b : Int) : compV (B l) b = compL l b := by
  unfold compV compL
  by_cases h : l = []
  · rw [if_pos h, if_pos (B_inj.2 h)]
  · rw [if_neg h, if_neg (fun h2 => h (B_inj.1 h2))]
    exact compGo_L b l [] 0

def numLx (l : List UInt8) : TokV × Nat × Int :=
  if (compL (splitL (tw wordB l)).1 (splitL (tw wordB l)).2).2 = 0 then ({ kind := 2, value := (compL (splitL (tw wordB l)).1 (splitL (tw wordB l)).2).1 }, (tw wordB l).length, 0)
  else ({}, 0, (compL (splitL (tw wordB l)).1 (splitL (tw wordB l)).2).2)

theorem split_L (l : List UInt8) : splitD (B l) = B (splitL l).1 ∧ splitB (B l) = (splitL l).2 := by
  have h48 : decide (byteAt (B l) 0 = 48) = decide (l.head? = some 48) := head_byte 48 (by decide)
  have hp : prefB (B l) ⟨#[48, 120]⟩ = decide (l.head? = some 48 ∧ l.tail.head? = some 120) := pref2' _ _ _
  by_cases h : l.head? = some 48 ∧ l.tail.head? = some 120
  · have hp' := hp.trans (decide_eq_true h)
    refine ⟨?_, ?_⟩
    · unfold splitD splitL trimP
      rw [if_pos hp', if_pos hp', if_pos h, B_extract]
      show B (List.drop 2 (List.take l.length l)) = B (List.drop 2 l)
      rw [List.take_of_length_le (Nat.le_refl _)]
    · unfold splitB splitL
      rw [if_pos hp', if_pos h]
  · have hp' : ¬ prefB (B l) ⟨#[48, 120]⟩ = true := by rw [hp, decide_eq_false h]; decide
    refine ⟨?_, ?_⟩
    · unfold splitD splitL
      rw [if_neg hp', if_neg h]
      split <;> rfl
    · unfold splitB splitL
      rw [if_neg hp', if_neg h]
      by_cases h2 : l.head? = some 48
      · rw [if_pos h2, if_pos (of_decide_eq_true (h48.trans (decide_eq_true h2)))]
      · rw [if_neg h2, if_neg (of_decide_eq_false (h48.trans (decide_eq_false h2)))]

theorem numV_L (l : List UInt8) : numV (B l) = fitsL (numLx l) := by
  unfold numV numLx
  rw [leadN_B, B_extract, List.drop_zero, take_tw, (split_L _).1, (split_L _).2, compV_L]
  split <;> rfl

/-! Strings. -/
def escL (l : List UInt8) : Int × Int × Int := escV (B l)

def strL : Nat → List UInt8 → List Int → Nat → TokV × Nat × Int
  | 0, _, _, _ => ({}, 0, 21)
  | k + 1, l, out, n => match l with
    | [] => ({}, 0, 21)
    | a :: r => if a = 10 then ({}, 0, 21) else if a = 34 then ({ kind := 3, text := bytesOf out }, n + 1, 0)
      else if a = 92 then (if (escL l).2.2 = 0 then strL k (l.drop (escL l).2.1.toNat) (out ++ [(escL l).1]) (n + (escL l).2.1.toNat) else ({}, 0, (escL l).2.2))
      else strL k r (out ++ [((a.toNat : Nat) : Int)]) (n + 1)

theorem byte_dec (a : UInt8) (c : UInt8) : decide (((a.toNat : Nat) : Int) = ((c.toNat : Nat) : Int)) = decide (a = c) := by
  rw [decide_eq_decide, Int.ofNat_inj, UInt8.toNat_inj]

theorem byte_iff (a c : UInt8) : (((a.toNat : Nat) : Int) = ((c.toNat : Nat) : Int)) = (a = c) := by
  rw [Int.ofNat_inj, UInt8.toNat_inj]

theorem escV_size (s : ByteArray) (h : (escV s).2.2 = 0) : (escV s).2.1 ≤ s.size := by
  revert h
  have hend : ∀ {i : Int}, ¬ endB s i = true → i < s.size := fun {i} h => (end_lt (by simpa using h)).1
  unfold escV
  split
  · intro h; simp at h
  rename_i h1
  have hl := hend h1
  split
  · intro _; simp only; omega
  split
  · intro _; simp only; omega
  split
  · intro _; simp only; omega
  split
  · intro _; simp only; omega
  split
  · unfold escNum
    simp only [escGo]
    split
    · intro h; simp at h
    split
    · intro h; simp at h
    split
    · intro h; simp at h
    rename_i h2
    have hl2 := hend h2
    split
    · intro h; simp at h
    · intro _; simp only; omega
  · intro h; simp at h

theorem strGo_L : ∀ (k : Nat) (p l : List UInt8) (out : List Int), strGo (B (p ++ l)) k (p.length : Int) out = fitsL (strL k l out p.length)
  | 0, p, l, out => rfl
  | k + 1, p, l, out => by
    have hb : byteAt (B (p ++ l)) (p.length : Int) = (((l.getD 0 0).toNat : Nat) : Int) := by
      rw [byteAt_B, List.getD_eq_getElem?_getD, List.getD_eq_getElem?_getD, List.getElem?_append_right (Nat.le_refl _), Nat.sub_self]
    have hx : (B (p ++ l)).extract (p.length : Int).toNat (B (p ++ l)).size = B l := by
      rw [B_extract, B_size, List.take_of_length_le (Nat.le_refl _)]
      simp
    simp only [strGo, strL]
    rw [hx, hb]
    cases l with
    | nil =>
      have : endB (B (p ++ [])) (p.length : Int) = true := by
        unfold endB
        rw [B_size, List.append_nil, decide_eq_true (Int.le_refl _), Bool.true_or]
      rw [if_pos this]
      rfl
    | cons a r =>
      have hend : endB (B (p ++ a :: r)) (p.length : Int) = decide (a = 10) := by
        unfold endB
        rw [hb, B_size, decide_eq_false (by simp only [List.length_append, List.length_cons]; omega), Bool.false_or]
        exact byte_dec a 10
      rw [hend]
      simp only [List.getD_cons_zero]
      have e34 : ((((a.toNat : Nat) : Int)) = 34) ↔ (a = 34) := iff_of_eq (byte_iff a 34)
      have e92 : ((((a.toNat : Nat) : Int)) = 92) ↔ (a = 92) := iff_of_eq (byte_iff a 92)
      by_cases h1 : a = 10
      · rw [if_pos (decide_eq_true h1), if_pos h1]; rfl
      rw [if_neg (by rw [decide_eq_false h1]; decide), if_neg h1]
      by_cases h2 : a = 34
      · rw [if_pos (e34.2 h2), if_pos h2]; rfl
      rw [if_neg (fun h => h2 (e34.1 h)), if_neg h2]
      by_cases h3 : a = 92
      · rw [if_pos (e92.2 h3), if_pos h3]
        show (if (escL (a :: r)).2.2 = 0 then strGo _ k (_ + (escL (a :: r)).2.1) (out ++ [(escL (a :: r)).1]) else _) = _
        by_cases h4 : (escL (a :: r)).2.2 = 0
        · rw [if_pos h4, if_pos h4]
          have hn' : (escL (a :: r)).2.1 = 2 ∨ (escL (a :: r)).2.1 = 4 := escV_n _ h4
          have hsz : (escL (a :: r)).2.1 ≤ (a :: r).length := escV_size _ h4
          have ih := strGo_L k (p ++ (a :: r).take (escL (a :: r)).2.1.toNat) ((a :: r).drop (escL (a :: r)).2.1.toNat) (out ++ [(escL (a :: r)).1])
          rw [List.append_assoc, List.take_append_drop] at ih
          have hl : (p ++ (a :: r).take (escL (a :: r)).2.1.toNat).length = p.length + (escL (a :: r)).2.1.toNat := by
            rw [List.length_append, List.length_take]; omega
          rw [hl] at ih
          rw [← ih]
          congr 1
          omega
        · rw [if_neg h4, if_neg h4]; rfl
      rw [if_neg (fun h => h3 (e92.1 h)), if_neg h3]
      have ih := strGo_L k (p ++ [a]) r (out ++ [((a.toNat : Nat) : Int)])
      rw [List.append_assoc, List.length_append] at ih
      exact ih
end Go.Ab

/- Reading a text, as a function on lists of bytes: tokens and positions. -/
namespace Go.Ab
open Go.Proofs
set_option linter.unusedSectionVars false
variable [Glob]

abbrev bi (u : UInt8) : Int := ((u.toNat : Nat) : Int)

def wordL (l : List UInt8) : Nat :=
  if l.head? = some 47 ∧ tw slashB l.tail ≠ [] ∧ (dw slashB l.tail).head? = some 47 then (tw slashB l.tail).length + 2 else 0

theorem B_tail (a : UInt8) (r : List UInt8) : (B (a :: r)).extract 1 (B (a :: r)).size = B r := by
  rw [B_extract, B_size, List.take_of_length_le (Nat.le_refl _)]; rfl

theorem wordV_L (a : UInt8) (r : List UInt8) : wordV (B (a :: r)) = (wordL (a :: r) : Int) := by
  unfold wordV wordL
  rw [B_tail, leadN_B, List.tail_cons]
  have h47 : decide (byteAt (B (a :: r)) 0 = 47) = decide (a = 47) := byte_dec a 47
  have hb : byteAt (B (a :: r)) (1 + ((tw slashB r).length : Int)) = byteAt (B r) ((tw slashB r).length : Int) := by
    rw [show (1 + ((tw slashB r).length : Int)) = (((tw slashB r).length + 1 : Nat) : Int) by omega]
    exact byteAt_succ _ _ _
  have hb2 : decide (byteAt (B (a :: r)) (1 + ((tw slashB r).length : Int)) = 47) = decide ((dw slashB r).head? = some 47) := by
    rw [hb, byteAt_tw]; exact head_byte 47 (by decide)
  have hl := tw_len slashB r
  rw [h47, hb2]
  by_cases h1 : a = 47
  · rw [decide_eq_true h1, if_neg (by decide)]
    by_cases h2 : tw slashB r = []
    · rw [if_pos (by rw [h2]; simp), if_neg (fun h => h.2.1 h2)]; rfl
    · have hpos : 0 < (tw slashB r).length := List.length_pos_iff.2 h2
      rw [decide_eq_false (p := 1 + ((tw slashB r).length : Int) = 1) (by omega), Bool.false_or]
      by_cases h3 : (dw slashB r).head? = some 47
      · have h4 : 0 < (dw slashB r).length := by
          cases hd : dw slashB r with
          | nil => rw [hd] at h3; cases h3
          | cons x y => simp
        have h5 : ¬ (1 + ((tw slashB r).length : Int) = ((B (a :: r)).size : Nat)) := by rw [B_size]; simp only [List.length_cons]; omega
        rw [decide_eq_false h5, decide_eq_true h3, if_neg (by decide), if_pos ⟨by rw [h1]; rfl, h2, h3⟩]
        omega
      · rw [decide_eq_false h3, if_pos (by simp), if_neg (fun h => h3 h.2.2)]; rfl
  · rw [decide_eq_false h1, if_pos (by decide), if_neg]
    · rfl
    · intro h; apply h1; have := h.1; simpa using this

def twoP (a b : UInt8) : Bool := [(60, 60), (62, 62), (60, 61), (62, 61), (61, 61), (33, 61), (38, 38), (124, 124)].contains (a, b)
def oneP (a : UInt8) : Bool := ([123, 125, 40, 41, 60, 62, 91, 93, 59, 61, 44, 43, 45, 42, 47, 37, 38, 124, 94, 126, 33, 63, 58] : List UInt8).contains a

def twoH (a : UInt8) (r : List UInt8) : Bool := match r with | b :: _ => twoP a b | [] => false

def signL (a : UInt8) (r : List UInt8) : Nat := if twoH a r = true then 2 else if oneP a = true then 1 else 0

theorem idx_mem : ∀ (l : List UInt8) (c : UInt8), (0 ≤ Lib.indexByte l c) = (l.contains c = true)
  | [], c => by simp [Lib.indexByte]
  | b :: l, c => by
    have ih := idx_mem l c
    have hge := Lib.indexByte_ge l c
    unfold Lib.indexByte
    rw [List.contains_cons]
    by_cases h : b = c
    · subst h; simp
    · have h1 : (b == c) = false := by simpa using h
      have h2 : (c == b) = false := by simpa using fun h' : c = b => h h'.symm
      rw [h1, h2, Bool.false_or, ← ih]
      by_cases h3 : Lib.indexByte l c = -1
      · simp [h3]
      · simp only [Bool.false_eq_true, if_false]
        rw [if_neg (by simpa using h3)]
        apply propext
        constructor <;> intro _ <;> omega

theorem pick2 (a b : UInt8) (l : List UInt8) (x y : UInt8) : decide ((B (a :: b :: l)).extract 0 2 = ⟨#[x, y]⟩) = ((a, b) == (x, y)) := by
  rw [B_extract, show (ByteArray.mk #[x, y]) = B [x, y] from rfl, B_eq]
  rw [Bool.eq_iff_iff]
  simp

theorem signV_L (a : UInt8) (r : List UInt8) : signV (B (a :: r)) = (signL a r : Int) := by
  unfold signV signL
  have h0 : (0 ≤ idxB oneS (byteAt (B (a :: r)) 0)) = (oneP a = true) := by
    unfold idxB
    rw [idx_mem]
    have : (byteAt (B (a :: r)) 0).toNat.toUInt8 = a := by rw [byteAt_cons]; exact UInt8.ofNat_toNat
    rw [this]; rfl
  have h1 : (decide (1 < (((B (a :: r)).size : Nat) : Int)) && twoL.any (fun t => decide ((B (a :: r)).extract 0 2 = t))) = twoH a r := by
    cases r with
    | nil => simp [B_size, twoH]
    | cons b r =>
      rw [decide_eq_true (by rw [B_size]; simp only [List.length_cons]; omega), Bool.true_and]
      unfold twoL twoH twoP
      simp only [List.any_cons, List.any_nil, pick2, List.contains_cons, List.contains_nil]
  rw [h1]
  by_cases h2 : twoH a r = true
  · rw [if_pos h2, if_pos h2]; rfl
  · rw [if_neg h2, if_neg h2]
    by_cases h3 : oneP a = true
    · rw [if_pos h3, if_pos (h0 ▸ h3)]; rfl
    · rw [if_neg h3, if_neg (fun h => h3 (h0 ▸ h))]; rfl

def refH (a : UInt8) (r : List UInt8) : Bool := decide (a = 38) && (match r with | b :: _ => firstB (bi b) | [] => false)

def cutC (a : UInt8) (r : List UInt8) : TokV × Nat × Int :=
    if (firstB (bi a) || decide (a = 35)) = true then nameLx (a :: r)
    else if digitB (bi a) = true then numLx (a :: r)
    else if a = 34 then strL (r.length + 1) r [] 1
    else if refH a r = true then ({ kind := 6, text := B (tw wordB r) }, (tw wordB r).length + 1, 0)
    else if 0 < wordL (a :: r) then ({ kind := 7, text := B (tw slashB r) }, wordL (a :: r), 0)
    else if 0 < signL a r then ({ kind := 4, text := B ((a :: r).take (signL a r)) }, signL a r, 0)
    else ({}, 0, 20)

def cutL : List UInt8 → TokV × Nat × Int
  | [] => ({ kind := 8 }, 0, 0)
  | a :: r => cutC a r

theorem cutV_L (l : List UInt8) : cutV (B l) = fitsL (cutL l) := by
  cases l with
  | nil => rfl
  | cons a r =>
    show cutV (B (a :: r)) = fitsL (cutC a r)
    unfold cutV cutC
    have hne : ¬ B (a :: r) = ⟨#[]⟩ := fun h => by have := B_inj.1 (show B (a :: r) = B [] from h); cases this
    have e35 : decide (byteAt (B (a :: r)) 0 = 35) = decide (a = 35) := byte_dec a 35
    have e34 : (((a.toNat : Nat) : Int) = 34) ↔ (a = 34) := iff_of_eq (byte_iff a 34)
    have e38 : decide (byteAt (B (a :: r)) 0 = 38) = decide (a = 38) := byte_dec a 38
    rw [if_neg hne, e35, e38, byteAt_cons]
    by_cases h1 : (firstB (bi a) || decide (a = 35)) = true
    · rw [if_pos h1, if_pos h1]; exact nameV_L _
    rw [if_neg h1, if_neg h1]
    by_cases h2 : digitB (bi a) = true
    · rw [if_pos h2, if_pos h2]; exact numV_L _
    rw [if_neg h2, if_neg h2]
    by_cases h3 : a = 34
    · rw [if_pos (e34.2 h3), if_pos h3]
      exact strGo_L (r.length + 1) [a] r []
    rw [if_neg (fun h => h3 (e34.1 h)), if_neg h3]
    have hr : (decide (a = 38) && decide (1 < (((B (a :: r)).size : Nat) : Int)) && firstB (byteAt (B (a :: r)) 1)) = refH a r := by
      unfold refH
      cases r with
      | nil => simp [B_size]
      | cons b r =>
        rw [decide_eq_true (p := (1 < (((B (a :: b :: r)).size : Nat) : Int))) (by rw [B_size]; simp only [List.length_cons]; omega), Bool.and_true]
        rfl
    rw [hr, B_tail, leadN_B]
    by_cases h4 : refH a r = true
    · rw [if_pos h4, if_pos h4]
      have e : (1 + ((tw wordB r).length : Int)).toNat = (tw wordB r).length + 1 := by omega
      rw [e, B_extract, List.take_succ_cons, List.drop_succ_cons, List.drop_zero, take_tw]
      unfold fitsL
      simp only [Prod.mk.injEq, true_and, and_true]
      omega
    rw [if_neg h4, if_neg h4, wordV_L]
    by_cases h5 : 0 < wordL (a :: r)
    · have hw : wordL (a :: r) = (tw slashB r).length + 2 := by
        unfold wordL at h5 ⊢
        split at h5
        · rename_i h6; rw [if_pos h6]; rfl
        · omega
      rw [if_pos h5, if_pos (by omega)]
      have e : (((wordL (a :: r)) : Int) - 1).toNat = (tw slashB r).length + 1 := by omega
      rw [e, B_extract, List.take_succ_cons, List.drop_succ_cons, List.drop_zero, take_tw]
      rfl
    rw [if_neg h5, if_neg (by omega), signV_L]
    by_cases h6 : 0 < signL a r
    · rw [if_pos h6, if_pos (by omega), Int.toNat_natCast, B_extract, List.drop_zero]; rfl
    · rw [if_neg h6, if_neg (by omega)]; rfl

/-! Positions. -/
def stepP (p : Int × Int) (a : UInt8) : Int × Int := if a = 10 then (p.1 + 1, 1) else (p.1, p.2 + 1)
def posL (l : List UInt8) (p : Int × Int) : Int × Int := l.foldl stepP p

theorem posL_nil (p : Int × Int) : posL [] p = p := rfl
theorem posL_cons (a : UInt8) (l : List UInt8) (p : Int × Int) : posL (a :: l) p = posL l (stepP p a) := rfl
theorem posL_append (l m : List UInt8) (p : Int × Int) : posL (l ++ m) p = posL m (posL l p) := List.foldl_append

theorem passGo_L : ∀ (k : Nat) (q l : List UInt8) (li co : Int), k ≤ l.length → passGo (B (q ++ l)) k q.length li co = posL (l.take k) (li, co)
  | 0, q, l, li, co, _ => by simp [passGo, posL]
  | k + 1, q, [], li, co, h => by simp at h
  | k + 1, q, a :: r, li, co, h => by
    have hb : byteAt (B (q ++ a :: r)) (q.length : Int) = ((a.toNat : Nat) : Int) := by
      rw [byteAt_B]; simp
    have ih := fun li co => passGo_L k (q ++ [a]) r li co (by simpa using h)
    have e : q ++ [a] ++ r = q ++ a :: r := by simp
    have e2 : (q ++ [a]).length = q.length + 1 := by simp
    rw [e, e2] at ih
    have e10 : (((a.toNat : Nat) : Int) = 10) ↔ (a = 10) := iff_of_eq (byte_iff a 10)
    simp only [passGo]
    rw [hb, List.take_succ_cons, posL_cons]
    unfold stepP
    by_cases h1 : a = 10
    · rw [if_pos (e10.2 h1), if_pos h1]; exact ih _ _
    · rw [if_neg (fun h => h1 (e10.1 h)), if_neg h1]; exact ih _ _

abbrev rdL (f : Int) (l : List UInt8) (p : Int × Int) : RdV := ⟨B l, f, p.1, p.2⟩

theorem passV_L (f : Int) (l : List UInt8) (p : Int × Int) (n : Nat) (h : n ≤ l.length) : passV (rdL f l p) (n : Int) = rdL f (l.drop n) (posL (l.take n) p) := by
  unfold passV
  have h2 : passGo (B l) n 0 p.1 p.2 = posL (l.take n) p := passGo_L n [] l p.1 p.2 h
  rw [Int.toNat_natCast, h2]
  unfold rdL
  congr 1
  rw [B_extract, B_size, List.take_of_length_le (Nat.le_refl _)]

/-- What separates is skipped: an error, and what is left. -/
def skipL : Nat → List UInt8 → Int × Int → Int × List UInt8 × (Int × Int)
  | 0, l, p => (0, l, p)
  | k + 1, l, p => if (sepL l).1 = 0 ∨ (sepL l).2 ≠ 0 then ((sepL l).2, l, p) else skipL k (l.drop (sepL l).1) (posL (l.take (sepL l).1) p)

theorem sepL_le (l : List UInt8) : (sepL l).1 ≤ l.length := by
  have h := sepV_range (B l)
  rw [sepV_L] at h
  have h2 : ((sepL l).1 : Int) ≤ l.length := h.2
  omega

theorem sepGo_L (f : Int) : ∀ (k : Nat) (l : List UInt8) (p : Int × Int), sepGo k (rdL f l p) = ((skipL k l p).1, rdL f (skipL k l p).2.1 (skipL k l p).2.2)
  | 0, l, p => rfl
  | k + 1, l, p => by
    have ih := sepGo_L f k
    simp only [sepGo, skipL]
    rw [sepV_L]
    have e : (decide (((sepL l).1 : Int) = 0) || !decide ((sepL l).2 = 0)) = decide ((sepL l).1 = 0 ∨ (sepL l).2 ≠ 0) := by
      rw [Bool.eq_iff_iff]; simp
    simp only
    rw [e]
    by_cases h : (sepL l).1 = 0 ∨ (sepL l).2 ≠ 0
    · rw [if_pos h, if_pos (decide_eq_true h)]
    · rw [if_neg h, if_neg (by rw [decide_eq_false h]; decide), passV_L f l p _ (sepL_le l)]
      exact ih _ _

def skipA (l : List UInt8) (p : Int × Int) : Int × List UInt8 × (Int × Int) := skipL (l.length + 1) l p

theorem sepAll_L (f : Int) (l : List UInt8) (p : Int × Int) : sepAll (rdL f l p) = ((skipA l p).1, rdL f (skipA l p).2.1 (skipA l p).2.2) := sepGo_L f _ l p

theorem cutL_le (l : List UInt8) (h : (cutL l).2.2 = 0) : (cutL l).2.1 ≤ l.length := by
  have h1 := cutV_range (B l)
  rw [cutV_L] at h1
  have h2 : ((cutL l).2.1 : Int) ≤ l.length := (h1 h).2
  omega

def tokD (t : TokV) (f : Int) (p : Int × Int) : tokC.den := (t.kind, t.text, t.value, f, p.1, p.2)

/-- The whole text. -/
def readL (f : Int) : Nat → List UInt8 → Int × Int → List tokC.den → ReadV
  | 0, l, p, _ => ⟨[], f, (skipA l p).2.2.1, (skipA l p).2.2.2, if (skipA l p).1 = 0 then 3 else (skipA l p).1⟩
  | k + 1, l, p, zs =>
    if (skipA l p).1 = 0 then
      if (cutL (skipA l p).2.1).2.2 = 0 then
        if (cutL (skipA l p).2.1).1.kind = 8 then ⟨zs ++ [tokD (cutL (skipA l p).2.1).1 f (skipA l p).2.2], 0, 0, 0, 0⟩
        else readL f k ((skipA l p).2.1.drop (cutL (skipA l p).2.1).2.1) (posL ((skipA l p).2.1.take (cutL (skipA l p).2.1).2.1) (skipA l p).2.2) (zs ++ [tokD (cutL (skipA l p).2.1).1 f (skipA l p).2.2])
      else ⟨[], f, (skipA l p).2.2.1, (skipA l p).2.2.2, (cutL (skipA l p).2.1).2.2⟩
    else ⟨[], f, (skipA l p).2.2.1, (skipA l p).2.2.2, (skipA l p).1⟩

theorem readGo_L (f : Int) : ∀ (k : Nat) (l : List UInt8) (p : Int × Int) (zs : List tokC.den), readGo k (rdL f l p) zs = readL f k l p zs
  | 0, l, p, zs => by
    simp only [readGo, readL]
    rw [sepAll_L]
  | k + 1, l, p, zs => by
    have ih := readGo_L f k
    simp only [readGo, readL]
    unfold nextV
    rw [sepAll_L]
    simp only
    by_cases h1 : (skipA l p).1 = 0
    · rw [if_pos h1, if_pos h1, cutV_L]
      by_cases h2 : (cutL (skipA l p).2.1).2.2 = 0
      · have h2' : (fitsL (cutL (skipA l p).2.1)).2.2 = 0 := h2
        rw [if_pos h2', if_pos h2]
        simp only [if_true]
        have e : (fitsL (cutL (skipA l p).2.1)).2.1 = ((cutL (skipA l p).2.1).2.1 : Int) := rfl
        rw [e, passV_L f _ _ _ (cutL_le _ h2), ih]
        rfl
      · have h2' : ¬ (fitsL (cutL (skipA l p).2.1)).2.2 = 0 := h2
        rw [if_neg h2', if_neg h2]
        simp only
        rw [if_neg h2']
        rfl
    · rw [if_neg h1, if_neg h1]
      simp only
      rw [if_neg h1]

theorem readV_L (l : List UInt8) (f : Int) (h : l.length ≤ 16000) : readV (B l) f = readL f 6000 l (1, 1) [] := by
  unfold readV
  rw [if_neg (by rw [B_size]; omega)]
  exact readGo_L f 6000 l (1, 1) []
end Go.Ab

/- Numbers as text: the law's own helper. -/
namespace Go.Ab
open Go.Proofs
set_option linter.unusedSectionVars false
set_option maxRecDepth 100000
variable [Glob]

def digL (c : Bool) : List UInt8 := match c with
  | true => [48, 49, 50, 51, 52, 53, 54, 55, 56, 57, 65, 66, 67, 68, 69, 70]
  | false => [48, 49, 50, 51, 52, 53, 54, 55, 56, 57, 97, 98, 99, 100, 101, 102]

def basedL (D : List UInt8) (b : Nat) : Nat → Nat → List UInt8 → List UInt8
  | 0, _, out => out
  | k + 1, n, out => if n = 0 then out else basedL D b k (n / b) (D.getD (n % b) 0 :: out)

def basedV (c : Bool) (b n : Nat) : List UInt8 := basedL (digL c) b 64 (n / b) [(digL c).getD (n % b) 0]

def saysBased : Says := fun args H => match args, H with
  | [.c (.p (.v (.int .i64 n))), .c (.p (.v (.int .i64 b))), .c (.p (.v (.bool c)))], [] => some (some (0 ≤ n ∧ n ≤ 4611686018427387904 ∧ 2 ≤ b ∧ b ≤ 16), .str (B (basedV c b.toNat n.toNat)), [])
  | _, _ => none

def T52 : Table := T51

theorem piece1 (D : List UInt8) (i : Nat) (h : i < D.length) : (B D).extract i (i + 1) = B [D.getD i 0] := by
  rw [B_extract]
  congr 2
  rw [List.drop_take, Nat.add_sub_cancel_left, List.getD_eq_getElem?_getD, List.getElem?_eq_getElem h, Option.getD_some]
  rw [List.drop_eq_getElem_cons h, List.take_succ_cons, List.take_zero]

theorem lt_pow_div {m b k : Nat} (hb : 2 ≤ b) (h : m < 2 ^ (k + 1)) : m / b < 2 ^ k := by
  have h1 : m / b ≤ m / 2 := Nat.div_le_div_left hb (by decide)
  have h2 : m / 2 < 2 ^ k := by rw [Nat.div_lt_iff_lt_mul (by decide), ← Nat.pow_succ]; exact h
  omega

theorem based_run (D : List UInt8) (hD : D.length = 16) (n b : Nat) (hb : 2 ≤ b) (hb2 : b ≤ 16) :
    (B D).extract ((n : Int).tmod b).toNat ((n : Int).tmod b + 1).toNat = B [D.getD (n % b) 0] := by
  have h1 : (n : Int).tmod (b : Int) = ((n % b : Nat) : Int) := (Int.ofNat_tmod n b).symm
  have h2 := Nat.mod_lt n (show 0 < b by omega)
  rw [h1, show ((n % b : Nat) : Int).toNat = n % b by omega, show (((n % b : Nat) : Int) + 1).toNat = n % b + 1 by omega]
  exact piece1 D _ (by omega)

theorem quo_nat (n b : Nat) (hn : n ≤ 4611686018427387904) : IntKind.i64.wrap ((n : Int).tdiv b) = ((n / b : Nat) : Int) := by
  have h1 : (n : Int).tdiv (b : Int) = ((n / b : Nat) : Int) := (Int.ofNat_tdiv n b).symm
  have h2 : n / b ≤ n := Nat.div_le_self n b
  rw [h1]
  revert h2
  generalize n / b = q
  intro h2
  exact wrap_i64 (by unfold inI64; omega)

theorem t52 : TSound Tryz.prog T52 := t51

end Go.Ab
