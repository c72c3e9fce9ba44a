/- Reading a text, as a function on lists of bytes. -/
import Derived.Test.YticjnehdhageoaaAbR9
import Derived.Test.YticjnehdhageoaaAbS0
namespace Go.Ab
open Go.Proofs
set_option linter.unusedSectionVars false
variable [Glob]

def tw (p : Int → Bool) (l : List UInt8) : List UInt8 := l.takeWhile fun u : UInt8 => p ((u.toNat : Nat) : Int)
def dw (p : Int → Bool) (l : List UInt8) : List UInt8 := l.dropWhile fun u : UInt8 => p ((u.toNat : Nat) : Int)

theorem leadN_B (p : Int → Bool) (l : List UInt8) : leadN p (B l) = (tw p l).length := rfl
theorem tw_dw (p : Int → Bool) (l : List UInt8) : tw p l ++ dw p l = l := List.takeWhile_append_dropWhile
theorem take_tw (p : Int → Bool) (l : List UInt8) : l.take (tw p l).length = tw p l := by
  have h := List.take_left (l₁ := tw p l) (l₂ := dw p l)
  rwa [tw_dw] at h
theorem drop_tw (p : Int → Bool) (l : List UInt8) : l.drop (tw p l).length = dw p l := by
  have h := List.drop_left (l₁ := tw p l) (l₂ := dw p l)
  rwa [tw_dw] at h
theorem tw_cons_pos {p : Int → Bool} {a : UInt8} {l : List UInt8} (h : p ((a.toNat : Nat) : Int) = true) : tw p (a :: l) = a :: tw p l := List.takeWhile_cons_of_pos (p := fun u : UInt8 => p ((u.toNat : Nat) : Int)) h
theorem tw_cons_neg {p : Int → Bool} {a : UInt8} {l : List UInt8} (h : p ((a.toNat : Nat) : Int) = false) : tw p (a :: l) = [] := List.takeWhile_cons_of_neg (p := fun u : UInt8 => p ((u.toNat : Nat) : Int)) (by rw [h]; decide)
theorem dw_cons_pos {p : Int → Bool} {a : UInt8} {l : List UInt8} (h : p ((a.toNat : Nat) : Int) = true) : dw p (a :: l) = dw p l := List.dropWhile_cons_of_pos (p := fun u : UInt8 => p ((u.toNat : Nat) : Int)) h
theorem dw_cons_neg {p : Int → Bool} {a : UInt8} {l : List UInt8} (h : p ((a.toNat : Nat) : Int) = false) : dw p (a :: l) = a :: l := List.dropWhile_cons_of_neg (p := fun u : UInt8 => p ((u.toNat : Nat) : Int)) (by rw [h]; decide)
theorem tw_len (p : Int → Bool) (l : List UInt8) : (tw p l).length + (dw p l).length = l.length := by
  have h := congrArg List.length (tw_dw p l)
  simpa using h
theorem byteAt_tw (p : Int → Bool) (l : List UInt8) : byteAt (B l) ((tw p l).length : Int) = (((dw p l).getD 0 0).toNat : Int) := by
  rw [byteAt_B, ← drop_tw]
  simp

theorem pref2 (x y : UInt8) (l : List UInt8) : prefB (B l) ⟨#[x, y]⟩ = (match l with | a :: b :: _ => decide (a = x) && decide (b = y) | _ => false) := by
  unfold prefB
  have h2 : (ByteArray.mk #[x, y]).size = 2 := rfl
  rw [h2, B_extract, show (ByteArray.mk #[x, y]) = B [x, y] from rfl, B_eq, B_size]
  match l with
  | [] => simp
  | [a] => simp
  | a :: b :: r =>
    have h3 : (((2 : Nat) : Int) ≤ ((a :: b :: r).length : Nat)) := by simp only [List.length_cons]; omega
    rw [decide_eq_true h3]
    simp

/-- Where the end of a comment is. -/
def endAt : List UInt8 → Option Nat
  | [] => none
  | a :: r => if a = 42 ∧ r.head? = some 47 then some 0 else (endAt r).map (· + 1)

theorem index_end : ∀ l : List UInt8, Lib.index l [42, 47] = (match endAt l with | some n => (n : Int) | none => -1)
  | [] => rfl
  | a :: r => by
    have ih := index_end r
    unfold Lib.index endAt
    rw [ih]
    by_cases h : a = 42 ∧ r.head? = some 47
    · rw [if_pos h]
      obtain ⟨rfl, h2⟩ := h
      cases r with
      | nil => cases h2
      | cons b r => cases h2; rfl
    · rw [if_neg h, if_neg]
      · cases endAt r with
        | none => rfl
        | some n =>
          simp only [Option.map_some]
          rw [if_neg]
          · simp
          · simp only [beq_iff_eq]; omega
      · intro h2
        apply h
        cases r with
        | nil => simp [List.isPrefixOf] at h2
        | cons b r =>
          simp [List.isPrefixOf] at h2
          exact ⟨h2.1.symm, by rw [List.head?_cons, ← h2.2]⟩

/-- What separates: so many bytes, and an error. -/
def sepL (l : List UInt8) : Nat × Int :=
  if l.head? = some 47 ∧ l.tail.head? = some 47 then ((tw lineB l).length, 0)
  else if l.head? = some 47 ∧ l.tail.head? = some 42 then (match endAt (l.drop 2) with | some n => (n + 4, 0) | none => (0, 21))
  else ((tw spaceB l).length, 0)

theorem pref2' (x y : UInt8) (l : List UInt8) : prefB (B l) ⟨#[x, y]⟩ = decide (l.head? = some x ∧ l.tail.head? = some y) := by
  rw [pref2]
  match l with
  | [] => simp
  | [a] => simp
  | a :: b :: r => simp

theorem sepV_L (l : List UInt8) : sepV (B l) = (((sepL l).1 : Int), (sepL l).2) := by
  unfold sepV sepL
  rw [pref2', pref2']
  by_cases h1 : l.head? = some 47 ∧ l.tail.head? = some 47
  · rw [if_pos h1, if_pos (decide_eq_true h1)]; rfl
  · rw [if_neg h1, if_neg (by rw [decide_eq_false h1]; decide)]
    by_cases h2 : l.head? = some 47 ∧ l.tail.head? = some 42
    · rw [if_pos h2, if_pos (decide_eq_true h2)]
      have e : indexV ((B l).extract 2 (B l).size) ⟨#[42, 47]⟩ = (match endAt (l.drop 2) with | some n => (n : Int) | none => -1) := by
        rw [B_extract, B_size, List.take_of_length_le (Nat.le_refl _)]
        exact index_end _
      rw [e]
      cases endAt (l.drop 2) with
      | none => rfl
      | some n =>
        simp only
        rw [if_neg (by omega)]
        rfl
    · rw [if_neg h2, if_neg (by rw [decide_eq_false h2]; decide)]; rfl

/-! One token. -/
def nameLx (l : List UInt8) : TokV × Nat × Int :=
  if (dw nameB l).head? = some 58 then (if (tw wordB l).length < (tw nameB l).length then ({}, 0, 6) else ({ kind := 5, text := B (tw nameB l) }, (tw nameB l).length + 1, 0))
  else ({ kind := 1, text := B (tw nameB l) }, (tw nameB l).length, 0)

def fitsL (x : TokV × Nat × Int) : TokV × Int × Int := (x.1, (x.2.1 : Int), x.2.2)

theorem head_byte {l : List UInt8} (c : UInt8) (hc : c ≠ 0) : decide ((((l.getD 0 0).toNat : Nat) : Int) = ((c.toNat : Nat) : Int)) = decide (l.head? = some c) := by
  cases l with
  | nil =>
    simp only [List.getD_nil, List.head?_nil, reduceCtorEq, decide_false]
    apply decide_eq_false
    intro h
    apply hc
    apply UInt8.toNat_inj.1
    have : (0 : UInt8).toNat = c.toNat := by exact_mod_cast h
    exact this.symm
  | cons a l =>
    simp only [List.getD_cons_zero, List.head?_cons, Option.some.injEq]
    rw [decide_eq_decide]
    rw [Int.ofNat_inj, UInt8.toNat_inj]

theorem nameV_L (l : List UInt8) : nameV (B l) = fitsL (nameLx l) := by
  unfold nameV nameLx
  rw [leadN_B, leadN_B, byteAt_tw, B_size, B_extract, List.drop_zero, take_tw]
  have h58 : decide (((((dw nameB l).getD 0 0).toNat : Nat) : Int) = 58) = decide ((dw nameB l).head? = some 58) := head_byte 58 (by decide)
  have hl := tw_len nameB l
  by_cases h : (dw nameB l).head? = some 58
  · have hne : decide (((tw nameB l).length : Int) = l.length) = false := by
      apply decide_eq_false
      intro h2
      have : (dw nameB l).length = 0 := by omega
      rw [List.length_eq_zero_iff] at this
      rw [this] at h
      cases h
    rw [h58, decide_eq_true h, hne, if_neg (by decide), if_pos h]
    by_cases h2 : (tw wordB l).length < (tw nameB l).length
    · rw [if_pos h2, if_pos (by omega)]; rfl
    · rw [if_neg h2, if_neg (by omega)]; rfl
  · rw [h58, decide_eq_false h, if_neg h, if_pos (by simp)]; rfl

/-- Digits, and their base. -/
def splitL (l : List UInt8) : List UInt8 × Int :=
  if l.head? = some 48 ∧ l.tail.head? = some 120 then (l.drop 2, 16) else if l.head? = some 48 then (l, 8) else (l, 10)

def compLgo (b : Int) : List UInt8 → Int → Int × Int
  | [], v => if 4294967295 < v then (0, 2) else (v, 0)
  | d :: r, v => if b ≤ digitV ((d.toNat : Nat) : Int) then (0, 6) else compLgo b r (if 4294967296 < v * b + digitV ((d.toNat : Nat) : Int) then 4294967296 else v * b + digitV ((d.toNat : Nat) : Int))

def compL (l : List UInt8) (b : Int) : Int × Int := if l = [] then (0, 6) else compLgo b l 0

theorem compGo_L (b : Int) : ∀ (r p : List UInt8) (v : Int), compGo (B (p ++ r)) b r.length p.length v = compLgo b r v
  | [], p, v => rfl
  | d :: r, p, v => by
    have ih := compGo_L b r (p ++ [d])
    have e : p ++ [d] ++ r = p ++ d :: r := by simp
    have e2 : (p ++ [d]).length = p.length + 1 := by simp
    rw [e, e2] at ih
    simp only [compLgo, List.length_cons, compGo]
    have hb : byteAt (B (p ++ d :: r)) (p.length : Int) = ((d.toNat : Nat) : Int) := by
      rw [byteAt_B]; simp
    rw [hb, ih]

theorem compV_L (l : List UInt8) (b : Int) : compV (B l) b = compL l b := by
  unfold compV compL
  by_cases h : l = []
  · rw [if_pos h, if_pos (B_inj.2 h)]
  · rw [if_neg h, if_neg (fun h2 => h (B_inj.1 h2))]
    exact compGo_L b l [] 0

def numLx (l : List UInt8) : TokV × Nat × Int :=
  if (compL (splitL (tw wordB l)).1 (splitL (tw wordB l)).2).2 = 0 then ({ kind := 2, value := (compL (splitL (tw wordB l)).1 (splitL (tw wordB l)).2).1 }, (tw wordB l).length, 0)
  else ({}, 0, (compL (splitL (tw wordB l)).1 (splitL (tw wordB l)).2).2)

theorem split_L (l : List UInt8) : splitD (B l) = B (splitL l).1 ∧ splitB (B l) = (splitL l).2 := by
  have h48 : decide (byteAt (B l) 0 = 48) = decide (l.head? = some 48) := head_byte 48 (by decide)
  have hp : prefB (B l) ⟨#[48, 120]⟩ = decide (l.head? = some 48 ∧ l.tail.head? = some 120) := pref2' _ _ _
  by_cases h : l.head? = some 48 ∧ l.tail.head? = some 120
  · have hp' := hp.trans (decide_eq_true h)
    refine ⟨?_, ?_⟩
    · unfold splitD splitL trimP
      rw [if_pos hp', if_pos hp', if_pos h, B_extract]
      show B (List.drop 2 (List.take l.length l)) = B (List.drop 2 l)
      rw [List.take_of_length_le (Nat.le_refl _)]
    · unfold splitB splitL
      rw [if_pos hp', if_pos h]
  · have hp' : ¬ prefB (B l) ⟨#[48, 120]⟩ = true := by rw [hp, decide_eq_false h]; decide
    refine ⟨?_, ?_⟩
    · unfold splitD splitL
      rw [if_neg hp', if_neg h]
      split <;> rfl
    · unfold splitB splitL
      rw [if_neg hp', if_neg h]
      by_cases h2 : l.head? = some 48
      · rw [if_pos h2, if_pos (of_decide_eq_true (h48.trans (decide_eq_true h2)))]
      · rw [if_neg h2, if_neg (of_decide_eq_false (h48.trans (decide_eq_false h2)))]

theorem numV_L (l : List UInt8) : numV (B l) = fitsL (numLx l) := by
  unfold numV numLx
  rw [leadN_B, B_extract, List.drop_zero, take_tw, (split_L _).1, (split_L _).2, compV_L]
  split <;> rfl

/-! Strings. -/
def escL (l : List UInt8) : Int × Int × Int := escV (B l)

def strL : Nat → List UInt8 → List Int → Nat → TokV × Nat × Int
  | 0, _, _, _ => ({}, 0, 21)
  | k + 1, l, out, n => match l with
    | [] => ({}, 0, 21)
    | a :: r => if a = 10 then ({}, 0, 21) else if a = 34 then ({ kind := 3, text := bytesOf out }, n + 1, 0)
      else if a = 92 then (if (escL l).2.2 = 0 then strL k (l.drop (escL l).2.1.toNat) (out ++ [(escL l).1]) (n + (escL l).2.1.toNat) else ({}, 0, (escL l).2.2))
      else strL k r (out ++ [((a.toNat : Nat) : Int)]) (n + 1)

theorem byte_dec (a : UInt8) (c : UInt8) : decide (((a.toNat : Nat) : Int) = ((c.toNat : Nat) : Int)) = decide (a = c) := by
  rw [decide_eq_decide, Int.ofNat_inj, UInt8.toNat_inj]

theorem byte_iff (a c : UInt8) : (((a.toNat : Nat) : Int) = ((c.toNat : Nat) : Int)) = (a = c) := by
  rw [Int.ofNat_inj, UInt8.toNat_inj]

theorem escV_size (s : ByteArray) (h : (escV s).2.2 = 0) : (escV s).2.1 ≤ s.size := by
  revert h
  have hend : ∀ {i : Int}, ¬ endB s i = true → i < s.size := fun {i} h => (end_lt (by simpa using h)).1
  unfold escV
  split
  · intro h; simp at h
  rename_i h1
  have hl := hend h1
  split
  · intro _; simp only; omega
  split
  · intro _; simp only; omega
  split
  · intro _; simp only; omega
  split
  · intro _; simp only; omega
  split
  · unfold escNum
    simp only [escGo]
    split
    · intro h; simp at h
    split
    · intro h; simp at h
    split
    · intro h; simp at h
    rename_i h2
    have hl2 := hend h2
    split
    · intro h; simp at h
    · intro _; simp only; omega
  · intro h; simp at h

theorem strGo_L : ∀ (k : Nat) (p l : List UInt8) (out : List Int), strGo (B (p ++ l)) k (p.length : Int) out = fitsL (strL k l out p.length)
  | 0, p, l, out => rfl
  | k + 1, p, l, out => by
    have hb : byteAt (B (p ++ l)) (p.length : Int) = (((l.getD 0 0).toNat : Nat) : Int) := by
      rw [byteAt_B, List.getD_eq_getElem?_getD, List.getD_eq_getElem?_getD, List.getElem?_append_right (Nat.le_refl _), Nat.sub_self]
    have hx : (B (p ++ l)).extract (p.length : Int).toNat (B (p ++ l)).size = B l := by
      rw [B_extract, B_size, List.take_of_length_le (Nat.le_refl _)]
      simp
    simp only [strGo, strL]
    rw [hx, hb]
    cases l with
    | nil =>
      have : endB (B (p ++ [])) (p.length : Int) = true := by
        unfold endB
        rw [B_size, List.append_nil, decide_eq_true (Int.le_refl _), Bool.true_or]
      rw [if_pos this]
      rfl
    | cons a r =>
      have hend : endB (B (p ++ a :: r)) (p.length : Int) = decide (a = 10) := by
        unfold endB
        rw [hb, B_size, decide_eq_false (by simp only [List.length_append, List.length_cons]; omega), Bool.false_or]
        exact byte_dec a 10
      rw [hend]
      simp only [List.getD_cons_zero]
      have e34 : ((((a.toNat : Nat) : Int)) = 34) ↔ (a = 34) := iff_of_eq (byte_iff a 34)
      have e92 : ((((a.toNat : Nat) : Int)) = 92) ↔ (a = 92) := iff_of_eq (byte_iff a 92)
      by_cases h1 : a = 10
      · rw [if_pos (decide_eq_true h1), if_pos h1]; rfl
      rw [if_neg (by rw [decide_eq_false h1]; decide), if_neg h1]
      by_cases h2 : a = 34
      · rw [if_pos (e34.2 h2), if_pos h2]; rfl
      rw [if_neg (fun h => h2 (e34.1 h)), if_neg h2]
      by_cases h3 : a = 92
      · rw [if_pos (e92.2 h3), if_pos h3]
        show (if (escL (a :: r)).2.2 = 0 then strGo _ k (_ + (escL (a :: r)).2.1) (out ++ [(escL (a :: r)).1]) else _) = _
        by_cases h4 : (escL (a :: r)).2.2 = 0
        · rw [if_pos h4, if_pos h4]
          have hn' : (escL (a :: r)).2.1 = 2 ∨ (escL (a :: r)).2.1 = 4 := escV_n _ h4
          have hsz : (escL (a :: r)).2.1 ≤ (a :: r).length := escV_size _ h4
          have ih := strGo_L k (p ++ (a :: r).take (escL (a :: r)).2.1.toNat) ((a :: r).drop (escL (a :: r)).2.1.toNat) (out ++ [(escL (a :: r)).1])
          rw [List.append_assoc, List.take_append_drop] at ih
          have hl : (p ++ (a :: r).take (escL (a :: r)).2.1.toNat).length = p.length + (escL (a :: r)).2.1.toNat := by
            rw [List.length_append, List.length_take]; omega
          rw [hl] at ih
          rw [← ih]
          congr 1
          omega
        · rw [if_neg h4, if_neg h4]; rfl
      rw [if_neg (fun h => h3 (e92.1 h)), if_neg h3]
      have ih := strGo_L k (p ++ [a]) r (out ++ [((a.toNat : Nat) : Int)])
      rw [List.append_assoc, List.length_append] at ih
      exact ih
end Go.Ab
