/- What is read of numbers. -/
import Derived.Test.YteidakoieemlgaaGreatTS1toR11
namespace Go.Ab
open Go.Proofs
set_option linter.unusedSectionVars false
set_option maxRecDepth 100000
variable [Glob]

def dv (u : UInt8) : Int := digitV (bi u)
def foldD (b : Int) (l : List UInt8) (v : Int) : Int := l.foldl (fun v u => v * b + dv u) v

theorem foldD_cons (b : Int) (u : UInt8) (l : List UInt8) (v : Int) : foldD b (u :: l) v = foldD b l (v * b + dv u) := rfl

/-- What the digits of a number are. -/
theorem dig_ok : ∀ (c : Bool) (i : Fin 16), dv ((digL c).getD i.val 0) = (i.val : Int) ∧ wordB (bi ((digL c).getD i.val 0)) = true ∧ (i.val < 10 → digitB (bi ((digL c).getD i.val 0)) = true) ∧ (i.val ≠ 0 → (digL c).getD i.val 0 ≠ 48) ∧ (i.val < 10 → (digL c).getD i.val 0 ≠ 120) := by decide +kernel

theorem dig_ok' (c : Bool) (i b : Nat) (hb : b ≤ 16) (h : i < b) : dv ((digL c).getD i 0) = (i : Int) ∧ wordB (bi ((digL c).getD i 0)) = true ∧ (i < 10 → digitB (bi ((digL c).getD i 0)) = true) ∧ (i ≠ 0 → (digL c).getD i 0 ≠ 48) ∧ (i < 10 → (digL c).getD i 0 ≠ 120) :=
  dig_ok c ⟨i, by omega⟩

/-- A property of the characters of digits below the base is one of all characters of a number's text. -/
theorem basedL_all {P : UInt8 → Prop} (D : List UInt8) (b : Nat) (hb : 0 < b) (h : ∀ i, i < b → P (D.getD i 0)) : ∀ (k n : Nat) (out : List UInt8), (∀ u ∈ out, P u) → ∀ u ∈ basedL D b k n out, P u
  | 0, n, out, ho => ho
  | k + 1, n, out, ho => by
    simp only [basedL]
    split
    · exact ho
    · refine basedL_all D b hb h k _ _ fun u hu => ?_
      rcases List.mem_cons.1 hu with rfl | hu
      · exact h _ (Nat.mod_lt _ hb)
      · exact ho u hu

theorem basedV_all {P : UInt8 → Prop} (c : Bool) (b n : Nat) (hb : 0 < b) (h : ∀ i, i < b → P ((digL c).getD i 0)) : ∀ u ∈ basedV c b n, P u :=
  basedL_all _ b hb h _ _ _ fun u hu => by
    rw [List.mem_singleton] at hu
    subst hu
    exact h _ (Nat.mod_lt _ hb)

theorem basedL_fold (c : Bool) (b : Nat) (hb : 2 ≤ b) (hb2 : b ≤ 16) : ∀ (k n : Nat) (out : List UInt8), n < 2 ^ k → foldD b (basedL (digL c) b k n out) 0 = foldD b out n
  | 0, n, out, h => by
    have : n = 0 := by simpa using h
    subst this; rfl
  | k + 1, n, out, h => by
    simp only [basedL]
    split
    · rename_i h0; subst h0; rfl
    · rw [basedL_fold c b hb hb2 k _ _ (lt_pow_div hb h), foldD_cons, (dig_ok' c (n % b) b hb2 (Nat.mod_lt _ (by omega))).1]
      congr 1
      have := Nat.div_add_mod n b
      rw [Nat.mul_comm] at this
      exact_mod_cast this

theorem basedV_fold (c : Bool) (b n : Nat) (hb : 2 ≤ b) (hb2 : b ≤ 16) (hn : n < 2 ^ 64) : foldD b (basedV c b n) 0 = n := by
  unfold basedV
  rw [basedL_fold c b hb hb2 _ _ _ (Nat.lt_of_le_of_lt (Nat.div_le_self n b) hn), foldD_cons, (dig_ok' c (n % b) b hb2 (Nat.mod_lt _ (by omega))).1]
  have := Nat.div_add_mod n b
  rw [Nat.mul_comm] at this
  show ((n / b : Nat) : Int) * b + ((n % b : Nat) : Int) = n
  exact_mod_cast this

theorem basedL_ne (D : List UInt8) (b : Nat) : ∀ (k n : Nat) (out : List UInt8), out ≠ [] → basedL D b k n out ≠ []
  | 0, _, _, h => h
  | k + 1, n, out, h => by
    simp only [basedL]
    split
    · exact h
    · exact basedL_ne D b k _ _ (by simp)

theorem basedV_ne (c : Bool) (b n : Nat) : basedV c b n ≠ [] := basedL_ne _ _ _ _ _ (by simp)

theorem basedL_len (D : List UInt8) (b : Nat) : ∀ (k n : Nat) (out : List UInt8), (basedL D b k n out).length ≤ k + out.length
  | 0, _, _ => by simp [basedL]
  | k + 1, n, out => by
    simp only [basedL]
    split
    · omega
    · have := basedL_len D b k (n / b) (D.getD (n % b) 0 :: out)
      simp only [List.length_cons] at this
      omega

theorem basedV_len (c : Bool) (b n : Nat) : (basedV c b n).length ≤ 65 := basedL_len _ _ _ _ _

/-- The first digit of a number is none of 0. -/
theorem basedL_head (c : Bool) (b : Nat) (hb : 2 ≤ b) (hb2 : b ≤ 16) : ∀ (k n : Nat) (out : List UInt8), n < 2 ^ k → (n ≠ 0 ∨ out.head? ≠ some 48) → (basedL (digL c) b k n out).head? ≠ some 48
  | 0, n, out, h, h2 => by
    have : n = 0 := by simpa using h
    rcases h2 with h2 | h2
    · exact absurd this h2
    · exact h2
  | k + 1, n, out, h, h2 => by
    simp only [basedL]
    split
    · rename_i h0
      rcases h2 with h2 | h2
      · exact absurd h0 h2
      · exact h2
    · rename_i h0
      refine basedL_head c b hb hb2 k _ _ (lt_pow_div hb h) ?_
      by_cases h3 : n / b = 0
      · refine .inr ?_
        rw [List.head?_cons]
        have hlt : n < b := (Nat.div_eq_zero_iff_lt (by omega)).1 h3
        have hm : n % b = n := Nat.mod_eq_of_lt hlt
        rw [hm]
        have := (dig_ok' c n b hb2 hlt).2.2.2.1 h0
        intro h4
        exact this (Option.some.inj h4)
      · exact .inl h3

theorem basedV_head (c : Bool) (b n : Nat) (hb : 2 ≤ b) (hb2 : b ≤ 16) (hn : n < 2 ^ 64) (h0 : n ≠ 0) : (basedV c b n).head? ≠ some 48 := by
  unfold basedV
  refine basedL_head c b hb hb2 _ _ _ (Nat.lt_of_le_of_lt (Nat.div_le_self n b) hn) ?_
  by_cases h3 : n / b = 0
  · refine .inr ?_
    rw [List.head?_cons]
    have hlt : n < b := (Nat.div_eq_zero_iff_lt (by omega)).1 h3
    rw [Nat.mod_eq_of_lt hlt]
    have := (dig_ok' c n b hb2 hlt).2.2.2.1 h0
    intro h4
    exact this (Option.some.inj h4)
  · exact .inl h3

theorem le_mul_pos {v b : Int} (hv : 0 ≤ v) (hb : 1 ≤ b) : v ≤ v * b := by
  have := Int.mul_le_mul_of_nonneg_left hb hv
  simpa using this

theorem foldD_ge (b : Int) (hb : 1 ≤ b) : ∀ (l : List UInt8) (v : Int), 0 ≤ v → v ≤ foldD b l v
  | [], v, _ => Int.le_refl _
  | u :: l, v, hv => by
    have h1 := le_mul_pos hv hb
    have h2 : 0 ≤ dv u := (digitV_range _).1
    have := foldD_ge b hb l (v * b + dv u) (by omega)
    rw [foldD_cons]
    omega

theorem compLgo_fold (b : Int) (hb : 1 ≤ b) : ∀ (l : List UInt8) (v : Int), 0 ≤ v → (∀ u ∈ l, dv u < b) → compLgo b l (if 4294967296 < v then 4294967296 else v) = if 4294967295 < foldD b l v then (0, 2) else (foldD b l v, 0)
  | [], v, hv, _ => by
    show (if _ then _ else _) = (if _ then _ else _)
    have e : foldD b [] v = v := rfl
    rw [e]
    by_cases h : 4294967296 < v
    · rw [if_pos h, if_pos (by omega), if_pos (by omega)]
    · rw [if_neg h]
  | u :: l, v, hv, hl => by
    have hu : dv u < b := hl u (by simp)
    have h2 : 0 ≤ dv u := (digitV_range _).1
    have h1 := le_mul_pos hv hb
    have ih := compLgo_fold b hb l (v * b + dv u) (by omega) (fun x hx => hl x (by simp [hx]))
    rw [foldD_cons, ← ih]
    show (if b ≤ dv u then ((0, 6) : Int × Int) else compLgo b l (if 4294967296 < (if 4294967296 < v then 4294967296 else v) * b + dv u then 4294967296 else (if 4294967296 < v then 4294967296 else v) * b + dv u)) = _
    rw [if_neg (by omega)]
    congr 1
    by_cases h : 4294967296 < v
    · rw [if_pos h]
      have h3 := le_mul_pos (v := 4294967296) (b := b) (by decide) hb
      by_cases h4 : 4294967296 < (4294967296 : Int) * b + dv u
      · rw [if_pos h4, if_pos (by omega)]
      · rw [if_neg h4, if_pos (by omega)]; omega
    · rw [if_neg h]

theorem compL_fold (b : Int) (hb : 1 ≤ b) (l : List UInt8) (hne : l ≠ []) (hl : ∀ u ∈ l, dv u < b) : compL l b = if 4294967295 < foldD b l 0 then (0, 2) else (foldD b l 0, 0) := by
  unfold compL
  rw [if_neg hne]
  exact compLgo_fold b hb l 0 (by decide) hl

/-! What is read of a text that is one number. -/
theorem tw_all {p : Int → Bool} : ∀ {l : List UInt8}, (∀ u ∈ l, p (bi u) = true) → tw p l = l
  | [], _ => rfl
  | u :: l, h => by
    rw [tw_cons_pos (h u (by simp)), tw_all (fun x hx => h x (by simp [hx]))]

theorem readL_succ (f : Int) (k : Nat) (l : List UInt8) (p : Int × Int) (zs : List tokC.den) : readL f (k + 1) l p zs =
    if (skipA l p).1 = 0 then
      if (cutL (skipA l p).2.1).2.2 = 0 then
        if (cutL (skipA l p).2.1).1.kind = 8 then ⟨zs ++ [tokD (cutL (skipA l p).2.1).1 f (skipA l p).2.2], 0, 0, 0, 0⟩
        else readL f k ((skipA l p).2.1.drop (cutL (skipA l p).2.1).2.1) (posL ((skipA l p).2.1.take (cutL (skipA l p).2.1).2.1) (skipA l p).2.2) (zs ++ [tokD (cutL (skipA l p).2.1).1 f (skipA l p).2.2])
      else ⟨[], f, (skipA l p).2.2.1, (skipA l p).2.2.2, (cutL (skipA l p).2.1).2.2⟩
    else ⟨[], f, (skipA l p).2.2.1, (skipA l p).2.2.2, (skipA l p).1⟩ := rfl

/-- Nothing separates at a byte that is neither a blank nor a slash. -/
theorem skipA_none (a : UInt8) (r : List UInt8) (p : Int × Int) (h1 : spaceB (bi a) = false) (h2 : a ≠ 47) : skipA (a :: r) p = (0, a :: r, p) := by
  have hs : sepL (a :: r) = (0, 0) := by
    unfold sepL
    rw [if_neg (fun h => h2 (Option.some.inj h.1)), if_neg (fun h => h2 (Option.some.inj h.1)), tw_cons_neg h1]
    rfl
  unfold skipA
  simp only [skipL, List.length_cons, hs]
  rw [if_pos (.inl trivial)]

theorem skipA_nil (p : Int × Int) : skipA [] p = (0, [], p) := rfl

theorem readL_end (f : Int) (k : Nat) (p : Int × Int) (zs : List tokC.den) : readL f (k + 1) [] p zs = ⟨zs ++ [tokD { kind := 8 } f p], 0, 0, 0, 0⟩ := rfl

theorem digit_plain : ∀ n : Fin 256, digitB (n.val : Int) = true → spaceB (n.val : Int) = false ∧ (n.val : Int) ≠ 47 ∧ firstB (n.val : Int) = false ∧ (n.val : Int) ≠ 35 := by decide +kernel

theorem digit_byte (a : UInt8) (h : digitB (bi a) = true) : spaceB (bi a) = false ∧ a ≠ 47 ∧ firstB (bi a) = false ∧ a ≠ 35 := by
  obtain ⟨h1, h2, h3, h4⟩ := digit_plain ⟨a.toNat, a.toNat_lt⟩ h
  exact ⟨h1, fun e => h2 (by rw [e]; rfl), h3, fun e => h4 (by rw [e]; rfl)⟩

theorem cut_number (a : UInt8) (r : List UInt8) (h : digitB (bi a) = true) : cutL (a :: r) = numLx (a :: r) := by
  obtain ⟨_, _, h3, h4⟩ := digit_byte a h
  show cutC a r = _
  unfold cutC
  rw [if_neg (by rw [h3, decide_eq_false h4]; decide), if_pos h]

theorem read_number (f : Int) (l : List UInt8) (hl : l.length ≤ 16000) (hw : ∀ u ∈ l, wordB (bi u) = true) (hd : ∀ u, l.head? = some u → digitB (bi u) = true) (hne : l ≠ []) (v : Int) (hv : compL (splitL l).1 (splitL l).2 = (v, 0)) :
    ∃ e, readV (B l) f = ⟨[(2, ⟨#[]⟩, v, f, 1, 1), e], 0, 0, 0, 0⟩ := by
  obtain ⟨a, r, rfl⟩ : ∃ a r, l = a :: r := by cases l with | nil => exact absurd rfl hne | cons a r => exact ⟨a, r, rfl⟩
  have ha := hd a rfl
  obtain ⟨h1, h2, _, _⟩ := digit_byte a ha
  have hn : numLx (a :: r) = ({ kind := 2, value := v }, (a :: r).length, 0) := by
    unfold numLx
    rw [tw_all hw, hv, if_pos rfl]
  refine ⟨tokD { kind := 8 } f (posL ((a :: r).take (a :: r).length) (1, 1)), ?_⟩
  rw [readV_L _ _ hl, readL_succ f 5999, skipA_none a r _ h1 h2]
  simp only [if_true]
  rw [cut_number a r ha, hn]
  simp only [if_true]
  rw [if_neg (by decide), List.drop_length, readL_end f 5998]
  rfl

theorem skipL_fuel : ∀ (m k : Nat) (l : List UInt8) (p : Int × Int), l.length ≤ m → l.length < k → skipL k l p = skipL (l.length + 1) l p
  | m, 0, l, p, _, h => absurd h (Nat.not_lt_zero _)
  | 0, k + 1, l, p, hm, _ => by
    have : l = [] := List.length_eq_zero_iff.1 (by omega)
    subst this
    rfl
  | m + 1, k + 1, l, p, hm, h => by
    simp only [skipL]
    by_cases hc : (sepL l).1 = 0 ∨ (sepL l).2 ≠ 0
    · rw [if_pos hc, if_pos hc]
    · rw [if_neg hc, if_neg hc]
      have hn : (sepL l).1 ≠ 0 := fun h => hc (.inl h)
      have hle := sepL_le l
      have hd : (l.drop (sepL l).1).length = l.length - (sepL l).1 := List.length_drop
      rw [skipL_fuel m k _ _ (by omega) (by omega), skipL_fuel m l.length _ _ (by omega) (by omega)]

theorem skipA_sep {l : List UInt8} {n : Nat} (p : Int × Int) (h : sepL l = (n, 0)) (hn : n ≠ 0) : skipA l p = skipA (l.drop n) (posL (l.take n) p) := by
  have hle := sepL_le l
  rw [h] at hle
  have hd : (l.drop n).length = l.length - n := List.length_drop
  unfold skipA
  simp only [skipL]
  rw [h, if_neg (by simp [hn])]
  simp only
  exact skipL_fuel l.length _ _ _ (by omega) (by omega)

theorem skipA_blanks (a : UInt8) (l : List UInt8) (p : Int × Int) (h : spaceB (bi a) = true) : skipA (a :: l) p = skipA (dw spaceB l) (posL (tw spaceB (a :: l)) p) := by
  have h47 : a ≠ 47 := fun e => by rw [e] at h; exact absurd h (by decide)
  have hs : sepL (a :: l) = ((tw spaceB (a :: l)).length, 0) := by
    unfold sepL
    rw [if_neg (fun h => h47 (Option.some.inj h.1)), if_neg (fun h => h47 (Option.some.inj h.1))]
  have hne : (tw spaceB (a :: l)).length ≠ 0 := by rw [tw_cons_pos h]; simp
  rw [skipA_sep p hs hne, drop_tw, take_tw, dw_cons_pos h]

/-- A blank and a number that is too great. -/
theorem read_great (f : Int) (l : List UInt8) (hl : l.length ≤ 15000) (hw : ∀ u ∈ l, wordB (bi u) = true) (hd : ∀ u, l.head? = some u → digitB (bi u) = true) (hne : l ≠ []) (hv : compL (splitL l).1 (splitL l).2 = (0, 2)) :
    readV (B (32 :: l)) f = ⟨[], f, 1, 2, 2⟩ := by
  obtain ⟨a, r, rfl⟩ : ∃ a r, l = a :: r := by cases l with | nil => exact absurd rfl hne | cons a r => exact ⟨a, r, rfl⟩
  have ha := hd a rfl
  obtain ⟨h1, h2, _, _⟩ := digit_byte a ha
  have hn : numLx (a :: r) = ({}, 0, 2) := by
    unfold numLx
    rw [tw_all hw, hv, if_neg (by decide)]
  have hs : skipA (32 :: a :: r) (1, 1) = (0, a :: r, (1, 2)) := by
    rw [skipA_blanks 32 _ _ (by decide), dw_cons_neg h1, skipA_none a r _ h1 h2, tw_cons_pos (by decide), tw_cons_neg h1]
    rfl
  rw [readV_L _ _ (by simp only [List.length_cons] at hl ⊢; omega), readL_succ f 5999, hs]
  simp only [if_true]
  rw [cut_number a r ha, hn]
  simp only
  rw [if_neg (by decide)]

/-! The texts of the law. -/
theorem split_eq8 (l : List UInt8) (h : l.head? ≠ some 120) : splitL (48 :: l) = (48 :: l, 8) := by
  unfold splitL
  rw [if_neg (fun h2 => h h2.2), if_pos List.head?_cons]

theorem number_10 (n : Nat) (hn : n < 2 ^ 63) : compL (splitL (basedV false 10 n)).1 (splitL (basedV false 10 n)).2 = if n ≤ 4294967295 then ((n : Int), 0) else (0, 2) := by
  by_cases h0 : n = 0
  · subst h0; decide +kernel
  have hh := basedV_head false 10 n (by decide) (by decide) (by omega) h0
  have hs : splitL (basedV false 10 n) = (basedV false 10 n, 10) := by
    unfold splitL
    rw [if_neg (fun h => hh h.1), if_neg hh]
  rw [hs]
  simp only
  have hf := basedV_fold false 10 n (by decide) (by decide) (by omega)
  rw [compL_fold 10 (by decide) _ (basedV_ne _ _ _) (basedV_all (P := fun u => dv u < 10) false 10 n (by decide) fun i hi => by rw [(dig_ok' false i 10 (by decide) hi).1]; omega)]
  have hf' : foldD 10 (basedV false 10 n) 0 = n := hf
  rw [hf']
  by_cases h : n ≤ 4294967295
  · rw [if_pos h, if_neg (by omega)]
  · rw [if_neg h, if_pos (by omega)]

theorem number_8 (n : Nat) (hn : n ≤ 4294967295) : compL (splitL (48 :: basedV false 8 n)).1 (splitL (48 :: basedV false 8 n)).2 = ((n : Int), 0) := by
  have hall := basedV_all (P := fun u => dv u < 8 ∧ u ≠ 120) false 8 n (by decide) fun i hi => by
    have := dig_ok' false i 8 (by decide) hi
    exact ⟨by rw [this.1]; omega, this.2.2.2.2 (by omega)⟩
  have hh : (basedV false 8 n).head? ≠ some 120 := by
    intro h
    cases hb : basedV false 8 n with
    | nil => rw [hb] at h; cases h
    | cons u r =>
      rw [hb] at h hall
      exact (hall u (by simp)).2 (Option.some.inj h)
  rw [split_eq8 _ hh]
  simp only
  have hf := basedV_fold false 8 n (by decide) (by decide) (by omega)
  have hf' : foldD 8 (48 :: basedV false 8 n) 0 = n := hf
  rw [compL_fold 8 (by decide) _ (by simp) (fun u hu => by
    rcases List.mem_cons.1 hu with rfl | hu
    · decide
    · exact (hall u hu).1), hf', if_neg (by omega)]

theorem number_16 (c : Bool) (n : Nat) (hn : n ≤ 4294967295) : compL (splitL (48 :: 120 :: basedV c 16 n)).1 (splitL (48 :: 120 :: basedV c 16 n)).2 = ((n : Int), 0) := by
  have hall := basedV_all (P := fun u => dv u < 16) c 16 n (by decide) fun i hi => by
    have := dig_ok' c i 16 (by decide) hi
    rw [this.1]; omega
  have hs : splitL (48 :: 120 :: basedV c 16 n) = (basedV c 16 n, 16) := rfl
  rw [hs]
  simp only
  have hf := basedV_fold c 16 n (by decide) (by decide) (by omega)
  have hf' : foldD 16 (basedV c 16 n) 0 = n := hf
  rw [compL_fold 16 (by decide) _ (basedV_ne _ _ _) hall, hf', if_neg (by omega)]

theorem based_words (c : Bool) (b n : Nat) (hb : 0 < b) (hb2 : b ≤ 16) : ∀ u ∈ basedV c b n, wordB (bi u) = true :=
  basedV_all (P := fun u => wordB (bi u) = true) c b n hb fun i hi => (dig_ok' c i b hb2 hi).2.1

theorem based_digits (n : Nat) : ∀ u, (basedV false 10 n).head? = some u → digitB (bi u) = true := fun u hu => by
  have h := basedV_all (P := fun u => digitB (bi u) = true) false 10 n (by decide) fun i hi => (dig_ok' false i 10 (by decide) hi).2.2.1 hi
  cases hb : basedV false 10 n with
  | nil => rw [hb] at hu; cases hu
  | cons x r =>
    rw [hb] at hu h
    cases hu
    exact h _ (by simp)

def numTexts (v : Nat) : List ByteArray := [B (basedV false 10 v), B (48 :: basedV false 8 v), B (48 :: 120 :: basedV false 16 v), B (48 :: 120 :: basedV true 16 v)]

theorem numTexts_read (v : Nat) (hv : v ≤ 4294967295) (f : Int) : ∀ s ∈ numTexts v, ∃ e, readV s f = ⟨[(2, ⟨#[]⟩, (v : Int), f, 1, 1), e], 0, 0, 0, 0⟩ := by
  have h10 := basedV_len false 10 v
  have h8 := basedV_len false 8 v
  have h16 := fun c => basedV_len c 16 v
  intro s hs
  simp only [numTexts, List.mem_cons, List.not_mem_nil, or_false] at hs
  rcases hs with rfl | rfl | rfl | rfl
  · exact read_number f _ (by omega) (based_words _ _ _ (by decide) (by decide)) (based_digits v) (basedV_ne _ _ _) v (by rw [number_10 v (by omega), if_pos hv])
  · refine read_number f _ (by simp only [List.length_cons]; omega) (fun u hu => ?_) (fun u hu => by cases hu; decide) (by simp) v (number_8 v hv)
    rcases List.mem_cons.1 hu with rfl | hu
    · decide
    · exact based_words _ _ _ (by decide) (by decide) u hu
  · refine read_number f _ (by have := h16 false; simp only [List.length_cons]; omega) (fun u hu => ?_) (fun u hu => by cases hu; decide) (by simp) v (number_16 false v hv)
    rcases List.mem_cons.1 hu with rfl | hu
    · decide
    rcases List.mem_cons.1 hu with rfl | hu
    · decide
    · exact based_words _ _ _ (by decide) (by decide) u hu
  · refine read_number f _ (by have := h16 true; simp only [List.length_cons]; omega) (fun u hu => ?_) (fun u hu => by cases hu; decide) (by simp) v (number_16 true v hv)
    rcases List.mem_cons.1 hu with rfl | hu
    · decide
    rcases List.mem_cons.1 hu with rfl | hu
    · decide
    · exact based_words _ _ _ (by decide) (by decide) u hu

theorem beyond_read (n : Nat) (h1 : 4294967295 < n) (h2 : n < 2 ^ 63) (f : Int) : readV (B (32 :: basedV false 10 n)) f = ⟨[], f, 1, 2, 2⟩ :=
  read_great f _ (by have := basedV_len false 10 n; omega) (based_words _ _ _ (by decide) (by decide)) (based_digits n) (basedV_ne _ _ _) (by rw [number_10 n h2, if_neg (by omega)])
end Go.Ab
