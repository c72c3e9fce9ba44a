/- Where tokens are: positions, lines in front, beginnings of texts. -/
import Derived.Test.YticjnehdhageoaaAbS3
namespace Go.Ab
open Go.Proofs
set_option linter.unusedSectionVars false
set_option maxRecDepth 100000
variable [Glob]

theorem skipA_blank' (a : UInt8) (l : List UInt8) (p : Int × Int) (h : spaceB (bi a) = true) : skipA (a :: l) p = skipA l (stepP p a) := by
  rw [skipA_blanks a l p h, tw_cons_pos h, posL_cons]
  cases l with
  | nil => rfl
  | cons b r =>
    cases hb : spaceB (bi b) with
    | true => rw [skipA_blanks b r _ hb, dw_cons_pos hb]
    | false => rw [dw_cons_neg hb, tw_cons_neg hb]; rfl

/-! A line in front. -/
def shiftP (p : Int × Int) : Int × Int := (p.1 + 1, p.2)
def shiftT (z : tokC.den) : tokC.den := (z.1, z.2.1, z.2.2.1, z.2.2.2.1, z.2.2.2.2.1 + 1, z.2.2.2.2.2)

theorem stepP_shift (p : Int × Int) (a : UInt8) : stepP (shiftP p) a = shiftP (stepP p a) := by
  unfold stepP shiftP
  split <;> rfl

theorem posL_shift : ∀ (l : List UInt8) (p : Int × Int), posL l (shiftP p) = shiftP (posL l p)
  | [], _ => rfl
  | a :: l, p => by rw [posL_cons, posL_cons, stepP_shift, posL_shift l]

theorem skipL_shift : ∀ (k : Nat) (l : List UInt8) (p : Int × Int), skipL k l (shiftP p) = ((skipL k l p).1, (skipL k l p).2.1, shiftP (skipL k l p).2.2)
  | 0, _, _ => rfl
  | k + 1, l, p => by
    simp only [skipL]
    split
    · rfl
    · rw [posL_shift, skipL_shift k]

theorem skipA_shift (l : List UInt8) (p : Int × Int) : skipA l (shiftP p) = ((skipA l p).1, (skipA l p).2.1, shiftP (skipA l p).2.2) := skipL_shift _ l p

theorem tokD_shift (t : TokV) (f : Int) (p : Int × Int) : tokD t f (shiftP p) = shiftT (tokD t f p) := rfl

theorem readL_shift (f : Int) : ∀ (k : Nat) (l : List UInt8) (p : Int × Int) (zs : List tokC.den),
    (readL f k l (shiftP p) (zs.map shiftT)).err = (readL f k l p zs).err ∧ (readL f k l (shiftP p) (zs.map shiftT)).toks = (readL f k l p zs).toks.map shiftT
  | 0, l, p, zs => by simp only [readL, skipA_shift, List.map_nil]; exact ⟨trivial, trivial⟩
  | k + 1, l, p, zs => by
    rw [readL_succ, readL_succ, skipA_shift]
    simp only
    split
    · split
      · split
        · exact ⟨rfl, by simp only [List.map_append, List.map_cons, List.map_nil, tokD_shift]⟩
        · have := readL_shift f k ((skipA l p).2.1.drop (cutL (skipA l p).2.1).2.1) (posL ((skipA l p).2.1.take (cutL (skipA l p).2.1).2.1) (skipA l p).2.2) (zs ++ [tokD (cutL (skipA l p).2.1).1 f (skipA l p).2.2])
          rw [List.map_append, List.map_cons, List.map_nil, ← tokD_shift, ← posL_shift] at this
          exact this
      · exact ⟨rfl, rfl⟩
    · exact ⟨rfl, rfl⟩

/-! Positions ascend. -/
def ltP (p q : Int × Int) : Prop := p.1 < q.1 ∨ p.1 = q.1 ∧ p.2 < q.2
def leP (p q : Int × Int) : Prop := p = q ∨ ltP p q

theorem ltP_trans {p q r : Int × Int} (h : ltP p q) (k : ltP q r) : ltP p r := by unfold ltP at *; omega
theorem ltP_le {p q r : Int × Int} (h : ltP p q) (k : leP q r) : ltP p r := by
  rcases k with rfl | k
  · exact h
  · exact ltP_trans h k
theorem leP_lt {p q r : Int × Int} (h : leP p q) (k : ltP q r) : ltP p r := by
  rcases h with rfl | h
  · exact k
  · exact ltP_trans h k
theorem leP_trans {p q r : Int × Int} (h : leP p q) (k : leP q r) : leP p r := by
  rcases h with rfl | h
  · exact k
  · exact .inr (ltP_le h k)

theorem stepP_lt (p : Int × Int) (a : UInt8) : ltP p (stepP p a) := by
  unfold stepP ltP
  split
  · left; show p.1 < p.1 + 1; omega
  · right; exact ⟨rfl, by show p.2 < p.2 + 1; omega⟩

theorem posL_le : ∀ (l : List UInt8) (p : Int × Int), leP p (posL l p)
  | [], _ => .inl rfl
  | a :: l, p => by rw [posL_cons]; exact .inr (ltP_le (stepP_lt p a) (posL_le l _))

theorem posL_lt {l : List UInt8} (h : l ≠ []) (p : Int × Int) : ltP p (posL l p) := by
  cases l with
  | nil => exact absurd rfl h
  | cons a l => rw [posL_cons]; exact ltP_le (stepP_lt p a) (posL_le l _)

theorem skipL_le : ∀ (k : Nat) (l : List UInt8) (p : Int × Int), leP p (skipL k l p).2.2
  | 0, _, _ => .inl rfl
  | k + 1, l, p => by
    simp only [skipL]
    split
    · exact .inl rfl
    · exact leP_trans (posL_le _ _) (skipL_le k _ _)

theorem skipA_le (l : List UInt8) (p : Int × Int) : leP p (skipA l p).2.2 := skipL_le _ l p

theorem name_first : ∀ n : Fin 256, (firstB (n.val : Int) || decide ((n.val : Int) = 35)) = true → nameB (n.val : Int) = true := by decide +kernel
theorem digit_word : ∀ n : Fin 256, digitB (n.val : Int) = true → wordB (n.val : Int) = true := by decide +kernel

theorem tw_pos {p : Int → Bool} {a : UInt8} {l : List UInt8} (h : p (bi a) = true) : 0 < (tw p (a :: l)).length := by
  rw [tw_cons_pos h]; simp

theorem strL_pos : ∀ (k : Nat) (l : List UInt8) (out : List Int) (n : Nat), (strL k l out n).2.2 = 0 → n < (strL k l out n).2.1 ∧ (strL k l out n).1.kind = 3
  | 0, l, out, n, h => by simp [strL] at h
  | k + 1, [], out, n, h => by simp [strL] at h
  | k + 1, a :: r, out, n, h => by
    simp only [strL] at h ⊢
    split
    · rename_i h1; rw [if_pos h1] at h; simp at h
    · rename_i h1
      rw [if_neg h1] at h
      split
      · exact ⟨Nat.lt_succ_self n, rfl⟩
      · rename_i h2
        rw [if_neg h2] at h
        split
        · rename_i h3
          rw [if_pos h3] at h
          split
          · rename_i h4
            rw [if_pos h4] at h
            have := strL_pos k _ _ _ h
            omega
          · rename_i h4
            rw [if_neg h4] at h
            exact (h4 h).elim
        · rename_i h3
          rw [if_neg h3] at h
          have := strL_pos k _ _ _ h
          omega

/-- A token that is none of the end has a byte at least. -/
theorem cutC_pos (a : UInt8) (r : List UInt8) (h : (cutC a r).2.2 = 0) : 0 < (cutC a r).2.1 ∧ (cutC a r).1.kind ≠ 8 := by
  revert h
  unfold cutC
  split
  · rename_i h1
    have hn : nameB (bi a) = true := by
      refine name_first ⟨a.toNat, a.toNat_lt⟩ ?_
      rw [← h1]
      congr 1
      exact byte_dec a 35
    have := tw_pos (l := r) hn
    intro _
    unfold nameLx
    split
    · split
      · rename_i h2 h3; rename_i h; unfold nameLx at h; rw [if_pos h2, if_pos h3] at h; simp at h
      · exact ⟨Nat.succ_pos _, (by decide : (5 : Int) ≠ 8)⟩
    · exact ⟨this, (by decide : (1 : Int) ≠ 8)⟩
  split
  · rename_i h1
    have := tw_pos (l := r) (p := wordB) (digit_word ⟨a.toNat, a.toNat_lt⟩ h1)
    intro h
    unfold numLx at h ⊢
    split
    · exact ⟨this, (by decide : (2 : Int) ≠ 8)⟩
    · rename_i h2; rw [if_neg h2] at h; exact (h2 h).elim
  split
  · intro h
    have := strL_pos _ _ _ _ h
    exact ⟨by omega, fun h8 => by rw [this.2] at h8; exact absurd h8 (by decide)⟩
  split
  · intro _; exact ⟨Nat.succ_pos _, (by decide : (6 : Int) ≠ 8)⟩
  split
  · rename_i h1; intro _; exact ⟨h1, (by decide : (7 : Int) ≠ 8)⟩
  split
  · rename_i h1; intro _; exact ⟨h1, (by decide : (4 : Int) ≠ 8)⟩
  · intro h; simp at h

def posT (z : tokC.den) : Int × Int := z.2.2.2.2

def AscTo (zs : List tokC.den) (p : Int × Int) : Prop := (∀ i x y, zs[i]? = some x → zs[i + 1]? = some y → ltP (posT x) (posT y)) ∧ ∀ x ∈ zs, ltP (posT x) p

theorem AscTo.add {zs : List tokC.den} {p q r : Int × Int} (h : AscTo zs p) (t : TokV) (f : Int) (hq : leP p q) (hr : ltP q r) : AscTo (zs ++ [tokD t f q]) r := by
  refine ⟨fun i x y hx hy => ?_, fun x hx => ?_⟩
  · rcases Nat.lt_or_ge (i + 1) zs.length with h1 | h1
    · rw [List.getElem?_append_left (by omega)] at hx
      rw [List.getElem?_append_left h1] at hy
      exact h.1 i x y hx hy
    · rcases Nat.lt_or_ge i zs.length with h2 | h2
      · rw [List.getElem?_append_left h2] at hx
        rw [List.getElem?_append_right h1] at hy
        have : i + 1 - zs.length = 0 := by omega
        rw [this] at hy
        cases hy
        exact ltP_le (h.2 x (List.mem_of_getElem? hx)) hq
      · rw [List.getElem?_append_right h1] at hy
        have : i + 1 - zs.length = (i - zs.length) + 1 := by omega
        rw [this] at hy
        simp at hy
  · rcases List.mem_append.1 hx with hx | hx
    · exact ltP_trans (ltP_le (h.2 x hx) hq) hr
    · obtain rfl := List.mem_singleton.1 hx
      exact hr

theorem readL_asc (f : Int) : ∀ (k : Nat) (l : List UInt8) (p : Int × Int) (zs : List tokC.den), AscTo zs p → ∀ i x y, (readL f k l p zs).toks[i]? = some x → (readL f k l p zs).toks[i + 1]? = some y → ltP (posT x) (posT y)
  | 0, l, p, zs, h => by simp [readL]
  | k + 1, l, p, zs, h => by
    rw [readL_succ]
    split
    · split
      · rename_i h2
        split
        · exact (h.add _ f (skipA_le l p) (show ltP (skipA l p).2.2 ((skipA l p).2.2.1 + 1, 0) from .inl (by show _ < _ + 1; omega))).1
        · rename_i h3
          refine readL_asc f k _ _ _ (h.add _ f (skipA_le l p) (posL_lt ?_ _))
          cases hl : (skipA l p).2.1 with
          | nil => rw [hl] at h3; exact absurd rfl h3
          | cons a r =>
            rw [hl] at h2
            have hp := (cutC_pos a r h2).1
            intro hn
            have hle := cutL_le (a :: r) h2
            have hlen := congrArg List.length hn
            rw [List.length_take] at hlen
            have e : (cutL (a :: r)).2.1 = (cutC a r).2.1 := rfl
            simp only [List.length_nil] at hlen
            omega
      · simp
    · simp

/-! The beginning of a text. -/
theorem tw_ext {p : Int → Bool} {c : UInt8} (h : p (bi c) = false) : ∀ (l b : List UInt8), tw p (l ++ c :: b) = tw p l
  | [], b => tw_cons_neg h
  | a :: l, b => by
    cases ha : p (bi a) with
    | true => rw [List.cons_append, tw_cons_pos ha, tw_cons_pos ha, tw_ext h l b]
    | false => rw [List.cons_append, tw_cons_neg ha, tw_cons_neg ha]

theorem dw_ext {p : Int → Bool} {c : UInt8} (h : p (bi c) = false) : ∀ (l b : List UInt8), dw p (l ++ c :: b) = dw p l ++ c :: b
  | [], b => dw_cons_neg h
  | a :: l, b => by
    cases ha : p (bi a) with
    | true => rw [List.cons_append, dw_cons_pos ha, dw_cons_pos ha, dw_ext h l b]
    | false => rw [List.cons_append, dw_cons_neg ha, dw_cons_neg ha]; rfl

theorem head_ext {l b : List UInt8} {c x : UInt8} (hx : c ≠ x) : (l ++ c :: b).head? = some x ↔ l.head? = some x := by
  cases l with
  | nil => simp [hx]
  | cons a l => simp

theorem tail_ext {l b : List UInt8} {c x : UInt8} (hx : c ≠ x) (hl : l ≠ []) : (l ++ c :: b).tail.head? = some x ↔ l.tail.head? = some x := by
  cases l with
  | nil => exact absurd rfl hl
  | cons a l => exact head_ext hx

theorem nameLx_ext (l b : List UInt8) : nameLx (l ++ 10 :: b) = nameLx l := by
  unfold nameLx
  rw [tw_ext (p := nameB) (by decide), tw_ext (p := wordB) (by decide), dw_ext (p := nameB) (by decide)]
  by_cases h : (dw nameB l).head? = some 58
  · rw [if_pos h, if_pos ((head_ext (by decide)).2 h)]
  · rw [if_neg h, if_neg (fun h2 => h ((head_ext (by decide)).1 h2))]

theorem numLx_ext (l b : List UInt8) : numLx (l ++ 10 :: b) = numLx l := by
  unfold numLx
  rw [tw_ext (p := wordB) (by decide)]

theorem endB_ext (l s : List UInt8) (i : Nat) (h : endB (B l) (i : Int) = false) : endB (B (l ++ s)) (i : Int) = false ∧ byteAt (B (l ++ s)) (i : Int) = byteAt (B l) (i : Int) := by
  have h1 := end_lt h
  rw [B_size] at h1
  have hlt : i < l.length := by omega
  have hb : byteAt (B (l ++ s)) (i : Int) = byteAt (B l) (i : Int) := by
    rw [byteAt_B, byteAt_B, List.getD_eq_getElem?_getD, List.getD_eq_getElem?_getD, List.getElem?_append_left hlt]
  refine ⟨?_, hb⟩
  unfold endB
  rw [hb, B_size, decide_eq_false (by rw [List.length_append]; omega), decide_eq_false h1.2]
  rfl

theorem escL_ext (l s : List UInt8) (h : (escL l).2.2 = 0) : escL (l ++ s) = escL l := by
  revert h
  unfold escL escV
  by_cases h1 : endB (B l) 1 = true
  · rw [if_pos h1]; intro h; simp at h
  have h1' : endB (B l) ((1 : Nat) : Int) = false := by simpa using h1
  obtain ⟨e1, b1⟩ := endB_ext l s 1 h1'
  have e1' : ¬ endB (B (l ++ s)) 1 = true := by
    have : endB (B (l ++ s)) 1 = false := e1
    rw [this]; decide
  have b1' : byteAt (B (l ++ s)) 1 = byteAt (B l) 1 := b1
  rw [if_neg h1, if_neg e1', b1']
  split
  · intro _; rfl
  split
  · intro _; rfl
  split
  · intro _; rfl
  split
  · intro _; rfl
  split
  · show (escNum (B l)).2.2 = 0 → escNum (B (l ++ s)) = escNum (B l)
    unfold escNum
    simp only [escGo]
    by_cases h2 : endB (B l) (2 + ((0 : Nat) : Int)) = true
    · rw [if_pos h2]; intro h; simp at h
    have h2' : endB (B l) ((2 : Nat) : Int) = false := by simpa using h2
    obtain ⟨e2, b2⟩ := endB_ext l s 2 h2'
    have e2' : ¬ endB (B (l ++ s)) (2 + ((0 : Nat) : Int)) = true := by
      have : endB (B (l ++ s)) (2 + ((0 : Nat) : Int)) = false := e2
      rw [this]; decide
    have b2' : byteAt (B (l ++ s)) (2 + ((0 : Nat) : Int)) = byteAt (B l) (2 + ((0 : Nat) : Int)) := b2
    rw [if_neg h2, if_neg e2', b2']
    split
    · intro h; simp at h
    by_cases h3 : endB (B l) (2 + ((0 + 1 : Nat) : Int)) = true
    · rw [if_pos h3]; intro h; simp at h
    have h3' : endB (B l) ((3 : Nat) : Int) = false := by
      have : ¬ endB (B l) ((3 : Nat) : Int) = true := h3
      simpa using this
    obtain ⟨e3, b3⟩ := endB_ext l s 3 h3'
    have e3' : ¬ endB (B (l ++ s)) (2 + ((0 + 1 : Nat) : Int)) = true := by
      have : endB (B (l ++ s)) (2 + ((0 + 1 : Nat) : Int)) = false := e3
      rw [this]; decide
    have b3' : byteAt (B (l ++ s)) (2 + ((0 + 1 : Nat) : Int)) = byteAt (B l) (2 + ((0 + 1 : Nat) : Int)) := b3
    rw [if_neg h3, if_neg e3', b3']
    intro _; rfl
  · intro h; simp at h

theorem strL_ext (s : List UInt8) : ∀ (k k' : Nat) (l : List UInt8) (out : List Int) (n : Nat), k ≤ k' → (strL k l out n).2.2 = 0 → strL k' (l ++ s) out n = strL k l out n
  | 0, k', l, out, n, _, h => by simp [strL] at h
  | k + 1, 0, l, out, n, hk, _ => absurd hk (Nat.not_succ_le_zero k)
  | k + 1, k' + 1, [], out, n, _, h => by simp [strL] at h
  | k + 1, k' + 1, a :: r, out, n, hk, h => by
    simp only [List.cons_append, strL] at h ⊢
    split
    · rfl
    · rename_i h1
      rw [if_neg h1] at h
      split
      · rfl
      · rename_i h2
        rw [if_neg h2] at h
        split
        · rename_i h3
          rw [if_pos h3] at h
          by_cases h4 : (escL (a :: r)).2.2 = 0
          · rw [if_pos h4] at h
            have he : escL (a :: (r ++ s)) = escL (a :: r) := escL_ext (a :: r) s h4
            have hn : (escL (a :: r)).2.1 = 2 ∨ (escL (a :: r)).2.1 = 4 := escV_n _ h4
            have hsz : (escL (a :: r)).2.1 ≤ ((B (a :: r)).size : Nat) := escV_size _ h4
            rw [B_size] at hsz
            rw [he, if_pos h4, if_pos h4]
            have hd : (a :: (r ++ s)).drop (escL (a :: r)).2.1.toNat = (a :: r).drop (escL (a :: r)).2.1.toNat ++ s := by
              rw [← List.cons_append, List.drop_append_of_le_length (by omega)]
            rw [hd]
            exact strL_ext s k k' _ _ _ (by omega) h
          · rw [if_neg h4] at h
            exact (h4 h).elim
        · rename_i h3
          rw [if_neg h3] at h
          exact strL_ext s k k' _ _ _ (by omega) h

theorem cutC_ext (a : UInt8) (r b : List UInt8) (h : (cutC a r).2.2 = 0) : cutC a (r ++ 10 :: b) = cutC a r := by
  revert h
  unfold cutC
  split
  · intro _; exact nameLx_ext (a :: r) b
  split
  · intro _; exact numLx_ext (a :: r) b
  split
  · intro h
    exact strL_ext (10 :: b) _ _ r [] 1 (by rw [List.length_append]; omega) h
  have hr : refH a (r ++ 10 :: b) = refH a r := by
    unfold refH
    cases r with
    | nil => show (decide (a = 38) && firstB (bi 10)) = _; rw [show firstB (bi 10) = false from rfl]
    | cons c r => rfl
  rw [hr, tw_ext (p := wordB) (by decide)]
  split
  · intro _; rfl
  have hw : wordL (a :: (r ++ 10 :: b)) = wordL (a :: r) := by
    have e1 : tw slashB (a :: (r ++ 10 :: b)).tail = tw slashB r := tw_ext (p := slashB) (by decide) r b
    have e2 : dw slashB (a :: (r ++ 10 :: b)).tail = dw slashB r ++ 10 :: b := dw_ext (p := slashB) (by decide) r b
    unfold wordL
    by_cases h1 : (a :: r).head? = some 47 ∧ tw slashB (a :: r).tail ≠ [] ∧ (dw slashB (a :: r).tail).head? = some 47
    · have h2 : (a :: (r ++ 10 :: b)).head? = some 47 ∧ tw slashB (a :: (r ++ 10 :: b)).tail ≠ [] ∧ (dw slashB (a :: (r ++ 10 :: b)).tail).head? = some 47 :=
        ⟨h1.1, fun h => h1.2.1 (e1.symm.trans h), by rw [e2]; exact (head_ext (by decide)).2 h1.2.2⟩
      rw [if_pos h1, if_pos h2, e1]
      rfl
    · have h2 : ¬ ((a :: (r ++ 10 :: b)).head? = some 47 ∧ tw slashB (a :: (r ++ 10 :: b)).tail ≠ [] ∧ (dw slashB (a :: (r ++ 10 :: b)).tail).head? = some 47) := fun h =>
        h1 ⟨h.1, fun h3 => h.2.1 (e1.trans h3), (head_ext (c := 10) (b := b) (by decide)).1 (e2 ▸ h.2.2)⟩
      rw [if_neg h1, if_neg h2]
  rw [hw, tw_ext (p := slashB) (by decide)]
  split
  · intro _; rfl
  have ht : twoH a (r ++ 10 :: b) = twoH a r := by
    cases r with
    | nil =>
      have two10 : ∀ n : Fin 256, twoP (UInt8.ofNat n.val) 10 = false := by decide +kernel
      have := two10 ⟨a.toNat, a.toNat_lt⟩
      simp only [UInt8.ofNat_toNat] at this
      show twoP a 10 = false
      exact this
    | cons c r => rfl
  have hs : signL a (r ++ 10 :: b) = signL a r := by
    unfold signL
    rw [ht]
  rw [hs]
  split
  · rename_i h1
    intro _
    have hle : signL a r ≤ (a :: r).length := by
      have hv := signV_range (B (a :: r)) (by rw [B_size]; exact Nat.succ_pos _)
      rw [signV_L, B_size] at hv
      omega
    have e : (a :: (r ++ 10 :: b)).take (signL a r) = (a :: r).take (signL a r) := by
      rw [← List.cons_append, List.take_append_of_le_length hle]
    rw [e]
  · intro h; simp at h

theorem endAt_ext : ∀ (l s : List UInt8) (n : Nat), endAt l = some n → endAt (l ++ s) = some n ∧ n + 2 ≤ l.length
  | [], s, n, h => by cases h
  | a :: r, s, n, h => by
    simp only [endAt, List.cons_append] at h ⊢
    by_cases h1 : a = 42 ∧ r.head? = some 47
    · rw [if_pos h1] at h
      cases h
      cases r with
      | nil => cases h1.2
      | cons c r =>
        refine ⟨by rw [if_pos ⟨h1.1, h1.2⟩], by simp⟩
    · rw [if_neg h1] at h
      obtain ⟨m, hm, rfl⟩ := Option.map_eq_some_iff.1 h
      obtain ⟨e1, e2⟩ := endAt_ext r s m hm
      have hr : r ≠ [] := by rintro rfl; simp at e2
      have h2 : ¬ (a = 42 ∧ (r ++ s).head? = some 47) := by
        cases r with
        | nil => exact absurd rfl hr
        | cons c r => exact h1
      rw [if_neg h2, e1]
      exact ⟨rfl, by simp only [List.length_cons]; omega⟩

theorem sepL_ext (l b : List UInt8) (h0 : (sepL l).2 = 0) (h1 : (sepL l).1 < l.length) : sepL (l ++ 10 :: b) = sepL l := by
  have hne : l ≠ [] := by rintro rfl; simp at h1
  revert h0 h1
  unfold sepL
  by_cases c1 : l.head? = some 47 ∧ l.tail.head? = some 47
  · rw [if_pos c1, if_pos ⟨(head_ext (by decide)).2 c1.1, (tail_ext (by decide) hne).2 c1.2⟩]
    intro _ _
    rw [tw_ext (p := lineB) (by decide)]
  have n1 : ¬ ((l ++ 10 :: b).head? = some 47 ∧ (l ++ 10 :: b).tail.head? = some 47) := fun h => c1 ⟨(head_ext (by decide)).1 h.1, (tail_ext (by decide) hne).1 h.2⟩
  rw [if_neg c1, if_neg n1]
  by_cases c2 : l.head? = some 47 ∧ l.tail.head? = some 42
  · rw [if_pos c2, if_pos ⟨(head_ext (by decide)).2 c2.1, (tail_ext (by decide) hne).2 c2.2⟩]
    have hl2 : 2 ≤ l.length := by
      cases l with
      | nil => exact absurd rfl hne
      | cons x l =>
        cases l with
        | nil => cases c2.2
        | cons y l => simp
    cases he : endAt (l.drop 2) with
    | none => intro h; simp at h
    | some n =>
      intro _ _
      rw [List.drop_append_of_le_length hl2, (endAt_ext _ (10 :: b) n he).1]
  have n2 : ¬ ((l ++ 10 :: b).head? = some 47 ∧ (l ++ 10 :: b).tail.head? = some 42) := fun h => c2 ⟨(head_ext (by decide)).1 h.1, (tail_ext (by decide) hne).1 h.2⟩
  rw [if_neg c2, if_neg n2]
  intro _ h1
  have hle := tw_len spaceB l
  have hd : dw spaceB l ≠ [] := by
    intro hd
    rw [hd] at hle
    simp only [List.length_nil] at hle
    have h1' : (tw spaceB l).length < l.length := h1
    omega
  have : ∀ l : List UInt8, dw spaceB l ≠ [] → tw spaceB (l ++ 10 :: b) = tw spaceB l := by
    intro l
    induction l with
    | nil => intro h; exact absurd rfl h
    | cons x l ih =>
      intro h
      cases hx : spaceB (bi x) with
      | true =>
        rw [dw_cons_pos hx] at h
        rw [List.cons_append, tw_cons_pos hx, tw_cons_pos hx, ih h]
      | false => rw [List.cons_append, tw_cons_neg hx, tw_cons_neg hx]
  rw [this l hd]

theorem skipL_nil : ∀ (k : Nat) (p : Int × Int), skipL k [] p = (0, [], p)
  | 0, _ => rfl
  | _ + 1, _ => rfl

theorem skipL_ext (b : List UInt8) : ∀ (k k' : Nat) (l : List UInt8) (p : Int × Int), l.length < k → l.length < k' → (skipL k l p).1 = 0 → (skipL k l p).2.1 ≠ [] →
    skipL k' (l ++ 10 :: b) p = (0, (skipL k l p).2.1 ++ 10 :: b, (skipL k l p).2.2)
  | 0, k', l, p, hk, _, _, _ => absurd hk (Nat.not_lt_zero _)
  | k + 1, 0, l, p, _, hk, _, _ => absurd hk (Nat.not_lt_zero _)
  | k + 1, k' + 1, l, p, hk, hk', h0, h1 => by
    simp only [skipL] at h0 h1 ⊢
    by_cases hc : (sepL l).1 = 0 ∨ (sepL l).2 ≠ 0
    · rw [if_pos hc] at h0 h1
      rw [if_pos hc]
      have h0' : (sepL l).2 = 0 := h0
      have hne : l ≠ [] := h1
      have hz : (sepL l).1 = 0 := by
        rcases hc with h | h
        · exact h
        · exact absurd h0' h
      have he := sepL_ext l b h0' (by rw [hz]; exact List.length_pos_iff.2 hne)
      rw [he, if_pos (.inl hz), h0']
    · rw [if_neg hc] at h0 h1
      rw [if_neg hc]
      have hz : (sepL l).1 ≠ 0 := fun h => hc (.inl h)
      have he0 : (sepL l).2 = 0 := by
        rcases Decidable.em ((sepL l).2 = 0) with h | h
        · exact h
        · exact absurd (.inr h) hc
      have hle := sepL_le l
      have hlt : (sepL l).1 < l.length := by
        rcases Nat.lt_or_ge (sepL l).1 l.length with h | h
        · exact h
        · exfalso
          apply h1
          have : l.drop (sepL l).1 = [] := List.drop_eq_nil_of_le h
          rw [this, skipL_nil]
      have he := sepL_ext l b he0 hlt
      rw [he, if_neg hc, List.drop_append_of_le_length hle, List.take_append_of_le_length hle]
      have hd : (l.drop (sepL l).1).length = l.length - (sepL l).1 := List.length_drop
      exact skipL_ext b k k' _ _ (by omega) (by omega) h0 h1

theorem skipA_ext (l b : List UInt8) (p : Int × Int) (h0 : (skipA l p).1 = 0) (h1 : (skipA l p).2.1 ≠ []) : skipA (l ++ 10 :: b) p = (0, (skipA l p).2.1 ++ 10 :: b, (skipA l p).2.2) := by
  have := skipL_ext b (l.length + 1) ((l ++ 10 :: b).length + 1) l p (by omega) (by rw [List.length_append]; omega) h0 h1
  exact this

theorem readL_more (f : Int) : ∀ (k : Nat) (l : List UInt8) (p : Int × Int) (zs : List tokC.den), (readL f k l p zs).err = 0 → ∃ us, us ≠ [] ∧ (readL f k l p zs).toks = zs ++ us
  | 0, l, p, zs, h => by
    exfalso
    revert h
    show (if (skipA l p).1 = 0 then 3 else (skipA l p).1) = 0 → False
    split
    · decide
    · rename_i h1; exact h1
  | k + 1, l, p, zs, h => by
    rw [readL_succ] at h ⊢
    split
    · rename_i h1
      rw [if_pos h1] at h
      split
      · rename_i h2
        rw [if_pos h2] at h
        split
        · exact ⟨_, by simp, rfl⟩
        · rename_i h3
          rw [if_neg h3] at h
          obtain ⟨us, hu, he⟩ := readL_more f k _ _ _ h
          exact ⟨_ :: us, by simp, by rw [he, List.append_assoc]; rfl⟩
      · rename_i h2; rw [if_neg h2] at h; exact absurd h h2
    · rename_i h1; rw [if_neg h1] at h; exact absurd h h1

theorem readL_pre (f : Int) (b : List UInt8) : ∀ (k : Nat) (l : List UInt8) (p : Int × Int) (zs : List tokC.den), (readL f k l p zs).err = 0 → (readL f k (l ++ 10 :: b) p zs).err = 0 →
    ∃ ts e us, (readL f k l p zs).toks = zs ++ ts ++ [e] ∧ us ≠ [] ∧ (readL f k (l ++ 10 :: b) p zs).toks = zs ++ ts ++ us
  | 0, l, p, zs, h, _ => by
    exfalso
    revert h
    show (if (skipA l p).1 = 0 then 3 else (skipA l p).1) = 0 → False
    split
    · decide
    · rename_i h1; exact h1
  | k + 1, l, p, zs, h, hm => by
    rw [readL_succ] at h ⊢
    by_cases h1 : (skipA l p).1 = 0
    · rw [if_pos h1] at h ⊢
      by_cases h2 : (cutL (skipA l p).2.1).2.2 = 0
      · rw [if_pos h2] at h ⊢
        by_cases h3 : (cutL (skipA l p).2.1).1.kind = 8
        · rw [if_pos h3]
          obtain ⟨us, hu, he⟩ := readL_more f (k + 1) _ _ _ hm
          exact ⟨[], _, us, by rw [List.append_nil], hu, by rw [List.append_nil]; exact he⟩
        · rw [if_neg h3] at h ⊢
          have hne : (skipA l p).2.1 ≠ [] := by intro hn; rw [hn] at h3; exact h3 rfl
          rw [readL_succ, skipA_ext l b p h1 hne] at hm ⊢
          obtain ⟨a, r, har⟩ : ∃ a r, (skipA l p).2.1 = a :: r := by
            cases hl : (skipA l p).2.1 with
            | nil => exact absurd hl hne
            | cons a r => exact ⟨a, r, rfl⟩
          have hle := cutL_le _ h2
          rw [har] at h h2 h3 hm hle ⊢
          have hce : cutL (a :: r ++ 10 :: b) = cutL (a :: r) := cutC_ext a r b h2
          simp only [if_true] at hm ⊢
          rw [hce] at hm ⊢
          rw [if_pos h2, if_neg h3] at hm
          rw [if_pos h2, if_neg h3]
          rw [List.drop_append_of_le_length hle, List.take_append_of_le_length hle] at hm ⊢
          obtain ⟨ts, e, us, e1, e2, e3⟩ := readL_pre f b k _ _ _ h hm
          exact ⟨tokD (cutL (a :: r)).1 f (skipA l p).2.2 :: ts, e, us, by rw [e1]; simp, e2, by rw [e3]; simp⟩
      · rw [if_neg h2] at h; exact absurd h h2
    · rw [if_neg h1] at h; exact absurd h h1

/-! Bounds of lines. -/
theorem posL_range : ∀ (l : List UInt8) (p : Int × Int), p.1 ≤ (posL l p).1 ∧ (posL l p).1 ≤ p.1 + l.length
  | [], p => by simp [posL]
  | a :: l, p => by
    have := posL_range l (stepP p a)
    have h : p.1 ≤ (stepP p a).1 ∧ (stepP p a).1 ≤ p.1 + 1 := by unfold stepP; split <;> simp only <;> omega
    rw [posL_cons]
    simp only [List.length_cons]
    omega

theorem skipL_range : ∀ (k : Nat) (l : List UInt8) (p : Int × Int), p.1 ≤ (skipL k l p).2.2.1 ∧ (skipL k l p).2.2.1 + (skipL k l p).2.1.length ≤ p.1 + l.length
  | 0, l, p => ⟨Int.le_refl _, Int.le_refl _⟩
  | k + 1, l, p => by
    simp only [skipL]
    split
    · exact ⟨Int.le_refl _, Int.le_refl _⟩
    · have h1 := skipL_range k (l.drop (sepL l).1) (posL (l.take (sepL l).1) p)
      have h2 := posL_range (l.take (sepL l).1) p
      have h3 := sepL_le l
      rw [List.length_drop] at h1
      rw [List.length_take] at h2
      omega

theorem readL_lines (f : Int) (lo hi : Int) : ∀ (k : Nat) (l : List UInt8) (p : Int × Int) (zs : List tokC.den), lo ≤ p.1 → p.1 + l.length ≤ hi → (∀ z ∈ zs, lo ≤ (posT z).1 ∧ (posT z).1 ≤ hi) →
    ∀ z ∈ (readL f k l p zs).toks, lo ≤ (posT z).1 ∧ (posT z).1 ≤ hi
  | 0, l, p, zs, _, _, _ => by simp [readL]
  | k + 1, l, p, zs, h1, h2, h3 => by
    have hs : p.1 ≤ (skipA l p).2.2.1 ∧ (skipA l p).2.2.1 + (skipA l p).2.1.length ≤ p.1 + l.length := skipL_range _ l p
    have hz : ∀ t : TokV, ∀ z ∈ zs ++ [tokD t f (skipA l p).2.2], lo ≤ (posT z).1 ∧ (posT z).1 ≤ hi := fun t z hz => by
      rcases List.mem_append.1 hz with hz | hz
      · exact h3 z hz
      · obtain rfl := List.mem_singleton.1 hz
        show lo ≤ (skipA l p).2.2.1 ∧ (skipA l p).2.2.1 ≤ hi
        omega
    rw [readL_succ]
    split
    · split
      · rename_i h5
        split
        · exact hz _
        · have hle := cutL_le _ h5
          have hp := posL_range ((skipA l p).2.1.take (cutL (skipA l p).2.1).2.1) (skipA l p).2.2
          rw [List.length_take] at hp
          refine readL_lines f lo hi k _ _ _ (by omega) (by rw [List.length_drop]; omega) (hz _)
      · simp
    · simp

theorem read_lines (f : Int) (a : List UInt8) : ∀ z ∈ (readV (B a) f).toks, 1 ≤ (posT z).1 ∧ (posT z).1 ≤ 16001 := by
  by_cases h : a.length ≤ 16000
  · rw [readV_L a f h]
    exact readL_lines f 1 16001 6000 a (1, 1) [] (Int.le_refl _) (by show (1 : Int) + a.length ≤ _; omega) (fun z hz => by cases hz)
  · unfold readV
    rw [if_pos (by rw [B_size]; omega)]
    intro z hz
    cases hz

theorem readL_len (f : Int) : ∀ (k : Nat) (l : List UInt8) (q : Int × Int) (zs : List tokC.den), (readL f k l q zs).toks.length ≤ zs.length + k
  | 0, l, q, zs => by simp [readL]
  | k + 1, l, q, zs => by
    rw [readL_succ]
    split
    · split
      · split
        · simp only [List.length_append, List.length_singleton]; omega
        · have := readL_len f k ((skipA l q).2.1.drop (cutL (skipA l q).2.1).2.1) (posL ((skipA l q).2.1.take (cutL (skipA l q).2.1).2.1) (skipA l q).2.2) (zs ++ [tokD (cutL (skipA l q).2.1).1 f (skipA l q).2.2])
          simp only [List.length_append, List.length_singleton] at this
          omega
      · simp
    · simp

theorem readV_len (l : List UInt8) (f : Int) : (readV (B l) f).toks.length ≤ 6001 := by
  by_cases h : l.length ≤ 16000
  · rw [readV_L _ _ h]
    have := readL_len f 6000 l (1, 1) []
    simp only [List.length_nil] at this
    omega
  · unfold readV
    rw [if_pos (by rw [B_size]; omega)]
    simp

/-! All of it. -/
theorem read_places (f : Int) (a b : List UInt8) (ha : a.length ≤ 7000) (hb : b.length ≤ 7000) :
    (readV (B (10 :: a)) f).err = (readV (B a) f).err ∧ ((readV (B a) f).err = 0 → (readV (B (10 :: a)) f).toks = (readV (B a) f).toks.map shiftT ∧
      (∀ i x y, (readV (B a) f).toks[i]? = some x → (readV (B a) f).toks[i + 1]? = some y → ltP (posT x) (posT y)) ∧
      ((readV (B (a ++ 10 :: b)) f).err = 0 → (readV (B a) f).toks.length ≤ (readV (B (a ++ 10 :: b)) f).toks.length ∧
        ∀ i, i + 1 < (readV (B a) f).toks.length → (readV (B (a ++ 10 :: b)) f).toks[i]? = (readV (B a) f).toks[i]?)) := by
  rw [readV_L a f (by omega), readV_L (10 :: a) f (by simp only [List.length_cons]; omega), readV_L (a ++ 10 :: b) f (by simp only [List.length_append, List.length_cons]; omega)]
  have hs : readL f 6000 (10 :: a) (1, 1) [] = readL f 6000 a (shiftP (1, 1)) ([] : List tokC.den) := by
    have h1 : skipA (10 :: a) (1, 1) = skipA a (shiftP (1, 1)) := skipA_blank' 10 a (1, 1) (by decide)
    rw [readL_succ f 5999, readL_succ f 5999, h1]
  have h2 := readL_shift f 6000 a (1, 1) []
  rw [List.map_nil] at h2
  rw [hs]
  refine ⟨h2.1, fun h0 => ⟨h2.2, readL_asc f 6000 a (1, 1) [] ⟨fun i x y hx => by simp at hx, fun x hx => by cases hx⟩, fun hm => ?_⟩⟩
  obtain ⟨ts, e, us, e1, e2, e3⟩ := readL_pre f b 6000 a (1, 1) [] h0 hm
  rw [e1, e3]
  have hu := List.length_pos_iff.2 e2
  refine ⟨by simp only [List.nil_append, List.length_append, List.length_singleton]; omega, fun i hi => ?_⟩
  simp only [List.nil_append, List.length_append, List.length_singleton] at hi ⊢
  rw [List.getElem?_append_left (by omega), List.getElem?_append_left (by omega)]
end Go.Ab
