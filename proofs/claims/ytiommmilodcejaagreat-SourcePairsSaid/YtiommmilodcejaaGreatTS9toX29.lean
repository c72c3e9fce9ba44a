/- Positions ascend: the first part of S6, which does not go together with S5. -/
import Derived.Test.YtiommmilodcejaaGreatTS3
import Derived.Test.YtiommmilodcejaaGreatTX26toX27
import Derived.Test.YtiommmilodcejaaGreatTX14toX15
import Derived.KernelRfl
namespace Go.Ab
open Go.Proofs
set_option linter.unusedSectionVars false
set_option maxRecDepth 100000
variable [Glob]

theorem skipA_blank' (a : UInt8) (l : List UInt8) (p : Int × Int) (h : spaceB (bi a) = true) : skipA (a :: l) p = skipA l (stepP p a) := by
  rw [skipA_blanks a l p h, tw_cons_pos h, posL_cons]
  cases l with
  | nil => rfl
  | cons b r =>
    cases hb : spaceB (bi b) with
    | true => rw [skipA_blanks b r _ hb, dw_cons_pos hb]
    | false => rw [dw_cons_neg hb, tw_cons_neg hb]; rfl

/-! A line in front. -/
def shiftP (p : Int × Int) : Int × Int := (p.1 + 1, p.2)
def shiftT (z : tokC.den) : tokC.den := (z.1, z.2.1, z.2.2.1, z.2.2.2.1, z.2.2.2.2.1 + 1, z.2.2.2.2.2)

theorem stepP_shift (p : Int × Int) (a : UInt8) : stepP (shiftP p) a = shiftP (stepP p a) := by
  unfold stepP shiftP
  split <;> rfl

theorem posL_shift : ∀ (l : List UInt8) (p : Int × Int), posL l (shiftP p) = shiftP (posL l p)
  | [], _ => rfl
  | a :: l, p => by rw [posL_cons, posL_cons, stepP_shift, posL_shift l]

theorem skipL_shift : ∀ (k : Nat) (l : List UInt8) (p : Int × Int), skipL k l (shiftP p) = ((skipL k l p).1, (skipL k l p).2.1, shiftP (skipL k l p).2.2)
  | 0, _, _ => rfl
  | k + 1, l, p => by
    simp only [skipL]
    split
    · rfl
    · rw [posL_shift, skipL_shift k]

theorem skipA_shift (l : List UInt8) (p : Int × Int) : skipA l (shiftP p) = ((skipA l p).1, (skipA l p).2.1, shiftP (skipA l p).2.2) := skipL_shift _ l p

theorem tokD_shift (t : TokV) (f : Int) (p : Int × Int) : tokD t f (shiftP p) = shiftT (tokD t f p) := rfl

theorem readL_shift (f : Int) : ∀ (k : Nat) (l : List UInt8) (p : Int × Int) (zs : List tokC.den),
    (readL f k l (shiftP p) (zs.map shiftT)).err = (readL f k l p zs).err ∧ (readL f k l (shiftP p) (zs.map shiftT)).toks = (readL f k l p zs).toks.map shiftT
  | 0, l, p, zs => by simp only [readL, skipA_shift, List.map_nil]; exact ⟨trivial, trivial⟩
  | k + 1, l, p, zs => by
    rw [readL_succ, readL_succ, skipA_shift]
    simp only
    split
    · split
      · split
        · exact ⟨rfl, by simp only [List.map_append, List.map_cons, List.map_nil, tokD_shift]⟩
        · have := readL_shift f k ((skipA l p).2.1.drop (cutL (skipA l p).2.1).2.1) (posL ((skipA l p).2.1.take (cutL (skipA l p).2.1).2.1) (skipA l p).2.2) (zs ++ [tokD (cutL (skipA l p).2.1).1 f (skipA l p).2.2])
          rw [List.map_append, List.map_cons, List.map_nil, ← tokD_shift, ← posL_shift] at this
          exact this
      · exact ⟨rfl, rfl⟩
    · exact ⟨rfl, rfl⟩

/-! Positions ascend. -/
def ltP (p q : Int × Int) : Prop := p.1 < q.1 ∨ p.1 = q.1 ∧ p.2 < q.2
def leP (p q : Int × Int) : Prop := p = q ∨ ltP p q

theorem ltP_trans {p q r : Int × Int} (h : ltP p q) (k : ltP q r) : ltP p r := by unfold ltP at *; omega
theorem ltP_le {p q r : Int × Int} (h : ltP p q) (k : leP q r) : ltP p r := by
  rcases k with rfl | k
  · exact h
  · exact ltP_trans h k
theorem leP_lt {p q r : Int × Int} (h : leP p q) (k : ltP q r) : ltP p r := by
  rcases h with rfl | h
  · exact k
  · exact ltP_trans h k
theorem leP_trans {p q r : Int × Int} (h : leP p q) (k : leP q r) : leP p r := by
  rcases h with rfl | h
  · exact k
  · exact .inr (ltP_le h k)

theorem stepP_lt (p : Int × Int) (a : UInt8) : ltP p (stepP p a) := by
  unfold stepP ltP
  split
  · left; show p.1 < p.1 + 1; omega
  · right; exact ⟨rfl, by show p.2 < p.2 + 1; omega⟩

theorem posL_le : ∀ (l : List UInt8) (p : Int × Int), leP p (posL l p)
  | [], _ => .inl rfl
  | a :: l, p => by rw [posL_cons]; exact .inr (ltP_le (stepP_lt p a) (posL_le l _))

theorem posL_lt {l : List UInt8} (h : l ≠ []) (p : Int × Int) : ltP p (posL l p) := by
  cases l with
  | nil => exact absurd rfl h
  | cons a l => rw [posL_cons]; exact ltP_le (stepP_lt p a) (posL_le l _)

theorem skipL_le : ∀ (k : Nat) (l : List UInt8) (p : Int × Int), leP p (skipL k l p).2.2
  | 0, _, _ => .inl rfl
  | k + 1, l, p => by
    simp only [skipL]
    split
    · exact .inl rfl
    · exact leP_trans (posL_le _ _) (skipL_le k _ _)

theorem skipA_le (l : List UInt8) (p : Int × Int) : leP p (skipA l p).2.2 := skipL_le _ l p

theorem name_first : ∀ n : Fin 256, (firstB (n.val : Int) || decide ((n.val : Int) = 35)) = true → nameB (n.val : Int) = true := by decide +kernel
theorem digit_word : ∀ n : Fin 256, digitB (n.val : Int) = true → wordB (n.val : Int) = true := by decide +kernel

theorem tw_pos {p : Int → Bool} {a : UInt8} {l : List UInt8} (h : p (bi a) = true) : 0 < (tw p (a :: l)).length := by
  rw [tw_cons_pos h]; simp

theorem strL_pos : ∀ (k : Nat) (l : List UInt8) (out : List Int) (n : Nat), (strL k l out n).2.2 = 0 → n < (strL k l out n).2.1 ∧ (strL k l out n).1.kind = 3
  | 0, l, out, n, h => by simp [strL] at h
  | k + 1, [], out, n, h => by simp [strL] at h
  | k + 1, a :: r, out, n, h => by
    simp only [strL] at h ⊢
    split
    · rename_i h1; rw [if_pos h1] at h; simp at h
    · rename_i h1
      rw [if_neg h1] at h
      split
      · exact ⟨Nat.lt_succ_self n, rfl⟩
      · rename_i h2
        rw [if_neg h2] at h
        split
        · rename_i h3
          rw [if_pos h3] at h
          split
          · rename_i h4
            rw [if_pos h4] at h
            have := strL_pos k _ _ _ h
            omega
          · rename_i h4
            rw [if_neg h4] at h
            exact (h4 h).elim
        · rename_i h3
          rw [if_neg h3] at h
          have := strL_pos k _ _ _ h
          omega

/-- A token that is none of the end has a byte at least. -/
theorem cutC_pos (a : UInt8) (r : List UInt8) (h : (cutC a r).2.2 = 0) : 0 < (cutC a r).2.1 ∧ (cutC a r).1.kind ≠ 8 := by
  revert h
  unfold cutC
  split
  · rename_i h1
    have hn : nameB (bi a) = true := by
      refine name_first ⟨a.toNat, a.toNat_lt⟩ ?_
      rw [← h1]
      congr 1
      exact byte_dec a 35
    have := tw_pos (l := r) hn
    intro _
    unfold nameLx
    split
    · split
      · rename_i h2 h3; rename_i h; unfold nameLx at h; rw [if_pos h2, if_pos h3] at h; simp at h
      · exact ⟨Nat.succ_pos _, (by decide : (5 : Int) ≠ 8)⟩
    · exact ⟨this, (by decide : (1 : Int) ≠ 8)⟩
  split
  · rename_i h1
    have := tw_pos (l := r) (p := wordB) (digit_word ⟨a.toNat, a.toNat_lt⟩ h1)
    intro h
    unfold numLx at h ⊢
    split
    · exact ⟨this, (by decide : (2 : Int) ≠ 8)⟩
    · rename_i h2; rw [if_neg h2] at h; exact (h2 h).elim
  split
  · intro h
    have := strL_pos _ _ _ _ h
    exact ⟨by omega, fun h8 => by rw [this.2] at h8; exact absurd h8 (by decide)⟩
  split
  · intro _; exact ⟨Nat.succ_pos _, (by decide : (6 : Int) ≠ 8)⟩
  split
  · rename_i h1; intro _; exact ⟨h1, (by decide : (7 : Int) ≠ 8)⟩
  split
  · rename_i h1; intro _; exact ⟨h1, (by decide : (4 : Int) ≠ 8)⟩
  · intro h; simp at h

def posT (z : tokC.den) : Int × Int := z.2.2.2.2

def AscTo (zs : List tokC.den) (p : Int × Int) : Prop := (∀ i x y, zs[i]? = some x → zs[i + 1]? = some y → ltP (posT x) (posT y)) ∧ ∀ x ∈ zs, ltP (posT x) p

theorem AscTo.add {zs : List tokC.den} {p q r : Int × Int} (h : AscTo zs p) (t : TokV) (f : Int) (hq : leP p q) (hr : ltP q r) : AscTo (zs ++ [tokD t f q]) r := by
  refine ⟨fun i x y hx hy => ?_, fun x hx => ?_⟩
  · rcases Nat.lt_or_ge (i + 1) zs.length with h1 | h1
    · rw [List.getElem?_append_left (by omega)] at hx
      rw [List.getElem?_append_left h1] at hy
      exact h.1 i x y hx hy
    · rcases Nat.lt_or_ge i zs.length with h2 | h2
      · rw [List.getElem?_append_left h2] at hx
        rw [List.getElem?_append_right h1] at hy
        have : i + 1 - zs.length = 0 := by omega
        rw [this] at hy
        cases hy
        exact ltP_le (h.2 x (List.mem_of_getElem? hx)) hq
      · rw [List.getElem?_append_right h1] at hy
        have : i + 1 - zs.length = (i - zs.length) + 1 := by omega
        rw [this] at hy
        simp at hy
  · rcases List.mem_append.1 hx with hx | hx
    · exact ltP_trans (ltP_le (h.2 x hx) hq) hr
    · obtain rfl := List.mem_singleton.1 hx
      exact hr

theorem readL_asc (f : Int) : ∀ (k : Nat) (l : List UInt8) (p : Int × Int) (zs : List tokC.den), AscTo zs p → ∀ i x y, (readL f k l p zs).toks[i]? = some x → (readL f k l p zs).toks[i + 1]? = some y → ltP (posT x) (posT y)
  | 0, l, p, zs, h => by simp [readL]
  | k + 1, l, p, zs, h => by
    rw [readL_succ]
    split
    · split
      · rename_i h2
        split
        · exact (h.add _ f (skipA_le l p) (show ltP (skipA l p).2.2 ((skipA l p).2.2.1 + 1, 0) from .inl (by show _ < _ + 1; omega))).1
        · rename_i h3
          refine readL_asc f k _ _ _ (h.add _ f (skipA_le l p) (posL_lt ?_ _))
          cases hl : (skipA l p).2.1 with
          | nil => rw [hl] at h3; exact absurd rfl h3
          | cons a r =>
            rw [hl] at h2
            have hp := (cutC_pos a r h2).1
            intro hn
            have hle := cutL_le (a :: r) h2
            have hlen := congrArg List.length hn
            rw [List.length_take] at hlen
            have e : (cutL (a :: r)).2.1 = (cutC a r).2.1 := rfl
            simp only [List.length_nil] at hlen
            omega
      · simp
    · simp
end Go.Ab

/- SourcePairs: what Read gives, definition by definition. -/
namespace Go.Ab
open Go.Proofs
set_option linter.unusedSectionVars false
set_option maxRecDepth 100000
variable [Glob]

theorem readV_asc (s : ByteArray) (f : Int) : ∀ i x y, (readV s f).toks[i]? = some x → (readV s f).toks[i + 1]? = some y → ltP (posK x) (posK y) := by
  by_cases h : s.size ≤ 16000
  · obtain ⟨l, rfl⟩ : ∃ l, s = B l := ⟨s.data.toList, rfl⟩
    rw [readV_L l f h]
    exact readL_asc f 6000 l (1, 1) [] ⟨fun i x y hx => by simp at hx, fun x hx => by cases hx⟩
  · intro i x y hx _
    unfold readV at hx
    rw [if_pos (by omega)] at hx
    simp at hx

theorem ltP_tr {a b c : Int × Int} (h : ltP a b) (k : ltP b c) : ltP a c := by
  unfold ltP at *
  omega

theorem asc_far {ts : List tkC.den} (h : ∀ i x y, ts[i]? = some x → ts[i + 1]? = some y → ltP (posK x) (posK y)) : ∀ (k i : Nat), i + k + 1 < ts.length → ltP (posK (ts.getD i tkC.dflt)) (posK (ts.getD (i + k + 1) tkC.dflt))
  | 0, i, hi => by
    rw [List.getD_eq_getElem?_getD, List.getD_eq_getElem?_getD, List.getElem?_eq_getElem (show i < ts.length by omega), List.getElem?_eq_getElem (show i + 0 + 1 < ts.length by omega)]
    exact h i _ _ (List.getElem?_eq_getElem (show i < ts.length by omega)) (List.getElem?_eq_getElem (show i + 1 < ts.length by omega))
  | k + 1, i, hi => by
    refine ltP_tr (asc_far h k i (by omega)) ?_
    have h2 := asc_far h 0 (i + k + 1) (by omega)
    exact h2

theorem posIn_le {ts : List tkC.den} {n : Nat} : ∀ (ds : List defC.den) {q : Nat}, PosIn ts (q + 1) n ds → q ≤ n
  | [], _, h => Nat.le_of_succ_le h
  | _ :: ds, _, ⟨i, h1, _, h3⟩ => by have := posIn_le ds h3; omega

theorem posIn_asc {ts : List tkC.den} (h : ∀ i x y, ts[i]? = some x → ts[i + 1]? = some y → ltP (posK x) (posK y)) {n : Nat} (hn : n ≤ ts.length) : ∀ (ds : List defC.den) (a : Nat), PosIn ts a n ds → ∀ i x y, ds[i]? = some x → ds[i + 1]? = some y → ltP (posD x) (posD y)
  | [], _, _, i, x, y, hx, _ => by simp at hx
  | [d], _, _, i, x, y, _, hy => by simp at hy
  | d :: e :: ds, a, ⟨j, h1, h2, k, h3, h4, h5⟩, i, x, y, hx, hy => by
    cases i with
    | zero =>
      have ex : d = x := by simpa using hx
      have ey : e = y := by simpa using hy
      rw [← ex, ← ey, h2, h4]
      have hk : k + 1 ≤ n := by
        cases ds with
        | nil => exact h5
        | cons f ds => obtain ⟨q, q1, _, q2⟩ := h5; exact Nat.le_trans q1 (posIn_le ds q2)
      have h6 := asc_far h (k - j - 1) j (by omega)
      rw [show j + (k - j - 1) + 1 = k by omega] at h6
      exact h6
    | succ i => exact posIn_asc h hn (e :: ds) (j + 1) ⟨k, h3, h4, h5⟩ i x y (by simpa using hx) (by simpa using hy)

theorem wks_step {l : List defC.den} {e : Nat} (h : wks 0 l = some e) {i d : Nat} (hi : i < l.length) (hd : wks 0 (l.take i) = some d) : ∃ c, wk d (l.getD i defC.dflt) = some c ∧ wks 0 (l.take (i + 1)) = some c := by
  have e1 : l.take (i + 1) = l.take i ++ [l.getD i defC.dflt] := by
    rw [List.take_add_one, List.getElem?_eq_getElem hi, List.getD_eq_getElem?_getD, List.getElem?_eq_getElem hi]
    rfl
  have e2 : l = l.take i ++ (l.getD i defC.dflt :: l.drop (i + 1)) := by
    rw [List.getD_eq_getElem?_getD, List.getElem?_eq_getElem hi]
    show l = l.take i ++ (l[i] :: l.drop (i + 1))
    rw [← List.drop_eq_getElem_cons hi, List.take_append_drop]
  rw [e2, wks_append, hd] at h
  have h' : (wk d (l.getD i defC.dflt)).bind (fun e => wks e (l.drop (i + 1))) = some e := h
  cases hc : wk d (l.getD i defC.dflt) with
  | none => rw [hc] at h'; cases h'
  | some c => exact ⟨c, rfl, by rw [e1, wks_append, hd]; show (wk d _).bind _ = _; rw [hc]; rfl⟩

/-- The positions of what Read gives ascend. -/
theorem srcV_asc (s : ByteArray) (f : Int) : ∀ i x y, (srcV s f).defs[i]? = some x → (srcV s f).defs[i + 1]? = some y → ltP (posD x) (posD y) := by
  obtain ⟨_, ⟨n, hn, hp⟩, _⟩ := srcV_prd s f
  exact posIn_asc (readV_asc s f) hn _ 0 hp

def Z11 : Table := ext Z10 12 (saysSI fun s f => (none, (srcV s f).sv))
theorem z11 : TSound Tryz.prog Z11 := ext_only z5 z10
end Go.Ab

/- SourcePairs: the law. -/
namespace Go.Ab
open Go.Proofs
set_option linter.unusedSectionVars false
set_option maxRecDepth 100000
variable [Glob]

theorem posIn_len {ts : List tkC.den} : ∀ {ds : List defC.den} {a n : Nat}, PosIn ts a n ds → a + ds.length ≤ n
  | [], _, _, h => h
  | _ :: ds, _, _, ⟨i, h1, _, h3⟩ => by have := posIn_len h3; simp only [List.length_cons]; omega

theorem srcV_len (s : ByteArray) (f : Int) : (srcV s f).defs.length ≤ 6000 := by
  obtain ⟨_, ⟨n, hn, hp⟩, _⟩ := srcV_prd s f
  have h1 := posIn_len hp
  have h2 := (rV_end s f).1
  omega

theorem wk_le {d e : Nat} {x : defC.den} (h : wk d x = some e) : e ≤ d + 1 := by
  unfold wk at h
  repeat' split at h
  all_goals first | (cases h; done) | (have := Option.some.inj h; omega)

theorem wks_le : ∀ {ds : List defC.den} {d e : Nat}, wks d ds = some e → e ≤ d + ds.length
  | [], _, _, h => by cases h; exact Nat.le_refl _
  | x :: ds, d, e, h => by
    cases hc : wk d x with
    | none =>
      have h' : (wk d x).bind (fun e => wks e ds) = some e := h
      rw [hc] at h'
      cases h'
    | some c =>
      have h' : (wk d x).bind (fun e => wks e ds) = some e := h
      rw [hc] at h'
      have h1 := wk_le hc
      have h2 := wks_le (ds := ds) h'
      simp only [List.length_cons]
      omega

/-- What the law finds wrong with a depth or a position is not there. -/
theorem posFlag {i : Nat} {D : Int} {p q : Int × Int} (hD : 0 ≤ D) (h : ∀ j, i = j + 1 → ltP p q) (g : (decide (D < 0) || (decide (0 < (i : Int)) && (decide (q.1 < p.1) || (decide (p.1 = q.1) && decide (q.2 ≤ p.2))))) = true) : False := by
  simp only [Bool.or_eq_true, Bool.and_eq_true, decide_eq_true_eq] at g
  rcases g with g | ⟨g1, g2⟩
  · omega
  · have h1 := h (i - 1) (by omega)
    unfold ltP at h1
    omega

def saysPairs : Says := fun args H => match args, H with
  | [.c (.p (.l (.int .i64) _))], [] => some (none, .bool true, [])
  | _, _ => none

def Z12 : Table := ext Z11 4 saysPairs

set_option maxHeartbeats 4000000 in
theorem z12 : TSound Tryz.prog Z12 := by
  refine ext_run z11 (f := 4) (fn := Tryz.f4) rfl rfl [0, 2, 3, 4, 6, 7, 8, 9, 19, 20, 21, 22, 27, 28, 47, 50, 54, 58, 59, 62, 107] fun args H p r H' hs hp => ?_
  unfold saysPairs at hs
  split at hs
  · rename_i zs
    cases hs
    refine ⟨Nat.le_of_ble_eq_true rfl, [], rfl, fun k hk => absurd hk (Nat.not_lt_zero k), ?_⟩
    have ht0 : tapeOk ((zs : List Int).take 500) 0 := by
      have := List.length_take_le 500 (zs : List Int)
      exact ⟨by decide, by decide, by omega⟩
    generalize hz : (zs : List Int).take 500 = ys at ht0
    refine runF_shut rfl fun K0 hK0 => ?_
    refine seq_shut fun K1 hK1 => ?_
    repeat ((conv => whnf); refine ⟨by first | (unfold inI64; omega) | omega | exact ⟨by omega, by omega⟩ | (intro hg; first | (unfold inI64; omega) | omega | exact ⟨by omega, by omega⟩ | (simp [lit] at hg; unfold inI64; omega) | (simp [lit] at hg; omega) | (simp [lit] at hg; exact ⟨by omega, by omega⟩)) | (show (_ : Nat) + 1 ≤ 1000000000000; omega) | exact rfl | (unfold inI64; dsimp only; omega) | (dsimp only; omega) | (intro hg; simp [lit] at hg; first | (unfold inI64; dsimp only; omega) | (dsimp only; omega)) | decide +kernel, ?_⟩)
    conv => whnf
    rw [hK1]
    show runC _ _ _ (.seq _ _) _ _ _
    refine seq_shut fun K2 hK2 => ?_
    repeat ((conv => whnf); refine ⟨by first | (unfold inI64; omega) | omega | exact ⟨by omega, by omega⟩ | (intro hg; first | (unfold inI64; omega) | omega | exact ⟨by omega, by omega⟩ | (simp [lit] at hg; unfold inI64; omega) | (simp [lit] at hg; omega) | (simp [lit] at hg; exact ⟨by omega, by omega⟩)) | (show (_ : Nat) + 1 ≤ 1000000000000; omega) | exact rfl | (unfold inI64; dsimp only; omega) | (dsimp only; omega) | (intro hg; simp [lit] at hg; first | (unfold inI64; dsimp only; omega) | (dsimp only; omega)) | decide +kernel, ?_⟩)
    conv => whnf
    rw [hz, hK2]
    show runC _ _ _ (.seq _ _) _ _ _
    refine seq_shut fun K3 hK3 => ?_
    repeat ((conv => whnf); refine ⟨by first | exact ⟨ht0, rfl⟩ | (unfold inI64; omega) | omega | exact ⟨by omega, by omega⟩ | (intro hg; first | (unfold inI64; omega) | omega | exact ⟨by omega, by omega⟩ | (simp [lit] at hg; unfold inI64; omega) | (simp [lit] at hg; omega) | (simp [lit] at hg; exact ⟨by omega, by omega⟩)) | (show (_ : Nat) + 1 ≤ 1000000000000; omega) | exact rfl | (unfold inI64; dsimp only; omega) | (dsimp only; omega) | (intro hg; simp [lit] at hg; first | (unfold inI64; dsimp only; omega) | (dsimp only; omega)) | decide +kernel, ?_⟩)
    conv => whnf
    rw [hK3]
    obtain ⟨hw, _, he⟩ := srcV_prd (docT ys 0).1 0
    have ha := srcV_asc (docT ys 0).1 0
    have hl := srcV_len (docT ys 0).1 0
    show runC _ _ _ (.seq _ _) [(0, .s (.a (.c (.p (.l (.int .i64) zs))))), (2, .s (.bool false)), (3, .s (.a (.c (.ptr 0 0)))), (4, .s (.a (.c (.p (.l defC (srcV (docT ys 0).1 0).defs))))), (6, .s (.a (.c (.p (.v (.int .i64 (srcV (docT ys 0).1 0).err)))))), (7, .s .none), (8, .s .none), (9, .s .none), (19, .s .none), (20, .s .none), (21, .s .none), (22, .s .none), (27, .s .none), (28, .s .none), (47, .s .none), (50, .s .none), (54, .s .none), (58, .s .none), (59, .s .none), (62, .s .none), (107, .s .none)] [tapeO ys (docT ys 0).2, AO.row [.p (.v (.int .i64 (srcV (docT ys 0).1 0).file)), .p (.v (.int .i64 (srcV (docT ys 0).1 0).line)), .p (.v (.int .i64 (srcV (docT ys 0).1 0).column))]] _
    generalize (srcV (docT ys 0).1 0).defs = l at hw he ha hl
    generalize (srcV (docT ys 0).1 0).err = er at he
    generalize (srcV (docT ys 0).1 0).file = fi
    generalize (srcV (docT ys 0).1 0).line = li
    generalize (srcV (docT ys 0).1 0).column = co
    generalize (docT ys 0).2 = n3
    repeat ((conv => whnf); refine ⟨by first | (unfold inI64; omega) | omega | exact ⟨by omega, by omega⟩ | (intro hg; first | (unfold inI64; omega) | omega | exact ⟨by omega, by omega⟩ | (simp [lit] at hg; unfold inI64; omega) | (simp [lit] at hg; omega) | (simp [lit] at hg; exact ⟨by omega, by omega⟩)) | (show (_ : Nat) + 1 ≤ 1000000000000; omega) | exact rfl | (unfold inI64; dsimp only; omega) | (dsimp only; omega) | (intro hg; simp [lit] at hg; first | (unfold inI64; dsimp only; omega) | (dsimp only; omega)) | decide +kernel, ?_⟩)
    conv => whnf
    refine loop_intro (σ := Nat × Nat × Int) (fun ⟨i, _, D⟩ => [(0, XV.s .none), (2, XV.s (.bool false)), (3, XV.s .none), (4, XV.s (.a (.c (.p (.l defC l))))), (6, XV.s (.a (.c (.p (.v (.int .i64 er)))))), (7, XV.s (.int .i64 D)), (8, XV.s .none), (9, XV.s .none), (19, XV.s (.a (.c (.p (.l defC l))))), (20, XV.s (.int .i64 l.length)), (21, XV.s (.int .i64 i)), (22, XV.s .none), (27, XV.s .none), (28, XV.s .none), (47, XV.s .none), (50, XV.s .none), (54, XV.s .none), (58, XV.s .none), (59, XV.s .none), (62, XV.s .none), (107, XV.s .none)])
      (fun _ => [tapeO ys n3, AO.row [.p (.v (.int .i64 fi)), .p (.v (.int .i64 li)), .p (.v (.int .i64 co))]]) (fun ⟨i, d, D⟩ => i ≤ l.length ∧ wks 0 (l.take i) = some d ∧ D = d) (fun ⟨i, _, _⟩ => l.length - i) (0, 0, 0) ?_ ?_ ?_ ?_
    · repeat (first | exact LeL.nil | refine LeL.drop ?_ | refine LeL.same ?_)
    · rfl
    · exact ⟨Nat.zero_le _, rfl, rfl⟩
    rintro ⟨i, d, D⟩ ⟨hi, hd, hD⟩
    replace hD : D = d := hD
    subst hD
    have hdl : d ≤ 6000 := by
      have h2 := wks_le hd
      have h3 := List.length_take_le i l
      omega
    repeat ((conv => whnf); refine ⟨by first | (unfold inI64; omega) | omega | exact ⟨by omega, by omega⟩ | (intro hg; first | (unfold inI64; omega) | omega | exact ⟨by omega, by omega⟩ | (simp [lit] at hg; unfold inI64; omega) | (simp [lit] at hg; omega) | (simp [lit] at hg; exact ⟨by omega, by omega⟩)) | (show (_ : Nat) + 1 ≤ 1000000000000; omega) | exact rfl | (unfold inI64; dsimp only; omega) | (dsimp only; omega) | (intro hg; simp [lit] at hg; first | (unfold inI64; dsimp only; omega) | (dsimp only; omega)) | decide +kernel, ?_⟩)
    conv => whnf
    refine cond_intro (fun h => ?_) (fun h => ?_)
    · have h1 : i < l.length := by have := of_decide_eq_true h; omega
      have ix : (0 : Int) ≤ i ∧ (i : Int) < (l.length : Nat) := by omega
      repeat ((conv => whnf); refine ⟨by first | exact ix | (unfold inI64; omega) | omega | exact ⟨by omega, by omega⟩ | (intro hg; first | (unfold inI64; omega) | omega | exact ⟨by omega, by omega⟩ | (simp [lit] at hg; unfold inI64; omega) | (simp [lit] at hg; omega) | (simp [lit] at hg; exact ⟨by omega, by omega⟩)) | (show (_ : Nat) + 1 ≤ 1000000000000; omega) | exact rfl | (unfold inI64; dsimp only; omega) | (dsimp only; omega) | (intro hg; simp [lit] at hg; first | (unfold inI64; dsimp only; omega) | (dsimp only; omega)) | decide +kernel, ?_⟩)
      conv => whnf
      obtain ⟨e, hwk, he2⟩ := wks_step hw h1 hd
      have hasc : ∀ j : Nat, i = j + 1 → ltP (posD (l.getD ((i : Int) - 1).toNat defC.dflt)) (posD (l.getD i defC.dflt)) := fun j hj => by
        have h2 : ((i : Int) - 1).toNat = j := by omega
        rw [h2, List.getD_eq_getElem?_getD, List.getD_eq_getElem?_getD, List.getElem?_eq_getElem (show j < l.length by omega), List.getElem?_eq_getElem h1]
        exact ha j _ _ (List.getElem?_eq_getElem (show j < l.length by omega)) (by subst hj; exact List.getElem?_eq_getElem h1)
      have hx : l.getD ((i : Int)).toNat defC.dflt = l.getD i defC.dflt := rfl
      rw [hx]
      generalize l.getD i defC.dflt = x at hwk hasc
      unfold wk at hwk
      refine cond_intro (fun k1 => ?_) (fun k1 => ?_)
      · have k1' : x.1 = 1 := of_decide_eq_true k1
        rw [if_pos k1'] at hwk
        split at hwk
        · cases hwk
        rename_i z1
        split at hwk
        · rename_i z2
          cases hwk
          repeat ((conv => whnf); refine ⟨by first | (unfold inI64; omega) | omega | exact ⟨by omega, by omega⟩ | (intro hg; first | (unfold inI64; omega) | omega | exact ⟨by omega, by omega⟩ | (simp [lit] at hg; unfold inI64; omega) | (simp [lit] at hg; omega) | (simp [lit] at hg; exact ⟨by omega, by omega⟩)) | (show (_ : Nat) + 1 ≤ 1000000000000; omega) | exact rfl | (unfold inI64; dsimp only; omega) | (dsimp only; omega) | (intro hg; simp [lit] at hg; first | (unfold inI64; dsimp only; omega) | (dsimp only; omega)) | decide +kernel, ?_⟩)
          conv => whnf
          refine cond_intro (fun g => ?_) (fun _ => ?_)
          · exfalso
            have g1 : (decide ((x.2.2.1.size : Int) = 0) || !(decide ((d : Int) = 0) == outB x.2.2.1)) = true := g
            rw [← z2, show decide ((d : Int) = 0) = decide (d = 0) from decide_eq_decide.2 (by omega), decide_eq_false (show ¬ (x.2.2.1.size : Int) = 0 by omega)] at g1
            revert g1
            cases decide (d = 0) <;> decide
          repeat ((conv => whnf); refine ⟨by first | (unfold inI64; omega) | omega | exact ⟨by omega, by omega⟩ | (intro hg; first | (unfold inI64; omega) | omega | exact ⟨by omega, by omega⟩ | (simp [lit] at hg; unfold inI64; omega) | (simp [lit] at hg; omega) | (simp [lit] at hg; exact ⟨by omega, by omega⟩)) | (show (_ : Nat) + 1 ≤ 1000000000000; omega) | exact rfl | (unfold inI64; dsimp only; omega) | (dsimp only; omega) | (intro hg; simp [lit] at hg; first | (unfold inI64; dsimp only; omega) | (dsimp only; omega)) | decide +kernel, ?_⟩)
          conv => whnf
          refine cond_intro (fun g => ?_) (fun _ => ?_)
          · exfalso
            exact posFlag (D := (d : Int) + 1) (by omega) hasc g
          repeat ((conv => whnf); refine ⟨by first | (unfold inI64; omega) | omega | exact ⟨by omega, by omega⟩ | (intro hg; first | (unfold inI64; omega) | omega | exact ⟨by omega, by omega⟩ | (simp [lit] at hg; unfold inI64; omega) | (simp [lit] at hg; omega) | (simp [lit] at hg; exact ⟨by omega, by omega⟩)) | (show (_ : Nat) + 1 ≤ 1000000000000; omega) | exact rfl | (unfold inI64; dsimp only; omega) | (dsimp only; omega) | (intro hg; simp [lit] at hg; first | (unfold inI64; dsimp only; omega) | (dsimp only; omega)) | decide +kernel, ?_⟩)
          conv => whnf
          refine head_keep (i + 1, d + 1, (d : Int) + 1) [0, 1] rfl id2 rfl ?_ ?_ ?_
          · repeat (first | exact KeepL.nil | refine KeepL.drop ?_ | refine KeepL.ren rfl ?_)
          · exact ⟨h1, he2, by omega⟩
          · show l.length - (i + 1) < l.length - i
            omega
        · cases hwk
      have n1 : ¬ x.1 = 1 := of_decide_eq_false k1
      rw [if_neg n1] at hwk
      repeat ((conv => whnf); refine ⟨by first | (unfold inI64; omega) | omega | exact ⟨by omega, by omega⟩ | (intro hg; first | (unfold inI64; omega) | omega | exact ⟨by omega, by omega⟩ | (simp [lit] at hg; unfold inI64; omega) | (simp [lit] at hg; omega) | (simp [lit] at hg; exact ⟨by omega, by omega⟩)) | (show (_ : Nat) + 1 ≤ 1000000000000; omega) | exact rfl | (unfold inI64; dsimp only; omega) | (dsimp only; omega) | (intro hg; simp [lit] at hg; first | (unfold inI64; dsimp only; omega) | (dsimp only; omega)) | decide +kernel, ?_⟩)
      conv => whnf
      refine cond_intro (fun k2 => ?_) (fun k2 => ?_)
      · have k2' : x.1 = 2 := of_decide_eq_true k2
        rw [if_pos k2'] at hwk
        split at hwk
        · cases hwk
        rename_i z1
        cases hwk
        repeat ((conv => whnf); refine ⟨by first | (unfold inI64; omega) | omega | exact ⟨by omega, by omega⟩ | (intro hg; first | (unfold inI64; omega) | omega | exact ⟨by omega, by omega⟩ | (simp [lit] at hg; unfold inI64; omega) | (simp [lit] at hg; omega) | (simp [lit] at hg; exact ⟨by omega, by omega⟩)) | (show (_ : Nat) + 1 ≤ 1000000000000; omega) | exact rfl | (unfold inI64; dsimp only; omega) | (dsimp only; omega) | (intro hg; simp [lit] at hg; first | (unfold inI64; dsimp only; omega) | (dsimp only; omega)) | decide +kernel, ?_⟩)
        conv => whnf
        refine cond_intro (fun g => ?_) (fun _ => ?_)
        · exfalso
          exact posFlag (D := (d : Int) - 1) (by omega) hasc g
        repeat ((conv => whnf); refine ⟨by first | (unfold inI64; omega) | omega | exact ⟨by omega, by omega⟩ | (intro hg; first | (unfold inI64; omega) | omega | exact ⟨by omega, by omega⟩ | (simp [lit] at hg; unfold inI64; omega) | (simp [lit] at hg; omega) | (simp [lit] at hg; exact ⟨by omega, by omega⟩)) | (show (_ : Nat) + 1 ≤ 1000000000000; omega) | exact rfl | (unfold inI64; dsimp only; omega) | (dsimp only; omega) | (intro hg; simp [lit] at hg; first | (unfold inI64; dsimp only; omega) | (dsimp only; omega)) | decide +kernel, ?_⟩)
        conv => whnf
        refine head_keep (i + 1, d - 1, (d : Int) - 1) [0, 1] rfl id2 rfl ?_ ?_ ?_
        · repeat (first | exact KeepL.nil | refine KeepL.drop ?_ | refine KeepL.ren rfl ?_)
        · exact ⟨h1, he2, by omega⟩
        · show l.length - (i + 1) < l.length - i
          omega
      have n2 : ¬ x.1 = 2 := of_decide_eq_false k2
      rw [if_neg n2] at hwk
      repeat ((conv => whnf); refine ⟨by first | (unfold inI64; omega) | omega | exact ⟨by omega, by omega⟩ | (intro hg; first | (unfold inI64; omega) | omega | exact ⟨by omega, by omega⟩ | (simp [lit] at hg; unfold inI64; omega) | (simp [lit] at hg; omega) | (simp [lit] at hg; exact ⟨by omega, by omega⟩)) | (show (_ : Nat) + 1 ≤ 1000000000000; omega) | exact rfl | (unfold inI64; dsimp only; omega) | (dsimp only; omega) | (intro hg; simp [lit] at hg; first | (unfold inI64; dsimp only; omega) | (dsimp only; omega)) | decide +kernel, ?_⟩)
      conv => whnf
      refine cond_intro (fun k3 => ?_) (fun k3 => ?_)
      · have k3' : x.1 = 3 ∨ x.1 = 4 := .inl (of_decide_eq_true k3)
        rw [if_pos k3'] at hwk
        split at hwk
        · cases hwk
        rename_i z1
        cases hwk
        repeat ((conv => whnf); refine ⟨by first | (unfold inI64; omega) | omega | exact ⟨by omega, by omega⟩ | (intro hg; first | (unfold inI64; omega) | omega | exact ⟨by omega, by omega⟩ | (simp [lit] at hg; unfold inI64; omega) | (simp [lit] at hg; omega) | (simp [lit] at hg; exact ⟨by omega, by omega⟩)) | (show (_ : Nat) + 1 ≤ 1000000000000; omega) | exact rfl | (unfold inI64; dsimp only; omega) | (dsimp only; omega) | (intro hg; simp [lit] at hg; first | (unfold inI64; dsimp only; omega) | (dsimp only; omega)) | decide +kernel, ?_⟩)
        conv => whnf
        refine cond_intro (fun g => ?_) (fun _ => ?_)
        · exfalso
          have g1 : (d : Int) = 0 := of_decide_eq_true g
          omega
        repeat ((conv => whnf); refine ⟨by first | (unfold inI64; omega) | omega | exact ⟨by omega, by omega⟩ | (intro hg; first | (unfold inI64; omega) | omega | exact ⟨by omega, by omega⟩ | (simp [lit] at hg; unfold inI64; omega) | (simp [lit] at hg; omega) | (simp [lit] at hg; exact ⟨by omega, by omega⟩)) | (show (_ : Nat) + 1 ≤ 1000000000000; omega) | exact rfl | (unfold inI64; dsimp only; omega) | (dsimp only; omega) | (intro hg; simp [lit] at hg; first | (unfold inI64; dsimp only; omega) | (dsimp only; omega)) | decide +kernel, ?_⟩)
        conv => whnf
        refine cond_intro (fun g => ?_) (fun _ => ?_)
        · exfalso
          exact posFlag (D := (d : Int)) (by omega) hasc g
        repeat ((conv => whnf); refine ⟨by first | (unfold inI64; omega) | omega | exact ⟨by omega, by omega⟩ | (intro hg; first | (unfold inI64; omega) | omega | exact ⟨by omega, by omega⟩ | (simp [lit] at hg; unfold inI64; omega) | (simp [lit] at hg; omega) | (simp [lit] at hg; exact ⟨by omega, by omega⟩)) | (show (_ : Nat) + 1 ≤ 1000000000000; omega) | exact rfl | (unfold inI64; dsimp only; omega) | (dsimp only; omega) | (intro hg; simp [lit] at hg; first | (unfold inI64; dsimp only; omega) | (dsimp only; omega)) | decide +kernel, ?_⟩)
        conv => whnf
        refine head_keep (i + 1, d, (d : Int)) [0, 1] rfl id2 rfl ?_ ?_ ?_
        · repeat (first | exact KeepL.nil | refine KeepL.drop ?_ | refine KeepL.ren rfl ?_)
        · exact ⟨h1, he2, by omega⟩
        · show l.length - (i + 1) < l.length - i
          omega
      have n3 : ¬ x.1 = 3 := of_decide_eq_false k3
      repeat ((conv => whnf); refine ⟨by first | (unfold inI64; omega) | omega | exact ⟨by omega, by omega⟩ | (intro hg; first | (unfold inI64; omega) | omega | exact ⟨by omega, by omega⟩ | (simp [lit] at hg; unfold inI64; omega) | (simp [lit] at hg; omega) | (simp [lit] at hg; exact ⟨by omega, by omega⟩)) | (show (_ : Nat) + 1 ≤ 1000000000000; omega) | exact rfl | (unfold inI64; dsimp only; omega) | (dsimp only; omega) | (intro hg; simp [lit] at hg; first | (unfold inI64; dsimp only; omega) | (dsimp only; omega)) | decide +kernel, ?_⟩)
      conv => whnf
      refine cond_intro (fun k4 => ?_) (fun k4 => ?_)
      · have k4' : x.1 = 3 ∨ x.1 = 4 := .inr (of_decide_eq_true k4)
        rw [if_pos k4'] at hwk
        split at hwk
        · cases hwk
        rename_i z1
        cases hwk
        repeat ((conv => whnf); refine ⟨by first | (unfold inI64; omega) | omega | exact ⟨by omega, by omega⟩ | (intro hg; first | (unfold inI64; omega) | omega | exact ⟨by omega, by omega⟩ | (simp [lit] at hg; unfold inI64; omega) | (simp [lit] at hg; omega) | (simp [lit] at hg; exact ⟨by omega, by omega⟩)) | (show (_ : Nat) + 1 ≤ 1000000000000; omega) | exact rfl | (unfold inI64; dsimp only; omega) | (dsimp only; omega) | (intro hg; simp [lit] at hg; first | (unfold inI64; dsimp only; omega) | (dsimp only; omega)) | decide +kernel, ?_⟩)
        conv => whnf
        refine cond_intro (fun g => ?_) (fun _ => ?_)
        · exfalso
          have g1 : (d : Int) = 0 := of_decide_eq_true g
          omega
        repeat ((conv => whnf); refine ⟨by first | (unfold inI64; omega) | omega | exact ⟨by omega, by omega⟩ | (intro hg; first | (unfold inI64; omega) | omega | exact ⟨by omega, by omega⟩ | (simp [lit] at hg; unfold inI64; omega) | (simp [lit] at hg; omega) | (simp [lit] at hg; exact ⟨by omega, by omega⟩)) | (show (_ : Nat) + 1 ≤ 1000000000000; omega) | exact rfl | (unfold inI64; dsimp only; omega) | (dsimp only; omega) | (intro hg; simp [lit] at hg; first | (unfold inI64; dsimp only; omega) | (dsimp only; omega)) | decide +kernel, ?_⟩)
        conv => whnf
        refine cond_intro (fun g => ?_) (fun _ => ?_)
        · exfalso
          exact posFlag (D := (d : Int)) (by omega) hasc g
        repeat ((conv => whnf); refine ⟨by first | (unfold inI64; omega) | omega | exact ⟨by omega, by omega⟩ | (intro hg; first | (unfold inI64; omega) | omega | exact ⟨by omega, by omega⟩ | (simp [lit] at hg; unfold inI64; omega) | (simp [lit] at hg; omega) | (simp [lit] at hg; exact ⟨by omega, by omega⟩)) | (show (_ : Nat) + 1 ≤ 1000000000000; omega) | exact rfl | (unfold inI64; dsimp only; omega) | (dsimp only; omega) | (intro hg; simp [lit] at hg; first | (unfold inI64; dsimp only; omega) | (dsimp only; omega)) | decide +kernel, ?_⟩)
        conv => whnf
        refine head_keep (i + 1, d, (d : Int)) [0, 1] rfl id2 rfl ?_ ?_ ?_
        · repeat (first | exact KeepL.nil | refine KeepL.drop ?_ | refine KeepL.ren rfl ?_)
        · exact ⟨h1, he2, by omega⟩
        · show l.length - (i + 1) < l.length - i
          omega
      have n4 : ¬ x.1 = 4 := of_decide_eq_false k4
      rw [if_neg (show ¬ (x.1 = 3 ∨ x.1 = 4) from fun h => h.elim n3 n4)] at hwk
      repeat ((conv => whnf); refine ⟨by first | (unfold inI64; omega) | omega | exact ⟨by omega, by omega⟩ | (intro hg; first | (unfold inI64; omega) | omega | exact ⟨by omega, by omega⟩ | (simp [lit] at hg; unfold inI64; omega) | (simp [lit] at hg; omega) | (simp [lit] at hg; exact ⟨by omega, by omega⟩)) | (show (_ : Nat) + 1 ≤ 1000000000000; omega) | exact rfl | (unfold inI64; dsimp only; omega) | (dsimp only; omega) | (intro hg; simp [lit] at hg; first | (unfold inI64; dsimp only; omega) | (dsimp only; omega)) | decide +kernel, ?_⟩)
      conv => whnf
      refine cond_intro (fun k6 => ?_) (fun k6 => ?_)
      · have k6' : x.1 = 6 := of_decide_eq_true k6
        rw [if_pos k6'] at hwk
        split at hwk
        · rename_i z1
          cases hwk
          repeat ((conv => whnf); refine ⟨by first | (unfold inI64; omega) | omega | exact ⟨by omega, by omega⟩ | (intro hg; first | (unfold inI64; omega) | omega | exact ⟨by omega, by omega⟩ | (simp [lit] at hg; unfold inI64; omega) | (simp [lit] at hg; omega) | (simp [lit] at hg; exact ⟨by omega, by omega⟩)) | (show (_ : Nat) + 1 ≤ 1000000000000; omega) | exact rfl | (unfold inI64; dsimp only; omega) | (dsimp only; omega) | (intro hg; simp [lit] at hg; first | (unfold inI64; dsimp only; omega) | (dsimp only; omega)) | decide +kernel, ?_⟩)
          conv => whnf
          refine cond_intro (fun g => ?_) (fun _ => ?_)
          · exfalso
            have g1 : 0 < (d : Int) := of_decide_eq_true g
            omega
          repeat ((conv => whnf); refine ⟨by first | (unfold inI64; omega) | omega | exact ⟨by omega, by omega⟩ | (intro hg; first | (unfold inI64; omega) | omega | exact ⟨by omega, by omega⟩ | (simp [lit] at hg; unfold inI64; omega) | (simp [lit] at hg; omega) | (simp [lit] at hg; exact ⟨by omega, by omega⟩)) | (show (_ : Nat) + 1 ≤ 1000000000000; omega) | exact rfl | (unfold inI64; dsimp only; omega) | (dsimp only; omega) | (intro hg; simp [lit] at hg; first | (unfold inI64; dsimp only; omega) | (dsimp only; omega)) | decide +kernel, ?_⟩)
          conv => whnf
          refine cond_intro (fun g => ?_) (fun _ => ?_)
          · exfalso
            exact posFlag (D := (d : Int)) (by omega) hasc g
          repeat ((conv => whnf); refine ⟨by first | (unfold inI64; omega) | omega | exact ⟨by omega, by omega⟩ | (intro hg; first | (unfold inI64; omega) | omega | exact ⟨by omega, by omega⟩ | (simp [lit] at hg; unfold inI64; omega) | (simp [lit] at hg; omega) | (simp [lit] at hg; exact ⟨by omega, by omega⟩)) | (show (_ : Nat) + 1 ≤ 1000000000000; omega) | exact rfl | (unfold inI64; dsimp only; omega) | (dsimp only; omega) | (intro hg; simp [lit] at hg; first | (unfold inI64; dsimp only; omega) | (dsimp only; omega)) | decide +kernel, ?_⟩)
          conv => whnf
          refine head_keep (i + 1, d, (d : Int)) [0, 1] rfl id2 rfl ?_ ?_ ?_
          · repeat (first | exact KeepL.nil | refine KeepL.drop ?_ | refine KeepL.ren rfl ?_)
          · exact ⟨h1, he2, by omega⟩
          · show l.length - (i + 1) < l.length - i
            omega
        · cases hwk
      have n6 : ¬ x.1 = 6 := of_decide_eq_false k6
      rw [if_neg n6] at hwk
      cases hwk
      repeat ((conv => whnf); refine ⟨by first | (unfold inI64; omega) | omega | exact ⟨by omega, by omega⟩ | (intro hg; first | (unfold inI64; omega) | omega | exact ⟨by omega, by omega⟩ | (simp [lit] at hg; unfold inI64; omega) | (simp [lit] at hg; omega) | (simp [lit] at hg; exact ⟨by omega, by omega⟩)) | (show (_ : Nat) + 1 ≤ 1000000000000; omega) | exact rfl | (unfold inI64; dsimp only; omega) | (dsimp only; omega) | (intro hg; simp [lit] at hg; first | (unfold inI64; dsimp only; omega) | (dsimp only; omega)) | decide +kernel, ?_⟩)
      conv => whnf
      refine cond_intro (fun g => ?_) (fun _ => ?_)
      · exfalso
        exact posFlag (D := (d : Int)) (by omega) hasc g
      repeat ((conv => whnf); refine ⟨by first | (unfold inI64; omega) | omega | exact ⟨by omega, by omega⟩ | (intro hg; first | (unfold inI64; omega) | omega | exact ⟨by omega, by omega⟩ | (simp [lit] at hg; unfold inI64; omega) | (simp [lit] at hg; omega) | (simp [lit] at hg; exact ⟨by omega, by omega⟩)) | (show (_ : Nat) + 1 ≤ 1000000000000; omega) | exact rfl | (unfold inI64; dsimp only; omega) | (dsimp only; omega) | (intro hg; simp [lit] at hg; first | (unfold inI64; dsimp only; omega) | (dsimp only; omega)) | decide +kernel, ?_⟩)
      conv => whnf
      refine head_keep (i + 1, d, (d : Int)) [0, 1] rfl id2 rfl ?_ ?_ ?_
      · repeat (first | exact KeepL.nil | refine KeepL.drop ?_ | refine KeepL.ren rfl ?_)
      · exact ⟨h1, he2, by omega⟩
      · show l.length - (i + 1) < l.length - i
        omega
    · have h1 : i = l.length := by have := of_decide_eq_false h; omega
      rw [h1, List.take_length, hw] at hd
      have hd0 : d = 0 := (Option.some.inj hd).symm
      subst hd0
      repeat ((conv => whnf); refine ⟨by first | (unfold inI64; omega) | omega | exact ⟨by omega, by omega⟩ | (intro hg; first | (unfold inI64; omega) | omega | exact ⟨by omega, by omega⟩ | (simp [lit] at hg; unfold inI64; omega) | (simp [lit] at hg; omega) | (simp [lit] at hg; exact ⟨by omega, by omega⟩)) | (show (_ : Nat) + 1 ≤ 1000000000000; omega) | exact rfl | (unfold inI64; dsimp only; omega) | (dsimp only; omega) | (intro hg; simp [lit] at hg; first | (unfold inI64; dsimp only; omega) | (dsimp only; omega)) | decide +kernel, ?_⟩)
      conv => whnf
      rw [hK0]
      conv => whnf
      refine ends_eq ⟨?_, rfl⟩
      show SV.bool (decide (((0 : Nat) : Int) = 0) && (decide (er = 0) || decide ((l.length : Int) = 0)) && true) = SV.bool true
      rcases he with he | he
      · rw [he]; rfl
      · rw [he]
        have e1 : decide ((([] : List defC.den).length : Int) = 0) = true := rfl
        rw [e1, Bool.or_true]
        rfl
  · cases hs
end Go.Ab
