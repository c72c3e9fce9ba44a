/- What is read of strings that are written with escapes. -/
import Derived.Test.YticjnehdhageoaaAbS3
namespace Go.Ab
open Go.Proofs
set_option linter.unusedSectionVars false
set_option maxRecDepth 100000
variable [Glob]

def plainB (p : Bool) (b : Int) : Bool := p && decide (32 ≤ b) && decide (b < 127) && !decide (b = 34) && !decide (b = 92)

def evenB (i : Nat) : Bool := decide ((i : Int).tmod 2 = 0)

def encB (p : Bool) (i : Nat) (b : UInt8) : List UInt8 := if plainB p (bi b) = true then [b] else 92 :: 120 :: (basedV (evenB i) 16 (b.toNat + 256)).drop 1

def encL (p : Bool) : Nat → List UInt8 → List UInt8
  | _, [] => []
  | i, b :: r => encB p i b ++ encL p (i + 1) r

theorem based_two : ∀ (c : Bool) (b : Fin 256), (basedV c 16 (b.val + 256)).drop 1 = [(digL c).getD (b.val / 16) 0, (digL c).getD (b.val % 16) 0] := by decide +kernel

theorem encB_len (p : Bool) (i : Nat) (b : UInt8) : 1 ≤ (encB p i b).length ∧ (encB p i b).length ≤ 4 := by
  unfold encB
  split
  · simp
  · rw [show (basedV (evenB i) 16 (b.toNat + 256)).drop 1 = _ from based_two (evenB i) ⟨b.toNat, b.toNat_lt⟩]
    simp

theorem digL_plain : ∀ (c : Bool) (i : Fin 16), (digL c).getD i.val 0 ≠ 10 ∧ digitV (bi ((digL c).getD i.val 0)) = (i.val : Int) ∧ digitV (bi ((digL c).getD i.val 0)) ≠ 16 := by decide +kernel

theorem endB_cons (l : List UInt8) (i : Nat) (a : UInt8) (h : l[i]? = some a) (ha : a ≠ 10) : endB (B l) (i : Int) = false := by
  have hlt : i < l.length := by
    rcases Nat.lt_or_ge i l.length with h1 | h1
    · exact h1
    · rw [List.getElem?_eq_none h1] at h; cases h
  unfold endB
  rw [B_size, decide_eq_false (by omega), Bool.false_or, byteAt_B, List.getD_eq_getElem?_getD, h]
  exact (byte_dec a 10).trans (decide_eq_false ha)

theorem escL_hex (x y : UInt8) (R : List UInt8) (hx : x ≠ 10) (hy : y ≠ 10) (hx2 : digitV (bi x) ≠ 16) (hy2 : digitV (bi y) ≠ 16) : escL (92 :: 120 :: x :: y :: R) = (IntKind.u8.wrap (digitV (bi x) * 16 + digitV (bi y)), 4, 0) := by
  have e1 : endB (B (92 :: 120 :: x :: y :: R)) 1 = false := endB_cons _ 1 120 rfl (by decide)
  have e2 : endB (B (92 :: 120 :: x :: y :: R)) 2 = false := endB_cons _ 2 x rfl hx
  have e3 : endB (B (92 :: 120 :: x :: y :: R)) 3 = false := endB_cons _ 3 y rfl hy
  have b1 : byteAt (B (92 :: 120 :: x :: y :: R)) 1 = 120 := rfl
  have b2 : byteAt (B (92 :: 120 :: x :: y :: R)) 2 = bi x := rfl
  have b3 : byteAt (B (92 :: 120 :: x :: y :: R)) 3 = bi y := rfl
  unfold escL escV
  rw [e1, b1]
  rw [if_neg (by decide), if_neg (by decide), if_neg (by decide), if_neg (by decide), if_neg (by decide), if_pos rfl]
  unfold escNum
  show (if endB (B (92 :: 120 :: x :: y :: R)) 2 = true then ((0, 0, 21) : Int × Int × Int) else if digitV (byteAt (B (92 :: 120 :: x :: y :: R)) 2) = 16 then (0, 0, 6)
    else if endB (B (92 :: 120 :: x :: y :: R)) 3 = true then (0, 0, 21) else if digitV (byteAt (B (92 :: 120 :: x :: y :: R)) 3) = 16 then (0, 0, 6)
    else (IntKind.u8.wrap ((0 * 16 + digitV (byteAt (B (92 :: 120 :: x :: y :: R)) 2)) * 16 + digitV (byteAt (B (92 :: 120 :: x :: y :: R)) 3)), 4, 0)) = _
  rw [e2, e3, b2, b3, if_neg (by decide), if_neg hx2, if_neg (by decide), if_neg hy2]
  simp

theorem strL_step (p : Bool) (i : Nat) (b : UInt8) (k : Nat) (R : List UInt8) (out : List Int) (n : Nat) : strL (k + 1) (encB p i b ++ R) out n = strL k R (out ++ [bi b]) (n + (encB p i b).length) := by
  unfold encB
  by_cases h : plainB p (bi b) = true
  · rw [if_pos h]
    have hp := h
    unfold plainB at hp
    simp only [Bool.and_eq_true, decide_eq_true_eq, Bool.not_eq_true', decide_eq_false_iff_not] at hp
    obtain ⟨⟨⟨⟨_, h1⟩, h2⟩, h3⟩, h4⟩ := hp
    show strL (k + 1) (b :: R) out n = _
    simp only [strL]
    rw [if_neg (fun e => by rw [e] at h1; exact absurd h1 (by decide)), if_neg (fun e => h3 (by rw [e]; rfl)), if_neg (fun e => h4 (by rw [e]; rfl))]
    rfl
  · rw [if_neg h]
    rw [show (basedV (evenB i) 16 (b.toNat + 256)).drop 1 = _ from based_two (evenB i) ⟨b.toNat, b.toNat_lt⟩]
    have hlt := b.toNat_lt
    obtain ⟨x1, x2, x3⟩ := digL_plain (evenB i) ⟨b.toNat / 16, by omega⟩
    obtain ⟨y1, y2, y3⟩ := digL_plain (evenB i) ⟨b.toNat % 16, by omega⟩
    have he := escL_hex ((digL (evenB i)).getD (b.toNat / 16) 0) ((digL (evenB i)).getD (b.toNat % 16) 0) R x1 y1 x3 y3
    have hv : IntKind.u8.wrap (digitV (bi ((digL (evenB i)).getD (b.toNat / 16) 0)) * 16 + digitV (bi ((digL (evenB i)).getD (b.toNat % 16) 0))) = bi b := by
      rw [x2, y2]
      simp only
      have := Nat.div_add_mod b.toNat 16
      rw [show ((b.toNat / 16 : Nat) : Int) * 16 + ((b.toNat % 16 : Nat) : Int) = ((b.toNat : Nat) : Int) by omega]
      exact wrap_u8 (by omega) (by omega)
    rw [hv] at he
    show strL (k + 1) (92 :: 120 :: (digL (evenB i)).getD (b.toNat / 16) 0 :: (digL (evenB i)).getD (b.toNat % 16) 0 :: R) out n = _
    simp only [strL]
    rw [if_neg (by decide), if_neg (by decide), if_pos trivial, he, if_pos rfl]
    rfl

theorem strL_enc (p : Bool) : ∀ (raw : List UInt8) (i k : Nat) (rest : List UInt8) (out : List Int) (n : Nat), raw.length < k → strL k (encL p i raw ++ 34 :: rest) out n = ({ kind := 3, text := bytesOf (out ++ raw.map bi) }, n + (encL p i raw).length + 1, 0)
  | [], i, k, rest, out, n, h => by
    obtain ⟨k', rfl⟩ : ∃ k', k = k' + 1 := ⟨k - 1, by omega⟩
    show strL (k' + 1) (34 :: rest) out n = _
    simp only [strL]
    rw [if_neg (by decide), if_pos trivial]
    simp [encL]
  | b :: r, i, k, rest, out, n, h => by
    obtain ⟨k', rfl⟩ : ∃ k', k = k' + 1 := ⟨k - 1, by omega⟩
    simp only [encL, List.append_assoc]
    rw [strL_step, strL_enc p r (i + 1) k' rest _ _ (by simpa using h)]
    simp only [List.length_append, List.append_assoc, List.map_cons, List.singleton_append]
    congr 2
    omega

theorem encL_len (p : Bool) : ∀ (raw : List UInt8) (i : Nat), raw.length ≤ (encL p i raw).length ∧ (encL p i raw).length ≤ 4 * raw.length
  | [], _ => by simp [encL]
  | b :: r, i => by
    have h := encL_len p r (i + 1)
    have hb := encB_len p i b
    simp only [encL, List.length_append, List.length_cons]
    omega

theorem bytesOf_bi (l : List UInt8) : bytesOf (l.map bi) = B l := by
  unfold bytesOf
  apply B_inj.2
  rw [List.map_map]
  have : ∀ l : List UInt8, List.map ((fun n : Int => UInt8.ofNat n.toNat) ∘ bi) l = l := by
    intro l
    induction l with
    | nil => rfl
    | cons a r ih =>
      rw [List.map_cons, ih]
      congr 1
      show UInt8.ofNat ((a.toNat : Int)).toNat = a
      rw [Int.toNat_natCast]
      exact UInt8.ofNat_toNat
  exact this l

def strText (p : Bool) (raw : List UInt8) : List UInt8 := [120, 32, 34] ++ encL p 0 raw ++ [34, 59]

theorem read_string (p : Bool) (raw : List UInt8) (h : raw.length ≤ 200) : ∃ a c d, readV (B (strText p raw)) 0 = ⟨[a, (3, B raw, 0, 0, 1, 3), c, d], 0, 0, 0, 0⟩ := by
  have hl := encL_len p raw 0
  have h0 : strText p raw = 120 :: 32 :: 34 :: (encL p 0 raw ++ 34 :: [59]) := by simp [strText]
  have hc1 : cutL (120 :: 32 :: 34 :: (encL p 0 raw ++ 34 :: [59])) = ({ kind := 1, text := B [120] }, 1, 0) := rfl
  have hs2 : skipA (32 :: 34 :: (encL p 0 raw ++ 34 :: [59])) (1, 2) = (0, 34 :: (encL p 0 raw ++ 34 :: [59]), (1, 3)) := by
    rw [skipA_blanks 32 _ _ (by decide), dw_cons_neg (by decide), skipA_none 34 _ _ (by decide) (by decide), tw_cons_pos (by decide), tw_cons_neg (by decide)]
    rfl
  have hc2 : cutL (34 :: (encL p 0 raw ++ 34 :: [59])) = ({ kind := 3, text := B raw }, (encL p 0 raw).length + 2, 0) := by
    show cutC 34 _ = _
    unfold cutC
    rw [if_neg (by decide), if_neg (by decide), if_pos rfl, strL_enc p raw 0 _ [59] [] 1 (by simp only [List.length_append, List.length_cons]; omega)]
    rw [List.nil_append, bytesOf_bi]
    congr 2
    omega
  have hd2 : (34 :: (encL p 0 raw ++ 34 :: [59])).drop ((encL p 0 raw).length + 2) = [59] := by
    have e : 34 :: (encL p 0 raw ++ 34 :: [59]) = (34 :: (encL p 0 raw ++ [34])) ++ [59] := by simp
    rw [e]
    exact List.drop_left' (by simp)
  have hc3 : cutL [59] = ({ kind := 4, text := B [59] }, 1, 0) := rfl
  generalize hq : posL ((34 :: (encL p 0 raw ++ 34 :: [59])).take ((encL p 0 raw).length + 2)) (1, 3) = q
  refine ⟨tokD { kind := 1, text := B [120] } 0 (1, 1), tokD { kind := 4, text := B [59] } 0 q, tokD { kind := 8 } 0 (posL [59] q), ?_⟩
  rw [readV_L _ _ (by rw [h0]; simp only [List.length_append, List.length_cons, List.length_nil]; omega), h0]
  rw [readL_succ 0 5999, skipA_none 120 _ _ (by decide) (by decide)]
  simp only [if_true]
  rw [hc1]
  simp only [if_true]
  rw [if_neg (by decide)]
  show readL 0 5999 (32 :: 34 :: (encL p 0 raw ++ 34 :: [59])) (1, 2) [tokD { kind := 1, text := B [120] } 0 (1, 1)] = _
  rw [readL_succ 0 5998, hs2]
  simp only [if_true]
  rw [hc2]
  simp only [if_true]
  rw [if_neg (by decide), hd2, hq, readL_succ 0 5997, skipA_none 59 _ _ (by decide) (by decide)]
  simp only [if_true]
  rw [hc3]
  simp only [if_true]
  rw [if_neg (by decide)]
  rfl
end Go.Ab
