/- Reading a text, as a function on lists of bytes: tokens and positions. -/
import Derived.Test.YtkgcgbpclpmleaaGreatTX3toS1
import Derived.Test.YtkgcgbpclpmleaaGreatTV6toV2d
namespace Go.Ab
open Go.Proofs
set_option linter.unusedSectionVars false
variable [Glob]
abbrev bi (u : UInt8) : Int := ((u.toNat : Nat) : Int)
def wordL (l : List UInt8) : Nat :=
 if l.head? = some 47 ∧ tw slashB l.tail ≠ [] ∧ (dw slashB l.tail).head? = some 47 then (tw slashB l.tail).length + 2 else 0
theorem B_tail (a : UInt8) (r : List UInt8) : (B (a :: r)).extract 1 (B (a :: r)).size = B r := by
 rw [B_extract, B_size, List.take_of_length_le (nR9 _)]; rfl
theorem wordV_L (a : UInt8) (r : List UInt8) : wordV (B (a :: r)) = (wordL (a :: r) : Int) := by
 unfold wordV wordL
 rw [B_tail, leadN_B, List.tail_cons]
 have h47 : decide (byteAt (B (a :: r)) 0 = 47) = decide (a = 47) := byte_dec a 47
 have hb : byteAt (B (a :: r)) (1 + ((tw slashB r).length : Int)) = byteAt (B r) ((tw slashB r).length : Int) := by
  rw [show (1 + ((tw slashB r).length : Int)) = (((tw slashB r).length + 1 : Nat) : Int) by omega]
  exact byteAt_succ _ _ _
 have hb2 : decide (byteAt (B (a :: r)) (1 + ((tw slashB r).length : Int)) = 47) = decide ((dw slashB r).head? = some 47) := by
  rw [hb, byteAt_tw]; exact head_byte 47 (by decide)
 have hl := tw_len slashB r
 rw [h47, hb2]
 by_cases h1 : a = 47
 ·rw [dT9 h1, if_neg (by decide)]
  by_cases h2 : tw slashB r = []
  ·rw [if_pos (by rw [h2]; simp), if_neg (fun h => h.2.1 h2)]; rfl
  ·have hpos : 0 < (tw slashB r).length := List.length_pos_iff.2 h2
   rw [dF9 (p := 1 + ((tw slashB r).length : Int) = 1) (by omega), Bool.false_or]
   by_cases h3 : (dw slashB r).head? = some 47
   ·have h4 : 0 < (dw slashB r).length := by
     cases hd : dw slashB r with
     | nil => rw [hd] at h3; cases h3
     | cons x y => simp
    have h5 : ¬ (1 + ((tw slashB r).length : Int) = ((B (a :: r)).size : Nat)) := by rw [B_size]; simp only [zC9]; omega
    rw [dF9 h5, dT9 h3, if_neg (by decide), if_pos ⟨by rw [h1]; rfl, h2, h3⟩]
    omega
   ·rw [dF9 h3, if_pos (by simp), if_neg (fun h => h3 h.2.2)]; rfl
 ·rw [dF9 h1, if_pos (by decide), if_neg]
  ·rfl
  ·intro h; apply h1; have := h.1; simpa using this
def twoP (a b : UInt8) : Bool := [(60, 60), (62, 62), (60, 61), (62, 61), (61, 61), (33, 61), (38, 38), (124, 124)].contains (a, b)
def oneP (a : UInt8) : Bool := ([123, 125, 40, 41, 60, 62, 91, 93, 59, 61, 44, 43, 45, 42, 47, 37, 38, 124, 94, 126, 33, 63, 58] : List UInt8).contains a
def twoH (a : UInt8) (r : List UInt8) : Bool := match r with | b :: _ => twoP a b | [] => false
def signL (a : UInt8) (r : List UInt8) : Nat := if twoH a r = true then 2 else if oneP a = true then 1 else 0
theorem idx_mem : ∀ (l : List UInt8) (c : UInt8), (0 ≤ Lib.indexByte l c) = (l.contains c = true)
 | [], c => by simp [Lib.indexByte]
 | b :: l, c => by
  have ih := idx_mem l c
  have hge := Lib.indexByte_ge l c
  unfold Lib.indexByte
  rw [List.contains_cons]
  by_cases h : b = c
  ·subst h; simp
  ·have h1 : (b == c) = false := by simpa using h
   have h2 : (c == b) = false := by simpa using fun h' : c = b => h h'.symm
   rw [h1, h2, Bool.false_or, ← ih]
   by_cases h3 : Lib.indexByte l c = -1
   ·simp [h3]
   ·simp only [Bool.false_eq_true, if_false]
    rw [if_neg (by simpa using h3)]
    apply propext
    constructor <;> intro _ <;> omega
theorem pick2 (a b : UInt8) (l : List UInt8) (x y : UInt8) : decide ((B (a :: b :: l)).extract 0 2 = ⟨#[x, y]⟩) = ((a, b) == (x, y)) := by
 rw [B_extract, show (ByteArray.mk #[x, y]) = B [x, y] from rfl, B_eq]
 rw [Bool.eq_iff_iff]
 simp
theorem signV_L (a : UInt8) (r : List UInt8) : signV (B (a :: r)) = (signL a r : Int) := by
 unfold signV signL
 have h0 : (0 ≤ idxB oneS (byteAt (B (a :: r)) 0)) = (oneP a = true) := by
  unfold idxB
  rw [idx_mem]
  have : (byteAt (B (a :: r)) 0).toNat.toUInt8 = a := by rw [byteAt_cons]; exact UInt8.ofNat_toNat
  rw [this]; rfl
 have h1 : (decide (1 < (((B (a :: r)).size : Nat) : Int)) && twoL.any (fun t => decide ((B (a :: r)).extract 0 2 = t))) = twoH a r := by
  cases r with
  | nil => simp [B_size, twoH]
  | cons b r =>
   rw [dT9 (by rw [B_size]; simp only [zC9]; omega), Bool.true_and]
   unfold twoL twoH twoP
   simp only [List.any_cons, List.any_nil, pick2, List.contains_cons, List.contains_nil]
 rw [h1]
 by_cases h2 : twoH a r = true
 ·rw [if_pos h2, if_pos h2]; rfl
 ·rw [if_neg h2, if_neg h2]
  by_cases h3 : oneP a = true
  ·rw [if_pos h3, if_pos (h0 ▸ h3)]; rfl
  ·rw [if_neg h3, if_neg (fun h => h3 (h0 ▸ h))]; rfl
def refH (a : UInt8) (r : List UInt8) : Bool := decide (a = 38) && (match r with | b :: _ => firstB (bi b) | [] => false)
def cutC (a : UInt8) (r : List UInt8) : TokV × Nat × Int :=
  if (firstB (bi a) || decide (a = 35)) = true then nameLx (a :: r)
  else if digitB (bi a) = true then numLx (a :: r)
  else if a = 34 then strL (r.length + 1) r [] 1
  else if refH a r = true then ({ kind := 6, text := B (tw wordB r) }, (tw wordB r).length + 1, 0)
  else if 0 < wordL (a :: r) then ({ kind := 7, text := B (tw slashB r) }, wordL (a :: r), 0)
  else if 0 < signL a r then ({ kind := 4, text := B ((a :: r).take (signL a r)) }, signL a r, 0)
  else ({}, 0, 20)
def cutL : List UInt8 → TokV × Nat × Int
 | [] => ({ kind := 8 }, 0, 0)
 | a :: r => cutC a r
theorem cutV_L (l : List UInt8) : cutV (B l) = fitsL (cutL l) := by
 cases l with
 | nil => rfl
 | cons a r =>
  show cutV (B (a :: r)) = fitsL (cutC a r)
  unfold cutV cutC
  have hne : ¬ B (a :: r) = ⟨#[]⟩ := fun h => by have := B_inj.1 (show B (a :: r) = B [] from h); cases this
  have e35 : decide (byteAt (B (a :: r)) 0 = 35) = decide (a = 35) := byte_dec a 35
  have e34 : (((a.toNat : Nat) : Int) = 34) ↔ (a = 34) := iff_of_eq (byte_iff a 34)
  have e38 : decide (byteAt (B (a :: r)) 0 = 38) = decide (a = 38) := byte_dec a 38
  rw [if_neg hne, e35, e38, byteAt_cons]
  by_cases h1 : (firstB (bi a) || decide (a = 35)) = true
  ·rw [if_pos h1, if_pos h1]; exact nameV_L _
  rw [if_neg h1, if_neg h1]
  by_cases h2 : digitB (bi a) = true
  ·rw [if_pos h2, if_pos h2]; exact numV_L _
  rw [if_neg h2, if_neg h2]
  by_cases h3 : a = 34
  ·rw [if_pos (e34.2 h3), if_pos h3]
   exact strGo_L (r.length + 1) [a] r []
  rw [if_neg (fun h => h3 (e34.1 h)), if_neg h3]
  have hr : (decide (a = 38) && decide (1 < (((B (a :: r)).size : Nat) : Int)) && firstB (byteAt (B (a :: r)) 1)) = refH a r := by
   unfold refH
   cases r with
   | nil => simp [B_size]
   | cons b r =>
    rw [dT9 (p := (1 < (((B (a :: b :: r)).size : Nat) : Int))) (by rw [B_size]; simp only [zC9]; omega), Bool.and_true]
    rfl
  rw [hr, B_tail, leadN_B]
  by_cases h4 : refH a r = true
  ·rw [if_pos h4, if_pos h4]
   have e : (1 + ((tw wordB r).length : Int)).toNat = (tw wordB r).length + 1 := by omega
   rw [e, B_extract, List.take_succ_cons, List.drop_succ_cons, List.drop_zero, take_tw]
   unfold fitsL
   simp only [Prod.mk.injEq, true_and, and_true]
   omega
  rw [if_neg h4, if_neg h4, wordV_L]
  by_cases h5 : 0 < wordL (a :: r)
  ·have hw : wordL (a :: r) = (tw slashB r).length + 2 := by
    unfold wordL at h5 ⊢
    split at h5
    ·rename_i h6; rw [if_pos h6]; rfl
    ·omega
   rw [if_pos h5, if_pos (by omega)]
   have e : (((wordL (a :: r)) : Int) - 1).toNat = (tw slashB r).length + 1 := by omega
   rw [e, B_extract, List.take_succ_cons, List.drop_succ_cons, List.drop_zero, take_tw]
   rfl
  rw [if_neg h5, if_neg (by omega), signV_L]
  by_cases h6 : 0 < signL a r
  ·rw [if_pos h6, if_pos (by omega), Int.toNat_natCast, B_extract, List.drop_zero]; rfl
  ·rw [if_neg h6, if_neg (by omega)]; rfl
def stepP (p : Int × Int) (a : UInt8) : Int × Int := if a = 10 then (p.1 + 1, 1) else (p.1, p.2 + 1)
def posL (l : List UInt8) (p : Int × Int) : Int × Int := l.foldl stepP p
theorem posL_nil (p : Int × Int) : posL [] p = p := rfl
theorem posL_cons (a : UInt8) (l : List UInt8) (p : Int × Int) : posL (a :: l) p = posL l (stepP p a) := rfl
theorem posL_append (l m : List UInt8) (p : Int × Int) : posL (l ++ m) p = posL m (posL l p) := List.foldl_append
theorem passGo_L : ∀ (k : Nat) (q l : List UInt8) (li co : Int), k ≤ l.length → passGo (B (q ++ l)) k q.length li co = posL (l.take k) (li, co)
 | 0, q, l, li, co, _ => by simp [passGo, posL]
 | k + 1, q, [], li, co, h => by simp at h
 | k + 1, q, a :: r, li, co, h => by
  have hb : byteAt (B (q ++ a :: r)) (q.length : Int) = ((a.toNat : Nat) : Int) := by
   rw [byteAt_B]; simp
  have ih := fun li co => passGo_L k (q ++ [a]) r li co (by simpa using h)
  have e : q ++ [a] ++ r = q ++ a :: r := by simp
  have e2 : (q ++ [a]).length = q.length + 1 := by simp
  rw [e, e2] at ih
  have e10 : (((a.toNat : Nat) : Int) = 10) ↔ (a = 10) := iff_of_eq (byte_iff a 10)
  simp only [passGo]
  rw [hb, List.take_succ_cons, posL_cons]
  unfold stepP
  by_cases h1 : a = 10
  ·rw [if_pos (e10.2 h1), if_pos h1]; exact ih _ _
  ·rw [if_neg (fun h => h1 (e10.1 h)), if_neg h1]; exact ih _ _
abbrev rdL (f : Int) (l : List UInt8) (p : Int × Int) : RdV := ⟨B l, f, p.1, p.2⟩
theorem passV_L (f : Int) (l : List UInt8) (p : Int × Int) (n : Nat) (h : n ≤ l.length) : passV (rdL f l p) (n : Int) = rdL f (l.drop n) (posL (l.take n) p) := by
 unfold passV
 have h2 : passGo (B l) n 0 p.1 p.2 = posL (l.take n) p := passGo_L n [] l p.1 p.2 h
 rw [Int.toNat_natCast, h2]
 unfold rdL
 congr 1
 rw [B_extract, B_size, List.take_of_length_le (nR9 _)]
def skipL : Nat → List UInt8 → Int × Int → Int × List UInt8 × (Int × Int)
 | 0, l, p => (0, l, p)
 | k + 1, l, p => if (sepL l).1 = 0 ∨ (sepL l).2 ≠ 0 then ((sepL l).2, l, p) else skipL k (l.drop (sepL l).1) (posL (l.take (sepL l).1) p)
theorem sepL_le (l : List UInt8) : (sepL l).1 ≤ l.length := by
 have h := sepV_range (B l)
 rw [sepV_L] at h
 have h2 : ((sepL l).1 : Int) ≤ l.length := h.2
 omega
theorem sepGo_L (f : Int) : ∀ (k : Nat) (l : List UInt8) (p : Int × Int), sepGo k (rdL f l p) = ((skipL k l p).1, rdL f (skipL k l p).2.1 (skipL k l p).2.2)
 | 0, l, p => rfl
 | k + 1, l, p => by
  have ih := sepGo_L f k
  simp only [sepGo, skipL]
  rw [sepV_L]
  have e : (decide (((sepL l).1 : Int) = 0) || !decide ((sepL l).2 = 0)) = decide ((sepL l).1 = 0 ∨ (sepL l).2 ≠ 0) := by
   rw [Bool.eq_iff_iff]; simp
  simp only
  rw [e]
  by_cases h : (sepL l).1 = 0 ∨ (sepL l).2 ≠ 0
  ·rw [if_pos h, if_pos (dT9 h)]
  ·rw [if_neg h, if_neg (by rw [dF9 h]; decide), passV_L f l p _ (sepL_le l)]
   exact ih _ _
def skipA (l : List UInt8) (p : Int × Int) : Int × List UInt8 × (Int × Int) := skipL (l.length + 1) l p
theorem sepAll_L (f : Int) (l : List UInt8) (p : Int × Int) : sepAll (rdL f l p) = ((skipA l p).1, rdL f (skipA l p).2.1 (skipA l p).2.2) := sepGo_L f _ l p
theorem cutL_le (l : List UInt8) (h : (cutL l).2.2 = 0) : (cutL l).2.1 ≤ l.length := by
 have h1 := cutV_range (B l)
 rw [cutV_L] at h1
 have h2 : ((cutL l).2.1 : Int) ≤ l.length := (h1 h).2
 omega
def tokD (t : TokV) (f : Int) (p : Int × Int) : tokC.den := (t.kind, t.text, t.value, f, p.1, p.2)
def readL (f : Int) : Nat → List UInt8 → Int × Int → List tokC.den → ReadV
 | 0, l, p, _ => ⟨[], f, (skipA l p).2.2.1, (skipA l p).2.2.2, if (skipA l p).1 = 0 then 3 else (skipA l p).1⟩
 | k + 1, l, p, zs =>
  if (skipA l p).1 = 0 then
   if (cutL (skipA l p).2.1).2.2 = 0 then
    if (cutL (skipA l p).2.1).1.kind = 8 then ⟨zs ++ [tokD (cutL (skipA l p).2.1).1 f (skipA l p).2.2], 0, 0, 0, 0⟩
    else readL f k ((skipA l p).2.1.drop (cutL (skipA l p).2.1).2.1) (posL ((skipA l p).2.1.take (cutL (skipA l p).2.1).2.1) (skipA l p).2.2) (zs ++ [tokD (cutL (skipA l p).2.1).1 f (skipA l p).2.2])
   else ⟨[], f, (skipA l p).2.2.1, (skipA l p).2.2.2, (cutL (skipA l p).2.1).2.2⟩
  else ⟨[], f, (skipA l p).2.2.1, (skipA l p).2.2.2, (skipA l p).1⟩
theorem readGo_L (f : Int) : ∀ (k : Nat) (l : List UInt8) (p : Int × Int) (zs : List tokC.den), readGo k (rdL f l p) zs = readL f k l p zs
 | 0, l, p, zs => by
  simp only [readGo, readL]
  rw [sepAll_L]
 | k + 1, l, p, zs => by
  have ih := readGo_L f k
  simp only [readGo, readL]
  unfold nextV
  rw [sepAll_L]
  simp only
  by_cases h1 : (skipA l p).1 = 0
  ·rw [if_pos h1, if_pos h1, cutV_L]
   by_cases h2 : (cutL (skipA l p).2.1).2.2 = 0
   ·have h2' : (fitsL (cutL (skipA l p).2.1)).2.2 = 0 := h2
    rw [if_pos h2', if_pos h2]
    simp only [if_true]
    have e : (fitsL (cutL (skipA l p).2.1)).2.1 = ((cutL (skipA l p).2.1).2.1 : Int) := rfl
    rw [e, passV_L f _ _ _ (cutL_le _ h2), ih]
    rfl
   ·have h2' : ¬ (fitsL (cutL (skipA l p).2.1)).2.2 = 0 := h2
    rw [if_neg h2', if_neg h2]
    simp only
    rw [if_neg h2']
    rfl
  ·rw [if_neg h1, if_neg h1]
   simp only
   rw [if_neg h1]
theorem readV_L (l : List UInt8) (f : Int) (h : l.length ≤ 16000) : readV (B l) f = readL f 6000 l (1, 1) [] := by
 unfold readV
 rw [if_neg (by rw [B_size]; omega)]
 exact readGo_L f 6000 l (1, 1) []
end Go.Ab
namespace Go.Ab
open Go.Proofs
set_option linter.unusedSectionVars false
set_option maxRecDepth 100000
variable [Glob]
def digL (c : Bool) : List UInt8 := match c with
 | true => [48, 49, 50, 51, 52, 53, 54, 55, 56, 57, 65, 66, 67, 68, 69, 70]
 | false => [48, 49, 50, 51, 52, 53, 54, 55, 56, 57, 97, 98, 99, 100, 101, 102]
def basedL (D : List UInt8) (b : Nat) : Nat → Nat → List UInt8 → List UInt8
 | 0, _, out => out
 | k + 1, n, out => if n = 0 then out else basedL D b k (n / b) (D.getD (n % b) 0 :: out)
def basedV (c : Bool) (b n : Nat) : List UInt8 := basedL (digL c) b 64 (n / b) [(digL c).getD (n % b) 0]
def T52 : Table := T51
theorem piece1 (D : List UInt8) (i : Nat) (h : i < D.length) : (B D).extract i (i + 1) = B [D.getD i 0] := by
 rw [B_extract]
 congr 2
 rw [List.drop_take, Nat.add_sub_cancel_left, List.getD_eq_getElem?_getD, List.getElem?_eq_getElem h, Option.getD_some]
 rw [List.drop_eq_getElem_cons h, List.take_succ_cons, List.take_zero]
theorem lt_pow_div {m b k : Nat} (hb : 2 ≤ b) (h : m < 2 ^ (k + 1)) : m / b < 2 ^ k := by
 have h1 : m / b ≤ m / 2 := Nat.div_le_div_left hb (by decide)
 have h2 : m / 2 < 2 ^ k := by rw [Nat.div_lt_iff_lt_mul (by decide), ← Nat.pow_succ]; exact h
 omega
theorem quo_nat (n b : Nat) (hn : n ≤ 4611686018427387904) : IntKind.i64.wrap ((n : Int).tdiv b) = ((n / b : Nat) : Int) := by
 have h1 : (n : Int).tdiv (b : Int) = ((n / b : Nat) : Int) := (Int.ofNat_tdiv n b).symm
 have h2 : n / b ≤ n := Nat.div_le_self n b
 rw [h1]
 revert h2
 generalize n / b = q
 intro h2
 exact wrap_i64 (by unfold inI64; omega)
theorem t52 : TS9 T52 := t51
def dv (u : UInt8) : Int := digitV (bi u)
def foldD (b : Int) (l : List UInt8) (v : Int) : Int := l.foldl (fun v u => v * b + dv u) v
theorem foldD_cons (b : Int) (u : UInt8) (l : List UInt8) (v : Int) : foldD b (u :: l) v = foldD b l (v * b + dv u) := rfl
theorem dig_ok : ∀ (c : Bool) (i : Fin 16), dv ((digL c).getD i.val 0) = (i.val : Int) ∧ wordB (bi ((digL c).getD i.val 0)) = true ∧ (i.val < 10 → digitB (bi ((digL c).getD i.val 0)) = true) ∧ (i.val ≠ 0 → (digL c).getD i.val 0 ≠ 48) ∧ (i.val < 10 → (digL c).getD i.val 0 ≠ 120) := by decide +kernel
theorem dig_ok' (c : Bool) (i b : Nat) (hb : b ≤ 16) (h : i < b) : dv ((digL c).getD i 0) = (i : Int) ∧ wordB (bi ((digL c).getD i 0)) = true ∧ (i < 10 → digitB (bi ((digL c).getD i 0)) = true) ∧ (i ≠ 0 → (digL c).getD i 0 ≠ 48) ∧ (i < 10 → (digL c).getD i 0 ≠ 120) :=
 dig_ok c ⟨i, by omega⟩
theorem basedL_all {P : UInt8 → Prop} (D : List UInt8) (b : Nat) (hb : 0 < b) (h : ∀ i, i < b → P (D.getD i 0)) : ∀ (k n : Nat) (out : List UInt8), (∀ u ∈ out, P u) → ∀ u ∈ basedL D b k n out, P u
 | 0, n, out, ho => ho
 | k + 1, n, out, ho => by
  simp only [basedL]
  split
  ·exact ho
  ·refine basedL_all D b hb h k _ _ fun u hu => ?_
   rcases List.mem_cons.1 hu with rfl | hu
   ·exact h _ (Nat.mod_lt _ hb)
   ·exact ho u hu
theorem basedV_all {P : UInt8 → Prop} (c : Bool) (b n : Nat) (hb : 0 < b) (h : ∀ i, i < b → P ((digL c).getD i 0)) : ∀ u ∈ basedV c b n, P u :=
 basedL_all _ b hb h _ _ _ fun u hu => by
  rw [List.mem_singleton] at hu
  subst hu
  exact h _ (Nat.mod_lt _ hb)
theorem basedL_fold (c : Bool) (b : Nat) (hb : 2 ≤ b) (hb2 : b ≤ 16) : ∀ (k n : Nat) (out : List UInt8), n < 2 ^ k → foldD b (basedL (digL c) b k n out) 0 = foldD b out n
 | 0, n, out, h => by
  have : n = 0 := by simpa using h
  subst this; rfl
 | k + 1, n, out, h => by
  simp only [basedL]
  split
  ·rename_i h0; subst h0; rfl
  ·rw [basedL_fold c b hb hb2 k _ _ (lt_pow_div hb h), foldD_cons, (dig_ok' c (n % b) b hb2 (Nat.mod_lt _ (by omega))).1]
   congr 1
   have := Nat.div_add_mod n b
   rw [Nat.mul_comm] at this
   exact_mod_cast this
theorem basedV_fold (c : Bool) (b n : Nat) (hb : 2 ≤ b) (hb2 : b ≤ 16) (hn : n < 2 ^ 64) : foldD b (basedV c b n) 0 = n := by
 unfold basedV
 rw [basedL_fold c b hb hb2 _ _ _ (Nat.lt_of_le_of_lt (Nat.div_le_self n b) hn), foldD_cons, (dig_ok' c (n % b) b hb2 (Nat.mod_lt _ (by omega))).1]
 have := Nat.div_add_mod n b
 rw [Nat.mul_comm] at this
 show ((n / b : Nat) : Int) * b + ((n % b : Nat) : Int) = n
 exact_mod_cast this
theorem basedL_ne (D : List UInt8) (b : Nat) : ∀ (k n : Nat) (out : List UInt8), out ≠ [] → basedL D b k n out ≠ []
 | 0, _, _, h => h
 | k + 1, n, out, h => by
  simp only [basedL]
  split
  ·exact h
  ·exact basedL_ne D b k _ _ (by simp)
theorem basedV_ne (c : Bool) (b n : Nat) : basedV c b n ≠ [] := basedL_ne _ _ _ _ _ (by simp)
theorem basedL_len (D : List UInt8) (b : Nat) : ∀ (k n : Nat) (out : List UInt8), (basedL D b k n out).length ≤ k + out.length
 | 0, _, _ => by simp [basedL]
 | k + 1, n, out => by
  simp only [basedL]
  split
  ·omega
  ·have := basedL_len D b k (n / b) (D.getD (n % b) 0 :: out)
   simp only [zC9] at this
   omega
theorem basedV_len (c : Bool) (b n : Nat) : (basedV c b n).length ≤ 65 := basedL_len _ _ _ _ _
theorem basedL_head (c : Bool) (b : Nat) (hb : 2 ≤ b) (hb2 : b ≤ 16) : ∀ (k n : Nat) (out : List UInt8), n < 2 ^ k → (n ≠ 0 ∨ out.head? ≠ some 48) → (basedL (digL c) b k n out).head? ≠ some 48
 | 0, n, out, h, h2 => by
  have : n = 0 := by simpa using h
  rcases h2 with h2 | h2
  ·exact absurd this h2
  ·exact h2
 | k + 1, n, out, h, h2 => by
  simp only [basedL]
  split
  ·rename_i h0
   rcases h2 with h2 | h2
   ·exact absurd h0 h2
   ·exact h2
  ·rename_i h0
   refine basedL_head c b hb hb2 k _ _ (lt_pow_div hb h) ?_
   by_cases h3 : n / b = 0
   ·refine .inr ?_
    rw [List.head?_cons]
    have hlt : n < b := (Nat.div_eq_zero_iff_lt (by omega)).1 h3
    have hm : n % b = n := Nat.mod_eq_of_lt hlt
    rw [hm]
    have := (dig_ok' c n b hb2 hlt).2.2.2.1 h0
    intro h4
    exact this (Option.some.inj h4)
   ·exact .inl h3
theorem basedV_head (c : Bool) (b n : Nat) (hb : 2 ≤ b) (hb2 : b ≤ 16) (hn : n < 2 ^ 64) (h0 : n ≠ 0) : (basedV c b n).head? ≠ some 48 := by
 unfold basedV
 refine basedL_head c b hb hb2 _ _ _ (Nat.lt_of_le_of_lt (Nat.div_le_self n b) hn) ?_
 by_cases h3 : n / b = 0
 ·refine .inr ?_
  rw [List.head?_cons]
  have hlt : n < b := (Nat.div_eq_zero_iff_lt (by omega)).1 h3
  rw [Nat.mod_eq_of_lt hlt]
  have := (dig_ok' c n b hb2 hlt).2.2.2.1 h0
  intro h4
  exact this (Option.some.inj h4)
 ·exact .inl h3
theorem le_mul_pos {v b : Int} (hv : 0 ≤ v) (hb : 1 ≤ b) : v ≤ v * b := by
 have := Int.mul_le_mul_of_nonneg_left hb hv
 simpa using this
theorem compLgo_fold (b : Int) (hb : 1 ≤ b) : ∀ (l : List UInt8) (v : Int), 0 ≤ v → (∀ u ∈ l, dv u < b) → compLgo b l (if 4294967296 < v then 4294967296 else v) = if 4294967295 < foldD b l v then (0, 2) else (foldD b l v, 0)
 | [], v, hv, _ => by
  show (if _ then _ else _) = (if _ then _ else _)
  have e : foldD b [] v = v := rfl
  rw [e]
  by_cases h : 4294967296 < v
  ·rw [if_pos h, if_pos (by omega), if_pos (by omega)]
  ·rw [if_neg h]
 | u :: l, v, hv, hl => by
  have hu : dv u < b := hl u (by simp)
  have h2 : 0 ≤ dv u := (digitV_range _).1
  have h1 := le_mul_pos hv hb
  have ih := compLgo_fold b hb l (v * b + dv u) (by omega) (fun x hx => hl x (by simp [hx]))
  rw [foldD_cons, ← ih]
  show (if b ≤ dv u then ((0, 6) : Int × Int) else compLgo b l (if 4294967296 < (if 4294967296 < v then 4294967296 else v) * b + dv u then 4294967296 else (if 4294967296 < v then 4294967296 else v) * b + dv u)) = _
  rw [if_neg (by omega)]
  congr 1
  by_cases h : 4294967296 < v
  ·rw [if_pos h]
   have h3 := le_mul_pos (v := 4294967296) (b := b) (by decide) hb
   by_cases h4 : 4294967296 < (4294967296 : Int) * b + dv u
   ·rw [if_pos h4, if_pos (by omega)]
   ·rw [if_neg h4, if_pos (by omega)]; omega
  ·rw [if_neg h]
theorem compL_fold (b : Int) (hb : 1 ≤ b) (l : List UInt8) (hne : l ≠ []) (hl : ∀ u ∈ l, dv u < b) : compL l b = if 4294967295 < foldD b l 0 then (0, 2) else (foldD b l 0, 0) := by
 unfold compL
 rw [if_neg hne]
 exact compLgo_fold b hb l 0 (by decide) hl
theorem readL_succ (f : Int) (k : Nat) (l : List UInt8) (p : Int × Int) (zs : List tokC.den) : readL f (k + 1) l p zs =
  if (skipA l p).1 = 0 then
   if (cutL (skipA l p).2.1).2.2 = 0 then
    if (cutL (skipA l p).2.1).1.kind = 8 then ⟨zs ++ [tokD (cutL (skipA l p).2.1).1 f (skipA l p).2.2], 0, 0, 0, 0⟩
    else readL f k ((skipA l p).2.1.drop (cutL (skipA l p).2.1).2.1) (posL ((skipA l p).2.1.take (cutL (skipA l p).2.1).2.1) (skipA l p).2.2) (zs ++ [tokD (cutL (skipA l p).2.1).1 f (skipA l p).2.2])
   else ⟨[], f, (skipA l p).2.2.1, (skipA l p).2.2.2, (cutL (skipA l p).2.1).2.2⟩
  else ⟨[], f, (skipA l p).2.2.1, (skipA l p).2.2.2, (skipA l p).1⟩ := rfl
theorem readL_end (f : Int) (k : Nat) (p : Int × Int) (zs : List tokC.den) : readL f (k + 1) [] p zs = ⟨zs ++ [tokD { kind := 8 } f p], 0, 0, 0, 0⟩ := rfl
theorem digit_plain : ∀ n : Fin 256, digitB (n.val : Int) = true → spaceB (n.val : Int) = false ∧ (n.val : Int) ≠ 47 ∧ firstB (n.val : Int) = false ∧ (n.val : Int) ≠ 35 := by decide +kernel
theorem digit_byte (a : UInt8) (h : digitB (bi a) = true) : spaceB (bi a) = false ∧ a ≠ 47 ∧ firstB (bi a) = false ∧ a ≠ 35 := by
 obtain ⟨h1, h2, h3, h4⟩ := digit_plain ⟨a.toNat, a.toNat_lt⟩ h
 exact ⟨h1, fun e => h2 (by rw [e]; rfl), h3, fun e => h4 (by rw [e]; rfl)⟩
theorem cut_number (a : UInt8) (r : List UInt8) (h : digitB (bi a) = true) : cutL (a :: r) = numLx (a :: r) := by
 obtain ⟨_, _, h3, h4⟩ := digit_byte a h
 show cutC a r = _
 unfold cutC
 rw [if_neg (by rw [h3, dF9 h4]; decide), if_pos h]
theorem skipL_fuel : ∀ (m k : Nat) (l : List UInt8) (p : Int × Int), l.length ≤ m → l.length < k → skipL k l p = skipL (l.length + 1) l p
 | m, 0, l, p, _, h => absurd h (nN9 _)
 | 0, k + 1, l, p, hm, _ => by
  have : l = [] := List.length_eq_zero_iff.1 (by omega)
  subst this
  rfl
 | m + 1, k + 1, l, p, hm, h => by
  simp only [skipL]
  by_cases hc : (sepL l).1 = 0 ∨ (sepL l).2 ≠ 0
  ·rw [if_pos hc, if_pos hc]
  ·rw [if_neg hc, if_neg hc]
   have hn : (sepL l).1 ≠ 0 := fun h => hc (.inl h)
   have hle := sepL_le l
   have hd : (l.drop (sepL l).1).length = l.length - (sepL l).1 := List.length_drop
   rw [skipL_fuel m k _ _ (by omega) (by omega), skipL_fuel m l.length _ _ (by omega) (by omega)]
theorem skipA_sep {l : List UInt8} {n : Nat} (p : Int × Int) (h : sepL l = (n, 0)) (hn : n ≠ 0) : skipA l p = skipA (l.drop n) (posL (l.take n) p) := by
 have hle := sepL_le l
 rw [h] at hle
 have hd : (l.drop n).length = l.length - n := List.length_drop
 unfold skipA
 simp only [skipL]
 rw [h, if_neg (by simp [hn])]
 simp only
 exact skipL_fuel l.length _ _ _ (by omega) (by omega)
theorem skipA_blanks (a : UInt8) (l : List UInt8) (p : Int × Int) (h : spaceB (bi a) = true) : skipA (a :: l) p = skipA (dw spaceB l) (posL (tw spaceB (a :: l)) p) := by
 have h47 : a ≠ 47 := fun e => by rw [e] at h; exact absurd h (by decide)
 have hs : sepL (a :: l) = ((tw spaceB (a :: l)).length, 0) := by
  unfold sepL
  rw [if_neg (fun h => h47 (Option.some.inj h.1)), if_neg (fun h => h47 (Option.some.inj h.1))]
 have hne : (tw spaceB (a :: l)).length ≠ 0 := by rw [tw_cons_pos h]; simp
 rw [skipA_sep p hs hne, drop_tw, take_tw, dw_cons_pos h]
theorem number_10 (n : Nat) (hn : n < 2 ^ 63) : compL (splitL (basedV false 10 n)).1 (splitL (basedV false 10 n)).2 = if n ≤ 4294967295 then ((n : Int), 0) else (0, 2) := by
 by_cases h0 : n = 0
 ·subst h0; decide +kernel
 have hh := basedV_head false 10 n (by decide) (by decide) (by omega) h0
 have hs : splitL (basedV false 10 n) = (basedV false 10 n, 10) := by
  unfold splitL
  rw [if_neg (fun h => hh h.1), if_neg hh]
 rw [hs]
 simp only
 have hf := basedV_fold false 10 n (by decide) (by decide) (by omega)
 rw [compL_fold 10 (by decide) _ (basedV_ne _ _ _) (basedV_all (P := fun u => dv u < 10) false 10 n (by decide) fun i hi => by rw [(dig_ok' false i 10 (by decide) hi).1]; omega)]
 have hf' : foldD 10 (basedV false 10 n) 0 = n := hf
 rw [hf']
 by_cases h : n ≤ 4294967295
 ·rw [if_pos h, if_neg (by omega)]
 ·rw [if_neg h, if_pos (by omega)]
theorem based_words (c : Bool) (b n : Nat) (hb : 0 < b) (hb2 : b ≤ 16) : ∀ u ∈ basedV c b n, wordB (bi u) = true :=
 basedV_all (P := fun u => wordB (bi u) = true) c b n hb fun i hi => (dig_ok' c i b hb2 hi).2.1
theorem based_digits (n : Nat) : ∀ u, (basedV false 10 n).head? = some u → digitB (bi u) = true := fun u hu => by
 have h := basedV_all (P := fun u => digitB (bi u) = true) false 10 n (by decide) fun i hi => (dig_ok' false i 10 (by decide) hi).2.2.1 hi
 cases hb : basedV false 10 n with
 | nil => rw [hb] at hu; cases hu
 | cons x r =>
  rw [hb] at hu h
  cases hu
  exact h _ (by simp)
theorem skipA_zero {l : List UInt8} (p : Int × Int) (h : sepL l = (0, 0)) : skipA l p = (0, l, p) := by
 unfold skipA
 simp only [skipL]
 rw [h, if_pos (.inl rfl)]
theorem skipA_blank (a : UInt8) (l : List UInt8) (p : Int × Int) (h : spaceB (bi a) = true) : skipA (a :: l) p = skipA l (stepP p a) := by
 rw [skipA_blanks a l p h, tw_cons_pos h, posL_cons]
 cases l with
 | nil => rfl
 | cons b r =>
  cases hb : spaceB (bi b) with
  | true => rw [skipA_blanks b r _ hb, dw_cons_pos hb]
  | false => rw [dw_cons_neg hb, tw_cons_neg hb]; rfl
def Sep (g : List UInt8) : Prop := ∀ R p, skipA (g ++ R) p = skipA R (posL g p)
theorem Sep.blank {a : UInt8} {g : List UInt8} (h : spaceB (bi a) = true) (hg : Sep g) : Sep (a :: g) := fun R p => by
 rw [List.cons_append, skipA_blank a _ p h, hg, posL_cons]
theorem Sep.nil : Sep [] := fun _ _ => rfl
def strip (z : tokC.den) : Int × ByteArray × Int := (z.1, z.2.1, z.2.2.1)
theorem readL_skip (f : Int) : ∀ (k : Nat) (l l' : List UInt8) (p p' : Int × Int) (zs : List tokC.den), skipA l p = skipA l' p' → readL f k l p zs = readL f k l' p' zs
 | 0, l, l', p, p', zs, h => by simp only [readL]; rw [h]
 | k + 1, l, l', p, p', zs, h => by rw [readL_succ, readL_succ, h]
def Lx (l : List UInt8) (ts : List Tk) : Prop := ∀ (f : Int) (k : Nat) (q : Int × Int) (zs : List tokC.den), ts.length < k →
 (readL f k l q zs).err = 0 ∧ (readL f k l q zs).toks.map tkOf = zs.map tkOf ++ ts ++ [tkEnd]
theorem Lx.nil : Lx [] [] := by
 intro f k q zs hk
 obtain ⟨k, rfl⟩ : ∃ m, k = m + 1 := ⟨k - 1, by simp at hk; omega⟩
 rw [readL_end]
 refine ⟨rfl, ?_⟩
 simp only [List.map_append, List.append_nil]
 rfl
theorem Lx.blank {a : UInt8} (h : spaceB (bi a) = true) {l : List UInt8} {ts : List Tk} (hl : Lx l ts) : Lx (a :: l) ts := by
 intro f k q zs hk
 rw [readL_skip f k (a :: l) l q (stepP q a) zs (skipA_blank a l q h)]
 exact hl f k _ zs hk
theorem Lx.sp {l : List UInt8} {ts : List Tk} (hl : Lx l ts) : Lx (32 :: l) ts := Lx.blank (by decide) hl
theorem Lx.tok {p l : List UInt8} {t : TokV} {ts : List Tk} (hs : sepL (p ++ l) = (0, 0)) (hc : cutL (p ++ l) = (t, p.length, 0)) (hk8 : t.kind ≠ 8) (hl : Lx l ts) : Lx (p ++ l) ((t.kind, t.text, t.value) :: ts) := by
 intro f k q zs hk
 obtain ⟨k, rfl⟩ : ∃ m, k = m + 1 := ⟨k - 1, by simp at hk; omega⟩
 simp only [zC9] at hk
 have hsk : skipA (p ++ l) q = (0, p ++ l, q) := skipA_zero q hs
 rw [readL_succ, hsk]
 simp only [if_true]
 rw [hc]
 simp only [if_true]
 rw [if_neg hk8, List.drop_left]
 obtain ⟨h1, h2⟩ := hl f k (posL ((p ++ l).take p.length) q) (zs ++ [tokD t f q]) (by omega)
 refine ⟨h1, ?_⟩
 rw [h2]
 simp only [List.map_append, List.map_cons, List.map_nil, List.append_assoc, List.cons_append, List.nil_append]
 rfl
def noWord (l : List UInt8) : Prop := ∀ u, l.head? = some u → wordB (bi u) = false
theorem tw_append {p : Int → Bool} : ∀ (a b : List UInt8), (∀ u ∈ a, p (bi u) = true) → (∀ u, b.head? = some u → p (bi u) = false) → tw p (a ++ b) = a := by
 intro a
 induction a with
 | nil =>
  intro b _ hb
  cases b with
  | nil => rfl
  | cons u b => exact tw_cons_neg (hb u rfl)
 | cons u a ih =>
  intro b ha hb
  rw [List.cons_append, tw_cons_pos (ha u (by simp)), ih b (fun x hx => ha x (by simp [hx])) hb]
theorem Lx.word {p l : List UInt8} {v : Int} {ts : List Tk} (hw : ∀ u ∈ p, wordB (bi u) = true) (hd : ∀ u, p.head? = some u → digitB (bi u) = true) (hne : p ≠ []) (hv : compL (splitL p).1 (splitL p).2 = (v, 0)) (hn : noWord l) (hl : Lx l ts) :
  Lx (p ++ l) (tkNum v :: ts) := by
 obtain ⟨a, r, rfl⟩ : ∃ a r, p = a :: r := by cases p with | nil => exact absurd rfl hne | cons a r => exact ⟨a, r, rfl⟩
 have ha := hd a rfl
 obtain ⟨h1, h2, _, _⟩ := digit_byte a ha
 refine Lx.tok (t := { kind := 2, value := v }) ?_ ?_ (show (2 : Int) ≠ 8 by decide) hl
 ·show sepL (a :: (r ++ l)) = (0, 0)
  unfold sepL
  rw [if_neg (fun h => h2 (Option.some.inj h.1)), if_neg (fun h => h2 (Option.some.inj h.1)), tw_cons_neg h1]
  rfl
 ·show cutL (a :: (r ++ l)) = _
  rw [cut_number a _ ha]
  unfold numLx
  rw [show a :: (r ++ l) = (a :: r) ++ l from rfl, tw_append _ _ hw hn, hv]
  rfl
theorem Lx.dec {n : Nat} (h : n ≤ 4294967295) {l : List UInt8} {ts : List Tk} (hn : noWord l) (hl : Lx l ts) : Lx (basedV false 10 n ++ l) (tkNum n :: ts) :=
 Lx.word (based_words _ _ _ (by decide) (by decide)) (based_digits n) (basedV_ne _ _ _) (by rw [number_10 n (by omega), if_pos h]) hn hl
def plain1 (c : UInt8) : Bool := ([40, 41, 126, 43, 45, 42, 37, 94, 63, 58] : List UInt8).contains c
def signs : List (List UInt8) := [[42], [47], [37], [43], [45], [60, 60], [62, 62], [60], [62], [60, 61], [62, 61], [61, 61], [33, 61], [38], [94], [124], [38, 38], [124, 124], [63], [58], [126], [33], [40], [41]]
theorem sign_cut : ∀ s ∈ signs, ∀ R, sepL (s ++ 32 :: R) = (0, 0) ∧ cutL (s ++ 32 :: R) = ({ kind := 4, text := B s }, s.length, 0) := by
 intro s hs R
 simp only [signs, List.mem_cons, List.not_mem_nil, or_false] at hs
 rcases hs with rfl | rfl | rfl | rfl | rfl | rfl | rfl | rfl | rfl | rfl | rfl | rfl | rfl | rfl | rfl | rfl | rfl | rfl | rfl | rfl | rfl | rfl | rfl | rfl <;> exact ⟨by kernel_rfl, by kernel_rfl⟩
theorem Lx.sg {s : List UInt8} (h : s ∈ signs) {l : List UInt8} {ts : List Tk} (hl : Lx l ts) : Lx (s ++ 32 :: l) (tkSg (B s) :: ts) := by
 obtain ⟨h1, h2⟩ := sign_cut s h l
 exact Lx.tok (t := { kind := 4, text := B s }) h1 h2 (show (4 : Int) ≠ 8 by decide) hl.sp
inductive Pc where
 | num (n : Nat)
 | sg (s : List UInt8)
 | s1 (c : UInt8)
 | sp
def Pc.toks : Pc → List Tk
 | .num n => [tkNum n]
 | .sg s => [tkSg (B s)]
 | .s1 c => [tkSg (B [c])]
 | .sp => []
def Pc.after : List Pc → Bool
 | [] => true
 | .sp :: _ => true
 | .s1 c :: _ => plain1 c
 | .sg s :: _ => signs.contains s
 | .num _ :: _ => false
abbrev celC : CT := .pair (.int .i64) .str
abbrev prtC : CT := .pair (.int .i64) (.pair (.list celC) .str)
abbrev defC : CT := .pair (.int .i64) (.pair .str (.pair .str (.pair (.list prtC) (.pair (.int .i64) (.pair (.int .i64) (.int .i64))))))
structure Sr where
 toks : List tkC.den
 at_ : Nat
 bod : Nat
 defs : List defC.den
def e0 : ByteArray := ⟨#[]⟩
def Sr.tok (r : Sr) : tkC.den := r.toks.getD r.at_ tkC.dflt
def Sr.adv (r : Sr) : Sr := { r with at_ := r.at_ + 1 }
def Sr.add (r : Sr) (d : defC.den) : Sr := { r with defs := r.defs ++ [d] }
def sgnI (t : tkC.den) (s : ByteArray) : Bool := decide (t.1 = 4) && decide (t.2.1 = s)
def wrdI (t : tkC.den) (s : ByteArray) : Bool := decide (t.1 = 7) && decide (t.2.1 = s)
def labB (s : ByteArray) : Bool := consB wordB s
def namB (s : ByteArray) : Bool := consB nameB s
def atB (s : ByteArray) : Bool := decide (0 ≤ Lib.indexByte s.data.toList 64)
def prpB (s : ByteArray) : Bool :=
 if 31 < (s.size : Int) then false else if atB s = true then false
 else namB (if prefB s ⟨#[35]⟩ = true then ⟨#[95]⟩ ++ trimP s ⟨#[35]⟩ else s)
def passS (s : ByteArray) (r : Sr) : Bool × Sr := if sgnI r.tok s = true then (true, r.adv) else (false, r)
def mustS (s : ByteArray) (r : Sr) : Int × Sr := if sgnI r.tok s = true then (0, r.adv) else (6, r)
def takeS (k : Int) (v : ByteArray → Bool) (r : Sr) : (ByteArray × Int) × Sr :=
 if r.tok.1 = k then (if v r.tok.2.1 = true then ((r.tok.2.1, 0), r.adv) else ((e0, 1), r)) else ((e0, 6), r)
inductive Nm where
 | root
 | ref
 | node
 | prop
 | str
def nmS (nm : Nm) (r : Sr) : (ByteArray × Int) × Sr :=
 match nm with
 | .root => ((⟨#[47]⟩, (mustS ⟨#[47]⟩ r).1), (mustS ⟨#[47]⟩ r).2)
 | .ref => ((⟨#[38]⟩ ++ (takeS 6 labB r).1.1, (takeS 6 labB r).1.2), (takeS 6 labB r).2)
 | .node => takeS 1 namB r
 | .prop => takeS 1 prpB r
 | .str => takeS 3 (fun _ => true) r
def dfn (kind : Int) (label name : ByteArray) (parts : List prtC.den) (t : tkC.den) : defC.den := (kind, label, name, parts, t.2.2.2)
def cmdS (kind : Int) (nm : Nm) (r : Sr) : Int × Sr :=
 let p := nmS nm r.adv
 if p.1.2 = 0 then mustS ⟨#[59]⟩ (p.2.add (dfn kind e0 p.1.1 [] r.tok)) else (p.1.2, p.2)
def numsS : Nat → Sr → List Int → (ByteArray × Int) × Sr
 | 0, r, _ => ((e0, 6), r)
 | k + 1, r, out =>
  if sgnI r.tok ⟨#[93]⟩ = true then ((bytesOf out, 0), r.adv)
  else if r.tok.1 = 2 then (if 255 < r.tok.2.2.1 then ((e0, 2), r) else numsS k r.adv (out ++ [IntKind.u8.wrap r.tok.2.2.1])) else ((e0, 6), r)
def celS (r : Sr) : (celC.den × Int) × Sr :=
 if r.tok.1 = 6 then (((0, (takeS 6 labB r).1.1), (takeS 6 labB r).1.2), (takeS 6 labB r).2)
 else
  let x := exprV true r.toks r.at_
  if x.2.2 = 0 then (((x.1, e0), 0), { r with at_ := x.2.1.toNat }) else (((x.1, e0), x.2.2), r)
def celsS : Nat → Sr → List celC.den → (List celC.den × Int) × Sr
 | 0, r, _ => (([], 6), r)
 | k + 1, r, out =>
  if sgnI r.tok ⟨#[62]⟩ = true then ((out, 0), r.adv)
  else if (celS r).1.2 = 0 then celsS k (celS r).2 (out ++ [(celS r).1.1]) else (([], (celS r).1.2), (celS r).2)
def prtS (r : Sr) : (prtC.den × Int) × Sr :=
 if sgnI r.tok ⟨#[60]⟩ = true then let x := celsS r.toks.length r.adv []; (((1, x.1.1, e0), x.1.2), x.2)
 else if sgnI r.tok ⟨#[91]⟩ = true then let x := numsS r.toks.length r.adv []; (((3, [], x.1.1), x.1.2), x.2)
 else if r.tok.1 = 3 then let x := takeS 3 (fun _ => true) r; (((2, [], x.1.1), x.1.2), x.2)
 else let x := takeS 6 labB r; (((4, [], x.1.1), x.1.2), x.2)
def prtsS : Nat → Sr → List prtC.den → (List prtC.den × Int) × Sr
 | 0, r, _ => (([], 6), r)
 | k + 1, r, out =>
  if (prtS r).1.2 = 0 then
   (if sgnI (prtS r).2.tok ⟨#[44]⟩ = true then prtsS k (prtS r).2.adv (out ++ [(prtS r).1.1]) else ((out ++ [(prtS r).1.1], 0), (prtS r).2))
  else ((out, (prtS r).1.2), (prtS r).2)
def prpS (r : Sr) : Int × Sr :=
 let p := nmS .prop r
 if p.1.2 = 0 then
  let x := if sgnI p.2.tok ⟨#[61]⟩ = true then prtsS p.2.toks.length p.2.adv [] else (([], 0), p.2)
  if x.1.2 = 0 then mustS ⟨#[59]⟩ (x.2.add (dfn 3 e0 p.1.1 x.1.1 r.tok)) else (x.1.2, x.2)
 else (p.1.2, p.2)
def nodF (body : Sr → Int × Sr) (nm : Nm) (r : Sr) : Int × Sr :=
 let l := if r.tok.1 = 5 then takeS 5 labB r else ((e0, 0), r)
 if l.1.2 = 0 then
  let p := nmS nm l.2
  if p.1.2 = 0 then
   let b := body (p.2.add (dfn 1 l.1.1 p.1.1 [] r.tok))
   if b.1 = 0 then mustS ⟨#[59]⟩ b.2 else b
  else (p.1.2, p.2)
 else (l.1.2, l.2)
def memF (node : Nm → Sr → Int × Sr) (r : Sr) : Int × Sr :=
 if wrdI r.tok ⟨#[100, 101, 108, 101, 116, 101, 45, 112, 114, 111, 112, 101, 114, 116, 121]⟩ = true then cmdS 4 .prop r
 else if wrdI r.tok ⟨#[100, 101, 108, 101, 116, 101, 45, 110, 111, 100, 101]⟩ = true then cmdS 5 .node r
 else if r.tok.1 = 1 ∧ sgnI r.adv.tok ⟨#[123]⟩ = false then prpS r
 else node .node r
def memsF (mem : Sr → Int × Sr) : Nat → Sr → Int × Sr
 | 0, r => (6, r)
 | k + 1, r => if sgnI r.tok ⟨#[125]⟩ = true then (0, r) else if (mem r).1 = 0 then memsF mem k (mem r).2 else mem r
def bodF (mem : Sr → Int × Sr) (r : Sr) : Int × Sr :=
 if sgnI r.tok ⟨#[123]⟩ = true then
  (if 8 < r.bod then (3, r)
   else
    let x := memsF mem r.toks.length { r.adv with bod := r.bod + 1 }
    if x.1 = 0 then mustS ⟨#[125]⟩ ({ x.2 with bod := x.2.bod - 1 }.add (dfn 2 e0 e0 [] x.2.tok)) else x)
 else (6, r)
def bodS : Nat → Sr → Int × Sr
 | 0, r => (6, r)
 | k + 1, r => bodF (memF (nodF (bodS k))) r
def topS (r : Sr) : Int × Sr :=
 if wrdI r.tok ⟨#[105, 110, 99, 108, 117, 100, 101]⟩ = true then cmdS 6 .str r
 else if wrdI r.tok ⟨#[100, 101, 108, 101, 116, 101, 45, 110, 111, 100, 101]⟩ = true then cmdS 5 .ref r
 else if r.tok.1 = 6 then nodF (bodS 6001) .ref r
 else nodF (bodS 6001) .root r
def topsS : Nat → Sr → Int × Sr
 | 0, r => (6, r)
 | k + 1, r => if r.tok.1 = 8 then (0, r) else if (topS r).1 = 0 then topsS k (topS r).2 else topS r
structure SrcV where
 defs : List defC.den
 file : Int
 line : Int
 column : Int
 err : Int
def srcV (s : ByteArray) (f : Int) : SrcV :=
 if (readV s f).err = 0 then
  let x := topsS (readV s f).toks.length ⟨(readV s f).toks, 0, 0, []⟩
  if x.1 = 0 then ⟨x.2.defs, 0, 0, 0, 0⟩ else ⟨[], x.2.tok.2.2.2.1, x.2.tok.2.2.2.2.1, x.2.tok.2.2.2.2.2, x.1⟩
 else ⟨[], (readV s f).file, (readV s f).line, (readV s f).column, (readV s f).err⟩
end Go.Ab
