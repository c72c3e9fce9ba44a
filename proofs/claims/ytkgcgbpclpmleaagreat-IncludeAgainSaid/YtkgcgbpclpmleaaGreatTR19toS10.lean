/- The reference of package token: texts, words, numbers. -/
import Derived.Test.YtkgcgbpclpmleaaGreatTR18
import Derived.Test.YtkgcgbpclpmleaaGreatTS2toX1
namespace Go.Ab
open Go.Proofs
set_option linter.unusedSectionVars false
set_option maxRecDepth 100000
variable [Glob]
def textR (l : List UInt8) (a : Nat) : TokV × Nat × Int := strL ((l.drop (a + 1)).length + 1) (l.drop (a + 1)) [] 1
def textSV (x : TokV × Nat × Int) : SV := .tup [.c (.str x.1.text), .c (.int .i64 (x.2.1 : Int)), .c (.int .i64 x.2.2)]
def T63 : Table := ext T62 49 (saysSI fun s i => (some (fits s ∧ 0 ≤ i ∧ i < s.size), textSV (textR s.data.toList i.toNat)))
theorem t63 : TS9 T63 := by
 refine extSI t62 49 (fn := Tryz.f49) rfl rfl (by decide) _ [0, 1, 4, 5, 6, 7, 8, 9, 10, 11, 23, 32, 41, 52] fun s i hs => ?_
 obtain ⟨hs', hi0, hi1⟩ : s.size ≤ 1000000000 ∧ 0 ≤ i ∧ i < s.size := hs
 obtain ⟨a, rfl⟩ : ∃ a : Nat, i = a := ⟨i.toNat, by omega⟩
 obtain ⟨l, rfl⟩ : ∃ l, s = B l := ⟨s.data.toList, rfl⟩
 have hB : (B l).size = l.length := rfl
 rw [hB] at hs' hi1
 repeat ((conv => whnf); refine ⟨by (unfold inI64; omega), ?_⟩)
 conv => whnf
 refine loop_weak (σ := Nat × List Int × Nat) (fun ⟨i, zs, _⟩ => [(0, XV.s (SV.str (B l))), (1, XV.s (.int .i64 a)), (4, nX9), (5, nX9), (6, nX9), (7, XV.s (.a (.c (.own 0 (.int .u8) zs)))), (8, XV.s (.int .i64 i)), (9, nX9), (10, nX9), (11, nX9), (23, nX9), (32, nX9), (41, nX9), (52, nX9)])
  (fun ⟨_, zs, _⟩ => [.tok 5 (.int .u8) zs.length true])
  (fun ⟨i, zs, k⟩ => a + 1 ≤ i ∧ i ≤ l.length ∧ zs.length ≤ i ∧ l.length < i + k ∧ strL k (l.drop i) zs (i - a) = textR l a) (fun ⟨i, _, _⟩ => l.length - i) (a + 1, [], (l.drop (a + 1)).length + 1) ?_ ?_ fun ⟨i, zs, k⟩ hI => ?_
 ·refine Weak.own 5 ?_
  repeat first|exact wN9|refine wD9 ?_|refine wS9 ?_|refine wO9 ?_
 ·refine ⟨nR9 _, by omega, by simp, ?_, ?_⟩
  ·rw [List.length_drop]; omega
  ·rw [show a + 1 - a = 1 by omega]; rfl
 obtain ⟨hi, hi2, hz, hk, hgo⟩ := hI
 obtain ⟨k, rfl⟩ : ∃ k', k = k' + 1 := ⟨k - 1, by omega⟩
 repeat ((conv => whnf); refine ⟨by (intro hg; first | (unfold inI64; omega) | omega | exact ⟨by omega, by omega⟩ | (simp [lit] at hg; unfold inI64; omega) | (simp [lit] at hg; omega) | (simp [lit] at hg; exact ⟨by omega, by omega⟩)), ?_⟩)
 conv => whnf
 refine cI9 ?_ ?_<;>intro h
 ·simp only [Bool.and_eq_true, decide_eq_true_eq, Bool.not_eq_true', decide_eq_false_iff_not] at h
  obtain ⟨h1, h2⟩ := h
  have h1' : i < l.length := by omega
  have hb : byteAt (B l) (i : Int) = (((l.getD i 0).toNat : Nat) : Int) := rfl
  rw [drop_get h1'] at hgo
  simp only [strL] at hgo
  have e10 : ¬ l.getD i 0 = 10 := fun h => h2 (by rw [hb, h]; rfl)
  rw [if_neg e10] at hgo
  repeat ((conv => whnf); refine ⟨by omega, ?_⟩)
  conv => whnf
  refine cI9 ?_ ?_<;>intro h3
  ·have e34 : l.getD i 0 = 34 := (iff_of_eq (byte_iff (l.getD i 0) 34)).1 (oT9 h3)
   rw [if_pos e34] at hgo
   repeat ((conv => whnf); refine ⟨by (unfold inI64; omega), ?_⟩)
   conv => whnf
   refine eT9 ?_
   show _ = textSV (textR l a)
   rw [← hgo]
   show SV.tup [_, .c (.int .i64 ((i : Int) + 1 - a)), _] = SV.tup [_, .c (.int .i64 ((i - a + 1 : Nat) : Int)), _]
   rw [show (i : Int) + 1 - a = ((i - a + 1 : Nat) : Int) by omega]
  have e34 : ¬ l.getD i 0 = 34 := fun h => oF9 h3 ((iff_of_eq (byte_iff (l.getD i 0) 34)).2 h)
  rw [if_neg e34] at hgo
  repeat ((conv => whnf); refine ⟨by omega, ?_⟩)
  conv => whnf
  refine cI9 ?_ ?_<;>intro h4
  ·have e92 : ¬ l.getD i 0 = 92 := fun h => by
    have h5 : ¬ byteAt (B l) (i : Int) = 92 := by simpa using h4
    exact h5 (by rw [hb, h]; rfl)
   rw [if_neg e92] at hgo
   repeat ((conv => whnf); refine ⟨by first | (unfold inI64; omega) | omega | (show (_ : Nat) + 1 ≤ 1000000000000; omega), ?_⟩)
   conv => whnf
   refine kI9 (i + 1, zs ++ [byteAt (B l) (i : Int)], k) [0] rfl (nK9) ?_ ?_ ?_ ?_
   ·show _ = some [AO.tok 5 (.int .u8) (zs ++ [byteAt (B l) (i : Int)]).length true]
    rw [zP9]
    rfl
   ·repeat first|exact kN9|refine kD9 ?_|refine kR9 rfl ?_
   ·refine ⟨by omega, by omega, by rw [zP9, List.length_singleton]; omega, by omega, ?_⟩
    rw [hb, show i + 1 - a = i - a + 1 by omega]
    exact hgo
   ·show l.length - (i + 1) < l.length - i
    omega
  ·have e92 : l.getD i 0 = 92 := by
    have h5 : byteAt (B l) (i : Int) = 92 := by simpa using h4
    exact (iff_of_eq (byte_iff (l.getD i 0) 92)).1 h5
   rw [if_pos e92, ← drop_get h1'] at hgo
   have hx : dropB (B l) (i : Int) = B (l.drop i) := rfl
   repeat ((conv => whnf); refine ⟨by omega, ?_⟩)
   conv => whnf
   rw [hx]
   refine cI9 ?_ ?_<;>intro h5
   ·have h5' : ¬ (escL (l.drop i)).2.2 = 0 := by simpa [escL] using h5
    rw [if_neg h5'] at hgo
    conv => whnf
    refine eT9 ?_
    show _ = textSV (textR l a)
    rw [← hgo]
    rfl
   have h5' : (escL (l.drop i)).2.2 = 0 := by simpa [escL] using h5
   rw [if_pos h5'] at hgo
   have hn : (escV (B (l.drop i))).2.1 = 2 ∨ (escV (B (l.drop i))).2.1 = 4 := escV_n _ h5'
   have hsz : (escV (B (l.drop i))).2.1 ≤ (B (l.drop i)).size := escV_size _ h5'
   rw [B_size, List.length_drop] at hsz
   obtain ⟨m, hm⟩ : ∃ m : Nat, (escV (B (l.drop i))).2.1 = m := ⟨(escV (B (l.drop i))).2.1.toNat, by omega⟩
   have hm' : (escL (l.drop i)).2.1 = m := hm
   rw [hm', Int.toNat_natCast, List.drop_drop] at hgo
   rw [hm] at hn hsz
   repeat ((conv => whnf); refine ⟨by first | (unfold inI64; omega) | omega | (show (_ : Nat) + 1 ≤ 1000000000000; omega), ?_⟩)
   conv => whnf
   rw [hm]
   conv => whnf
   refine kI9 (i + m, zs ++ [(escL (l.drop i)).1], k) [0] rfl (nK9) ?_ ?_ ?_ ?_
   ·show _ = some [AO.tok 5 (.int .u8) (zs ++ [(escL (l.drop i)).1]).length true]
    rw [zP9]
    rfl
   ·repeat first|exact kN9|refine kD9 ?_|refine kR9 rfl ?_
   ·refine ⟨by omega, by omega, by rw [zP9, List.length_singleton]; omega, by omega, ?_⟩
    rw [show i + m - a = i - a + m by omega]
    exact hgo
   ·show l.length - (i + m) < l.length - i
    omega
 ·have hE : strL (k + 1) (l.drop i) zs (i - a) = ({}, 0, 21) := by
   rcases Nat.lt_or_ge i l.length with h1 | h1
   ·rw [drop_get h1]
    simp only [strL]
    rw [if_pos]
    rw [dT9 (by omega : (i : Int) < (B l).size), Bool.true_and] at h
    have h5 : byteAt (B l) (i : Int) = 10 := by simpa using h
    exact (iff_of_eq (byte_iff (l.getD i 0) 10)).1 h5
   ·rw [List.drop_eq_nil_of_le h1]
    rfl
  rw [hE] at hgo
  conv => whnf
  refine eT9 ?_
  show _ = textSV (textR l a)
  rw [← hgo]
  rfl
def slashR (l : List UInt8) : Nat := if tw slashB l ≠ [] ∧ (dw slashB l).head? = some 47 then (tw slashB l).length + 2 else 0
def T64 : Table := ext T63 50 (saysSI fun s i => (some (fits s ∧ 0 ≤ i ∧ i < s.size), .int .i64 (slashR (s.data.toList.drop (i.toNat + 1)) : Int)))
theorem twd_head (p : Int → Bool) (l : List UInt8) (i : Nat) : (dw p (l.drop i)).head? = if i + (tw p (l.drop i)).length < l.length then some (l.getD (i + (tw p (l.drop i)).length) 0) else none := by
 have h1 : (l.drop i).drop (tw p (l.drop i)).length = dw p (l.drop i) := drop_tw p _
 rw [List.drop_drop] at h1
 rw [← h1]
 split
 ·rename_i h; rw [drop_get h]; rfl
 ·rename_i h; rw [List.drop_eq_nil_of_le (by omega)]; rfl
theorem t64 : TS9 T64 := by
 refine extSI t63 50 (fn := Tryz.f50) rfl rfl (by decide) _ [0, 1, 4, 5, 35, 55] fun s i hs => ?_
 obtain ⟨hs', hi0, hi1⟩ : s.size ≤ 1000000000 ∧ 0 ≤ i ∧ i < s.size := hs
 obtain ⟨a, rfl⟩ : ∃ a : Nat, i = a := ⟨i.toNat, by omega⟩
 obtain ⟨l, rfl⟩ : ∃ l, s = B l := ⟨s.data.toList, rfl⟩
 have hB : (B l).size = l.length := rfl
 rw [hB] at hs' hi1
 conv => whnf
 refine lI9 (σ := Nat) (fun n => [(0, XV.s (SV.str (B l))), (1, XV.s (.int .i64 a)), (4, nX9), (5, XV.s (.int .i64 n)), (35, nX9), (55, nX9)]) (fun _ => [])
  (fun n => 1 ≤ n ∧ n - 1 + (tw slashB (l.drop (a + n))).length = (tw slashB (l.drop (a + 1))).length) (fun n => l.length - n) 1 ?_ rfl ?_ fun n hI => ?_
 ·repeat first|exact lN9|refine lD9 ?_|refine lS9 ?_
 ·exact ⟨nR9 _, Nat.zero_add _⟩
 obtain ⟨hn, hI'⟩ : 1 ≤ n ∧ n - 1 + (tw slashB (l.drop (a + n))).length = (tw slashB (l.drop (a + 1))).length := hI
 have hb1 := twd_le slashB l (a + 1)
 repeat ((conv => whnf); refine ⟨by first | (unfold inI64; omega) | (intro hg; first | (unfold inI64; omega) | omega | exact ⟨by omega, by omega⟩ | (simp [lit] at hg; unfold inI64; omega) | (simp [lit] at hg; omega) | (simp [lit] at hg; exact ⟨by omega, by omega⟩)), ?_⟩)
 conv => whnf
 refine cI9 ?_ ?_<;>intro h
 ·rw [Bool.and_eq_true, decide_eq_true_eq] at h
  obtain ⟨h1, h2⟩ := h
  have h1' : a + n < l.length := by omega
  have h2' : slashB (byteAt (B l) ((a + n : Nat) : Int)) = true := h2
  have hstep := twd_step (p := slashB) h1' h2'
  repeat ((conv => whnf); refine ⟨by (unfold inI64; omega), ?_⟩)
  conv => whnf
  refine hI9 (n + 1) ?_ rfl ?_ ?_
  ·repeat first|exact lN9|refine lD9 ?_|refine lS9 ?_
  ·refine ⟨by omega, ?_⟩
   show n + 1 - 1 + (tw slashB (l.drop (a + (n + 1)))).length = _
   rw [← Nat.add_assoc]
   omega
  ·show l.length - (n + 1) < l.length - n
   omega
 ·have h0 : (tw slashB (l.drop (a + n))).length = 0 := by
   rcases Nat.lt_or_ge (a + n) l.length with h1 | h1
   ·refine twd_stop h1 ?_
    rw [dT9 (by omega : (a : Int) + n < (B l).size), Bool.true_and] at h
    exact h
   ·exact twd_end h1
  have hN : n = (tw slashB (l.drop (a + 1))).length + 1 := by omega
  have hW : slashR (l.drop (a + 1)) = if 1 < n ∧ a + n < l.length ∧ byteAt (B l) ((a : Int) + n) = 47 then n + 1 else 0 := by
   unfold slashR
   rw [twd_head, hN]
   have e1 : tw slashB (l.drop (a + 1)) ≠ [] ↔ 1 < (tw slashB (l.drop (a + 1))).length + 1 := by
    rw [← List.length_pos_iff]; omega
   have e2 : a + 1 + (tw slashB (l.drop (a + 1))).length = a + ((tw slashB (l.drop (a + 1))).length + 1) := by omega
   rw [e2]
   generalize hm : (tw slashB (l.drop (a + 1))).length + 1 = m at e1
   by_cases h3 : a + m < l.length
   ·rw [if_pos h3]
    have e3 : (some (l.getD (a + m) 0) = some (47 : UInt8)) ↔ byteAt (B l) ((a : Int) + m) = 47 := by
     rw [Option.some_inj]
     exact (iff_of_eq (byte_iff (l.getD (a + m) 0) 47)).symm
    by_cases h4 : 1 < m
    ·by_cases h5 : byteAt (B l) ((a : Int) + m) = 47
     ·rw [if_pos ⟨e1.2 h4, e3.2 h5⟩, if_pos ⟨h4, h3, h5⟩]
      omega
     ·rw [if_neg (fun h => h5 (e3.1 h.2)), if_neg (fun h => h5 h.2.2)]
    ·rw [if_neg (fun h => h4 (e1.1 h.1)), if_neg (fun h => h4 h.1)]
   ·rw [if_neg h3, if_neg (fun h => by cases h.2), if_neg (fun h => h3 h.2.1)]
  have hR : ((slashR ((B l).data.toList.drop (((a : Int)).toNat + 1)) : Nat) : Int) = ((slashR (l.drop (a + 1)) : Nat) : Int) := rfl
  rw [hR, hW]
  repeat ((conv => whnf); refine ⟨by first | (unfold inI64; omega) | (intro hg; first | (unfold inI64; omega) | omega | exact ⟨by omega, by omega⟩ | (simp [lit] at hg; unfold inI64; omega) | (simp [lit] at hg; omega) | (simp [lit] at hg; exact ⟨by omega, by omega⟩)), ?_⟩)
  conv => whnf
  refine cI9 ?_ ?_<;>intro h6
  ·simp only [Bool.and_eq_true, decide_eq_true_eq] at h6
   rw [if_pos ⟨by omega, by omega, h6.2⟩]
   repeat ((conv => whnf); refine ⟨by (unfold inI64; omega), ?_⟩)
   conv => whnf
   exact eR9
  ·rw [if_neg]
   ·skip
    conv => whnf
    exact eR9
   ·rintro ⟨h7, h8, h9⟩
    rw [dT9 (by omega : (1 : Int) < (n : Int)), dT9 (by omega : (a : Int) + n < ((B l).size : Nat)), dT9 h9] at h6
    cases h6
def numR (l : List UInt8) : Int × Int := compL (splitL l).1 (splitL l).2
def T65 : Table := ext T64 48 (saysS fun s => (some (fits s), numSV (numR s.data.toList)))
theorem comp_oct (r : List UInt8) (h : r ≠ []) : compL (48 :: r) 8 = compL r 8 := by
 unfold compL
 rw [if_neg (by simp), if_neg h]
 rfl
theorem numR_one (l : List UInt8) (h : ¬ (1 < l.length ∧ l.head? = some 48)) : numR l = compL l 10 := by
 unfold numR splitL
 by_cases h1 : l.head? = some 48
 ·have h2 : l = [48] := by
   match l, h1, h with
   | [a], h1, _ => simpa using h1
   | a :: b :: r, h1, h => exact absurd ⟨by simp, h1⟩ h
  subst h2
  rfl
 ·rw [if_neg (fun h => h1 h.1), if_neg h1]
theorem numR_oct (r : List UInt8) (h : r ≠ []) (h2 : ¬ r.head? = some 120) : numR (48 :: r) = compL r 8 := by
 unfold numR splitL
 rw [if_neg (fun h => h2 h.2), if_pos (show (48 :: r).head? = some 48 from rfl)]
 exact comp_oct r h
theorem numR_hex (r : List UInt8) : numR (48 :: 120 :: r) = compL r 16 := rfl
theorem comp_big (b : Int) (hb : 8 ≤ b) (d : UInt8) (r : List UInt8) (n : Int) (big : Bool) (hd : ¬ b ≤ digitV (bi d)) :
  compLgo b (d :: r) (if big = true then 4294967296 else n) = compLgo b r (if (big || decide (4294967295 < n * b + digitV (bi d))) = true then 4294967296 else n * b + digitV (bi d)) := by
 have hr := digitV_range (bi d)
 simp only [compLgo]
 rw [if_neg hd]
 congr 1
 cases big with
 | true =>
  simp only [if_true, Bool.true_or]
  rw [if_pos (by show (4294967296 : Int) < 4294967296 * b + digitV (bi d); omega)]
 | false =>
  simp only [Bool.false_or, Bool.false_eq_true, if_false, decide_eq_true_eq]
  have e : n * b + digitV (((d.toNat : Nat) : Int)) = n * b + digitV (bi d) := rfl
  rw [e]
  split <;> split <;> omega
theorem rdig_ge {b c : Int} (hb : b ≤ 16) : decide (b ≤ rdigV c) = decide (b ≤ digitV c) := by
 have := digitV_range c
 rw [rdigV_eq, decide_eq_decide]
 split <;> omega
def numGo (l : List UInt8) (b : Int) (i : Nat) (n : Int) (big : Bool) : Int × Int := compLgo b (l.drop i) (if big = true then 4294967296 else n)
theorem t65 : TS9 T65 := by
 refine extS t64 48 (fn := Tryz.f48) rfl rfl (by decide) _ [0, 2, 3, 4, 5, 6, 7, 8, 9, 18, 23, 28, 32, 41, 48, 49] fun s hs => ?_
 have hs' : s.size ≤ 1000000000 := hs
 obtain ⟨l, rfl⟩ : ∃ l, s = B l := ⟨s.data.toList, rfl⟩
 have hB : (B l).size = l.length := rfl
 rw [hB] at hs'
 have hR : numR (B l).data.toList = numR l := rfl
 rw [hR]
 repeat ((conv => whnf); refine ⟨by (intro hg; first | (unfold inI64; omega) | omega | exact ⟨by omega, by omega⟩ | (simp [lit] at hg; unfold inI64; omega) | (simp [lit] at hg; omega) | (simp [lit] at hg; exact ⟨by omega, by omega⟩)), ?_⟩)
 conv => whnf
 refine cI9 ?_ ?_<;>intro g0
 ·simp only [Bool.and_eq_true, decide_eq_true_eq] at g0
  obtain ⟨x, y, r, hl⟩ : ∃ x y r, l = x :: y :: r := by
   match l, hB, g0.1 with
   | [], h, h2 => rw [h] at h2; simp at h2
   | [a], h, h2 => rw [h] at h2; simp at h2
   | a :: b :: r, _, _ => exact ⟨a, b, r, rfl⟩
  have hx : x = 48 := (iff_of_eq (byte_iff x 48)).1 (by rw [hl] at g0; exact g0.2)
  have hy : decide (byteAt (B l) 1 = 120) = decide (y = 120) := by rw [hl]; exact byte_dec y 120
  subst hx
  have hl2 : l.length = r.length + 2 := by rw [hl]; rfl
  repeat ((conv => whnf); refine ⟨by first | omega | exact rfl, ?_⟩)
  conv => whnf
  refine cI9 ?_ ?_<;>intro g2
  ·have hy' : y = 120 := oT9 (hy.symm.trans g2)
   subst hy'
   have hN : numR l = compL r 16 := by rw [hl]; exact numR_hex r
   have he : (B l).extract (Int.toNat 2) (((B l).size : Nat) : Int).toNat = B r := by
    rw [B_extract, Int.toNat_natCast, B_size, List.take_of_length_le (nR9 _), hl]
    rfl
   repeat ((conv => whnf); refine ⟨by first | omega | exact rfl, ?_⟩)
   conv => whnf
   rw [he]
   refine cI9 ?_ ?_<;>intro g1
   ·have g1' : r = [] := by
     have : ((B r).size : Int) = 0 := oT9 g1
     rw [B_size] at this
     exact List.length_eq_zero_iff.1 (by omega)
    have hZ : numR l = (0, 6) := by rw [hN, g1']; rfl
    rw [hZ]
    conv => whnf
    exact eR9
   have g1' : ¬ r = [] := fun h => by
    have : ¬ ((B r).size : Int) = 0 := oF9 g1
    rw [h] at this
    exact this rfl
   have hG : numGo r 16 0 0 false = numR l := by
    rw [hN]
    unfold numGo compL
    rw [if_neg g1']
    rfl
   have hsD : (B r).size = r.length := rfl
   conv => whnf
   refine lI9 (σ := Nat × Int × Bool) (fun ⟨i, n, big⟩ => [(0, XV.s (SV.str (B l))), (2, nX9), (3, nX9), (4, XV.s (.int .i64 16)), (5, XV.s (SV.str (B r))), (6, XV.s (.int .i64 n)), (7, XV.s (.bool big)), (8, XV.s (.int .i64 i)), (9, nX9), (18, nX9), (23, nX9), (28, nX9), (32, nX9), (41, nX9), (48, nX9), (49, nX9)]) (fun _ => [])
    (fun ⟨i, n, big⟩ => i ≤ r.length ∧ 0 ≤ n ∧ n ≤ 4294967295 ∧ numGo r 16 i n big = numR l) (fun ⟨i, _, _⟩ => r.length - i) (0, 0, false) ?_ rfl ?_ fun ⟨i, n, big⟩ hI => ?_
   ·repeat first|exact lN9|refine lD9 ?_|refine lS9 ?_
   ·exact ⟨nZ9 _, Int.le_refl _, by omega, hG⟩
   obtain ⟨hi, hn0, hn1, hgo⟩ := hI
   conv => whnf
   refine cI9 ?_ ?_<;>intro g3
   ·have hlt : i < r.length := by have : (i : Int) < (B r).size := oT9 g3
                                  omega
    have hb : byteAt (B r) (i : Int) = bi (r.getD i 0) := rfl
    have hdr := digitV_range (byteAt (B r) (i : Int))
    have hge := rdig_ge (b := 16) (c := byteAt (B r) (i : Int)) (by decide)
    rw [numGo, drop_get hlt] at hgo
    repeat ((conv => whnf); refine ⟨by omega, ?_⟩)
    conv => whnf
    refine cI9 ?_ ?_<;>intro g4
    ·have g4' : (16 : Int) ≤ digitV (byteAt (B r) (i : Int)) := oT9 (hge.symm.trans g4)
     simp only [compLgo] at hgo
     rw [if_pos (show (16 : Int) ≤ digitV (bi (r.getD i 0)) from g4')] at hgo
     conv => whnf
     refine eT9 ?_
     show _ = numSV (numR l)
     rw [← hgo]
     rfl
    have g4' : ¬ (16 : Int) ≤ digitV (byteAt (B r) (i : Int)) := oF9 (hge.symm.trans g4)
    have g5 : rdigV (byteAt (B r) (i : Int)) = digitV (byteAt (B r) (i : Int)) := rdig_eq (by omega)
    have hstep := comp_big 16 (by decide) (r.getD i 0) (r.drop (i + 1)) n big g4'
    rw [hstep] at hgo
    repeat ((conv => whnf); refine ⟨by (unfold inI64; omega), ?_⟩)
    conv => whnf
    rw [g5]
    refine cI9 ?_ ?_<;>intro g6
    ·have g6' : (4294967295 : Int) < n * 16 + digitV (byteAt (B r) (i : Int)) := oT9 g6
     rw [dT9 (show (4294967295 : Int) < n * 16 + digitV (bi (r.getD i 0)) from g6'), Bool.or_true, if_pos rfl] at hgo
     repeat ((conv => whnf); refine ⟨by (unfold inI64; omega), ?_⟩)
     conv => whnf
     refine hI9 (i + 1, 0, true) ?_ rfl ?_ ?_
     ·repeat first|exact lN9|refine lD9 ?_|refine lS9 ?_
     ·exact ⟨hlt, Int.le_refl _, by omega, hgo⟩
     ·show r.length - (i + 1) < r.length - i
      omega
    ·have g6' : ¬ (4294967295 : Int) < n * 16 + digitV (byteAt (B r) (i : Int)) := oF9 g6
     rw [dF9 (show ¬ (4294967295 : Int) < n * 16 + digitV (bi (r.getD i 0)) from g6'), Bool.or_false] at hgo
     repeat ((conv => whnf); refine ⟨by (unfold inI64; omega), ?_⟩)
     conv => whnf
     refine hI9 (i + 1, n * 16 + digitV (byteAt (B r) (i : Int)), big) ?_ rfl ?_ ?_
     ·repeat first|exact lN9|refine lD9 ?_|refine lS9 ?_
     ·exact ⟨hlt, by omega, by omega, hgo⟩
     ·show r.length - (i + 1) < r.length - i
      omega
   ·have hge : r.length ≤ i := by have : ¬ (i : Int) < (B r).size := oF9 g3
                                  omega
    rw [numGo, List.drop_eq_nil_of_le hge] at hgo
    simp only [compLgo] at hgo
    conv => whnf
    refine cI9 ?_ ?_<;>intro g7
    ·have g7' : big = true := g7
     subst g7'
     rw [if_pos (by simp)] at hgo
     conv => whnf
     refine eT9 ?_
     show _ = numSV (numR l)
     rw [← hgo]
     rfl
    ·have g7' : big = false := g7
     subst g7'
     rw [if_neg (by simp only [Bool.false_eq_true, if_false]; omega)] at hgo
     conv => whnf
     refine eT9 ?_
     show _ = numSV (numR l)
     rw [← hgo]
     rfl
  ·have hy' : ¬ y = 120 := oF9 (hy.symm.trans g2)
   obtain ⟨d, hd⟩ : ∃ d, d = y :: r := ⟨_, rfl⟩
   have hdl : d.length = r.length + 1 := by rw [hd]; rfl
   have hN : numR l = compL d 8 := by rw [hl, hd]; exact numR_oct (y :: r) (by simp) (fun h => hy' (by simpa using h))
   have he : (B l).extract (Int.toNat 1) (((B l).size : Nat) : Int).toNat = B d := by
    rw [B_extract, Int.toNat_natCast, B_size, List.take_of_length_le (nR9 _), hl, hd]
    rfl
   conv => whnf
   rw [he]
   refine cI9 ?_ ?_<;>intro g1
   ·have g1' : d = [] := by
     have : ((B d).size : Int) = 0 := oT9 g1
     rw [B_size] at this
     exact List.length_eq_zero_iff.1 (by omega)
    have hZ : numR l = (0, 6) := by rw [hN, g1']; rfl
    rw [hZ]
    conv => whnf
    exact eR9
   have g1' : ¬ d = [] := fun h => by
    have : ¬ ((B d).size : Int) = 0 := oF9 g1
    rw [h] at this
    exact this rfl
   have hG : numGo d 8 0 0 false = numR l := by
    rw [hN]
    unfold numGo compL
    rw [if_neg g1']
    rfl
   have hsD : (B d).size = d.length := rfl
   conv => whnf
   refine lI9 (σ := Nat × Int × Bool) (fun ⟨i, n, big⟩ => [(0, XV.s (SV.str (B l))), (2, nX9), (3, nX9), (4, XV.s (.int .i64 8)), (5, XV.s (SV.str (B d))), (6, XV.s (.int .i64 n)), (7, XV.s (.bool big)), (8, XV.s (.int .i64 i)), (9, nX9), (18, nX9), (23, nX9), (28, nX9), (32, nX9), (41, nX9), (48, nX9), (49, nX9)]) (fun _ => [])
    (fun ⟨i, n, big⟩ => i ≤ d.length ∧ 0 ≤ n ∧ n ≤ 4294967295 ∧ numGo d 8 i n big = numR l) (fun ⟨i, _, _⟩ => d.length - i) (0, 0, false) ?_ rfl ?_ fun ⟨i, n, big⟩ hI => ?_
   ·repeat first|exact lN9|refine lD9 ?_|refine lS9 ?_
   ·exact ⟨nZ9 _, Int.le_refl _, by omega, hG⟩
   obtain ⟨hi, hn0, hn1, hgo⟩ := hI
   conv => whnf
   refine cI9 ?_ ?_<;>intro g3
   ·have hlt : i < d.length := by have : (i : Int) < (B d).size := oT9 g3
                                  omega
    have hb : byteAt (B d) (i : Int) = bi (d.getD i 0) := rfl
    have hdr := digitV_range (byteAt (B d) (i : Int))
    have hge := rdig_ge (b := 8) (c := byteAt (B d) (i : Int)) (by decide)
    rw [numGo, drop_get hlt] at hgo
    repeat ((conv => whnf); refine ⟨by omega, ?_⟩)
    conv => whnf
    refine cI9 ?_ ?_<;>intro g4
    ·have g4' : (8 : Int) ≤ digitV (byteAt (B d) (i : Int)) := oT9 (hge.symm.trans g4)
     simp only [compLgo] at hgo
     rw [if_pos (show (8 : Int) ≤ digitV (bi (d.getD i 0)) from g4')] at hgo
     conv => whnf
     refine eT9 ?_
     show _ = numSV (numR l)
     rw [← hgo]
     rfl
    have g4' : ¬ (8 : Int) ≤ digitV (byteAt (B d) (i : Int)) := oF9 (hge.symm.trans g4)
    have g5 : rdigV (byteAt (B d) (i : Int)) = digitV (byteAt (B d) (i : Int)) := rdig_eq (by omega)
    have hstep := comp_big 8 (by decide) (d.getD i 0) (d.drop (i + 1)) n big g4'
    rw [hstep] at hgo
    repeat ((conv => whnf); refine ⟨by (unfold inI64; omega), ?_⟩)
    conv => whnf
    rw [g5]
    refine cI9 ?_ ?_<;>intro g6
    ·have g6' : (4294967295 : Int) < n * 8 + digitV (byteAt (B d) (i : Int)) := oT9 g6
     rw [dT9 (show (4294967295 : Int) < n * 8 + digitV (bi (d.getD i 0)) from g6'), Bool.or_true, if_pos rfl] at hgo
     repeat ((conv => whnf); refine ⟨by (unfold inI64; omega), ?_⟩)
     conv => whnf
     refine hI9 (i + 1, 0, true) ?_ rfl ?_ ?_
     ·repeat first|exact lN9|refine lD9 ?_|refine lS9 ?_
     ·exact ⟨hlt, Int.le_refl _, by omega, hgo⟩
     ·show d.length - (i + 1) < d.length - i
      omega
    ·have g6' : ¬ (4294967295 : Int) < n * 8 + digitV (byteAt (B d) (i : Int)) := oF9 g6
     rw [dF9 (show ¬ (4294967295 : Int) < n * 8 + digitV (bi (d.getD i 0)) from g6'), Bool.or_false] at hgo
     repeat ((conv => whnf); refine ⟨by (unfold inI64; omega), ?_⟩)
     conv => whnf
     refine hI9 (i + 1, n * 8 + digitV (byteAt (B d) (i : Int)), big) ?_ rfl ?_ ?_
     ·repeat first|exact lN9|refine lD9 ?_|refine lS9 ?_
     ·exact ⟨hlt, by omega, by omega, hgo⟩
     ·show d.length - (i + 1) < d.length - i
      omega
   ·have hge : d.length ≤ i := by have : ¬ (i : Int) < (B d).size := oF9 g3
                                  omega
    rw [numGo, List.drop_eq_nil_of_le hge] at hgo
    simp only [compLgo] at hgo
    conv => whnf
    refine cI9 ?_ ?_<;>intro g7
    ·have g7' : big = true := g7
     subst g7'
     rw [if_pos (by simp)] at hgo
     conv => whnf
     refine eT9 ?_
     show _ = numSV (numR l)
     rw [← hgo]
     rfl
    ·have g7' : big = false := g7
     subst g7'
     rw [if_neg (by simp only [Bool.false_eq_true, if_false]; omega)] at hgo
     conv => whnf
     refine eT9 ?_
     show _ = numSV (numR l)
     rw [← hgo]
     rfl
 ·have hN : numR l = compL l 10 := by
   refine numR_one l fun hh => ?_
   obtain ⟨h1, h2⟩ := hh
   rw [dT9 (by omega : (1 : Int) < ((B l).size : Nat)), Bool.true_and] at g0
   refine oF9 g0 ?_
   cases l with
   | nil => cases h2
   | cons a r =>
    have : a = 48 := by simpa using h2
    rw [this]
    rfl
  conv => whnf
  refine cI9 ?_ ?_<;>intro g1
  ·have g1' : l = [] := by
    have : ((B l).size : Int) = 0 := oT9 g1
    rw [B_size] at this
    exact List.length_eq_zero_iff.1 (by omega)
   have hZ : numR l = (0, 6) := by rw [hN, g1']; rfl
   rw [hZ]
   conv => whnf
   exact eR9
  have g1' : ¬ l = [] := fun h => by
   have : ¬ ((B l).size : Int) = 0 := oF9 g1
   rw [h] at this
   exact this rfl
  have hG : numGo l 10 0 0 false = numR l := by
   rw [hN]
   unfold numGo compL
   rw [if_neg g1']
   rfl
  have hsD : (B l).size = l.length := rfl
  conv => whnf
  refine lI9 (σ := Nat × Int × Bool) (fun ⟨i, n, big⟩ => [(0, XV.s (SV.str (B l))), (2, nX9), (3, nX9), (4, XV.s (.int .i64 10)), (5, XV.s (SV.str (B l))), (6, XV.s (.int .i64 n)), (7, XV.s (.bool big)), (8, XV.s (.int .i64 i)), (9, nX9), (18, nX9), (23, nX9), (28, nX9), (32, nX9), (41, nX9), (48, nX9), (49, nX9)]) (fun _ => [])
   (fun ⟨i, n, big⟩ => i ≤ l.length ∧ 0 ≤ n ∧ n ≤ 4294967295 ∧ numGo l 10 i n big = numR l) (fun ⟨i, _, _⟩ => l.length - i) (0, 0, false) ?_ rfl ?_ fun ⟨i, n, big⟩ hI => ?_
  ·repeat first|exact lN9|refine lD9 ?_|refine lS9 ?_
  ·exact ⟨nZ9 _, Int.le_refl _, by omega, hG⟩
  obtain ⟨hi, hn0, hn1, hgo⟩ := hI
  conv => whnf
  refine cI9 ?_ ?_<;>intro g3
  ·have hlt : i < l.length := by have : (i : Int) < (B l).size := oT9 g3
                                 omega
   have hb : byteAt (B l) (i : Int) = bi (l.getD i 0) := rfl
   have hdr := digitV_range (byteAt (B l) (i : Int))
   have hge := rdig_ge (b := 10) (c := byteAt (B l) (i : Int)) (by decide)
   rw [numGo, drop_get hlt] at hgo
   repeat ((conv => whnf); refine ⟨by omega, ?_⟩)
   conv => whnf
   refine cI9 ?_ ?_<;>intro g4
   ·have g4' : (10 : Int) ≤ digitV (byteAt (B l) (i : Int)) := oT9 (hge.symm.trans g4)
    simp only [compLgo] at hgo
    rw [if_pos (show (10 : Int) ≤ digitV (bi (l.getD i 0)) from g4')] at hgo
    conv => whnf
    refine eT9 ?_
    show _ = numSV (numR l)
    rw [← hgo]
    rfl
   have g4' : ¬ (10 : Int) ≤ digitV (byteAt (B l) (i : Int)) := oF9 (hge.symm.trans g4)
   have g5 : rdigV (byteAt (B l) (i : Int)) = digitV (byteAt (B l) (i : Int)) := rdig_eq (by omega)
   have hstep := comp_big 10 (by decide) (l.getD i 0) (l.drop (i + 1)) n big g4'
   rw [hstep] at hgo
   repeat ((conv => whnf); refine ⟨by (unfold inI64; omega), ?_⟩)
   conv => whnf
   rw [g5]
   refine cI9 ?_ ?_<;>intro g6
   ·have g6' : (4294967295 : Int) < n * 10 + digitV (byteAt (B l) (i : Int)) := oT9 g6
    rw [dT9 (show (4294967295 : Int) < n * 10 + digitV (bi (l.getD i 0)) from g6'), Bool.or_true, if_pos rfl] at hgo
    repeat ((conv => whnf); refine ⟨by (unfold inI64; omega), ?_⟩)
    conv => whnf
    refine hI9 (i + 1, 0, true) ?_ rfl ?_ ?_
    ·repeat first|exact lN9|refine lD9 ?_|refine lS9 ?_
    ·exact ⟨hlt, Int.le_refl _, by omega, hgo⟩
    ·show l.length - (i + 1) < l.length - i
     omega
   ·have g6' : ¬ (4294967295 : Int) < n * 10 + digitV (byteAt (B l) (i : Int)) := oF9 g6
    rw [dF9 (show ¬ (4294967295 : Int) < n * 10 + digitV (bi (l.getD i 0)) from g6'), Bool.or_false] at hgo
    repeat ((conv => whnf); refine ⟨by (unfold inI64; omega), ?_⟩)
    conv => whnf
    refine hI9 (i + 1, n * 10 + digitV (byteAt (B l) (i : Int)), big) ?_ rfl ?_ ?_
    ·repeat first|exact lN9|refine lD9 ?_|refine lS9 ?_
    ·exact ⟨hlt, by omega, by omega, hgo⟩
    ·show l.length - (i + 1) < l.length - i
     omega
  ·have hge : l.length ≤ i := by have : ¬ (i : Int) < (B l).size := oF9 g3
                                 omega
   rw [numGo, List.drop_eq_nil_of_le hge] at hgo
   simp only [compLgo] at hgo
   conv => whnf
   refine cI9 ?_ ?_<;>intro g7
   ·have g7' : big = true := g7
    subst g7'
    rw [if_pos (by simp)] at hgo
    conv => whnf
    refine eT9 ?_
    show _ = numSV (numR l)
    rw [← hgo]
    rfl
   ·have g7' : big = false := g7
    subst g7'
    rw [if_neg (by simp only [Bool.false_eq_true, if_false]; omega)] at hgo
    conv => whnf
    refine eT9 ?_
    show _ = numSV (numR l)
    rw [← hgo]
    rfl
end Go.Ab
namespace Go.Ab
open Go.Proofs
set_option linter.unusedSectionVars false
variable [Glob]
theorem skipA_blank' (a : UInt8) (l : List UInt8) (p : Int × Int) (h : spaceB (bi a) = true) : skipA (a :: l) p = skipA l (stepP p a) := by
 rw [skipA_blanks a l p h, tw_cons_pos h, posL_cons]
 cases l with
 | nil => rfl
 | cons b r =>
  cases hb : spaceB (bi b) with
  | true => rw [skipA_blanks b r _ hb, dw_cons_pos hb]
  | false => rw [dw_cons_neg hb, tw_cons_neg hb]; rfl
theorem name_first : ∀ n : Fin 256, (firstB (n.val : Int) || decide ((n.val : Int) = 35)) = true → nameB (n.val : Int) = true := by decide +kernel
theorem digit_word : ∀ n : Fin 256, digitB (n.val : Int) = true → wordB (n.val : Int) = true := by decide +kernel
theorem tw_pos {p : Int → Bool} {a : UInt8} {l : List UInt8} (h : p (bi a) = true) : 0 < (tw p (a :: l)).length := by
 rw [tw_cons_pos h]; simp
theorem strL_pos : ∀ (k : Nat) (l : List UInt8) (out : List Int) (n : Nat), (strL k l out n).2.2 = 0 → n < (strL k l out n).2.1 ∧ (strL k l out n).1.kind = 3
 | 0, l, out, n, h => by simp [strL] at h
 | k + 1, [], out, n, h => by simp [strL] at h
 | k + 1, a :: r, out, n, h => by
  simp only [strL] at h ⊢
  split
  ·rename_i h1; rw [if_pos h1] at h; simp at h
  ·rename_i h1
   rw [if_neg h1] at h
   split
   ·exact ⟨nS9 n, rfl⟩
   ·rename_i h2
    rw [if_neg h2] at h
    split
    ·rename_i h3
     rw [if_pos h3] at h
     split
     ·rename_i h4
      rw [if_pos h4] at h
      have := strL_pos k _ _ _ h
      omega
     ·rename_i h4
      rw [if_neg h4] at h
      exact (h4 h).elim
    ·rename_i h3
     rw [if_neg h3] at h
     have := strL_pos k _ _ _ h
     omega
theorem cutC_pos (a : UInt8) (r : List UInt8) (h : (cutC a r).2.2 = 0) : 0 < (cutC a r).2.1 ∧ (cutC a r).1.kind ≠ 8 := by
 revert h
 unfold cutC
 split
 ·rename_i h1
  have hn : nameB (bi a) = true := by
   refine name_first ⟨a.toNat, a.toNat_lt⟩ ?_
   rw [← h1]
   congr 1
   exact byte_dec a 35
  have := tw_pos (l := r) hn
  intro _
  unfold nameLx
  split
  ·split
   ·rename_i h2 h3; rename_i h; unfold nameLx at h; rw [if_pos h2, if_pos h3] at h; simp at h
   ·exact ⟨Nat.succ_pos _, (by decide : (5 : Int) ≠ 8)⟩
  ·exact ⟨this, (by decide : (1 : Int) ≠ 8)⟩
 split
 ·rename_i h1
  have := tw_pos (l := r) (p := wordB) (digit_word ⟨a.toNat, a.toNat_lt⟩ h1)
  intro h
  unfold numLx at h ⊢
  split
  ·exact ⟨this, (by decide : (2 : Int) ≠ 8)⟩
  ·rename_i h2; rw [if_neg h2] at h; exact (h2 h).elim
 split
 ·intro h
  have := strL_pos _ _ _ _ h
  exact ⟨by omega, fun h8 => by rw [this.2] at h8; exact absurd h8 (by decide)⟩
 split
 ·intro _; exact ⟨Nat.succ_pos _, (by decide : (6 : Int) ≠ 8)⟩
 split
 ·rename_i h1; intro _; exact ⟨h1, (by decide : (7 : Int) ≠ 8)⟩
 split
 ·rename_i h1; intro _; exact ⟨h1, (by decide : (4 : Int) ≠ 8)⟩
 ·intro h; simp at h
end Go.Ab
