/- Package token: numbers, names, words, signs. -/
import Derived.Test.YtkgcgbpclpmleaaGreatTR4
namespace Go.Ab
open Go.Proofs
set_option linter.unusedSectionVars false
set_option maxRecDepth 100000
variable [Base]
def prefB (s t : ByteArray) : Bool := decide ((t.size : Int) ≤ s.size) && decide (s.extract 0 t.size = t)
def trimP (s t : ByteArray) : ByteArray := if prefB s t then s.extract t.size s.size else s
def cutPre (s t : ByteArray) : SV := .tup [.c (.str (trimP s t)), .c (.bool (prefB s t))]
def T34 : Table := ext T33 125 (saysSS fun s t => (none, .bool (prefB s t)))
def T35 : Table := ext T34 106 (saysSS fun s t => (none, .bool (prefB s t)))
def T36 : Table := ext T35 143 (saysSS fun s t => (none, cutPre s t))
def T37 : Table := ext T36 131 (saysSS fun s t => (none, cutPre s t))
theorem t34 : TS9 T34 := by
 refine extSS t33 125 (fn := Tryz.f125) rfl rfl (by decide) _ [0, 1, 4] fun s t _ => ?_
 conv => whnf
 refine ⟨fun h => ?_, ?_⟩
 ·simp [lit] at h; omega
 conv => whnf
 exact eR9
theorem t35 : TS9 T35 := by
 refine extSS t34 106 (fn := Tryz.f106) rfl rfl (by decide) _ [0, 1, 4] fun s t _ => ?_
 conv => whnf
 exact eR9
theorem t36 : TS9 T36 := by
 refine extSS t35 143 (fn := Tryz.f143) rfl rfl (by decide) _ [0, 1, 4, 5, 9] fun s t _ => ?_
 conv => whnf
 refine cI9 ?_ ?_<;>intro h
 ·have h' : prefB s t = false := by simpa using h
  conv => whnf
  refine eT9 ?_
  simp only [cutPre, trimP, h', Bool.false_eq_true, if_false]
 ·have h' : prefB s t = true := by simpa using h
  have h2 : (t.size : Int) ≤ s.size := by simp [prefB] at h'; omega
  conv => whnf
  refine ⟨by omega, ?_⟩
  conv => whnf
  refine eT9 ?_
  simp only [cutPre, trimP, h', if_true]
  rfl
theorem t37 : TS9 T37 := by
 refine extSS t36 131 (fn := Tryz.f131) rfl rfl (by decide) _ [0, 1, 4, 5] fun s t _ => ?_
 conv => whnf
 exact eR9
def splitD (s : ByteArray) : ByteArray := if prefB s ⟨#[48, 120]⟩ then trimP s ⟨#[48, 120]⟩ else s
def splitB (s : ByteArray) : Int := if prefB s ⟨#[48, 120]⟩ then 16 else if byteAt s 0 = 48 then 8 else 10
def compGo (s : ByteArray) (b : Int) : Nat → Nat → Int → Int × Int
 | 0, _, v => if 4294967295 < v then (0, 2) else (v, 0)
 | k + 1, i, v => if b ≤ digitV (byteAt s i) then (0, 6) else compGo s b k (i + 1) (if 4294967296 < v * b + digitV (byteAt s i) then 4294967296 else v * b + digitV (byteAt s i))
def compV (s : ByteArray) (b : Int) : Int × Int := if s = ⟨#[]⟩ then (0, 6) else compGo s b s.size 0 0
def numV (s : ByteArray) : TokV × Int × Int :=
 if (compV (splitD (s.extract 0 (leadN wordB s))) (splitB (s.extract 0 (leadN wordB s)))).2 = 0 then
  ({ kind := 2, value := (compV (splitD (s.extract 0 (leadN wordB s))) (splitB (s.extract 0 (leadN wordB s)))).1 }, leadN wordB s, 0)
 else ({}, 0, (compV (splitD (s.extract 0 (leadN wordB s))) (splitB (s.extract 0 (leadN wordB s)))).2)
def nameV (s : ByteArray) : TokV × Int × Int :=
 if decide ((leadN nameB s : Int) = s.size) || !decide (byteAt s (leadN nameB s) = 58) then ({ kind := 1, text := s.extract 0 (leadN nameB s) }, leadN nameB s, 0)
 else if (leadN wordB s : Int) < leadN nameB s then ({}, 0, 6)
 else ({ kind := 5, text := s.extract 0 (leadN nameB s) }, leadN nameB s + 1, 0)
def wordV (s : ByteArray) : Int :=
 if !decide (byteAt s 0 = 47) then 0
 else if decide (1 + (leadN slashB (s.extract 1 s.size) : Int) = 1) || decide (1 + (leadN slashB (s.extract 1 s.size) : Int) = s.size) || !decide (byteAt s (1 + (leadN slashB (s.extract 1 s.size) : Int)) = 47) then 0
 else 1 + (leadN slashB (s.extract 1 s.size) : Int) + 1
def twoL : List ByteArray := [⟨#[60, 60]⟩, ⟨#[62, 62]⟩, ⟨#[60, 61]⟩, ⟨#[62, 61]⟩, ⟨#[61, 61]⟩, ⟨#[33, 61]⟩, ⟨#[38, 38]⟩, ⟨#[124, 124]⟩]
def oneS : ByteArray := ⟨#[123, 125, 40, 41, 60, 62, 91, 93, 59, 61, 44, 43, 45, 42, 47, 37, 38, 124, 94, 126, 33, 63, 58]⟩
def signV (s : ByteArray) : Int :=
 if decide (1 < (s.size : Int)) && twoL.any (fun t => decide (s.extract 0 2 = t)) then 2
 else if 0 ≤ idxB oneS (byteAt s 0) then 1 else 0
def numSV (x : Int × Int) : SV := .tup [.c (.int .i64 x.1), .c (.int .i64 x.2)]
def T38 : Table := ext T37 119 (saysS fun s => (some (0 < s.size), .tup [.c (.str (splitD s)), .c (.int .i64 (splitB s))]))
def T39 : Table := ext T38 120 (saysSI fun s b => (some (fits s ∧ 1 ≤ b ∧ b ≤ 16), numSV (compV s b)))
def T40 : Table := ext T39 100 (saysS fun s => (some (fits s ∧ 0 < leadN wordB s), cutSV (numV s)))
def T41 : Table := ext T40 98 (saysS fun s => (some (fits s), cutSV (nameV s)))
def T42 : Table := ext T41 104 (saysS fun s => (some (fits s ∧ 0 < s.size), .int .i64 (wordV s)))
def T43 : Table := ext T42 105 (saysS fun s => (some (fits s ∧ 0 < s.size), .int .i64 (signV s)))
theorem t38 : TS9 T38 := by
 refine extS t37 119 (fn := Tryz.f119) rfl rfl (by decide) _ [0, 2, 3, 4, 5, 6, 11, 15] fun s hs => ?_
 have hs' : 0 < s.size := hs
 conv => whnf
 refine cI9 ?_ ?_<;>intro h
 ·have h' : prefB s ⟨#[48, 120]⟩ = true := h
  conv => whnf
  refine eT9 ?_
  simp only [splitD, splitB, h', if_true]
 ·have h' : prefB s ⟨#[48, 120]⟩ = false := h
  conv => whnf
  refine ⟨by omega, ?_⟩
  conv => whnf
  refine cI9 ?_ ?_<;>intro h2
  ·have h2' : byteAt s 0 = 48 := by simpa using h2
   conv => whnf
   refine eT9 ?_
   simp only [splitD, splitB, h', h2', if_true, Bool.false_eq_true, if_false]
  ·have h2' : ¬ byteAt s 0 = 48 := by simpa using h2
   conv => whnf
   refine eT9 ?_
   simp only [splitD, splitB, h', if_neg h2', Bool.false_eq_true, if_false]
theorem t39 : TS9 T39 := by
 refine extSI t38 120 (fn := Tryz.f120) rfl rfl (by decide) _ [0, 1, 4, 5, 6, 7, 8, 10, 12, 13, 14, 22, 31] fun s b hs => ?_
 obtain ⟨hs', hb1, hb2⟩ : s.size ≤ 1000000000 ∧ 1 ≤ b ∧ b ≤ 16 := hs
 conv => whnf
 refine cI9 ?_ ?_<;>intro h
 ·have h' : s = ⟨#[]⟩ := by simpa using h
  conv => whnf
  refine eT9 ?_
  simp only [compV, if_pos h']
  rfl
 have h' : ¬ s = ⟨#[]⟩ := by simpa using h
 conv => whnf
 refine lI9 (σ := Nat × Int) (fun ⟨i, v⟩ => [(0, XV.s (SV.str s)), (1, XV.s (.int .i64 b)), (4, XV.s (.int .i64 0)), (5, XV.s (.int .i64 0)), (6, XV.s (.int .i64 v)), (7, nX9), (8, nX9), (10, nX9), (12, XV.s (.int .i64 s.size)), (13, XV.s (.int .i64 i)), (14, nX9), (22, nX9), (31, nX9)]) (fun _ => [])
  (fun ⟨i, v⟩ => i ≤ s.size ∧ 0 ≤ v ∧ v ≤ 4294967296 ∧ compGo s b (s.size - i) i v = compV s b) (fun ⟨i, _⟩ => s.size - i) (0, 0) ?_ rfl ?_ fun ⟨i, v⟩ hI => ?_
 ·repeat first|exact lN9|refine lD9 ?_|refine lS9 ?_
 ·exact ⟨by omega, by omega, by omega, by simp only [compV, if_neg h']; rfl⟩
 obtain ⟨hi, hv0, hv1, hgo⟩ := hI
 have hd := digitV_range (byteAt s i)
 have hm1 : 0 ≤ v * b := Int.mul_nonneg hv0 (by omega)
 have hm2 : v * b ≤ 4294967296 * 16 := Int.mul_le_mul hv1 hb2 (by omega) (by omega)
 conv => whnf
 refine cI9 ?_ ?_<;>intro h
 ·have h2 : i < s.size := by simpa using h
  rw [show s.size - i = (s.size - (i + 1)) + 1 from by omega] at hgo
  simp only [compGo] at hgo
  conv => whnf
  refine ⟨by omega, ?_⟩
  conv => whnf
  refine cI9 ?_ ?_<;>intro h3
  ·have h3' : b ≤ digitV (byteAt s i) := by simpa using h3
   rw [if_pos h3'] at hgo
   conv => whnf
   refine eT9 ?_
   show _ = numSV (compV s b)
   rw [← hgo]
   rfl
  ·have h3' : ¬ b ≤ digitV (byteAt s i) := by simpa using h3
   rw [if_neg h3'] at hgo
   conv => whnf
   refine ⟨by unfold inI64; omega, ?_⟩
   conv => whnf
   refine ⟨by unfold inI64; omega, ?_⟩
   conv => whnf
   refine ⟨by unfold inI64; omega, ?_⟩
   conv => whnf
   refine hI9 (i + 1, if 4294967296 < v * b + digitV (byteAt s i) then 4294967296 else v * b + digitV (byteAt s i)) ?_ rfl ?_ ?_
   ·repeat first|exact lN9|refine lD9 ?_|refine lS9 ?_
   ·exact ⟨h2, by split <;> omega, by split <;> omega, hgo⟩
   ·show s.size - (i + 1) < s.size - i
    omega
 ·have h2 : i = s.size := by have : ¬ i < s.size := by simpa using h
                             omega
  subst h2
  rw [Nat.sub_self] at hgo
  simp only [compGo] at hgo
  conv => whnf
  refine cI9 ?_ ?_<;>intro h3
  ·have h3' : 4294967295 < v := by simpa using h3
   rw [if_pos h3'] at hgo
   conv => whnf
   refine eT9 ?_
   show _ = numSV (compV s b)
   rw [← hgo]
   rfl
  ·have h3' : ¬ 4294967295 < v := by simpa using h3
   rw [if_neg h3'] at hgo
   conv => whnf
   refine eT9 ?_
   show _ = numSV (compV s b)
   rw [← hgo]
   rfl
theorem splitB_range (s : ByteArray) : 1 ≤ splitB s ∧ splitB s ≤ 16 := by
 unfold splitB
 split
 ·omega
 ·split <;> omega
theorem extract_size_le (s : ByteArray) (a b : Nat) : (s.extract a b).size ≤ s.size := by
 rw [ByteArray.size_extract]; omega
theorem trimP_le (s t : ByteArray) : (trimP s t).size ≤ s.size := by
 unfold trimP
 split
 ·exact extract_size_le _ _ _
 ·exact nR9 _
theorem splitD_le (s : ByteArray) : (splitD s).size ≤ s.size := by
 unfold splitD
 split
 ·exact trimP_le _ _
 ·exact nR9 _
theorem t40 : TS9 T40 := by
 refine extS t39 100 (fn := Tryz.f100) rfl rfl (by decide) _ [0, 2, 3, 4, 5, 6, 7, 8, 9, 26] fun s hs => ?_
 obtain ⟨hs', hl⟩ : s.size ≤ 1000000000 ∧ 0 < leadN wordB s := hs
 have hle := leadN_le wordB s
 have hsz : (s.extract 0 (leadN wordB s)).size = leadN wordB s := by rw [ByteArray.size_extract]; omega
 conv => whnf
 refine ⟨hs', ?_⟩
 conv => whnf
 refine ⟨by omega, ?_⟩
 conv => whnf
 refine ⟨?_, ?_⟩
 ·show 0 < (s.extract 0 (leadN wordB s)).size
  omega
 conv => whnf
 refine ⟨⟨?_, splitB_range _⟩, ?_⟩
 ·have := splitD_le (s.extract 0 (leadN wordB s))
  show (splitD (s.extract 0 (leadN wordB s))).size ≤ 1000000000
  omega
 conv => whnf
 refine cI9 ?_ ?_<;>intro h3
 ·have h3' : ¬ (compV (splitD (s.extract 0 (leadN wordB s))) (splitB (s.extract 0 (leadN wordB s)))).2 = 0 := by simpa using h3
  conv => whnf
  refine eT9 ?_
  simp only [numV, if_neg h3']
  rfl
 ·have h3' : (compV (splitD (s.extract 0 (leadN wordB s))) (splitB (s.extract 0 (leadN wordB s)))).2 = 0 := by simpa using h3
  conv => whnf
  refine eT9 ?_
  simp only [numV, if_pos h3']
  rfl
theorem t41 : TS9 T41 := by
 refine extS t40 98 (fn := Tryz.f98) rfl rfl (by decide) _ [0, 2, 3, 4, 5, 17, 26] fun s hs => ?_
 have hs' : s.size ≤ 1000000000 := hs
 have hle := leadN_le nameB s
 conv => whnf
 refine ⟨hs', ?_⟩
 conv => whnf
 refine ⟨fun h => ?_, ?_⟩
 ·simp [lit] at h; omega
 conv => whnf
 refine cI9 ?_ ?_<;>intro h
 ·conv => whnf
  refine ⟨by omega, ?_⟩
  conv => whnf
  refine eT9 ?_
  simp only [nameV]
  rw [if_pos h]
  rfl
 conv => whnf
 refine ⟨hs', ?_⟩
 conv => whnf
 refine cI9 ?_ ?_<;>intro h2
 ·have h2' : (leadN wordB s : Int) < leadN nameB s := by simpa using h2
  conv => whnf
  refine eT9 ?_
  simp only [nameV]
  rw [if_neg (by rw [h]; decide), if_pos h2']
  rfl
 ·have h2' : ¬ (leadN wordB s : Int) < leadN nameB s := by simpa using h2
  conv => whnf
  refine ⟨by omega, ?_⟩
  conv => whnf
  refine ⟨by unfold inI64; omega, ?_⟩
  conv => whnf
  refine eT9 ?_
  simp only [nameV]
  rw [if_neg (by rw [h]; decide), if_neg h2']
  rfl
theorem t42 : TS9 T42 := by
 refine extS t41 104 (fn := Tryz.f104) rfl rfl (by decide) _ [0, 2, 3, 6, 24] fun s hs => ?_
 obtain ⟨hs', hl⟩ : s.size ≤ 1000000000 ∧ 0 < s.size := hs
 have hle := leadN_le slashB (s.extract 1 s.size)
 have hsz : (s.extract 1 s.size).size = s.size - 1 := by rw [ByteArray.size_extract]; omega
 conv => whnf
 refine ⟨by omega, ?_⟩
 conv => whnf
 refine cI9 ?_ ?_<;>intro h
 ·conv => whnf
  refine eT9 ?_
  simp only [wordV]
  rw [if_pos h]
 conv => whnf
 refine ⟨by omega, ?_⟩
 conv => whnf
 refine ⟨?_, ?_⟩
 ·show (s.extract 1 s.size).size ≤ 1000000000
  omega
 conv => whnf
 refine ⟨?_, ?_⟩
 ·have : (leadN slashB (s.extract (1 : Int).toNat (s.size : Int).toNat) : Int) = leadN slashB (s.extract 1 s.size) := rfl
  unfold inI64
  rw [this]
  omega
 conv => whnf
 have e : (leadN slashB (s.extract (1 : Int).toNat (s.size : Int).toNat) : Int) = leadN slashB (s.extract 1 s.size) := rfl
 refine ⟨fun h => ?_, ?_⟩
 ·rw [e] at h ⊢
  simp [lit] at h; omega
 conv => whnf
 refine cI9 ?_ ?_<;>intro h2 <;> rw [e] at h2
 ·conv => whnf
  refine eT9 ?_
  simp only [wordV]
  rw [if_neg (by rw [h]; decide), if_pos h2]
 ·conv => whnf
  refine ⟨by rw [e]; unfold inI64; omega, ?_⟩
  conv => whnf
  refine eT9 ?_
  simp only [wordV]
  rw [if_neg (by rw [h]; decide), if_neg (by rw [h2]; decide)]
  rfl
theorem signV_two {s : ByteArray} (h : 1 < (s.size : Int)) (t : ByteArray) (ht : t ∈ twoL) (he : s.extract 0 2 = t) : signV s = 2 := by
 unfold signV
 rw [if_pos]
 simp only [dT9 h, Bool.true_and, List.any_eq_true]
 exact ⟨t, ht, by simpa using he⟩
theorem signV_one {s : ByteArray} (h : ¬ 1 < (s.size : Int) ∨ ∀ t ∈ twoL, ¬ s.extract 0 2 = t) : signV s = if 0 ≤ idxB oneS (byteAt s 0) then 1 else 0 := by
 unfold signV
 rw [if_neg]
 rcases h with h | h
 ·simp only [dF9 h, Bool.false_and]
  decide
 ·rw [Bool.and_eq_true, List.any_eq_true]
  rintro ⟨_, t, ht, he⟩
  exact h t ht (by simpa using he)
theorem t43 : TS9 T43 := by
 refine extS t42 105 (fn := Tryz.f105) rfl rfl (by decide) _ [0, 2, 5, 7, 8, 20] fun s hs => ?_
 obtain ⟨hs', hl⟩ : s.size ≤ 1000000000 ∧ 0 < s.size := hs
 conv => whnf
 refine cI9 ?_ ?_<;>intro h
 ·have h' : 1 < (s.size : Int) := by simpa using h
  conv => whnf
  refine ⟨by omega, ?_⟩
  conv => whnf
  refine cI9 ?_ ?_<;>intro a0
  ·have a' : s.extract 0 2 = ⟨#[60, 60]⟩ := by simpa using a0
   conv => whnf
   refine eT9 ?_
   show _ = SV.int .i64 (signV s)
   rw [signV_two h' _ (by simp [twoL]) a']
  conv => whnf
  refine cI9 ?_ ?_<;>intro a1
  ·have a' : s.extract 0 2 = ⟨#[62, 62]⟩ := by simpa using a1
   conv => whnf
   refine eT9 ?_
   show _ = SV.int .i64 (signV s)
   rw [signV_two h' _ (by simp [twoL]) a']
  conv => whnf
  refine cI9 ?_ ?_<;>intro a2
  ·have a' : s.extract 0 2 = ⟨#[60, 61]⟩ := by simpa using a2
   conv => whnf
   refine eT9 ?_
   show _ = SV.int .i64 (signV s)
   rw [signV_two h' _ (by simp [twoL]) a']
  conv => whnf
  refine cI9 ?_ ?_<;>intro a3
  ·have a' : s.extract 0 2 = ⟨#[62, 61]⟩ := by simpa using a3
   conv => whnf
   refine eT9 ?_
   show _ = SV.int .i64 (signV s)
   rw [signV_two h' _ (by simp [twoL]) a']
  conv => whnf
  refine cI9 ?_ ?_<;>intro a4
  ·have a' : s.extract 0 2 = ⟨#[61, 61]⟩ := by simpa using a4
   conv => whnf
   refine eT9 ?_
   show _ = SV.int .i64 (signV s)
   rw [signV_two h' _ (by simp [twoL]) a']
  conv => whnf
  refine cI9 ?_ ?_<;>intro a5
  ·have a' : s.extract 0 2 = ⟨#[33, 61]⟩ := by simpa using a5
   conv => whnf
   refine eT9 ?_
   show _ = SV.int .i64 (signV s)
   rw [signV_two h' _ (by simp [twoL]) a']
  conv => whnf
  refine cI9 ?_ ?_<;>intro a6
  ·have a' : s.extract 0 2 = ⟨#[38, 38]⟩ := by simpa using a6
   conv => whnf
   refine eT9 ?_
   show _ = SV.int .i64 (signV s)
   rw [signV_two h' _ (by simp [twoL]) a']
  conv => whnf
  refine cI9 ?_ ?_<;>intro a7
  ·have a' : s.extract 0 2 = ⟨#[124, 124]⟩ := by simpa using a7
   conv => whnf
   refine eT9 ?_
   show _ = SV.int .i64 (signV s)
   rw [signV_two h' _ (by simp [twoL]) a']
  conv => whnf
  refine ⟨by omega, ?_⟩
  have e : signV s = if 0 ≤ idxB oneS (byteAt s 0) then 1 else 0 := signV_one (.inr fun t ht => by
   simp only [twoL, List.mem_cons, List.not_mem_nil, or_false] at ht
   rcases ht with rfl | rfl | rfl | rfl | rfl | rfl | rfl | rfl
   ·simpa using a0
   ·simpa using a1
   ·simpa using a2
   ·simpa using a3
   ·simpa using a4
   ·simpa using a5
   ·simpa using a6
   ·simpa using a7)
  conv => whnf
  refine cI9 ?_ ?_<;>intro h2
  ·have h2' : 0 ≤ idxB oneS (byteAt s 0) := oT9 h2
   conv => whnf
   refine eT9 ?_
   show _ = SV.int .i64 (signV s)
   rw [e, if_pos h2']
  ·have h2' : ¬ 0 ≤ idxB oneS (byteAt s 0) := oF9 h2
   conv => whnf
   refine eT9 ?_
   show _ = SV.int .i64 (signV s)
   rw [e, if_neg h2']
 ·have h' : ¬ 1 < (s.size : Int) := by simpa using h
  have e : signV s = if 0 ≤ idxB oneS (byteAt s 0) then 1 else 0 := signV_one (.inl h')
  conv => whnf
  refine ⟨by omega, ?_⟩
  conv => whnf
  refine cI9 ?_ ?_<;>intro h2
  ·have h2' : 0 ≤ idxB oneS (byteAt s 0) := oT9 h2
   conv => whnf
   refine eT9 ?_
   show _ = SV.int .i64 (signV s)
   rw [e, if_pos h2']
  ·have h2' : ¬ 0 ≤ idxB oneS (byteAt s 0) := oF9 h2
   conv => whnf
   refine eT9 ?_
   show _ = SV.int .i64 (signV s)
   rw [e, if_neg h2']
end Go.Ab
