/- Package token: numbers, strings, names, signs. -/
import Derived.Test.YtkgcgbpclpmleaaGreatTR1toR3
namespace Go.Ab
open Go.Proofs
set_option linter.unusedSectionVars false
set_option maxRecDepth 100000
variable [Base]
theorem wrap_u8 {n : Int} (h0 : 0 ≤ n) (h1 : n < 256) : IntKind.u8.wrap n = n := by
 simp only [IntKind.wrap, IntKind.bits, IntKind.signed, Bool.false_and]
 simp
 omega
def digitV (c : Int) : Int := if digitB c then c - 48 else if decide (97 ≤ c) && decide (c ≤ 102) then c - 97 + 10 else if decide (65 ≤ c) && decide (c ≤ 70) then c - 65 + 10 else 16
def endB (s : ByteArray) (i : Int) : Bool := decide ((s.size : Int) ≤ i) || decide (byteAt s i = 10)
theorem digitV_range (c : Int) : 0 ≤ digitV c ∧ digitV c ≤ 16 := by
 unfold digitV digitB
 split
 ·rename_i h; simp at h; omega
 ·split
  ·rename_i h; simp at h; omega
  ·split
   ·rename_i h; simp at h; omega
   ·omega
structure TokV where
 kind : Int := 0
 text : ByteArray := ⟨#[]⟩
 value : Int := 0
 file : Int := 0
 line : Int := 0
 column : Int := 0
def TokV.av (t : TokV) : AV := .agg [.int .i64 t.kind, .str t.text, .int .i64 t.value, .int .i64 t.file, .int .i64 t.line, .int .i64 t.column]
def escGo (s : ByteArray) : Nat → Nat → Int → Int × Int × Int
 | 0, _, v => (IntKind.u8.wrap v, 4, 0)
 | k + 1, i, v => if endB s (2 + i) then (0, 0, 21) else if digitV (byteAt s (2 + i)) = 16 then (0, 0, 6) else escGo s k (i + 1) (v * 16 + digitV (byteAt s (2 + i)))
def escNum (s : ByteArray) : Int × Int × Int := escGo s 2 0 0
def escV (s : ByteArray) : Int × Int × Int :=
 if endB s 1 then (0, 0, 21) else if byteAt s 1 = 110 then (10, 2, 0) else if byteAt s 1 = 116 then (9, 2, 0) else if byteAt s 1 = 34 then (byteAt s 1, 2, 0) else if byteAt s 1 = 92 then (byteAt s 1, 2, 0)
 else if byteAt s 1 = 120 then escNum s else (0, 0, 6)
def escSV (x : Int × Int × Int) : SV := .tup [.c (.int .u8 x.1), .c (.int .i64 x.2.1), .c (.int .i64 x.2.2)]
def T29 : Table := ext T28 132 (saysU fun c => (none, .int .i64 (digitV c)))
def T30 : Table := ext T29 121 (saysSI fun s i => (some (0 ≤ i), .bool (endB s i)))
def T31 : Table := ext T30 133 (saysS fun s => (none, escSV (escNum s)))
def T32 : Table := ext T31 122 (saysS fun s => (none, escSV (escV s)))
theorem t29 : TS9 T29 := by
 refine extU t28 132 (fn := Tryz.f132) rfl rfl (by decide) _ [0, 2, 3, 9, 20] fun c _ => ?_
 conv => whnf
 refine cI9 ?_ ?_<;>intro h
 ·have h' : 48 ≤ c ∧ c ≤ 57 := by simpa [digitB] using h
  have hw : IntKind.u8.wrap (c - 48) = c - 48 := wrap_u8 (by omega) (by omega)
  conv => whnf
  refine ⟨by unfold inI64; omega, ?_⟩
  conv => whnf
  refine eT9 ?_
  rw [hw]
  simp only [digitV, h, if_true]
 ·conv => whnf
  refine cI9 ?_ ?_<;>intro h2
  ·have h' : 97 ≤ c ∧ c ≤ 102 := by simpa using h2
   have hw : IntKind.u8.wrap (c - 97) = c - 97 := wrap_u8 (by omega) (by omega)
   conv => whnf
   refine ⟨by unfold inI64; omega, ?_⟩
   conv => whnf
   refine ⟨by unfold inI64; omega, ?_⟩
   conv => whnf
   refine eT9 ?_
   rw [hw]
   simp only [digitV, h, h2, if_true, Bool.false_eq_true, if_false]
  ·conv => whnf
   refine cI9 ?_ ?_<;>intro h3
   ·have h' : 65 ≤ c ∧ c ≤ 70 := by simpa using h3
    have hw : IntKind.u8.wrap (c - 65) = c - 65 := wrap_u8 (by omega) (by omega)
    conv => whnf
    refine ⟨by unfold inI64; omega, ?_⟩
    conv => whnf
    refine ⟨by unfold inI64; omega, ?_⟩
    conv => whnf
    refine eT9 ?_
    rw [hw]
    simp only [digitV, h, h2, h3, if_true, Bool.false_eq_true, if_false]
   ·conv => whnf
    refine eT9 ?_
    simp only [digitV, h, h2, h3, Bool.false_eq_true, if_false]
theorem t30 : TS9 T30 := by
 refine extSI t29 121 (fn := Tryz.f121) rfl rfl (by decide) _ [0, 1, 4] fun s i hi => ?_
 have hi' : 0 ≤ i := hi
 conv => whnf
 refine ⟨fun h => ?_, ?_⟩
 ·simp [lit] at h; omega
 conv => whnf
 exact eR9
theorem end_lt {s : ByteArray} {i : Int} (h : endB s i = false) : i < s.size ∧ byteAt s i ≠ 10 := by
 unfold endB at h; simp at h; omega
theorem t31 : TS9 T31 := by
 refine extS t30 133 (fn := Tryz.f133) rfl rfl (by decide) _ [0, 2, 3, 4, 5, 6, 7, 8, 9, 14, 21] fun s hs => ?_
 conv => whnf
 refine lI9 (σ := Nat × Int) (fun ⟨i, v⟩ => [(0, XV.s (SV.str s)), (2, XV.s (.int .u8 0)), (3, XV.s (.int .i64 0)), (4, XV.s (.int .i64 0)), (5, XV.s (.int .i64 v)), (6, nX9), (7, nX9), (8, XV.s (.int .i64 i)), (9, nX9), (14, nX9), (21, nX9)]) (fun _ => [])
  (fun ⟨i, v⟩ => i ≤ 2 ∧ 0 ≤ v ∧ ((i ≤ 1 → v ≤ 16 * i) ∧ v ≤ 1000) ∧ escGo s (2 - i) i v = escNum s) (fun ⟨i, _⟩ => 2 - i) (0, 0) ?_ rfl ?_ fun ⟨i, v⟩ hI => ?_
 ·repeat first|exact lN9|refine lD9 ?_|refine lS9 ?_
 ·exact ⟨by omega, by omega, ⟨fun _ => by omega, by omega⟩, rfl⟩
 obtain ⟨hi, hv0, ⟨hv1, hv3⟩, hgo⟩ := hI
 have hd := digitV_range (byteAt s (2 + i))
 conv => whnf
 refine cI9 ?_ ?_<;>intro h
 ·have h' : i < 2 := by have : (i : Int) < 2 := by simpa using h
                        omega
  have hk : 2 - i = (1 - i) + 1 := by omega
  rw [hk] at hgo
  simp only [escGo] at hgo
  have hv2 : v ≤ 16 := by
   have := hv1 (by omega)
   omega
  conv => whnf
  refine ⟨by unfold inI64; omega, ?_⟩
  conv => whnf
  refine ⟨by omega, ?_⟩
  conv => whnf
  refine cI9 ?_ ?_<;>intro h2
  ·have h2' : endB s (2 + i) = true := h2
   conv => whnf
   refine eT9 ?_
   rw [if_pos h2'] at hgo
   rw [← hgo]
   rfl
  ·have h2' : endB s (2 + i) = false := h2
   have := end_lt h2'
   rw [if_neg (by rw [h2']; decide)] at hgo
   conv => whnf
   refine ⟨by unfold inI64; omega, ?_⟩
   conv => whnf
   refine ⟨by omega, ?_⟩
   conv => whnf
   refine cI9 ?_ ?_<;>intro h3
   ·have h3' : digitV (byteAt s (2 + i)) = 16 := by simpa using h3
    conv => whnf
    refine eT9 ?_
    rw [if_pos h3'] at hgo
    rw [← hgo]
    rfl
   ·have h3' : ¬ digitV (byteAt s (2 + i)) = 16 := by simpa using h3
    rw [if_neg h3'] at hgo
    conv => whnf
    refine ⟨by unfold inI64; omega, ?_⟩
    conv => whnf
    refine ⟨by unfold inI64; omega, ?_⟩
    conv => whnf
    refine ⟨by unfold inI64; omega, ?_⟩
    conv => whnf
    refine hI9 (i + 1, v * 16 + digitV (byteAt s (2 + i))) ?_ rfl ?_ ?_
    ·repeat first|exact lN9|refine lD9 ?_|refine lS9 ?_
    ·refine ⟨by omega, by omega, ⟨fun h => ?_, by omega⟩, ?_⟩
     ·have := hv1 (by omega)
      have h0 : i = 0 := by omega
      subst h0
      omega
     ·rw [← hgo, show 2 - (i + 1) = 1 - i from by omega]
    ·show 2 - (i + 1) < 2 - i
     omega
 ·have h' : i = 2 := by have : ¬ (i : Int) < 2 := by simpa using h
                        omega
  subst h'
  conv => whnf
  refine eT9 ?_
  show _ = escSV (escNum s)
  rw [← hgo]
  rfl
theorem t32 : TS9 T32 := by
 refine extS t31 122 (fn := Tryz.f122) rfl rfl (by decide) _ [0, 2, 3, 4, 5, 7, 10, 11, 13, 15, 19] fun s hs => ?_
 conv => whnf
 refine ⟨by omega, ?_⟩
 conv => whnf
 refine cI9 ?_ ?_<;>intro h
 ·have h' : endB s 1 = true := h
  conv => whnf
  refine eT9 ?_
  simp only [escV, h', if_true]
  rfl
 have h' : endB s 1 = false := h
 have := end_lt h'
 conv => whnf
 refine ⟨by omega, ?_⟩
 conv => whnf
 refine cI9 ?_ ?_<;>intro h1
 ·have h1' : byteAt s 1 = 110 := by simpa using h1
  conv => whnf
  refine eT9 ?_
  simp only [escV, h', h1', if_true, Bool.false_eq_true, if_false]
  rfl
 have h1' : ¬ byteAt s 1 = 110 := by simpa using h1
 conv => whnf
 refine cI9 ?_ ?_<;>intro h2
 ·have h2' : byteAt s 1 = 116 := by simpa using h2
  conv => whnf
  refine eT9 ?_
  simp only [escV, h', if_neg h1', if_pos h2', Bool.false_eq_true, if_false]
  rfl
 have h2' : ¬ byteAt s 1 = 116 := by simpa using h2
 conv => whnf
 refine cI9 ?_ ?_<;>intro h3
 ·have h3' : byteAt s 1 = 34 := by simpa using h3
  conv => whnf
  refine eT9 ?_
  simp only [escV, h', if_neg h1', if_neg h2', if_pos h3', Bool.false_eq_true, if_false]
  rfl
 have h3' : ¬ byteAt s 1 = 34 := by simpa using h3
 conv => whnf
 refine cI9 ?_ ?_<;>intro h4
 ·have h4' : byteAt s 1 = 92 := by simpa using h4
  conv => whnf
  refine eT9 ?_
  simp only [escV, h', if_neg h1', if_neg h2', if_neg h3', if_pos h4', Bool.false_eq_true, if_false]
  rfl
 have h4' : ¬ byteAt s 1 = 92 := by simpa using h4
 conv => whnf
 refine cI9 ?_ ?_<;>intro h5
 ·have h5' : byteAt s 1 = 120 := by simpa using h5
  conv => whnf
  refine eT9 ?_
  simp only [escV, h', if_neg h1', if_neg h2', if_neg h3', if_neg h4', if_pos h5', Bool.false_eq_true, if_false]
  rfl
 have h5' : ¬ byteAt s 1 = 120 := by simpa using h5
 conv => whnf
 refine eT9 ?_
 simp only [escV, h', if_neg h1', if_neg h2', if_neg h3', if_neg h4', if_neg h5', Bool.false_eq_true, if_false]
 rfl
def strGo (s : ByteArray) : Nat → Int → List Int → TokV × Int × Int
 | 0, _, _ => ({}, 0, 21)
 | k + 1, at', out =>
  if endB s at' then ({}, 0, 21)
  else if byteAt s at' = 34 then ({ kind := 3, text := bytesOf out }, at' + 1, 0)
  else if byteAt s at' = 92 then
   if (escV (s.extract at'.toNat s.size)).2.2 = 0 then strGo s k (at' + (escV (s.extract at'.toNat s.size)).2.1) (out ++ [(escV (s.extract at'.toNat s.size)).1])
   else ({}, 0, (escV (s.extract at'.toNat s.size)).2.2)
  else strGo s k (at' + 1) (out ++ [byteAt s at'])
def cutStr (s : ByteArray) : TokV × Int × Int := strGo s s.size 1 []
def cutSV (x : TokV × Int × Int) : SV := .tup [x.1.av, .c (.int .i64 x.2.1), .c (.int .i64 x.2.2)]
def T33 : Table := ext T32 101 (saysS fun s => (some (fits s), cutSV (cutStr s)))
theorem escNum_n (s : ByteArray) : (escNum s).2.2 = 0 → (escNum s).2.1 = 4 := by
 unfold escNum escGo
 repeat' split
 all_goals simp [escGo]
 repeat' split
 all_goals simp
theorem escV_n (s : ByteArray) (h : (escV s).2.2 = 0) : (escV s).2.1 = 2 ∨ (escV s).2.1 = 4 := by
 revert h
 unfold escV
 repeat' split
 all_goals first | (intro h; exact .inr (escNum_n s h)) | simp
theorem t33 : TS9 T33 := by
 refine extS t32 101 (fn := Tryz.f101) rfl rfl (by decide) _ [0, 2, 3, 4, 5, 6, 7, 8, 9, 13, 16, 25, 32, 34, 43] fun s hs => ?_
 have hs' : s.size ≤ 1000000000 := hs
 conv => whnf
 refine loop_weak (σ := Int × List Int × Nat) (fun ⟨i, zs, _⟩ => [(0, XV.s (SV.str s)), (2, XV.s (.a (.c (.ptr 0 0)))), (3, XV.s (.int .i64 0)), (4, XV.s (.int .i64 0)), (5, XV.s (.a (.c (.own 1 (.int .u8) zs)))), (6, XV.s (.int .i64 i)), (7, nX9), (8, nX9), (9, nX9), (13, nX9), (16, nX9), (25, nX9), (32, nX9), (34, nX9), (43, nX9)])
  (fun ⟨_, zs, _⟩ => [.row [.int .i64 0, .str ⟨#[]⟩, .int .i64 0, .int .i64 0, .int .i64 0, .int .i64 0], .tok 5 (.int .u8) zs.length true])
  (fun ⟨i, zs, k⟩ => 1 ≤ i ∧ i ≤ s.size + 4 ∧ zs.length < i ∧ s.size ≤ i + k ∧ strGo s k i zs = cutStr s) (fun ⟨i, _, _⟩ => (s.size + 10 - i).toNat) (1, [], s.size) ?_ ?_ fun ⟨i, zs, k⟩ hI => ?_
 ·refine Weak.own 5 ?_
  repeat first|exact wN9|refine wD9 ?_|refine wS9 ?_|refine wO9 ?_
 ·exact ⟨by omega, by omega, by simp, by omega, rfl⟩
 obtain ⟨hi, hi2, hz, hk, hgo⟩ := hI
 conv => whnf
 refine ⟨by omega, ?_⟩
 conv => whnf
 refine cI9 ?_ ?_<;>intro h
 ·have h' : endB s i = false := by simpa using h
  have hlt := end_lt h'
  obtain ⟨k', rfl⟩ : ∃ k', k = k' + 1 := ⟨k - 1, by omega⟩
  simp only [strGo] at hgo
  rw [if_neg (by rw [h']; decide)] at hgo
  conv => whnf
  refine ⟨by omega, ?_⟩
  conv => whnf
  refine cI9 ?_ ?_<;>intro h2
  ·have h2' : byteAt s i = 34 := by simpa using h2
   rw [if_pos h2'] at hgo
   conv => whnf
   refine ⟨by unfold inI64; omega, ?_⟩
   conv => whnf
   refine eT9 ?_
   show _ = cutSV (cutStr s)
   rw [← hgo]
   rfl
  have h2' : ¬ byteAt s i = 34 := by simpa using h2
  rw [if_neg h2'] at hgo
  conv => whnf
  refine cI9 ?_ ?_<;>intro h3
  ·have h3' : byteAt s i = 92 := by simpa using h3
   rw [if_pos h3'] at hgo
   conv => whnf
   refine ⟨by omega, ?_⟩
   conv => whnf
   refine cI9 ?_ ?_<;>intro h4
   ·have h4' : ¬ (escV (s.extract i.toNat s.size)).2.2 = 0 := by simpa using h4
    rw [if_neg h4'] at hgo
    conv => whnf
    refine eT9 ?_
    show _ = cutSV (cutStr s)
    rw [← hgo]
    rfl
   ·have h4' : (escV (s.extract i.toNat s.size)).2.2 = 0 := by simpa using h4
    rw [if_pos h4'] at hgo
    have hn := escV_n _ h4'
    conv => whnf
    refine ⟨rfl, (by show zs.length + 1 ≤ 1000000000000; omega), ?_⟩
    conv => whnf
    have e : ((s.size : Int)).toNat = s.size := rfl
    refine ⟨by rw [e]; unfold inI64; omega, ?_⟩
    conv => whnf
    refine kI9 (i + (escV (s.extract i.toNat s.size)).2.1, zs ++ [(escV (s.extract i.toNat s.size)).1], k') [0, 1] rfl (fun k hk => ?_) ?_ ?_ ?_ ?_
    ·have hk' : k < 1 := hk
     have : k = 0 := by omega
     subst this; rfl
    ·show _ = some [AO.row _, AO.tok 5 (.int .u8) (zs ++ [(escV (s.extract i.toNat s.size)).1]).length true]
     rw [zP9]
     rfl
    ·repeat first|exact kN9|refine kD9 ?_|refine kR9 rfl ?_
    ·refine ⟨by omega, by omega, ?_, by omega, hgo⟩
     rw [zP9]
     simp only [zC9, zN9]
     omega
    ·show (_ : Int).toNat < (_ : Int).toNat
     omega
  ·have h3' : ¬ byteAt s i = 92 := by simpa using h3
   rw [if_neg h3'] at hgo
   conv => whnf
   refine ⟨by omega, ?_⟩
   conv => whnf
   refine ⟨rfl, (by show zs.length + 1 ≤ 1000000000000; omega), ?_⟩
   conv => whnf
   refine ⟨by unfold inI64; omega, ?_⟩
   conv => whnf
   refine kI9 (i + 1, zs ++ [byteAt s i], k') [0, 1] rfl (fun k hk => ?_) ?_ ?_ ?_ ?_
   ·have hk' : k < 1 := hk
    have : k = 0 := by omega
    subst this; rfl
   ·show _ = some [AO.row _, AO.tok 5 (.int .u8) (zs ++ [byteAt s i]).length true]
    rw [zP9]
    rfl
   ·repeat first|exact kN9|refine kD9 ?_|refine kR9 rfl ?_
   ·refine ⟨by omega, by omega, ?_, by omega, hgo⟩
    rw [zP9]
    simp only [zC9, zN9]
    omega
   ·show (_ : Int).toNat < (_ : Int).toNat
    omega
 ·have h' : endB s i = true := by simpa using h
  conv => whnf
  refine eT9 ?_
  show _ = cutSV (cutStr s)
  rw [← hgo]
  cases k with
  | zero => rfl
  | succ k => simp only [strGo, if_pos h']; rfl
end Go.Ab
