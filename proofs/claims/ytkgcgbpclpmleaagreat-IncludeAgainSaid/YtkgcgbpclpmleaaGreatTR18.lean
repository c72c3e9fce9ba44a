/- The reference of package token: characters, runs, escapes, texts, words. -/
import Derived.Test.YtkgcgbpclpmleaaGreatTY2toR16
namespace Go.Ab
open Go.Proofs
set_option linter.unusedSectionVars false
set_option maxRecDepth 100000
variable [Glob]
def rdigV (c : Int) : Int := if digitB c then c - 48 else if decide (97 ≤ c) && decide (c ≤ 102) then c - 97 + 10 else if decide (65 ≤ c) && decide (c ≤ 70) then c - 65 + 10 else 99
theorem rdigV_eq (c : Int) : rdigV c = if digitV c = 16 then 99 else digitV c := by
 unfold rdigV digitV
 split
 ·rename_i h
  simp [digitB] at h
  rw [if_neg (by omega)]
 ·split
  ·rename_i h
   simp at h
   rw [if_neg (by omega)]
  ·split
   ·rename_i h
    simp at h
    rw [if_neg (by omega)]
   ·rfl
def runP (b : Bool) : Int → Bool := match b with | true => nameB | false => wordB
def runV (s : ByteArray) (i : Int) (b : Bool) : Int := ((tw (runP b) (s.data.toList.drop i.toNat)).length : Int)
def T60 : Table := ext T57 67 (saysU fun c => (none, .int .i64 (rdigV c)))
def T61 : Table := ext T60 46 (saysSIB fun s i b => (some (fits s ∧ 0 ≤ i ∧ i ≤ 1000000000), .int .i64 (runV s i b)))
theorem t60 : TS9 T60 := by
 refine extU t57 67 (fn := Tryz.f67) rfl rfl (by decide) _ [0, 2, 3, 13, 24] fun c _ => ?_
 conv => whnf
 refine cI9 ?_ ?_<;>intro h
 ·have h' : 48 ≤ c ∧ c ≤ 57 := by simpa [digitB] using h
  have hd : digitB c = true := h
  have hw : IntKind.u8.wrap (c - 48) = c - 48 := wrap_u8 (by omega) (by omega)
  conv => whnf
  refine ⟨by unfold inI64; omega, ?_⟩
  conv => whnf
  refine eT9 ?_
  rw [hw]
  simp only [rdigV, hd, if_true]
 ·have hd : digitB c = false := h
  conv => whnf
  refine cI9 ?_ ?_<;>intro h2
  ·have h' : 97 ≤ c ∧ c ≤ 102 := by simpa using h2
   have hw : IntKind.u8.wrap (c - 97) = c - 97 := wrap_u8 (by omega) (by omega)
   conv => whnf
   refine ⟨by unfold inI64; omega, ?_⟩
   conv => whnf
   refine ⟨by unfold inI64; omega, ?_⟩
   conv => whnf
   refine eT9 ?_
   rw [hw]
   simp only [rdigV, hd, h2, if_true, Bool.false_eq_true, if_false]
  ·conv => whnf
   refine cI9 ?_ ?_<;>intro h3
   ·have h' : 65 ≤ c ∧ c ≤ 70 := by simpa using h3
    have hw : IntKind.u8.wrap (c - 65) = c - 65 := wrap_u8 (by omega) (by omega)
    conv => whnf
    refine ⟨by unfold inI64; omega, ?_⟩
    conv => whnf
    refine ⟨by unfold inI64; omega, ?_⟩
    conv => whnf
    refine eT9 ?_
    rw [hw]
    simp only [rdigV, hd, h2, h3, if_true, Bool.false_eq_true, if_false]
   ·conv => whnf
    refine eT9 ?_
    simp only [rdigV, hd, h2, h3, Bool.false_eq_true, if_false]
theorem drop_get {l : List UInt8} {i : Nat} (h : i < l.length) : l.drop i = l.getD i 0 :: l.drop (i + 1) := by
 rw [List.drop_eq_getElem_cons h, getD_get h]
theorem twd_step {p : Int → Bool} {l : List UInt8} {i : Nat} (h : i < l.length) (hp : p (byteAt (B l) (i : Int)) = true) : (tw p (l.drop i)).length = (tw p (l.drop (i + 1))).length + 1 := by
 rw [drop_get h, tw_cons_pos (p := p) (a := l.getD i 0) hp]; rfl
theorem twd_stop {p : Int → Bool} {l : List UInt8} {i : Nat} (h : i < l.length) (hp : p (byteAt (B l) (i : Int)) = false) : (tw p (l.drop i)).length = 0 := by
 rw [drop_get h, tw_cons_neg (p := p) (a := l.getD i 0) hp]; rfl
theorem twd_end {p : Int → Bool} {l : List UInt8} {i : Nat} (h : l.length ≤ i) : (tw p (l.drop i)).length = 0 := by
 rw [List.drop_eq_nil_of_le h]; rfl
theorem twd_le (p : Int → Bool) (l : List UInt8) (i : Nat) : (tw p (l.drop i)).length ≤ l.length - i := by
 have := tw_len p (l.drop i)
 rw [List.length_drop] at this
 omega
theorem runP_eq (b : Bool) (s : ByteArray) (i : Int) : (rwordB (byteAt s i) || (b && rnameB (byteAt s i))) = runP b (byteAt s i) := by
 obtain ⟨u, hu⟩ := byteAt_byte s i
 rw [hu, word_same, name_same]
 cases b
 ·simp [runP]
 ·simp [runP, nameB]
theorem t61 : TS9 T61 := by
 refine extSIB t60 46 (fn := Tryz.f46) rfl rfl (by decide) _ [0, 1, 2, 6, 7, 32] fun s i b hs => ?_
 obtain ⟨hs', hi0, hi1⟩ : s.size ≤ 1000000000 ∧ 0 ≤ i ∧ i ≤ 1000000000 := hs
 obtain ⟨a, rfl⟩ : ∃ a : Nat, i = a := ⟨i.toNat, by omega⟩
 obtain ⟨l, rfl⟩ : ∃ l, s = B l := ⟨s.data.toList, rfl⟩
 rw [B_size] at hs'
 conv => whnf
 refine lI9 (σ := Nat) (fun n => [(0, XV.s (SV.str (B l))), (1, XV.s (.int .i64 a)), (2, XV.s (.bool b)), (6, XV.s (.int .i64 0)), (7, XV.s (.int .i64 n)), (32, nX9)]) (fun _ => [])
  (fun n => n + (tw (runP b) (l.drop (a + n))).length = (tw (runP b) (l.drop a)).length) (fun n => l.length - n) 0 ?_ rfl ?_ fun n hI => ?_
 ·repeat first|exact lN9|refine lD9 ?_|refine lS9 ?_
 ·exact Nat.zero_add _
 have hI' : n + (tw (runP b) (l.drop (a + n))).length = (tw (runP b) (l.drop a)).length := hI
 have hb1 := twd_le (runP b) l a
 repeat ((conv => whnf); refine ⟨by first | (unfold inI64; omega) | (intro hg; first | (unfold inI64; omega) | omega | exact ⟨by omega, by omega⟩ | (simp [lit] at hg; unfold inI64; omega) | (simp [lit] at hg; omega) | (simp [lit] at hg; exact ⟨by omega, by omega⟩)), ?_⟩)
 conv => whnf
 refine cI9 ?_ ?_<;>intro h
 ·simp only [Bool.and_eq_true, decide_eq_true_eq] at h
  obtain ⟨h1, h2⟩ := h
  rw [runP_eq] at h2
  have h1' : a + n < l.length := by rw [B_size] at h1; omega
  have hstep := twd_step (p := runP b) h1' h2
  repeat ((conv => whnf); refine ⟨by (unfold inI64; omega), ?_⟩)
  conv => whnf
  refine hI9 (n + 1) ?_ rfl ?_ ?_
  ·repeat first|exact lN9|refine lD9 ?_|refine lS9 ?_
  ·show n + 1 + (tw (runP b) (l.drop (a + (n + 1)))).length = _
   rw [← Nat.add_assoc]
   omega
  ·show l.length - (n + 1) < l.length - n
   omega
 ·have h0 : (tw (runP b) (l.drop (a + n))).length = 0 := by
   rcases Nat.lt_or_ge (a + n) l.length with h1 | h1
   ·refine twd_stop h1 ?_
    rw [dT9 (by rw [B_size]; omega : (a : Int) + n < (B l).size), Bool.true_and, runP_eq] at h
    exact h
   ·exact twd_end h1
  conv => whnf
  refine eT9 ?_
  show SV.int .i64 (n : Int) = SV.int .i64 (((tw (runP b) (l.drop a)).length : Nat) : Int)
  rw [← hI', h0, Nat.add_zero]
def dropB (s : ByteArray) (i : Int) : ByteArray := B (s.data.toList.drop i.toNat)
theorem dropB_size (l : List UInt8) (i : Nat) : (dropB (B l) i).size = l.length - i := List.length_drop
theorem dropB_at (l : List UInt8) (i : Nat) (k : Nat) : byteAt (dropB (B l) i) (k : Int) = byteAt (B l) ((i : Int) + k) := by
 show ((((l.drop i).getD k 0).toNat : Nat) : Int) = (((l.getD (((i : Int) + k).toNat) 0).toNat : Nat) : Int)
 rw [show ((i : Int) + k).toNat = i + k by omega, List.getD_eq_getElem?_getD, List.getD_eq_getElem?_getD, List.getElem?_drop]
theorem dropB_end {l : List UInt8} {i : Nat} (h : i ≤ l.length) (k : Nat) : endB (dropB (B l) i) (k : Int) = (decide (((B l).size : Int) ≤ (i : Int) + k) || decide (byteAt (B l) ((i : Int) + k) = 10)) := by
 unfold endB
 rw [dropB_at, dropB_size, B_size]
 congr 1
 rw [decide_eq_decide]
 omega
def T62 : Table := ext T61 68 (saysSI fun s i => (some (fits s ∧ 0 ≤ i ∧ i ≤ s.size), escSV (escV (dropB s i))))
theorem rdig99 (c : Int) : decide (rdigV c = 99) = decide (digitV c = 16) := by
 have := digitV_range c
 rw [rdigV_eq, decide_eq_decide]
 split <;> omega
theorem rdig_eq {c : Int} (h : ¬ digitV c = 16) : rdigV c = digitV c := by rw [rdigV_eq, if_neg h]
theorem t62 : TS9 T62 := by
 refine extSI t61 68 (fn := Tryz.f68) rfl rfl (by decide) _ [0, 1, 4, 5, 6, 7, 8, 20, 24, 25, 27, 29, 36, 39, 55, 62] fun s i hs => ?_
 obtain ⟨hs', hi0, hi1⟩ : s.size ≤ 1000000000 ∧ 0 ≤ i ∧ i ≤ s.size := hs
 obtain ⟨a, rfl⟩ : ∃ a : Nat, i = a := ⟨i.toNat, by omega⟩
 obtain ⟨l, rfl⟩ : ∃ l, s = B l := ⟨s.data.toList, rfl⟩
 have ha : a ≤ l.length := by rw [B_size] at hi1; omega
 have e1 := dropB_end ha 1
 have b1 : byteAt (dropB (B l) a) 1 = byteAt (B l) ((a : Int) + 1) := dropB_at l a 1
 rw [B_size] at hs' hi1
 have hB : (B l).size = l.length := rfl
 repeat ((conv => whnf); refine ⟨by first | (unfold inI64; omega) | (intro hg; first | (unfold inI64; omega) | omega | exact ⟨by omega, by omega⟩ | (simp [lit] at hg; unfold inI64; omega) | (simp [lit] at hg; omega) | (simp [lit] at hg; exact ⟨by omega, by omega⟩)), ?_⟩)
 conv => whnf
 refine cI9 ?_ ?_<;>intro h
 ·have h' : endB (dropB (B l) a) 1 = true := e1.trans h
  conv => whnf
  refine eT9 ?_
  simp only [escV, h', if_true]
  rfl
 have h' : endB (dropB (B l) a) 1 = false := e1.trans h
 have hlt := end_lt h'
 rw [dropB_size] at hlt
 repeat ((conv => whnf); refine ⟨by first | (unfold inI64; omega) | omega, ?_⟩)
 conv => whnf
 refine cI9 ?_ ?_<;>intro h1
 ·have h1' : byteAt (dropB (B l) a) 1 = 110 := b1.trans (oT9 h1)
  conv => whnf
  refine eT9 ?_
  simp only [escV, h', h1', if_true, Bool.false_eq_true, if_false]
  rfl
 have h1' : ¬ byteAt (dropB (B l) a) 1 = 110 := fun h => oF9 h1 (b1.symm.trans h)
 conv => whnf
 refine cI9 ?_ ?_<;>intro h2
 ·have h2' : byteAt (dropB (B l) a) 1 = 116 := b1.trans (oT9 h2)
  conv => whnf
  refine eT9 ?_
  simp only [escV, h', if_neg h1', if_pos h2', Bool.false_eq_true, if_false]
  rfl
 have h2' : ¬ byteAt (dropB (B l) a) 1 = 116 := fun h => oF9 h2 (b1.symm.trans h)
 conv => whnf
 refine cI9 ?_ ?_<;>intro h3
 ·have h3' : byteAt (dropB (B l) a) 1 = 34 := b1.trans (oT9 h3)
  repeat ((conv => whnf); refine ⟨by first | (unfold inI64; omega) | omega, ?_⟩)
  conv => whnf
  refine eT9 ?_
  simp only [escV, h', if_neg h1', if_neg h2', if_pos h3', Bool.false_eq_true, if_false]
  rw [b1]
  rfl
 have h3' : ¬ byteAt (dropB (B l) a) 1 = 34 := fun h => oF9 h3 (b1.symm.trans h)
 conv => whnf
 refine cI9 ?_ ?_<;>intro h4
 ·have h4' : byteAt (dropB (B l) a) 1 = 92 := b1.trans (oT9 h4)
  repeat ((conv => whnf); refine ⟨by first | (unfold inI64; omega) | omega, ?_⟩)
  conv => whnf
  refine eT9 ?_
  simp only [escV, h', if_neg h1', if_neg h2', if_neg h3', if_pos h4', Bool.false_eq_true, if_false]
  rw [b1]
  rfl
 have h4' : ¬ byteAt (dropB (B l) a) 1 = 92 := fun h => oF9 h4 (b1.symm.trans h)
 conv => whnf
 refine cI9 ?_ ?_<;>intro h5
 ·have h5' : byteAt (dropB (B l) a) 1 = 120 := b1.trans (oT9 h5)
  have hX : escV (dropB (B l) a) = escNum (dropB (B l) a) := by
   simp only [escV, h', if_neg h1', if_neg h2', if_neg h3', if_neg h4', if_pos h5', Bool.false_eq_true, if_false]
  rw [hX]
  conv => whnf
  refine lI9 (σ := Nat × Int) (fun ⟨k, v⟩ => [(0, XV.s (SV.str (B l))), (1, XV.s (.int .i64 a)), (4, nX9), (5, nX9), (6, nX9), (7, XV.s (.int .i64 v)), (8, XV.s (.int .i64 (k : Int))), (20, nX9), (24, nX9), (25, nX9), (27, nX9), (29, nX9), (36, nX9), (39, nX9), (55, nX9), (62, nX9)]) (fun _ => [])
   (fun ⟨k, v⟩ => 2 ≤ k ∧ k ≤ 4 ∧ 0 ≤ v ∧ ((k ≤ 3 → v ≤ 16 * ((k : Int) - 2)) ∧ v ≤ 1000) ∧ escGo (dropB (B l) a) (4 - k) (k - 2) v = escNum (dropB (B l) a)) (fun ⟨k, _⟩ => 4 - k) (2, 0) ?_ rfl ?_ fun ⟨k, v⟩ hI => ?_
  ·repeat first|exact lN9|refine lD9 ?_|refine lS9 ?_
  ·exact ⟨by omega, by omega, by omega, ⟨fun _ => by omega, by omega⟩, rfl⟩
  obtain ⟨hk, hk4, hv0, ⟨hv1, hv3⟩, hgo⟩ := hI
  have hd := digitV_range (byteAt (B l) ((a : Int) + k))
  have e2 := dropB_end ha k
  have b2 := dropB_at l a k
  conv => whnf
  refine cI9 ?_ ?_<;>intro h6
  ·have hlt4 : k < 4 := by have : (k : Int) < 4 := oT9 h6
                           omega
   rw [show 4 - k = (3 - k) + 1 by omega] at hgo
   simp only [escGo] at hgo
   rw [show (2 : Int) + ((k - 2 : Nat) : Int) = (k : Int) by omega, e2, b2] at hgo
   repeat ((conv => whnf); refine ⟨by first | (unfold inI64; omega) | (intro hg; first | (unfold inI64; omega) | omega | exact ⟨by omega, by omega⟩ | (simp [lit] at hg; unfold inI64; omega) | (simp [lit] at hg; omega) | (simp [lit] at hg; exact ⟨by omega, by omega⟩)), ?_⟩)
   conv => whnf
   refine cI9 ?_ ?_<;>intro h7
   ·rw [if_pos h7] at hgo
    conv => whnf
    refine eT9 ?_
    show _ = escSV (escNum (dropB (B l) a))
    rw [← hgo]
    rfl
   rw [if_neg (by rw [h7]; decide)] at hgo
   have h7' : ((a : Int) + k < l.length) := by
    rw [Bool.or_eq_false_iff, decide_eq_false_iff_not] at h7
    omega
   repeat ((conv => whnf); refine ⟨by first | (unfold inI64; omega) | omega, ?_⟩)
   conv => whnf
   refine cI9 ?_ ?_<;>intro h8
   ·have h8' : digitV (byteAt (B l) ((a : Int) + k)) = 16 := oT9 ((rdig99 _).symm.trans h8)
    rw [if_pos h8'] at hgo
    conv => whnf
    refine eT9 ?_
    show _ = escSV (escNum (dropB (B l) a))
    rw [← hgo]
    rfl
   have h8' : ¬ digitV (byteAt (B l) ((a : Int) + k)) = 16 := oF9 ((rdig99 _).symm.trans h8)
   rw [if_neg h8'] at hgo
   have hrd := rdig_eq h8'
   have hv2 : v ≤ 16 := by
    have := hv1 (by omega)
    omega
   repeat ((conv => whnf); refine ⟨by first | (unfold inI64; omega) | omega, ?_⟩)
   conv => whnf
   rw [hrd]
   refine hI9 (k + 1, v * 16 + digitV (byteAt (B l) ((a : Int) + k))) ?_ rfl ?_ ?_
   ·repeat first|exact lN9|refine lD9 ?_|refine lS9 ?_
   ·refine ⟨by omega, by omega, by omega, ⟨fun h9 => ?_, by omega⟩, ?_⟩
    ·have := hv1 (by omega)
     have h0 : k = 2 := by omega
     subst h0
     omega
    ·rw [← hgo, show 4 - (k + 1) = 3 - k by omega, show k + 1 - 2 = k - 2 + 1 by omega]
   ·show 4 - (k + 1) < 4 - k
    omega
  ·have hk5 : k = 4 := by have : ¬ (k : Int) < 4 := oF9 h6
                          omega
   subst hk5
   conv => whnf
   refine eT9 ?_
   show _ = escSV (escNum (dropB (B l) a))
   rw [← hgo]
   rfl
 ·have h5' : ¬ byteAt (dropB (B l) a) 1 = 120 := fun h => oF9 h5 (b1.symm.trans h)
  conv => whnf
  refine eT9 ?_
  simp only [escV, h', if_neg h1', if_neg h2', if_neg h3', if_neg h4', if_neg h5', Bool.false_eq_true, if_false]
  rfl
end Go.Ab
