/- Package bringupgrow: labels, cells and values. -/
import Derived.Test.YtkgcgbpclpmleaaGreatTX13toY42
import Derived.Test.YtkgcgbpclpmleaaGreatTV23toV33
namespace Go.Ab
open Go.Proofs
set_option linter.unusedSectionVars false
set_option maxRecDepth 100000
variable [Glob]
def labL : List ByteArray := [⟨#[108, 49]⟩, ⟨#[108, 50]⟩, ⟨#[108, 51]⟩, ⟨#[108, 52]⟩, ⟨#[111, 115, 99]⟩, ⟨#[118, 100, 100]⟩]
def num6L : List ByteArray := [⟨#[48]⟩, ⟨#[49]⟩, ⟨#[50]⟩, ⟨#[48, 120, 49, 48]⟩, ⟨#[52, 50, 57, 52, 57, 54, 55, 50, 57, 53]⟩, ⟨#[50, 52, 48, 48, 48, 48, 48, 48]⟩]
theorem pick_size {L : List ByteArray} {m : Nat} (h : ∀ s ∈ L, s.size ≤ m) (zs : List Int) (n : Int) : (pickS L zs n).size ≤ m := by
 unfold pickS
 rw [List.getD_eq_getElem?_getD]
 cases hg : L[(modV (rawV zs n) L.length).toNat]? with
 | none => exact nZ9 _
 | some s => exact h s (List.mem_of_getElem? hg)
def Z6 : Table := ext X66 22 (saysTape fun zs n => (some (tapeOk zs n), .str (pickS labL zs n), rawN zs n))
theorem z6 : TS9 Z6 := by
 refine extTape x66 22 (fn := Tryz.f22) rfl rfl (by decide) _ [0, 2] fun zs n hn => ?_
 have hn1 : tapeOk zs n := hn
 have hi : 0 ≤ modV (rawV zs n) 6 ∧ modV (rawV zs n) 6 < 6 := ⟨mN9 _ _, modV_lt _ _ (by decide)⟩
 repeat ((conv => whnf); refine ⟨by first | exact ⟨hn1, by decide⟩ | exact hi, ?_⟩)
 conv => whnf
 exact eR9
theorem lab_size (zs : List Int) (n : Int) : (pickS labL zs n).size ≤ 3 := pick_size (by decide +kernel) zs n
def celT (zs : List Int) (n : Int) : ByteArray × Int :=
 if modV (rawV zs n) 5 = 0 then (⟨#[38]⟩ ++ pickS labL zs (rawN zs n), rawN zs (rawN zs n))
 else if modV (rawV zs n) 5 = 1 then (inB (exprT zs 1 (rawN zs n)).1, (exprT zs 1 (rawN zs n)).2.2)
 else (pickS num6L zs (rawN zs n), rawN zs (rawN zs n))
theorem celT_ok {zs : List Int} {n : Int} (h : tapeOk zs n) : (celT zs n).1.size ≤ 402 ∧ tapeOk zs (celT zs n).2 := by
 have h1 := rawN_ok h
 have h2 := rawN_ok h1
 unfold celT
 split
 ·have := lab_size zs (rawN zs n)
  exact ⟨by show (_ ++ _ : ByteArray).size ≤ _; rw [zA9]; show 1 + _ ≤ _; omega, h2⟩
 ·split
  ·have := (exprT_size zs 1 (rawN zs n) (by decide)).1
   exact ⟨by show (⟨#[40]⟩ ++ _ ++ ⟨#[41]⟩ : ByteArray).size ≤ _; rw [zA9, zA9]; show 1 + _ + 1 ≤ _; omega, exprT_tape 1 h1⟩
  ·have := pick_size (L := num6L) (m := 10) (by decide +kernel) zs (rawN zs n)
   exact ⟨by show (pickS num6L zs (rawN zs n)).size ≤ _; omega, h2⟩
def Z7 : Table := ext Z6 29 (saysTape fun zs n => (some (tapeOk zs n), .str (celT zs n).1, (celT zs n).2))
theorem z7 : TS9 Z7 := by
 refine extTape z6 29 (fn := Tryz.f29) rfl rfl (by decide) _ [0, 2, 3, 6, 7, 12] fun zs n hn => ?_
 have h0 : tapeOk zs n := hn
 have h1 := rawN_ok h0
 have hl := lab_size zs (rawN zs n)
 have he : (exprT zs (Int.toNat 1) (rawN zs n)).1.size ≤ 400 := (exprT_size zs 1 (rawN zs n) (by decide)).1
 have hi : 0 ≤ modV (rawV zs (rawN zs n)) 6 ∧ modV (rawV zs (rawN zs n)) 6 < 6 := ⟨mN9 _ _, modV_lt _ _ (by decide)⟩
 unfold celT
 repeat ((conv => whnf); refine ⟨⟨h0, by decide⟩, ?_⟩)
 conv => whnf
 refine cI9 ?_ ?_<;>intro h
 ·have h2 : modV (rawV zs n) 5 = 0 := oT9 h
  rw [if_pos h2]
  repeat ((conv => whnf); refine ⟨by first | exact h1 | (simp only [bsz2, zS9, zC9, zN9]; omega), ?_⟩)
  conv => whnf
  exact eR9
 have h2 : ¬ modV (rawV zs n) 5 = 0 := oF9 h
 rw [if_neg h2]
 conv => whnf
 refine cI9 ?_ ?_<;>intro h3
 ·have h4 : modV (rawV zs n) 5 = 1 := oT9 h3
  rw [if_pos h4]
  repeat ((conv => whnf); refine ⟨by first | exact ⟨h1, by decide, by decide, by decide⟩ | (simp only [bsz2, zS9, zC9, zN9]; omega) | (simp only [zA9, bsz2, zS9, zC9, zN9]; omega), ?_⟩)
  conv => whnf
  exact eR9
 ·have h4 : ¬ modV (rawV zs n) 5 = 1 := oF9 h3
  rw [if_neg h4]
  repeat ((conv => whnf); refine ⟨by first | exact ⟨h1, by decide⟩ | exact hi, ?_⟩)
  conv => whnf
  exact eR9
def celsG (zs : List Int) : Nat → ByteArray → Int → ByteArray × Int
 | 0, t, n => (t, n)
 | k + 1, t, n => celsG zs k (t ++ ((celT zs n).1 ++ ⟨#[32]⟩)) (celT zs n).2
theorem celsG_ok {zs : List Int} : ∀ (k : Nat) (t : ByteArray) {n : Int}, tapeOk zs n → (celsG zs k t n).1.size ≤ t.size + 403 * k ∧ tapeOk zs (celsG zs k t n).2 := by
 intro k
 induction k with
 | zero => intro t n h; exact ⟨nR9 _, h⟩
 | succ k ih =>
  intro t n h
  obtain ⟨h1, h2⟩ := celT_ok h
  obtain ⟨h3, h4⟩ := ih (t ++ ((celT zs n).1 ++ ⟨#[32]⟩)) h2
  refine ⟨?_, h4⟩
  simp only [celsG]
  simp only [zA9, bsz2, zS9, zC9, zN9] at h3
  omega
def sepG (t : ByteArray) : ByteArray := if t = ⟨#[]⟩ then t else t ++ ⟨#[44, 32]⟩
def prtG (zs : List Int) (t : ByteArray) (n : Int) : ByteArray × Int :=
 if modV (rawV zs n) 6 = 0 then (t ++ ⟨#[34, 116, 101, 120, 116, 34]⟩, rawN zs n)
 else if modV (rawV zs n) 6 = 1 then (t ++ ⟨#[91, 32, 48, 32, 49, 55, 32, 50, 53, 53, 32, 93]⟩, rawN zs n)
 else if modV (rawV zs n) 6 = 2 then (t ++ (⟨#[38]⟩ ++ pickS labL zs (rawN zs n)), rawN zs (rawN zs n))
 else if modV (rawV zs n) 6 = 3 then (t ++ ⟨#[34, 97, 92, 120, 52, 49, 92, 110, 34]⟩, rawN zs n)
 else ((celsG zs (modV (rawV zs (rawN zs n)) 4).toNat (t ++ ⟨#[60]⟩) (rawN zs (rawN zs n))).1 ++ ⟨#[62]⟩, (celsG zs (modV (rawV zs (rawN zs n)) 4).toNat (t ++ ⟨#[60]⟩) (rawN zs (rawN zs n))).2)
def valG (zs : List Int) : Nat → ByteArray → Int → ByteArray × Int
 | 0, t, n => (t, n)
 | k + 1, t, n => valG zs k (prtG zs (sepG t) n).1 (prtG zs (sepG t) n).2
def valT (zs : List Int) (n : Int) : ByteArray × Int := valG zs (1 + modV (rawV zs n) 3).toNat ⟨#[]⟩ (rawN zs n)
theorem prtG_ok {zs : List Int} (t : ByteArray) {n : Int} (h : tapeOk zs n) : (prtG zs t n).1.size ≤ t.size + 1300 ∧ tapeOk zs (prtG zs t n).2 := by
 have h1 := rawN_ok h
 have h2 := rawN_ok h1
 have hl := lab_size zs (rawN zs n)
 have hm := modV_lt (rawV zs (rawN zs n)) 4 (by decide)
 obtain ⟨h3, h4⟩ := celsG_ok (zs := zs) (modV (rawV zs (rawN zs n)) 4).toNat (t ++ ⟨#[60]⟩) h2
 have hk : (modV (rawV zs (rawN zs n)) 4).toNat ≤ 3 := by omega
 have h5 : 403 * (modV (rawV zs (rawN zs n)) 4).toNat ≤ 1209 := by omega
 simp only [zA9, bsz2, zS9, zC9, zN9] at h3
 unfold prtG
 split
 ·exact ⟨by simp only [zA9, bsz2, zS9, zC9, zN9]; omega, h1⟩
 ·split
  ·exact ⟨by simp only [zA9, bsz2, zS9, zC9, zN9]; omega, h1⟩
  ·split
   ·exact ⟨by simp only [zA9, bsz2, zS9, zC9, zN9]; omega, h2⟩
   ·split
    ·exact ⟨by simp only [zA9, bsz2, zS9, zC9, zN9]; omega, h1⟩
    ·exact ⟨by simp only [zA9, bsz2, zS9, zC9, zN9]; omega, h4⟩
theorem sepG_size (t : ByteArray) : (sepG t).size ≤ t.size + 2 := by
 unfold sepG
 split
 ·omega
 ·simp only [zA9, bsz2, zS9, zC9, zN9]; omega
theorem valG_ok {zs : List Int} : ∀ (k : Nat) (t : ByteArray) {n : Int}, tapeOk zs n → (valG zs k t n).1.size ≤ t.size + 1302 * k ∧ tapeOk zs (valG zs k t n).2 := by
 intro k
 induction k with
 | zero => intro t n h; exact ⟨nR9 _, h⟩
 | succ k ih =>
  intro t n h
  obtain ⟨h1, h2⟩ := prtG_ok (sepG t) h
  obtain ⟨h3, h4⟩ := ih (prtG zs (sepG t) n).1 h2
  have h5 := sepG_size t
  exact ⟨by simp only [valG]; omega, h4⟩
theorem valT_ok {zs : List Int} {n : Int} (h : tapeOk zs n) : (valT zs n).1.size ≤ 3906 ∧ tapeOk zs (valT zs n).2 := by
 have hm := modV_lt (rawV zs n) 3 (by decide)
 obtain ⟨h3, h4⟩ := valG_ok (zs := zs) (1 + modV (rawV zs n) 3).toNat ⟨#[]⟩ (rawN_ok h)
 refine ⟨?_, h4⟩
 have : (1 + modV (rawV zs n) 3).toNat ≤ 3 := by omega
 have h5 : 1302 * (1 + modV (rawV zs n) 3).toNat ≤ 3906 := by omega
 have h6 : (⟨#[]⟩ : ByteArray).size = 0 := rfl
 unfold valT
 omega
def Z8 : Table := ext Z7 20 (saysTape fun zs n => (some (tapeOk zs n), .str (valT zs n).1, (valT zs n).2))
set_option maxHeartbeats 1000000 in
theorem z8 : TS9 Z8 := by
 refine extTape z7 20 (fn := Tryz.f20) rfl rfl (by decide) _ [0, 2, 3, 4, 5, 9, 13, 17, 23, 33, 37, 41, 48] fun zs n hn => ?_
 have h0 : tapeOk zs n := hn
 have hm0 := mN9 (rawV zs n) 3
 have hm1 := modV_lt (rawV zs n) 3 (by decide)
 repeat ((conv => whnf); refine ⟨⟨h0, by decide, by decide, by decide⟩, ?_⟩)
 conv => whnf
 refine lI9 (σ := Nat × Int × ByteArray × Int) (fun ⟨_, i, t, _⟩ => [(0, XV.s (.a (.c (.ptr 0 0)))), (2, nX9), (3, XV.s (.a (.c (.p (.v (.string t)))))), (4, XV.s (.int .i64 i)), (5, nX9), (9, nX9), (13, nX9), (17, nX9), (23, nX9), (33, nX9), (37, nX9), (41, nX9), (48, nX9)])
  (fun ⟨_, _, _, m⟩ => [tapeO zs m]) (fun ⟨k, i, t, m⟩ => i = k ∧ k ≤ 3 ∧ t.size ≤ 1302 * (3 - k) ∧ tapeOk zs m ∧ valG zs k t m = valT zs n) (fun ⟨k, _, _, _⟩ => k) ((1 + modV (rawV zs n) 3).toNat, 1 + modV (rawV zs n) 3, ⟨#[]⟩, rawN zs n) ?_ ?_ ?_ ?_
 ·repeat first|exact lN9|refine lD9 ?_|refine lS9 ?_
 ·rfl
 ·exact ⟨by omega, by omega, nZ9 _, rawN_ok h0, rfl⟩
 rintro ⟨k, i, t, m⟩ ⟨hik, hk, hz, hm, hgo⟩
 replace hik : i = k := hik
 subst hik
 have r1 := rawN_ok hm
 have r2 := rawN_ok r1
 have hs := sepG_size t
 have hl := lab_size zs (rawN zs m)
 conv => whnf
 refine cI9 ?_ ?_<;>intro h
 ·obtain ⟨k, rfl⟩ : ∃ j, k = j + 1 := ⟨k - 1, by have : (0 : Int) < k := oT9 h; omega⟩
  have hgo' : valG zs k (prtG zs (sepG t) m).1 (prtG zs (sepG t) m).2 = valT zs n := hgo
  obtain ⟨p1, p2⟩ := prtG_ok (zs := zs) (sepG t) hm
  have inv : k ≤ 3 ∧ (prtG zs (sepG t) m).1.size ≤ 1302 * (3 - k) ∧ tapeOk zs (prtG zs (sepG t) m).2 ∧ valG zs k (prtG zs (sepG t) m).1 (prtG zs (sepG t) m).2 = valT zs n := ⟨by omega, by omega, p2, hgo'⟩
  conv => whnf
  refine cI9 ?_ ?_<;>intro hq
  ·have ht : ¬ t = ⟨#[]⟩ := by
    have h2 : (!decide (t = ⟨#[]⟩)) = true := hq
    simpa using h2
   have eT : sepG t = t ++ ⟨#[44, 32]⟩ := by unfold sepG; rw [if_neg ht]
   rw [eT] at inv hs
   simp only [zA9, bsz2, zS9, zC9, zN9] at hs
   repeat ((conv => whnf); refine ⟨by first | exact ⟨hm, by decide⟩ | (simp only [bsz2, zS9, zC9, zN9]; omega), ?_⟩)
   conv => whnf
   refine cI9 ?_ ?_<;>intro g0
   ·have c0 : modV (rawV zs m) 6 = 0 := oT9 g0
    have e : prtG zs (t ++ ⟨#[44, 32]⟩) m = (t ++ ⟨#[44, 32]⟩ ++ ⟨#[34, 116, 101, 120, 116, 34]⟩, rawN zs m) := by unfold prtG; rw [if_pos c0]
    rw [e] at inv
    repeat ((conv => whnf); refine ⟨by first | (simp only [zA9, bsz2, zS9, zC9, zN9]; omega) | (unfold inI64; omega), ?_⟩)
    conv => whnf
    refine hI9 (k, ((k + 1 : Nat) : Int) - 1, t ++ ⟨#[44, 32]⟩ ++ ⟨#[34, 116, 101, 120, 116, 34]⟩, rawN zs m) ?_ ?_ ?_ ?_
    ·repeat first|exact lN9|refine lD9 ?_|refine lS9 ?_
    ·rfl
    ·exact ⟨by omega, inv⟩
    ·exact nS9 k
   have n0 : ¬ modV (rawV zs m) 6 = 0 := oF9 g0
   conv => whnf
   refine cI9 ?_ ?_<;>intro g1
   ·have c1 : modV (rawV zs m) 6 = 1 := oT9 g1
    have e : prtG zs (t ++ ⟨#[44, 32]⟩) m = (t ++ ⟨#[44, 32]⟩ ++ ⟨#[91, 32, 48, 32, 49, 55, 32, 50, 53, 53, 32, 93]⟩, rawN zs m) := by unfold prtG; rw [if_neg n0, if_pos c1]
    rw [e] at inv
    repeat ((conv => whnf); refine ⟨by first | (simp only [zA9, bsz2, zS9, zC9, zN9]; omega) | (unfold inI64; omega), ?_⟩)
    conv => whnf
    refine hI9 (k, ((k + 1 : Nat) : Int) - 1, t ++ ⟨#[44, 32]⟩ ++ ⟨#[91, 32, 48, 32, 49, 55, 32, 50, 53, 53, 32, 93]⟩, rawN zs m) ?_ ?_ ?_ ?_
    ·repeat first|exact lN9|refine lD9 ?_|refine lS9 ?_
    ·rfl
    ·exact ⟨by omega, inv⟩
    ·exact nS9 k
   have n1 : ¬ modV (rawV zs m) 6 = 1 := oF9 g1
   conv => whnf
   refine cI9 ?_ ?_<;>intro g2
   ·have c2 : modV (rawV zs m) 6 = 2 := oT9 g2
    have e : prtG zs (t ++ ⟨#[44, 32]⟩) m = (t ++ ⟨#[44, 32]⟩ ++ (⟨#[38]⟩ ++ pickS labL zs (rawN zs m)), rawN zs (rawN zs m)) := by unfold prtG; rw [if_neg n0, if_neg n1, if_pos c2]
    rw [e] at inv
    repeat ((conv => whnf); refine ⟨by first | exact r1 | (simp only [bsz2, zS9, zC9, zN9]; omega) | (simp only [zA9, bsz2, zS9, zC9, zN9]; omega) | (unfold inI64; omega), ?_⟩)
    conv => whnf
    refine hI9 (k, ((k + 1 : Nat) : Int) - 1, t ++ ⟨#[44, 32]⟩ ++ (⟨#[38]⟩ ++ pickS labL zs (rawN zs m)), rawN zs (rawN zs m)) ?_ ?_ ?_ ?_
    ·repeat first|exact lN9|refine lD9 ?_|refine lS9 ?_
    ·rfl
    ·exact ⟨by omega, inv⟩
    ·exact nS9 k
   have n2 : ¬ modV (rawV zs m) 6 = 2 := oF9 g2
   conv => whnf
   refine cI9 ?_ ?_<;>intro g3
   ·have c3 : modV (rawV zs m) 6 = 3 := oT9 g3
    have e : prtG zs (t ++ ⟨#[44, 32]⟩) m = (t ++ ⟨#[44, 32]⟩ ++ ⟨#[34, 97, 92, 120, 52, 49, 92, 110, 34]⟩, rawN zs m) := by unfold prtG; rw [if_neg n0, if_neg n1, if_neg n2, if_pos c3]
    rw [e] at inv
    repeat ((conv => whnf); refine ⟨by first | (simp only [zA9, bsz2, zS9, zC9, zN9]; omega) | (unfold inI64; omega), ?_⟩)
    conv => whnf
    refine hI9 (k, ((k + 1 : Nat) : Int) - 1, t ++ ⟨#[44, 32]⟩ ++ ⟨#[34, 97, 92, 120, 52, 49, 92, 110, 34]⟩, rawN zs m) ?_ ?_ ?_ ?_
    ·repeat first|exact lN9|refine lD9 ?_|refine lS9 ?_
    ·rfl
    ·exact ⟨by omega, inv⟩
    ·exact nS9 k
   have n3 : ¬ modV (rawV zs m) 6 = 3 := oF9 g3
   repeat ((conv => whnf); refine ⟨by first | (simp only [bsz2, zS9, zC9, zN9]; omega) | (simp only [zA9, bsz2, zS9, zC9, zN9]; omega), ?_⟩)
   conv => whnf
   have hj0 := mN9 (rawV zs (rawN zs m)) 4
   have hj1 := modV_lt (rawV zs (rawN zs m)) 4 (by decide)
   have e : prtG zs (t ++ ⟨#[44, 32]⟩) m = ((celsG zs (modV (rawV zs (rawN zs m)) 4).toNat (t ++ ⟨#[44, 32]⟩ ++ ⟨#[60]⟩) (rawN zs (rawN zs m))).1 ++ ⟨#[62]⟩, (celsG zs (modV (rawV zs (rawN zs m)) 4).toNat (t ++ ⟨#[44, 32]⟩ ++ ⟨#[60]⟩) (rawN zs (rawN zs m))).2) := by unfold prtG; rw [if_neg n0, if_neg n1, if_neg n2, if_neg n3]
   rw [e] at inv
   have z6 : (t ++ ⟨#[44, 32]⟩ ++ ⟨#[60]⟩ : ByteArray).size ≤ 4000 := by simp only [zA9, bsz2, zS9, zC9, zN9]; omega
   conv => whnf
   refine lI9 (σ := Nat × Int × ByteArray × Int) (fun ⟨_, j, u, _⟩ => [(0, XV.s (.a (.c (.ptr 0 0)))), (2, nX9), (3, XV.s (.a (.c (.p (.v (.string u)))))), (4, XV.s (.int .i64 ((k + 1 : Nat) : Int))), (5, XV.s (.int .i64 j)), (9, nX9), (13, nX9), (17, nX9), (23, nX9), (33, nX9), (37, nX9), (41, nX9), (48, nX9)])
    (fun ⟨_, _, _, q⟩ => [tapeO zs q]) (fun ⟨c, j, u, q⟩ => j = c ∧ c ≤ 3 ∧ u.size ≤ 4000 + 403 * (3 - c) ∧ tapeOk zs q ∧ celsG zs c u q = celsG zs (modV (rawV zs (rawN zs m)) 4).toNat (t ++ ⟨#[44, 32]⟩ ++ ⟨#[60]⟩) (rawN zs (rawN zs m))) (fun ⟨c, _, _, _⟩ => c) ((modV (rawV zs (rawN zs m)) 4).toNat, modV (rawV zs (rawN zs m)) 4, t ++ ⟨#[44, 32]⟩ ++ ⟨#[60]⟩, rawN zs (rawN zs m)) ?_ ?_ ?_ ?_
   ·repeat first|exact lN9|refine lD9 ?_|refine lS9 ?_
   ·rfl
   ·exact ⟨by omega, by omega, by omega, r2, rfl⟩
   rintro ⟨c, j, u, q⟩ ⟨hjc, hc, hu, hq, hgo2⟩
   replace hjc : j = c := hjc
   subst hjc
   obtain ⟨y1, y2⟩ := celT_ok hq
   conv => whnf
   refine cI9 ?_ ?_<;>intro h9
   ·obtain ⟨c, rfl⟩ : ∃ j, c = j + 1 := ⟨c - 1, by have : (0 : Int) < c := oT9 h9; omega⟩
    repeat ((conv => whnf); refine ⟨by first | exact hq | (simp only [bsz2, zS9, zC9, zN9]; omega) | (simp only [zA9, bsz2, zS9, zC9, zN9]; omega) | (unfold inI64; omega), ?_⟩)
    conv => whnf
    refine hI9 (c, ((c + 1 : Nat) : Int) - 1, u ++ ((celT zs q).1 ++ ⟨#[32]⟩), (celT zs q).2) ?_ ?_ ?_ ?_
    ·repeat first|exact lN9|refine lD9 ?_|refine lS9 ?_
    ·rfl
    ·exact ⟨by omega, by omega, by simp only [zA9, bsz2, zS9, zC9, zN9]; omega, y2, hgo2⟩
    ·exact nS9 c
   ·have hc0 : c = 0 := by have : ¬ (0 : Int) < c := oF9 h9; omega
    subst hc0
    have e9 : (u, q) = celsG zs (modV (rawV zs (rawN zs m)) 4).toNat (t ++ ⟨#[44, 32]⟩ ++ ⟨#[60]⟩) (rawN zs (rawN zs m)) := hgo2
    rw [← e9] at inv
    repeat ((conv => whnf); refine ⟨by first | (simp only [bsz2, zS9, zC9, zN9]; omega) | (unfold inI64; omega), ?_⟩)
    conv => whnf
    refine hI9 (k, ((k + 1 : Nat) : Int) - 1, u ++ ⟨#[62]⟩, q) ?_ ?_ ?_ ?_
    ·repeat first|exact lN9|refine lD9 ?_|refine lS9 ?_
    ·rfl
    ·exact ⟨by omega, inv⟩
    ·exact nS9 k
  ·have ht : t = ⟨#[]⟩ := by
    have h2 : (!decide (t = ⟨#[]⟩)) = false := hq
    simpa using h2
   have eT : sepG t = t := by unfold sepG; rw [if_pos ht]
   rw [eT] at inv hs
   repeat ((conv => whnf); refine ⟨⟨hm, by decide⟩, ?_⟩)
   conv => whnf
   refine cI9 ?_ ?_<;>intro g0
   ·have c0 : modV (rawV zs m) 6 = 0 := oT9 g0
    have e : prtG zs (t) m = (t ++ ⟨#[34, 116, 101, 120, 116, 34]⟩, rawN zs m) := by unfold prtG; rw [if_pos c0]
    rw [e] at inv
    repeat ((conv => whnf); refine ⟨by first | (simp only [bsz2, zS9, zC9, zN9]; omega) | (unfold inI64; omega), ?_⟩)
    conv => whnf
    refine hI9 (k, ((k + 1 : Nat) : Int) - 1, t ++ ⟨#[34, 116, 101, 120, 116, 34]⟩, rawN zs m) ?_ ?_ ?_ ?_
    ·repeat first|exact lN9|refine lD9 ?_|refine lS9 ?_
    ·rfl
    ·exact ⟨by omega, inv⟩
    ·exact nS9 k
   have n0 : ¬ modV (rawV zs m) 6 = 0 := oF9 g0
   conv => whnf
   refine cI9 ?_ ?_<;>intro g1
   ·have c1 : modV (rawV zs m) 6 = 1 := oT9 g1
    have e : prtG zs (t) m = (t ++ ⟨#[91, 32, 48, 32, 49, 55, 32, 50, 53, 53, 32, 93]⟩, rawN zs m) := by unfold prtG; rw [if_neg n0, if_pos c1]
    rw [e] at inv
    repeat ((conv => whnf); refine ⟨by first | (simp only [bsz2, zS9, zC9, zN9]; omega) | (unfold inI64; omega), ?_⟩)
    conv => whnf
    refine hI9 (k, ((k + 1 : Nat) : Int) - 1, t ++ ⟨#[91, 32, 48, 32, 49, 55, 32, 50, 53, 53, 32, 93]⟩, rawN zs m) ?_ ?_ ?_ ?_
    ·repeat first|exact lN9|refine lD9 ?_|refine lS9 ?_
    ·rfl
    ·exact ⟨by omega, inv⟩
    ·exact nS9 k
   have n1 : ¬ modV (rawV zs m) 6 = 1 := oF9 g1
   conv => whnf
   refine cI9 ?_ ?_<;>intro g2
   ·have c2 : modV (rawV zs m) 6 = 2 := oT9 g2
    have e : prtG zs (t) m = (t ++ (⟨#[38]⟩ ++ pickS labL zs (rawN zs m)), rawN zs (rawN zs m)) := by unfold prtG; rw [if_neg n0, if_neg n1, if_pos c2]
    rw [e] at inv
    repeat ((conv => whnf); refine ⟨by first | exact r1 | (simp only [bsz2, zS9, zC9, zN9]; omega) | (simp only [zA9, bsz2, zS9, zC9, zN9]; omega) | (unfold inI64; omega), ?_⟩)
    conv => whnf
    refine hI9 (k, ((k + 1 : Nat) : Int) - 1, t ++ (⟨#[38]⟩ ++ pickS labL zs (rawN zs m)), rawN zs (rawN zs m)) ?_ ?_ ?_ ?_
    ·repeat first|exact lN9|refine lD9 ?_|refine lS9 ?_
    ·rfl
    ·exact ⟨by omega, inv⟩
    ·exact nS9 k
   have n2 : ¬ modV (rawV zs m) 6 = 2 := oF9 g2
   conv => whnf
   refine cI9 ?_ ?_<;>intro g3
   ·have c3 : modV (rawV zs m) 6 = 3 := oT9 g3
    have e : prtG zs (t) m = (t ++ ⟨#[34, 97, 92, 120, 52, 49, 92, 110, 34]⟩, rawN zs m) := by unfold prtG; rw [if_neg n0, if_neg n1, if_neg n2, if_pos c3]
    rw [e] at inv
    repeat ((conv => whnf); refine ⟨by first | (simp only [bsz2, zS9, zC9, zN9]; omega) | (unfold inI64; omega), ?_⟩)
    conv => whnf
    refine hI9 (k, ((k + 1 : Nat) : Int) - 1, t ++ ⟨#[34, 97, 92, 120, 52, 49, 92, 110, 34]⟩, rawN zs m) ?_ ?_ ?_ ?_
    ·repeat first|exact lN9|refine lD9 ?_|refine lS9 ?_
    ·rfl
    ·exact ⟨by omega, inv⟩
    ·exact nS9 k
   have n3 : ¬ modV (rawV zs m) 6 = 3 := oF9 g3
   repeat ((conv => whnf); refine ⟨by (simp only [bsz2, zS9, zC9, zN9]; omega), ?_⟩)
   conv => whnf
   have hj0 := mN9 (rawV zs (rawN zs m)) 4
   have hj1 := modV_lt (rawV zs (rawN zs m)) 4 (by decide)
   have e : prtG zs (t) m = ((celsG zs (modV (rawV zs (rawN zs m)) 4).toNat (t ++ ⟨#[60]⟩) (rawN zs (rawN zs m))).1 ++ ⟨#[62]⟩, (celsG zs (modV (rawV zs (rawN zs m)) 4).toNat (t ++ ⟨#[60]⟩) (rawN zs (rawN zs m))).2) := by unfold prtG; rw [if_neg n0, if_neg n1, if_neg n2, if_neg n3]
   rw [e] at inv
   have z6 : (t ++ ⟨#[60]⟩ : ByteArray).size ≤ 4000 := by simp only [zA9, bsz2, zS9, zC9, zN9]; omega
   conv => whnf
   refine lI9 (σ := Nat × Int × ByteArray × Int) (fun ⟨_, j, u, _⟩ => [(0, XV.s (.a (.c (.ptr 0 0)))), (2, nX9), (3, XV.s (.a (.c (.p (.v (.string u)))))), (4, XV.s (.int .i64 ((k + 1 : Nat) : Int))), (5, XV.s (.int .i64 j)), (9, nX9), (13, nX9), (17, nX9), (23, nX9), (33, nX9), (37, nX9), (41, nX9), (48, nX9)])
    (fun ⟨_, _, _, q⟩ => [tapeO zs q]) (fun ⟨c, j, u, q⟩ => j = c ∧ c ≤ 3 ∧ u.size ≤ 4000 + 403 * (3 - c) ∧ tapeOk zs q ∧ celsG zs c u q = celsG zs (modV (rawV zs (rawN zs m)) 4).toNat (t ++ ⟨#[60]⟩) (rawN zs (rawN zs m))) (fun ⟨c, _, _, _⟩ => c) ((modV (rawV zs (rawN zs m)) 4).toNat, modV (rawV zs (rawN zs m)) 4, t ++ ⟨#[60]⟩, rawN zs (rawN zs m)) ?_ ?_ ?_ ?_
   ·repeat first|exact lN9|refine lD9 ?_|refine lS9 ?_
   ·rfl
   ·exact ⟨by omega, by omega, by omega, r2, rfl⟩
   rintro ⟨c, j, u, q⟩ ⟨hjc, hc, hu, hq, hgo2⟩
   replace hjc : j = c := hjc
   subst hjc
   obtain ⟨y1, y2⟩ := celT_ok hq
   conv => whnf
   refine cI9 ?_ ?_<;>intro h9
   ·obtain ⟨c, rfl⟩ : ∃ j, c = j + 1 := ⟨c - 1, by have : (0 : Int) < c := oT9 h9; omega⟩
    repeat ((conv => whnf); refine ⟨by first | exact hq | (simp only [bsz2, zS9, zC9, zN9]; omega) | (simp only [zA9, bsz2, zS9, zC9, zN9]; omega) | (unfold inI64; omega), ?_⟩)
    conv => whnf
    refine hI9 (c, ((c + 1 : Nat) : Int) - 1, u ++ ((celT zs q).1 ++ ⟨#[32]⟩), (celT zs q).2) ?_ ?_ ?_ ?_
    ·repeat first|exact lN9|refine lD9 ?_|refine lS9 ?_
    ·rfl
    ·exact ⟨by omega, by omega, by simp only [zA9, bsz2, zS9, zC9, zN9]; omega, y2, hgo2⟩
    ·exact nS9 c
   ·have hc0 : c = 0 := by have : ¬ (0 : Int) < c := oF9 h9; omega
    subst hc0
    have e9 : (u, q) = celsG zs (modV (rawV zs (rawN zs m)) 4).toNat (t ++ ⟨#[60]⟩) (rawN zs (rawN zs m)) := hgo2
    rw [← e9] at inv
    repeat ((conv => whnf); refine ⟨by first | (simp only [bsz2, zS9, zC9, zN9]; omega) | (unfold inI64; omega), ?_⟩)
    conv => whnf
    refine hI9 (k, ((k + 1 : Nat) : Int) - 1, u ++ ⟨#[62]⟩, q) ?_ ?_ ?_ ?_
    ·repeat first|exact lN9|refine lD9 ?_|refine lS9 ?_
    ·rfl
    ·exact ⟨by omega, inv⟩
    ·exact nS9 k
 ·have hk0 : k = 0 := by have : ¬ (0 : Int) < k := oF9 h; omega
  subst hk0
  conv => whnf
  rw [← hgo]
  exact eR9
def ph4L : List ByteArray := [⟨#[49]⟩, ⟨#[50]⟩, ⟨#[55]⟩, ⟨#[57]⟩]
theorem prop_size (zs : List Int) (n : Int) : (pickS propL zs n).size ≤ 10 := pick_size (by decide +kernel) zs n
theorem name_size (zs : List Int) (n : Int) : (pickS nameL zs n).size ≤ 6 := pick_size (by decide +kernel) zs n
theorem ph4_size (zs : List Int) (n : Int) : (pickS ph4L zs n).size ≤ 1 := pick_size (by decide +kernel) zs n
def nodG (r : Int → ByteArray × Int) (zs : List Int) (t : ByteArray) (m : Int) : ByteArray × Int :=
 if modV (rawV zs m) 2 = 0 then (t ++ (pickS labL zs (rawN zs m) ++ ⟨#[58, 32]⟩) ++ (pickS nameL zs (rawN zs (rawN zs m)) ++ ⟨#[32, 123, 10]⟩ ++ (r (rawN zs (rawN zs (rawN zs m)))).1 ++ ⟨#[125, 59, 10]⟩), (r (rawN zs (rawN zs (rawN zs m)))).2)
 else (t ++ (pickS nameL zs (rawN zs m) ++ ⟨#[32, 123, 10]⟩ ++ (r (rawN zs (rawN zs m))).1 ++ ⟨#[125, 59, 10]⟩), (r (rawN zs (rawN zs m))).2)
def memP (r : Option (Int → ByteArray × Int)) (zs : List Int) (t : ByteArray) (n : Int) : ByteArray × Int :=
 if modV (rawV zs n) 12 < 5 then (t ++ (pickS propL zs (rawN zs n) ++ ⟨#[32, 61, 32]⟩ ++ (valT zs (rawN zs (rawN zs n))).1 ++ ⟨#[59, 32]⟩), (valT zs (rawN zs (rawN zs n))).2)
 else if modV (rawV zs n) 12 = 5 then (t ++ (pickS propL zs (rawN zs n) ++ ⟨#[59, 32]⟩), rawN zs (rawN zs n))
 else if modV (rawV zs n) 12 = 6 then (t ++ (⟨#[47, 100, 101, 108, 101, 116, 101, 45, 112, 114, 111, 112, 101, 114, 116, 121, 47, 32]⟩ ++ pickS propL zs (rawN zs n) ++ ⟨#[59, 32]⟩), rawN zs (rawN zs n))
 else if modV (rawV zs n) 12 = 7 then (t ++ (⟨#[47, 100, 101, 108, 101, 116, 101, 45, 110, 111, 100, 101, 47, 32]⟩ ++ pickS nameL zs (rawN zs n) ++ ⟨#[59, 10]⟩), rawN zs (rawN zs n))
 else if modV (rawV zs n) 12 = 8 then
  (if modV (rawV zs (rawN zs n)) 3 = 0 then (t ++ (⟨#[112, 104, 97, 110, 100, 108, 101, 32, 61, 32, 60]⟩ ++ pickS ph4L zs (rawN zs (rawN zs n)) ++ ⟨#[62, 59, 32]⟩), rawN zs (rawN zs (rawN zs n)))
   else match r with | some r => nodG r zs t (rawN zs (rawN zs n)) | none => (t, rawN zs (rawN zs n)))
 else match r with | some r => nodG r zs t (rawN zs n) | none => (t, rawN zs n)
def memG (r : Option (Int → ByteArray × Int)) (zs : List Int) : Nat → ByteArray → Int → ByteArray × Int
 | 0, t, n => (t, n)
 | k + 1, t, n => memG r zs k (memP r zs t n).1 (memP r zs t n).2
def memT (zs : List Int) : Nat → Int → ByteArray × Int
 | 0, n => memG none zs (modV (rawV zs n) 5).toNat ⟨#[]⟩ (rawN zs n)
 | d + 1, n => memG (some (memT zs d)) zs (modV (rawV zs n) 5).toNat ⟨#[]⟩ (rawN zs n)
def RecOk (r : Option (Int → ByteArray × Int)) (zs : List Int) (m : Nat) : Prop := match r with
 | some r => ∀ n, tapeOk zs n → (r n).1.size ≤ m ∧ tapeOk zs (r n).2
 | none => True
theorem nodG_ok {r : Int → ByteArray × Int} {zs : List Int} {m : Nat} (hr : RecOk (some r) zs m) (t : ByteArray) {n : Int} (h : tapeOk zs n) : (nodG r zs t n).1.size ≤ t.size + 20 + m ∧ tapeOk zs (nodG r zs t n).2 := by
 have h1 := rawN_ok h
 have h2 := rawN_ok h1
 have h3 := rawN_ok h2
 have hl := lab_size zs (rawN zs n)
 have ha := name_size zs (rawN zs n)
 have hb := name_size zs (rawN zs (rawN zs n))
 obtain ⟨q1, q2⟩ := hr _ h3
 obtain ⟨q3, q4⟩ := hr _ h2
 unfold nodG
 split
 ·exact ⟨by simp only [zA9, bsz2, zS9, zC9, zN9]; omega, q2⟩
 ·exact ⟨by simp only [zA9, bsz2, zS9, zC9, zN9]; omega, q4⟩
theorem memP_ok {r : Option (Int → ByteArray × Int)} {zs : List Int} {m : Nat} (hr : RecOk r zs m) (t : ByteArray) {n : Int} (h : tapeOk zs n) : (memP r zs t n).1.size ≤ t.size + 4000 + m ∧ tapeOk zs (memP r zs t n).2 := by
 have h1 := rawN_ok h
 have h2 := rawN_ok h1
 have h3 := rawN_ok h2
 have hp := prop_size zs (rawN zs n)
 have ha := name_size zs (rawN zs n)
 have h4 := ph4_size zs (rawN zs (rawN zs n))
 obtain ⟨v1, v2⟩ := valT_ok h2
 unfold memP
 split
 ·exact ⟨by simp only [zA9, bsz2, zS9, zC9, zN9]; omega, v2⟩
 ·split
  ·exact ⟨by simp only [zA9, bsz2, zS9, zC9, zN9]; omega, h2⟩
  ·split
   ·exact ⟨by simp only [zA9, bsz2, zS9, zC9, zN9]; omega, h2⟩
   ·split
    ·exact ⟨by simp only [zA9, bsz2, zS9, zC9, zN9]; omega, h2⟩
    ·split
     ·split
      ·exact ⟨by simp only [zA9, bsz2, zS9, zC9, zN9]; omega, h3⟩
      ·cases r with
       | some r =>
        obtain ⟨q1, q2⟩ := nodG_ok hr t h2
        exact ⟨by show (nodG r zs t _).1.size ≤ _; omega, q2⟩
       | none => exact ⟨by show t.size ≤ _; omega, h2⟩
     ·cases r with
      | some r =>
       obtain ⟨q1, q2⟩ := nodG_ok hr t h1
       exact ⟨by show (nodG r zs t _).1.size ≤ _; omega, q2⟩
      | none => exact ⟨by show t.size ≤ _; omega, h1⟩
theorem memG_ok {r : Option (Int → ByteArray × Int)} {zs : List Int} {m : Nat} (hr : RecOk r zs m) : ∀ (k : Nat) (t : ByteArray) {n : Int}, tapeOk zs n → (memG r zs k t n).1.size ≤ t.size + (4000 + m) * k ∧ tapeOk zs (memG r zs k t n).2 := by
 intro k
 induction k with
 | zero => intro t n h; exact ⟨Nat.le_add_right _ _, h⟩
 | succ k ih =>
  intro t n h
  obtain ⟨h1, h2⟩ := memP_ok hr t h
  obtain ⟨h3, h4⟩ := ih (memP r zs t n).1 h2
  refine ⟨?_, h4⟩
  simp only [memG]
  rw [Nat.mul_succ]
  omega
def memZ : Nat → Nat
 | 0 => 16000
 | d + 1 => (4000 + memZ d) * 4
theorem memT_ok {zs : List Int} : ∀ (d : Nat) {n : Int}, tapeOk zs n → (memT zs d n).1.size ≤ memZ d ∧ tapeOk zs (memT zs d n).2 := by
 intro d
 induction d with
 | zero =>
  intro n h
  have hm := modV_lt (rawV zs n) 5 (by decide)
  obtain ⟨h1, h2⟩ := memG_ok (r := none) (m := 0) (zs := zs) trivial (modV (rawV zs n) 5).toNat ⟨#[]⟩ (rawN_ok h)
  refine ⟨?_, h2⟩
  have h3 : (⟨#[]⟩ : ByteArray).size = 0 := rfl
  simp only [memT, memZ]
  omega
 | succ d ih =>
  intro n h
  have hm := modV_lt (rawV zs n) 5 (by decide)
  obtain ⟨h1, h2⟩ := memG_ok (r := some (memT zs d)) (m := memZ d) (zs := zs) (fun n h => ih h) (modV (rawV zs n) 5).toNat ⟨#[]⟩ (rawN_ok h)
  refine ⟨?_, h2⟩
  have h3 : (⟨#[]⟩ : ByteArray).size = 0 := rfl
  have h4 : (4000 + memZ d) * (modV (rawV zs n) 5).toNat ≤ (4000 + memZ d) * 4 := Nat.mul_le_mul_left _ (by omega)
  simp only [memT, memZ]
  omega
end Go.Ab
