/- Package bringupgrow: Members. -/
import Derived.Test.YtkgcgbpclpmleaaGreatTX23toX24
import Derived.Test.YtkgcgbpclpmleaaGreatTX13toY42
import Derived.Test.YtkgcgbpclpmleaaGreatTX8toX10
namespace Go.Ab
open Go.Proofs
set_option linter.unusedSectionVars false
set_option maxRecDepth 100000
variable [Glob]
def saysMem (K : Nat) : Says := saysTapeI fun zs n d => (some (tapeOk zs n ∧ 0 ≤ d ∧ d ≤ K ∧ K ≤ 3), .str (memT zs d.toNat n).1, (memT zs d.toNat n).2)
theorem memZ_le : ∀ d, d ≤ 3 → (4000 + memZ d) * 4 ≤ 6000000 ∧ memZ d ≤ 6000000 := by decide
set_option maxHeartbeats 4000000 in
theorem z9k (K : Nat) : TS9 (ext Z8 11 (saysMem K)) := by
 refine ext_rec z8 (f := 11) (fn := Tryz.f11) rfl rfl [0, 1, 4, 5, 6, 7, 11, 16, 28, 36, 45, 54, 71, 76] (fun K args H p r H' hs hp => ?_) K
 unfold saysMem saysTapeI at hs
 split at hs
 ·rename_i d zs n
  cases hs
  obtain ⟨ht, h0, h1, h2⟩ : tapeOk zs n ∧ 0 ≤ d ∧ d ≤ K ∧ K ≤ 3 := hp
  refine ⟨nB9 rfl, [0], rfl, id0, ?_⟩
  obtain ⟨d, rfl⟩ : ∃ m : Nat, d = m := ⟨d.toNat, by omega⟩
  have hm0 := mN9 (rawV zs n) 5
  have hm1 := modV_lt (rawV zs n) 5 (by decide)
  cases d with
  | zero =>
   repeat ((conv => whnf); refine ⟨⟨ht, by decide⟩, ?_⟩)
   conv => whnf
   refine lI9 (σ := Nat × Int × ByteArray × Int) (fun ⟨_, i, t, _⟩ => [(0, XV.s (.a (.c (.ptr 0 0)))), (1, XV.s (.int .i64 ((0 : Nat) : Int))), (4, nX9), (5, XV.s (.a (.c (.p (.v (.string t)))))), (6, XV.s (.int .i64 i)), (7, nX9), (11, nX9), (16, nX9), (28, nX9), (36, nX9), (45, nX9), (54, nX9), (71, nX9), (76, nX9)])
    (fun ⟨_, _, _, m⟩ => [tapeO zs m]) (fun ⟨k, i, t, m⟩ => i = k ∧ k ≤ 4 ∧ t.size ≤ 4000 * (4 - k) ∧ tapeOk zs m ∧ memG (none) zs k t m = memT zs (0) n) (fun ⟨k, _, _, _⟩ => k) ((modV (rawV zs n) 5).toNat, modV (rawV zs n) 5, ⟨#[]⟩, rawN zs n) ?_ ?_ ?_ ?_
   ·repeat first|exact lN9|refine lD9 ?_|refine lS9 ?_
   ·rfl
   ·exact ⟨by omega, by omega, nZ9 _, rawN_ok ht, rfl⟩
   rintro ⟨k, i, t, m⟩ ⟨hik, hk, hz, hm, hgo⟩
   replace hik : i = k := hik
   subst hik
   conv => whnf
   refine cI9 ?_ ?_<;>intro h
   ·obtain ⟨k, rfl⟩ : ∃ j, k = j + 1 := ⟨k - 1, by have : (0 : Int) < k := oT9 h; omega⟩
    obtain ⟨p1, p2⟩ := memP_ok (r := none) (m := 0) (zs := zs) (trivial) t hm
    have hz0 : t.size ≤ 6000000 := by omega
    have inv : k ≤ 4 ∧ (memP (none) zs t m).1.size ≤ 4000 * (4 - k) ∧ tapeOk zs (memP (none) zs t m).2 ∧ memG (none) zs k (memP (none) zs t m).1 (memP (none) zs t m).2 = memT zs (0) n := by
     refine ⟨by omega, ?_, p2, hgo⟩
     rw [show 4 - k = (4 - (k + 1)) + 1 by omega, Nat.mul_succ]
     omega
    have r1 := rawN_ok hm
    have r2 := rawN_ok r1
    have r3 := rawN_ok r2
    have b1 := prop_size zs (rawN zs m)
    have b2 := name_size zs (rawN zs m)
    have b3 : ([⟨#[49]⟩, ⟨#[50]⟩, ⟨#[55]⟩, ⟨#[57]⟩].getD (modV (rawV zs (rawN zs (rawN zs m))) 4).toNat CT.str.dflt : ByteArray).size ≤ 1 := ph4_size zs (rawN zs (rawN zs m))
    obtain ⟨v1, v2⟩ := valT_ok r2
    have hi4 : 0 ≤ modV (rawV zs (rawN zs (rawN zs m))) 4 ∧ modV (rawV zs (rawN zs (rawN zs m))) 4 < 4 := ⟨mN9 _ _, modV_lt _ _ (by decide)⟩
    repeat ((conv => whnf); refine ⟨⟨hm, by decide⟩, ?_⟩)
    conv => whnf
    refine cI9 ?_ ?_<;>intro g0
    ·have c0 : modV (rawV zs m) 12 < 5 := oT9 g0
     repeat ((conv => whnf); refine ⟨by first | exact r1 | exact r2 | (simp only [zA9, bsz2, zS9, zC9, zN9]; omega) | (unfold inI64; omega), ?_⟩)
     conv => whnf
     have e : memP (none) zs t m = (t ++ (pickS propL zs (rawN zs m) ++ ⟨#[32, 61, 32]⟩ ++ (valT zs (rawN zs (rawN zs m))).1 ++ ⟨#[59, 32]⟩), (valT zs (rawN zs (rawN zs m))).2) := by unfold memP; rw [if_pos c0]
     rw [e] at inv
     refine hI9 (k, ((k + 1 : Nat) : Int) - 1, t ++ (pickS propL zs (rawN zs m) ++ ⟨#[32, 61, 32]⟩ ++ (valT zs (rawN zs (rawN zs m))).1 ++ ⟨#[59, 32]⟩), (valT zs (rawN zs (rawN zs m))).2) ?_ ?_ ?_ ?_
     ·repeat first|exact lN9|refine lD9 ?_|refine lS9 ?_
     ·rfl
     ·exact ⟨by omega, inv⟩
     ·exact nS9 k
    have n0 : ¬ modV (rawV zs m) 12 < 5 := oF9 g0
    conv => whnf
    refine cI9 ?_ ?_<;>intro g1
    ·have c1 : modV (rawV zs m) 12 = 5 := oT9 g1
     repeat ((conv => whnf); refine ⟨by first | exact r1 | (simp only [zA9, bsz2, zS9, zC9, zN9]; omega) | (unfold inI64; omega), ?_⟩)
     conv => whnf
     have e : memP (none) zs t m = (t ++ (pickS propL zs (rawN zs m) ++ ⟨#[59, 32]⟩), (rawN zs (rawN zs m))) := by unfold memP; rw [if_neg n0, if_pos c1]
     rw [e] at inv
     refine hI9 (k, ((k + 1 : Nat) : Int) - 1, t ++ (pickS propL zs (rawN zs m) ++ ⟨#[59, 32]⟩), (rawN zs (rawN zs m))) ?_ ?_ ?_ ?_
     ·repeat first|exact lN9|refine lD9 ?_|refine lS9 ?_
     ·rfl
     ·exact ⟨by omega, inv⟩
     ·exact nS9 k
    have n1 : ¬ modV (rawV zs m) 12 = 5 := oF9 g1
    conv => whnf
    refine cI9 ?_ ?_<;>intro g2
    ·have c2 : modV (rawV zs m) 12 = 6 := oT9 g2
     repeat ((conv => whnf); refine ⟨by first | exact r1 | (simp only [zA9, bsz2, zS9, zC9, zN9]; omega) | (unfold inI64; omega), ?_⟩)
     conv => whnf
     have e : memP (none) zs t m = (t ++ (⟨#[47, 100, 101, 108, 101, 116, 101, 45, 112, 114, 111, 112, 101, 114, 116, 121, 47, 32]⟩ ++ pickS propL zs (rawN zs m) ++ ⟨#[59, 32]⟩), (rawN zs (rawN zs m))) := by unfold memP; rw [if_neg n0, if_neg n1, if_pos c2]
     rw [e] at inv
     refine hI9 (k, ((k + 1 : Nat) : Int) - 1, t ++ (⟨#[47, 100, 101, 108, 101, 116, 101, 45, 112, 114, 111, 112, 101, 114, 116, 121, 47, 32]⟩ ++ pickS propL zs (rawN zs m) ++ ⟨#[59, 32]⟩), (rawN zs (rawN zs m))) ?_ ?_ ?_ ?_
     ·repeat first|exact lN9|refine lD9 ?_|refine lS9 ?_
     ·rfl
     ·exact ⟨by omega, inv⟩
     ·exact nS9 k
    have n2 : ¬ modV (rawV zs m) 12 = 6 := oF9 g2
    conv => whnf
    refine cI9 ?_ ?_<;>intro g3
    ·have c3 : modV (rawV zs m) 12 = 7 := oT9 g3
     repeat ((conv => whnf); refine ⟨by first | exact r1 | (simp only [zA9, bsz2, zS9, zC9, zN9]; omega) | (unfold inI64; omega), ?_⟩)
     conv => whnf
     have e : memP (none) zs t m = (t ++ (⟨#[47, 100, 101, 108, 101, 116, 101, 45, 110, 111, 100, 101, 47, 32]⟩ ++ pickS nameL zs (rawN zs m) ++ ⟨#[59, 10]⟩), (rawN zs (rawN zs m))) := by unfold memP; rw [if_neg n0, if_neg n1, if_neg n2, if_pos c3]
     rw [e] at inv
     refine hI9 (k, ((k + 1 : Nat) : Int) - 1, t ++ (⟨#[47, 100, 101, 108, 101, 116, 101, 45, 110, 111, 100, 101, 47, 32]⟩ ++ pickS nameL zs (rawN zs m) ++ ⟨#[59, 10]⟩), (rawN zs (rawN zs m))) ?_ ?_ ?_ ?_
     ·repeat first|exact lN9|refine lD9 ?_|refine lS9 ?_
     ·rfl
     ·exact ⟨by omega, inv⟩
     ·exact nS9 k
    have n3 : ¬ modV (rawV zs m) 12 = 7 := oF9 g3
    conv => whnf
    refine cI9 ?_ ?_<;>intro g4
    ·have c4 : modV (rawV zs m) 12 = 8 := by
      have h2 : lit true (decide (modV (rawV zs m) 12 = 8)) = true := g4
      simpa [lit] using h2
     repeat ((conv => whnf); refine ⟨⟨r1, by decide⟩, ?_⟩)
     conv => whnf
     refine cI9 ?_ ?_<;>intro g5
     ·have c5 : modV (rawV zs (rawN zs m)) 3 = 0 := by
       have h2 : (decide (modV (rawV zs m) 12 = 8) && decide (modV (rawV zs (rawN zs m)) 3 = 0)) = true := g5
       exact oT9 (bA9.1 h2).2
      conv => whnf
      refine ⟨by exact ⟨r2, by decide⟩, ?_⟩
      conv => whnf
      refine ⟨by exact hi4, ?_⟩
      conv => whnf
      refine ⟨by ((try dsimp only); first | (simp only [bsz2, zS9, zC9, zN9]; omega) | (simp only [zA9, bsz2, zS9, zC9, zN9]; omega)), ?_⟩
      conv => whnf
      refine ⟨by ((try dsimp only); first | (simp only [bsz2, zS9, zC9, zN9]; omega) | (simp only [zA9, bsz2, zS9, zC9, zN9]; omega)), ?_⟩
      conv => whnf
      refine ⟨by ((try dsimp only); first | (simp only [bsz2, zS9, zC9, zN9]; omega) | (simp only [zA9, bsz2, zS9, zC9, zN9]; omega)), ?_⟩
      repeat ((conv => whnf); refine ⟨by (unfold inI64; omega), ?_⟩)
      conv => whnf
      have e : memP (none) zs t m = (t ++ (⟨#[112, 104, 97, 110, 100, 108, 101, 32, 61, 32, 60]⟩ ++ pickS ph4L zs (rawN zs (rawN zs m)) ++ ⟨#[62, 59, 32]⟩), (rawN zs (rawN zs (rawN zs m)))) := by unfold memP; rw [if_neg n0, if_neg n1, if_neg n2, if_neg n3, if_pos c4, if_pos c5]
      rw [e] at inv
      refine kI9 (k, ((k + 1 : Nat) : Int) - 1, t ++ (⟨#[112, 104, 97, 110, 100, 108, 101, 32, 61, 32, 60]⟩ ++ pickS ph4L zs (rawN zs (rawN zs m)) ++ ⟨#[62, 59, 32]⟩), (rawN zs (rawN zs (rawN zs m)))) [0] rfl id0 rfl ?_ ?_ ?_
      ·repeat first|exact kN9|refine kD9 ?_|refine kR9 rfl ?_
      ·exact ⟨by omega, inv⟩
      ·exact nS9 k
     ·have c5 : ¬ modV (rawV zs (rawN zs m)) 3 = 0 := by
       have h2 : (decide (modV (rawV zs m) 12 = 8) && decide (modV (rawV zs (rawN zs m)) 3 = 0)) = false := g5
       intro h3
       rw [c4, h3] at h2
       cases h2
      repeat ((conv => whnf); refine ⟨by (unfold inI64; omega), ?_⟩)
      conv => whnf
      have e : memP (none) zs t m = (t, (rawN zs (rawN zs m))) := by unfold memP; rw [if_neg n0, if_neg n1, if_neg n2, if_neg n3, if_pos c4, if_neg c5]
      rw [e] at inv
      refine hI9 (k, ((k + 1 : Nat) : Int) - 1, t, (rawN zs (rawN zs m))) ?_ ?_ ?_ ?_
      ·repeat first|exact lN9|refine lD9 ?_|refine lS9 ?_
      ·rfl
      ·exact ⟨by omega, inv⟩
      ·exact nS9 k
    ·have c4 : ¬ modV (rawV zs m) 12 = 8 := by
      have h2 : lit true (decide (modV (rawV zs m) 12 = 8)) = false := g4
      simpa [lit] using h2
     conv => whnf
     refine cI9 (fun g5 => by rw [g4] at g5; cases g5) (fun _ => ?_)
     conv => whnf
     refine cI9 (fun g6 => ?_) (fun _ => ?_)
     ·exfalso
      have h2 : (decide (modV (rawV zs m) 12 = 8) && false) = true := g6
      simp at h2
     ·repeat ((conv => whnf); refine ⟨by (unfold inI64; omega), ?_⟩)
      conv => whnf
      have e : memP (none) zs t m = (t, (rawN zs m)) := by unfold memP; rw [if_neg n0, if_neg n1, if_neg n2, if_neg n3, if_neg c4]
      rw [e] at inv
      refine hI9 (k, ((k + 1 : Nat) : Int) - 1, t, (rawN zs m)) ?_ ?_ ?_ ?_
      ·repeat first|exact lN9|refine lD9 ?_|refine lS9 ?_
      ·rfl
      ·exact ⟨by omega, inv⟩
      ·exact nS9 k
   ·have hk0 : k = 0 := by have : ¬ (0 : Int) < k := oF9 h; omega
    subst hk0
    have e9 : (t, m) = memT zs (0) n := hgo
    conv => whnf
    refine eE9 ⟨?_, ?_⟩
    ·show SV.str t = SV.str (memT zs (((0 : Nat) : Int) : Int).toNat n).1
     rw [show ((((0 : Nat) : Int) : Int).toNat) = 0 from rfl, ← e9]
    ·show [tapeO zs m] = [tapeO zs (memT zs (((0 : Nat) : Int) : Int).toNat n).2]
     rw [show ((((0 : Nat) : Int) : Int).toNat) = 0 from rfl, ← e9]
  | succ d =>
   cases K with
   | zero => exfalso; omega
   | succ K =>
   have hE : (((d + 1 : Nat) : Int) - 1).toNat = d := by omega
   have hzd := memZ_le d (by omega)
   repeat ((conv => whnf); refine ⟨⟨ht, by decide⟩, ?_⟩)
   conv => whnf
   refine lI9 (σ := Nat × Int × ByteArray × Int) (fun ⟨_, i, t, _⟩ => [(0, XV.s (.a (.c (.ptr 0 0)))), (1, XV.s (.int .i64 ((d + 1 : Nat) : Int))), (4, nX9), (5, XV.s (.a (.c (.p (.v (.string t)))))), (6, XV.s (.int .i64 i)), (7, nX9), (11, nX9), (16, nX9), (28, nX9), (36, nX9), (45, nX9), (54, nX9), (71, nX9), (76, nX9)])
    (fun ⟨_, _, _, m⟩ => [tapeO zs m]) (fun ⟨k, i, t, m⟩ => i = k ∧ k ≤ 4 ∧ t.size ≤ (4000 + memZ (((d + 1 : Nat) : Int) - 1).toNat) * (4 - k) ∧ tapeOk zs m ∧ memG (some (memT zs (((d + 1 : Nat) : Int) - 1).toNat)) zs k t m = memT zs (d + 1) n) (fun ⟨k, _, _, _⟩ => k) ((modV (rawV zs n) 5).toNat, modV (rawV zs n) 5, ⟨#[]⟩, rawN zs n) ?_ ?_ ?_ ?_
   ·repeat first|exact lN9|refine lD9 ?_|refine lS9 ?_
   ·rfl
   ·exact ⟨by omega, by omega, nZ9 _, rawN_ok ht, by rw [hE]; rfl⟩
   rintro ⟨k, i, t, m⟩ ⟨hik, hk, hz, hm, hgo⟩
   replace hik : i = k := hik
   subst hik
   conv => whnf
   refine cI9 ?_ ?_<;>intro h
   ·obtain ⟨k, rfl⟩ : ∃ j, k = j + 1 := ⟨k - 1, by have : (0 : Int) < k := oT9 h; omega⟩
    obtain ⟨p1, p2⟩ := memP_ok (r := some (memT zs (((d + 1 : Nat) : Int) - 1).toNat)) (m := memZ (((d + 1 : Nat) : Int) - 1).toNat) (zs := zs) (fun n h => memT_ok _ h) t hm
    have hz0 : t.size ≤ 6000000 := by rw [hE] at hz p1; have := hzd; have h7 : (4000 + memZ d) * (4 - (k + 1)) ≤ (4000 + memZ d) * 4 := Nat.mul_le_mul_left _ (by omega); omega
    have inv : k ≤ 4 ∧ (memP (some (memT zs (((d + 1 : Nat) : Int) - 1).toNat)) zs t m).1.size ≤ (4000 + memZ (((d + 1 : Nat) : Int) - 1).toNat) * (4 - k) ∧ tapeOk zs (memP (some (memT zs (((d + 1 : Nat) : Int) - 1).toNat)) zs t m).2 ∧ memG (some (memT zs (((d + 1 : Nat) : Int) - 1).toNat)) zs k (memP (some (memT zs (((d + 1 : Nat) : Int) - 1).toNat)) zs t m).1 (memP (some (memT zs (((d + 1 : Nat) : Int) - 1).toNat)) zs t m).2 = memT zs (d + 1) n := by
     refine ⟨by omega, ?_, p2, hgo⟩
     rw [show 4 - k = (4 - (k + 1)) + 1 by omega, Nat.mul_succ]
     omega
    have r1 := rawN_ok hm
    have r2 := rawN_ok r1
    have r3 := rawN_ok r2
    have b1 := prop_size zs (rawN zs m)
    have b2 := name_size zs (rawN zs m)
    have b3 : ([⟨#[49]⟩, ⟨#[50]⟩, ⟨#[55]⟩, ⟨#[57]⟩].getD (modV (rawV zs (rawN zs (rawN zs m))) 4).toNat CT.str.dflt : ByteArray).size ≤ 1 := ph4_size zs (rawN zs (rawN zs m))
    obtain ⟨v1, v2⟩ := valT_ok r2
    have hi4 : 0 ≤ modV (rawV zs (rawN zs (rawN zs m))) 4 ∧ modV (rawV zs (rawN zs (rawN zs m))) 4 < 4 := ⟨mN9 _ _, modV_lt _ _ (by decide)⟩
    repeat ((conv => whnf); refine ⟨⟨hm, by decide⟩, ?_⟩)
    conv => whnf
    refine cI9 ?_ ?_<;>intro g0
    ·have c0 : modV (rawV zs m) 12 < 5 := oT9 g0
     repeat ((conv => whnf); refine ⟨by first | exact r1 | exact r2 | (simp only [zA9, bsz2, zS9, zC9, zN9]; omega) | (unfold inI64; omega), ?_⟩)
     conv => whnf
     have e : memP (some (memT zs (((d + 1 : Nat) : Int) - 1).toNat)) zs t m = (t ++ (pickS propL zs (rawN zs m) ++ ⟨#[32, 61, 32]⟩ ++ (valT zs (rawN zs (rawN zs m))).1 ++ ⟨#[59, 32]⟩), (valT zs (rawN zs (rawN zs m))).2) := by unfold memP; rw [if_pos c0]
     rw [e] at inv
     refine hI9 (k, ((k + 1 : Nat) : Int) - 1, t ++ (pickS propL zs (rawN zs m) ++ ⟨#[32, 61, 32]⟩ ++ (valT zs (rawN zs (rawN zs m))).1 ++ ⟨#[59, 32]⟩), (valT zs (rawN zs (rawN zs m))).2) ?_ ?_ ?_ ?_
     ·repeat first|exact lN9|refine lD9 ?_|refine lS9 ?_
     ·rfl
     ·exact ⟨by omega, inv⟩
     ·exact nS9 k
    have n0 : ¬ modV (rawV zs m) 12 < 5 := oF9 g0
    conv => whnf
    refine cI9 ?_ ?_<;>intro g1
    ·have c1 : modV (rawV zs m) 12 = 5 := oT9 g1
     repeat ((conv => whnf); refine ⟨by first | exact r1 | (simp only [zA9, bsz2, zS9, zC9, zN9]; omega) | (unfold inI64; omega), ?_⟩)
     conv => whnf
     have e : memP (some (memT zs (((d + 1 : Nat) : Int) - 1).toNat)) zs t m = (t ++ (pickS propL zs (rawN zs m) ++ ⟨#[59, 32]⟩), (rawN zs (rawN zs m))) := by unfold memP; rw [if_neg n0, if_pos c1]
     rw [e] at inv
     refine hI9 (k, ((k + 1 : Nat) : Int) - 1, t ++ (pickS propL zs (rawN zs m) ++ ⟨#[59, 32]⟩), (rawN zs (rawN zs m))) ?_ ?_ ?_ ?_
     ·repeat first|exact lN9|refine lD9 ?_|refine lS9 ?_
     ·rfl
     ·exact ⟨by omega, inv⟩
     ·exact nS9 k
    have n1 : ¬ modV (rawV zs m) 12 = 5 := oF9 g1
    conv => whnf
    refine cI9 ?_ ?_<;>intro g2
    ·have c2 : modV (rawV zs m) 12 = 6 := oT9 g2
     repeat ((conv => whnf); refine ⟨by first | exact r1 | (simp only [zA9, bsz2, zS9, zC9, zN9]; omega) | (unfold inI64; omega), ?_⟩)
     conv => whnf
     have e : memP (some (memT zs (((d + 1 : Nat) : Int) - 1).toNat)) zs t m = (t ++ (⟨#[47, 100, 101, 108, 101, 116, 101, 45, 112, 114, 111, 112, 101, 114, 116, 121, 47, 32]⟩ ++ pickS propL zs (rawN zs m) ++ ⟨#[59, 32]⟩), (rawN zs (rawN zs m))) := by unfold memP; rw [if_neg n0, if_neg n1, if_pos c2]
     rw [e] at inv
     refine hI9 (k, ((k + 1 : Nat) : Int) - 1, t ++ (⟨#[47, 100, 101, 108, 101, 116, 101, 45, 112, 114, 111, 112, 101, 114, 116, 121, 47, 32]⟩ ++ pickS propL zs (rawN zs m) ++ ⟨#[59, 32]⟩), (rawN zs (rawN zs m))) ?_ ?_ ?_ ?_
     ·repeat first|exact lN9|refine lD9 ?_|refine lS9 ?_
     ·rfl
     ·exact ⟨by omega, inv⟩
     ·exact nS9 k
    have n2 : ¬ modV (rawV zs m) 12 = 6 := oF9 g2
    conv => whnf
    refine cI9 ?_ ?_<;>intro g3
    ·have c3 : modV (rawV zs m) 12 = 7 := oT9 g3
     repeat ((conv => whnf); refine ⟨by first | exact r1 | (simp only [zA9, bsz2, zS9, zC9, zN9]; omega) | (unfold inI64; omega), ?_⟩)
     conv => whnf
     have e : memP (some (memT zs (((d + 1 : Nat) : Int) - 1).toNat)) zs t m = (t ++ (⟨#[47, 100, 101, 108, 101, 116, 101, 45, 110, 111, 100, 101, 47, 32]⟩ ++ pickS nameL zs (rawN zs m) ++ ⟨#[59, 10]⟩), (rawN zs (rawN zs m))) := by unfold memP; rw [if_neg n0, if_neg n1, if_neg n2, if_pos c3]
     rw [e] at inv
     refine hI9 (k, ((k + 1 : Nat) : Int) - 1, t ++ (⟨#[47, 100, 101, 108, 101, 116, 101, 45, 110, 111, 100, 101, 47, 32]⟩ ++ pickS nameL zs (rawN zs m) ++ ⟨#[59, 10]⟩), (rawN zs (rawN zs m))) ?_ ?_ ?_ ?_
     ·repeat first|exact lN9|refine lD9 ?_|refine lS9 ?_
     ·rfl
     ·exact ⟨by omega, inv⟩
     ·exact nS9 k
    have n3 : ¬ modV (rawV zs m) 12 = 7 := oF9 g3
    conv => whnf
    refine cI9 ?_ ?_<;>intro g4
    ·have c4 : modV (rawV zs m) 12 = 8 := by
      have h2 : lit true (decide (modV (rawV zs m) 12 = 8)) = true := g4
      simpa [lit] using h2
     repeat ((conv => whnf); refine ⟨⟨r1, by decide⟩, ?_⟩)
     conv => whnf
     refine cI9 ?_ ?_<;>intro g5
     ·have c5 : modV (rawV zs (rawN zs m)) 3 = 0 := by
       have h2 : (decide (modV (rawV zs m) 12 = 8) && decide (modV (rawV zs (rawN zs m)) 3 = 0)) = true := g5
       exact oT9 (bA9.1 h2).2
      conv => whnf
      refine ⟨by exact ⟨r2, by decide⟩, ?_⟩
      conv => whnf
      refine ⟨by exact hi4, ?_⟩
      conv => whnf
      refine ⟨by ((try dsimp only); first | (simp only [bsz2, zS9, zC9, zN9]; omega) | (simp only [zA9, bsz2, zS9, zC9, zN9]; omega)), ?_⟩
      conv => whnf
      refine ⟨by ((try dsimp only); first | (simp only [bsz2, zS9, zC9, zN9]; omega) | (simp only [zA9, bsz2, zS9, zC9, zN9]; omega)), ?_⟩
      conv => whnf
      refine ⟨by ((try dsimp only); first | (simp only [bsz2, zS9, zC9, zN9]; omega) | (simp only [zA9, bsz2, zS9, zC9, zN9]; omega)), ?_⟩
      repeat ((conv => whnf); refine ⟨by (unfold inI64; omega), ?_⟩)
      conv => whnf
      have e : memP (some (memT zs (((d + 1 : Nat) : Int) - 1).toNat)) zs t m = (t ++ (⟨#[112, 104, 97, 110, 100, 108, 101, 32, 61, 32, 60]⟩ ++ pickS ph4L zs (rawN zs (rawN zs m)) ++ ⟨#[62, 59, 32]⟩), (rawN zs (rawN zs (rawN zs m)))) := by unfold memP; rw [if_neg n0, if_neg n1, if_neg n2, if_neg n3, if_pos c4, if_pos c5]
      rw [e] at inv
      refine kI9 (k, ((k + 1 : Nat) : Int) - 1, t ++ (⟨#[112, 104, 97, 110, 100, 108, 101, 32, 61, 32, 60]⟩ ++ pickS ph4L zs (rawN zs (rawN zs m)) ++ ⟨#[62, 59, 32]⟩), (rawN zs (rawN zs (rawN zs m)))) [0] rfl id0 rfl ?_ ?_ ?_
      ·repeat first|exact kN9|refine kD9 ?_|refine kR9 rfl ?_
      ·exact ⟨by omega, inv⟩
      ·exact nS9 k
     ·have c5 : ¬ modV (rawV zs (rawN zs m)) 3 = 0 := by
       have h2 : (decide (modV (rawV zs m) 12 = 8) && decide (modV (rawV zs (rawN zs m)) 3 = 0)) = false := g5
       intro h3
       rw [c4, h3] at h2
       cases h2
      have w0 := r2
      have w1 := rawN_ok w0
      have w2 := rawN_ok w1
      have w3 := rawN_ok w2
      have y1 := lab_size zs (rawN zs (rawN zs (rawN zs m)))
      have y2 := name_size zs (rawN zs (rawN zs (rawN zs m)))
      have y3 := name_size zs (rawN zs (rawN zs (rawN zs (rawN zs m))))
      have y4 := (memT_ok (zs := zs) (((d + 1 : Nat) : Int) - 1).toNat w3).1
      have y6 : memZ (((d + 1 : Nat) : Int) - 1).toNat ≤ 6000000 := by rw [hE]; exact hzd.2
      have y5 := (memT_ok (zs := zs) (((d + 1 : Nat) : Int) - 1).toNat w2).1
      have x3 : tapeOk zs (rawN zs (rawN zs (rawN zs (rawN zs (rawN zs m))))) ∧ 0 ≤ ((d + 1 : Nat) : Int) - 1 ∧ ((d + 1 : Nat) : Int) - 1 ≤ (K : Int) ∧ K ≤ 3 := ⟨w3, by omega, by omega, by omega⟩
      have x2 : tapeOk zs (rawN zs (rawN zs (rawN zs (rawN zs m)))) ∧ 0 ≤ ((d + 1 : Nat) : Int) - 1 ∧ ((d + 1 : Nat) : Int) - 1 ≤ (K : Int) ∧ K ≤ 3 := ⟨w2, by omega, by omega, by omega⟩
      conv => whnf
      refine cI9 ?_ ?_<;>intro hd
      ·repeat ((conv => whnf); refine ⟨⟨w0, by decide⟩, ?_⟩)
       conv => whnf
       refine cI9 ?_ ?_<;>intro hc
       ·have c2 : modV (rawV zs (rawN zs (rawN zs m))) 2 = 0 := oT9 hc
        conv => whnf
        refine ⟨by exact w1, ?_⟩
        conv => whnf
        refine ⟨by ((try dsimp only); first | (simp only [bsz2, zS9, zC9, zN9]; omega) | (simp only [zA9, bsz2, zS9, zC9, zN9]; omega)), ?_⟩
        conv => whnf
        refine ⟨by ((try dsimp only); first | (simp only [bsz2, zS9, zC9, zN9]; omega) | (simp only [zA9, bsz2, zS9, zC9, zN9]; omega)), ?_⟩
        conv => whnf
        refine ⟨by exact w2, ?_⟩
        conv => whnf
        refine ⟨by ((try dsimp only); first | (simp only [bsz2, zS9, zC9, zN9]; omega) | (simp only [zA9, bsz2, zS9, zC9, zN9]; omega)), ?_⟩
        conv => whnf
        refine ⟨by (unfold inI64; omega), ?_⟩
        conv => whnf
        refine ⟨by exact x3, ?_⟩
        conv => whnf
        refine ⟨by ((try dsimp only); first | (simp only [bsz2, zS9, zC9, zN9]; omega) | (simp only [zA9, bsz2, zS9, zC9, zN9]; omega)), ?_⟩
        conv => whnf
        refine ⟨by ((try dsimp only); first | (simp only [bsz2, zS9, zC9, zN9]; omega) | (simp only [zA9, bsz2, zS9, zC9, zN9]; omega)), ?_⟩
        conv => whnf
        refine ⟨by ((try dsimp only); first | (simp only [bsz2, zS9, zC9, zN9]; omega) | (simp only [zA9, bsz2, zS9, zC9, zN9]; omega)), ?_⟩
        repeat ((conv => whnf); refine ⟨by (unfold inI64; omega), ?_⟩)
        conv => whnf
        have e : memP (some (memT zs (((d + 1 : Nat) : Int) - 1).toNat)) zs t m = (t ++ (pickS labL zs (rawN zs (rawN zs (rawN zs m))) ++ ⟨#[58, 32]⟩) ++ (pickS nameL zs (rawN zs (rawN zs (rawN zs (rawN zs m)))) ++ ⟨#[32, 123, 10]⟩ ++ (memT zs (((d + 1 : Nat) : Int) - 1).toNat (rawN zs (rawN zs (rawN zs (rawN zs (rawN zs m)))))).1 ++ ⟨#[125, 59, 10]⟩), (memT zs (((d + 1 : Nat) : Int) - 1).toNat (rawN zs (rawN zs (rawN zs (rawN zs (rawN zs m)))))).2) := by unfold memP; rw [if_neg n0, if_neg n1, if_neg n2, if_neg n3, if_pos c4, if_neg c5]; show nodG _ _ _ _ = _; unfold nodG; rw [if_pos c2]
        rw [e] at inv
        refine hI9 (k, ((k + 1 : Nat) : Int) - 1, t ++ (pickS labL zs (rawN zs (rawN zs (rawN zs m))) ++ ⟨#[58, 32]⟩) ++ (pickS nameL zs (rawN zs (rawN zs (rawN zs (rawN zs m)))) ++ ⟨#[32, 123, 10]⟩ ++ (memT zs (((d + 1 : Nat) : Int) - 1).toNat (rawN zs (rawN zs (rawN zs (rawN zs (rawN zs m)))))).1 ++ ⟨#[125, 59, 10]⟩), (memT zs (((d + 1 : Nat) : Int) - 1).toNat (rawN zs (rawN zs (rawN zs (rawN zs (rawN zs m)))))).2) ?_ ?_ ?_ ?_
        ·repeat first|exact lN9|refine lD9 ?_|refine lS9 ?_
        ·rfl
        ·exact ⟨by omega, inv⟩
        ·exact nS9 k
       ·have c2 : ¬ modV (rawV zs (rawN zs (rawN zs m))) 2 = 0 := oF9 hc
        conv => whnf
        refine ⟨by exact w1, ?_⟩
        conv => whnf
        refine ⟨by ((try dsimp only); first | (simp only [bsz2, zS9, zC9, zN9]; omega) | (simp only [zA9, bsz2, zS9, zC9, zN9]; omega)), ?_⟩
        conv => whnf
        refine ⟨by (unfold inI64; omega), ?_⟩
        conv => whnf
        refine ⟨by exact x2, ?_⟩
        conv => whnf
        refine ⟨by ((try dsimp only); first | (simp only [bsz2, zS9, zC9, zN9]; omega) | (simp only [zA9, bsz2, zS9, zC9, zN9]; omega)), ?_⟩
        conv => whnf
        refine ⟨by ((try dsimp only); first | (simp only [bsz2, zS9, zC9, zN9]; omega) | (simp only [zA9, bsz2, zS9, zC9, zN9]; omega)), ?_⟩
        conv => whnf
        refine ⟨by ((try dsimp only); first | (simp only [bsz2, zS9, zC9, zN9]; omega) | (simp only [zA9, bsz2, zS9, zC9, zN9]; omega)), ?_⟩
        repeat ((conv => whnf); refine ⟨by (unfold inI64; omega), ?_⟩)
        conv => whnf
        have e : memP (some (memT zs (((d + 1 : Nat) : Int) - 1).toNat)) zs t m = (t ++ (pickS nameL zs (rawN zs (rawN zs (rawN zs m))) ++ ⟨#[32, 123, 10]⟩ ++ (memT zs (((d + 1 : Nat) : Int) - 1).toNat (rawN zs (rawN zs (rawN zs (rawN zs m))))).1 ++ ⟨#[125, 59, 10]⟩), (memT zs (((d + 1 : Nat) : Int) - 1).toNat (rawN zs (rawN zs (rawN zs (rawN zs m))))).2) := by unfold memP; rw [if_neg n0, if_neg n1, if_neg n2, if_neg n3, if_pos c4, if_neg c5]; show nodG _ _ _ _ = _; unfold nodG; rw [if_neg c2]
        rw [e] at inv
        refine hI9 (k, ((k + 1 : Nat) : Int) - 1, t ++ (pickS nameL zs (rawN zs (rawN zs (rawN zs m))) ++ ⟨#[32, 123, 10]⟩ ++ (memT zs (((d + 1 : Nat) : Int) - 1).toNat (rawN zs (rawN zs (rawN zs (rawN zs m))))).1 ++ ⟨#[125, 59, 10]⟩), (memT zs (((d + 1 : Nat) : Int) - 1).toNat (rawN zs (rawN zs (rawN zs (rawN zs m))))).2) ?_ ?_ ?_ ?_
        ·repeat first|exact lN9|refine lD9 ?_|refine lS9 ?_
        ·rfl
        ·exact ⟨by omega, inv⟩
        ·exact nS9 k
      ·exfalso
       have := oF9 hd
       omega
    ·have c4 : ¬ modV (rawV zs m) 12 = 8 := by
      have h2 : lit true (decide (modV (rawV zs m) 12 = 8)) = false := g4
      simpa [lit] using h2
     conv => whnf
     refine cI9 (fun g5 => by rw [g4] at g5; cases g5) (fun _ => ?_)
     conv => whnf
     refine cI9 (fun g6 => ?_) (fun _ => ?_)
     ·exfalso
      have h2 : (decide (modV (rawV zs m) 12 = 8) && false) = true := g6
      simp at h2
     ·skip
      have w0 := r1
      have w1 := rawN_ok w0
      have w2 := rawN_ok w1
      have w3 := rawN_ok w2
      have y1 := lab_size zs (rawN zs (rawN zs m))
      have y2 := name_size zs (rawN zs (rawN zs m))
      have y3 := name_size zs (rawN zs (rawN zs (rawN zs m)))
      have y4 := (memT_ok (zs := zs) (((d + 1 : Nat) : Int) - 1).toNat w3).1
      have y6 : memZ (((d + 1 : Nat) : Int) - 1).toNat ≤ 6000000 := by rw [hE]; exact hzd.2
      have y5 := (memT_ok (zs := zs) (((d + 1 : Nat) : Int) - 1).toNat w2).1
      have x3 : tapeOk zs (rawN zs (rawN zs (rawN zs (rawN zs m)))) ∧ 0 ≤ ((d + 1 : Nat) : Int) - 1 ∧ ((d + 1 : Nat) : Int) - 1 ≤ (K : Int) ∧ K ≤ 3 := ⟨w3, by omega, by omega, by omega⟩
      have x2 : tapeOk zs (rawN zs (rawN zs (rawN zs m))) ∧ 0 ≤ ((d + 1 : Nat) : Int) - 1 ∧ ((d + 1 : Nat) : Int) - 1 ≤ (K : Int) ∧ K ≤ 3 := ⟨w2, by omega, by omega, by omega⟩
      conv => whnf
      refine cI9 ?_ ?_<;>intro hd
      ·repeat ((conv => whnf); refine ⟨⟨w0, by decide⟩, ?_⟩)
       conv => whnf
       refine cI9 ?_ ?_<;>intro hc
       ·have c2 : modV (rawV zs (rawN zs m)) 2 = 0 := oT9 hc
        conv => whnf
        refine ⟨by exact w1, ?_⟩
        conv => whnf
        refine ⟨by ((try dsimp only); first | (simp only [bsz2, zS9, zC9, zN9]; omega) | (simp only [zA9, bsz2, zS9, zC9, zN9]; omega)), ?_⟩
        conv => whnf
        refine ⟨by ((try dsimp only); first | (simp only [bsz2, zS9, zC9, zN9]; omega) | (simp only [zA9, bsz2, zS9, zC9, zN9]; omega)), ?_⟩
        conv => whnf
        refine ⟨by exact w2, ?_⟩
        conv => whnf
        refine ⟨by ((try dsimp only); first | (simp only [bsz2, zS9, zC9, zN9]; omega) | (simp only [zA9, bsz2, zS9, zC9, zN9]; omega)), ?_⟩
        conv => whnf
        refine ⟨by (unfold inI64; omega), ?_⟩
        conv => whnf
        refine ⟨by exact x3, ?_⟩
        conv => whnf
        refine ⟨by ((try dsimp only); first | (simp only [bsz2, zS9, zC9, zN9]; omega) | (simp only [zA9, bsz2, zS9, zC9, zN9]; omega)), ?_⟩
        conv => whnf
        refine ⟨by ((try dsimp only); first | (simp only [bsz2, zS9, zC9, zN9]; omega) | (simp only [zA9, bsz2, zS9, zC9, zN9]; omega)), ?_⟩
        conv => whnf
        refine ⟨by ((try dsimp only); first | (simp only [bsz2, zS9, zC9, zN9]; omega) | (simp only [zA9, bsz2, zS9, zC9, zN9]; omega)), ?_⟩
        repeat ((conv => whnf); refine ⟨by (unfold inI64; omega), ?_⟩)
        conv => whnf
        have e : memP (some (memT zs (((d + 1 : Nat) : Int) - 1).toNat)) zs t m = (t ++ (pickS labL zs (rawN zs (rawN zs m)) ++ ⟨#[58, 32]⟩) ++ (pickS nameL zs (rawN zs (rawN zs (rawN zs m))) ++ ⟨#[32, 123, 10]⟩ ++ (memT zs (((d + 1 : Nat) : Int) - 1).toNat (rawN zs (rawN zs (rawN zs (rawN zs m))))).1 ++ ⟨#[125, 59, 10]⟩), (memT zs (((d + 1 : Nat) : Int) - 1).toNat (rawN zs (rawN zs (rawN zs (rawN zs m))))).2) := by unfold memP; rw [if_neg n0, if_neg n1, if_neg n2, if_neg n3, if_neg c4]; show nodG _ _ _ _ = _; unfold nodG; rw [if_pos c2]
        rw [e] at inv
        refine hI9 (k, ((k + 1 : Nat) : Int) - 1, t ++ (pickS labL zs (rawN zs (rawN zs m)) ++ ⟨#[58, 32]⟩) ++ (pickS nameL zs (rawN zs (rawN zs (rawN zs m))) ++ ⟨#[32, 123, 10]⟩ ++ (memT zs (((d + 1 : Nat) : Int) - 1).toNat (rawN zs (rawN zs (rawN zs (rawN zs m))))).1 ++ ⟨#[125, 59, 10]⟩), (memT zs (((d + 1 : Nat) : Int) - 1).toNat (rawN zs (rawN zs (rawN zs (rawN zs m))))).2) ?_ ?_ ?_ ?_
        ·repeat first|exact lN9|refine lD9 ?_|refine lS9 ?_
        ·rfl
        ·exact ⟨by omega, inv⟩
        ·exact nS9 k
       ·have c2 : ¬ modV (rawV zs (rawN zs m)) 2 = 0 := oF9 hc
        conv => whnf
        refine ⟨by exact w1, ?_⟩
        conv => whnf
        refine ⟨by ((try dsimp only); first | (simp only [bsz2, zS9, zC9, zN9]; omega) | (simp only [zA9, bsz2, zS9, zC9, zN9]; omega)), ?_⟩
        conv => whnf
        refine ⟨by (unfold inI64; omega), ?_⟩
        conv => whnf
        refine ⟨by exact x2, ?_⟩
        conv => whnf
        refine ⟨by ((try dsimp only); first | (simp only [bsz2, zS9, zC9, zN9]; omega) | (simp only [zA9, bsz2, zS9, zC9, zN9]; omega)), ?_⟩
        conv => whnf
        refine ⟨by ((try dsimp only); first | (simp only [bsz2, zS9, zC9, zN9]; omega) | (simp only [zA9, bsz2, zS9, zC9, zN9]; omega)), ?_⟩
        conv => whnf
        refine ⟨by ((try dsimp only); first | (simp only [bsz2, zS9, zC9, zN9]; omega) | (simp only [zA9, bsz2, zS9, zC9, zN9]; omega)), ?_⟩
        repeat ((conv => whnf); refine ⟨by (unfold inI64; omega), ?_⟩)
        conv => whnf
        have e : memP (some (memT zs (((d + 1 : Nat) : Int) - 1).toNat)) zs t m = (t ++ (pickS nameL zs (rawN zs (rawN zs m)) ++ ⟨#[32, 123, 10]⟩ ++ (memT zs (((d + 1 : Nat) : Int) - 1).toNat (rawN zs (rawN zs (rawN zs m)))).1 ++ ⟨#[125, 59, 10]⟩), (memT zs (((d + 1 : Nat) : Int) - 1).toNat (rawN zs (rawN zs (rawN zs m)))).2) := by unfold memP; rw [if_neg n0, if_neg n1, if_neg n2, if_neg n3, if_neg c4]; show nodG _ _ _ _ = _; unfold nodG; rw [if_neg c2]
        rw [e] at inv
        refine hI9 (k, ((k + 1 : Nat) : Int) - 1, t ++ (pickS nameL zs (rawN zs (rawN zs m)) ++ ⟨#[32, 123, 10]⟩ ++ (memT zs (((d + 1 : Nat) : Int) - 1).toNat (rawN zs (rawN zs (rawN zs m)))).1 ++ ⟨#[125, 59, 10]⟩), (memT zs (((d + 1 : Nat) : Int) - 1).toNat (rawN zs (rawN zs (rawN zs m)))).2) ?_ ?_ ?_ ?_
        ·repeat first|exact lN9|refine lD9 ?_|refine lS9 ?_
        ·rfl
        ·exact ⟨by omega, inv⟩
        ·exact nS9 k
      ·exfalso
       have := oF9 hd
       omega
   ·have hk0 : k = 0 := by have : ¬ (0 : Int) < k := oF9 h; omega
    subst hk0
    have e9 : (t, m) = memT zs (d + 1) n := hgo
    conv => whnf
    refine eE9 ⟨?_, ?_⟩
    ·show SV.str t = SV.str (memT zs (((d + 1 : Nat) : Int) : Int).toNat n).1
     rw [show ((((d + 1 : Nat) : Int) : Int).toNat) = d + 1 from rfl, ← e9]
    ·show [tapeO zs m] = [tapeO zs (memT zs (((d + 1 : Nat) : Int) : Int).toNat n).2]
     rw [show ((((d + 1 : Nat) : Int) : Int).toNat) = d + 1 from rfl, ← e9]
 ·cases hs
abbrev flC : CT := .pair .str .str
def seekGo (name : ByteArray) : List flC.den → Nat → Int
 | [], _ => -1
 | f :: r, i => if f.1 = name then (i : Int) else seekGo name r (i + 1)
def seekV (files : List flC.den) (name : ByteArray) : Int := seekGo name files 0
theorem seekGo_le (name : ByteArray) : ∀ (l : List flC.den) (i : Nat), seekGo name l i = -1 ∨ ((i : Int) ≤ seekGo name l i ∧ seekGo name l i < (i + l.length : Nat)) := by
 intro l
 induction l with
 | nil => intro i; exact .inl rfl
 | cons f r ih =>
  intro i
  unfold seekGo
  split
  ·refine .inr ⟨by omega, ?_⟩
   simp only [zC9]
   omega
  ·rcases ih (i + 1) with h | ⟨h1, h2⟩
   ·exact .inl h
   ·refine .inr ⟨by omega, ?_⟩
    simp only [zC9]
    omega
theorem seek_lt {files : List flC.den} {name : ByteArray} (h : 0 ≤ seekV files name) : (seekV files name).toNat < files.length ∧ seekV files name < (files.length : Nat) := by
 unfold seekV at *
 rcases seekGo_le name files 0 with h1 | ⟨h1, h2⟩
 ·rw [h1] at h; omega
 ·omega
theorem seek_drop {name : ByteArray} {files : List flC.den} {i : Nat} (h : i < files.length) : seekGo name (files.drop i) i = if (files.getD i flC.dflt).1 = name then (i : Int) else seekGo name (files.drop (i + 1)) (i + 1) := by
 rw [List.drop_eq_getElem_cons h]
 simp [seekGo, h]
def chkGo (files : List flC.den) : Nat → Nat → Int
 | 0, _ => 0
 | m + 1, i => if seekV files (files.getD i flC.dflt).1 < (i : Int) then 5 else chkGo files m (i + 1)
theorem chkGo_succ (files : List flC.den) (m i : Nat) : chkGo files (m + 1) i = if seekV files (files.getD i flC.dflt).1 < (i : Int) then 5 else chkGo files m (i + 1) := rfl
def chkV (files : List flC.den) : Int := if 8 < files.length then 3 else chkGo files files.length 0
section
variable {T : Table} (hT : TS9 T)
def saysSk1 : Says := fun args H => match args, H with
 | [.agg [.p (.v (.string a)), .p (.v (.string _))], .c (.ptr 0 0)], [.row [.p (.v (.string n))]] => some (none, .bool (decide (a = n)), [.row [.str n]])
 | _, _ => none
abbrev I1 (T : Table) : Table := ext T 57 saysSk1
include hT in
theorem i1 : TS9 (I1 T) := by
 refine ext_run hT (f := 57) (fn := Tryz.f57) rfl rfl [0, 1, 2, 3] fun args H p r' H' hs hp => ?_
 unfold saysSk1 at hs
 split at hs
 ·rename_i a b n
  cases hs
  refine ⟨nB9 rfl, [0], rfl, id0, ?_⟩
  conv => whnf
  exact eR9
 ·cases hs
def daFl : AV → Option (List flC.den)
 | .c (.p (.l c0 fs)) => castD (e := flC) (e' := c0) fs
 | _ => none
def saysIdx : Says := fun args H => match args, H with
 | [a, .c (.clo _ _ _)], [.row [.p (.v (.string n))]] => match daFl a with
  | some fs => some (some (args = [.c (.p (.l flC fs)), .c (.clo false 57 [0])] ∧ H = [.row [.str n]] ∧ fs.length ≤ 1000000000), .int .i64 (seekV fs n), [.row [.str n]])
  | none => none
 | _, _ => none
abbrev I2 (T : Table) : Table := ext (I1 T) 56 saysIdx
include hT in
theorem i2 : TS9 (I2 T) := by
 refine ext_run (i1 hT) (f := 56) (fn := Tryz.f56) rfl rfl [0, 1, 4, 5, 7, 8, 9, 16] fun args H p r' H' hs hp => ?_
 unfold saysIdx at hs
 split at hs
 ·split at hs
  ·rename_i a _ _ _ n _ fs _
   cases hs
   obtain ⟨ha, hH, hl⟩ := hp
   rw [ha, hH]
   refine ⟨nB9 rfl, [0], rfl, id0, ?_⟩
   conv => whnf
   refine lI9 (σ := Nat) (fun i => [(0, XV.s (.a (.c (.p (.l flC fs))))), (1, XV.s (.a (.c (.clo false 57 [0])))), (4, nX9), (5, nX9), (7, XV.s (.int .i64 (fs.length : Nat))), (8, XV.s (.int .i64 (i : Nat))), (9, nX9), (16, nX9)])
    (fun _ => [.row [.str n]]) (fun i => i ≤ fs.length ∧ seekGo n (fs.drop i) i = seekV fs n) (fun i => fs.length - i) 0 ?_ rfl ?_ fun i hI => ?_
   ·repeat first|exact lN9|refine lD9 ?_|refine lS9 ?_
   ·exact ⟨nZ9 _, rfl⟩
   obtain ⟨h1, h2⟩ := hI
   conv => whnf
   refine cI9 ?_ ?_<;>intro h
   ·have h3 : i < fs.length := by
     have : (i : Int) < (fs.length : Nat) := oT9 h
     omega
    rw [seek_drop h3] at h2
    have hin : 0 ≤ (i : Int) ∧ (i : Int) < (fs.length : Nat) := by omega
    repeat ((conv => whnf); refine ⟨hin, ?_⟩)
    conv => whnf
    refine cI9 ?_ ?_<;>intro h4
    ·have h5 : (fs.getD i flC.dflt).1 = n := oT9 h4
     rw [if_pos h5] at h2
     conv => whnf
     rw [← h2]
     exact eR9
    ·have h5 : ¬ (fs.getD i flC.dflt).1 = n := oF9 h4
     rw [if_neg h5] at h2
     repeat ((conv => whnf); refine ⟨by (unfold inI64; omega), ?_⟩)
     conv => whnf
     refine hI9 (i + 1) ?_ rfl ?_ ?_
     ·repeat first|exact lN9|refine lD9 ?_|refine lS9 ?_
     ·exact ⟨h3, h2⟩
     ·omega
   ·have h3 : ¬ i < fs.length := by
     have : ¬ (i : Int) < (fs.length : Nat) := oF9 h
     omega
    rw [List.drop_eq_nil_of_le (by omega)] at h2
    conv => whnf
    rw [← h2]
    exact eR9
  ·cases hs
 ·cases hs
def saysSeek : Says := fun args H => match args, H with
 | [a, .c (.p (.v (.string n)))], [] => match daFl a with
  | some fs => some (some (args = [.c (.p (.l flC fs)), .c (.str n)] ∧ fs.length ≤ 1000000000), .int .i64 (seekV fs n), [])
  | none => none
 | _, _ => none
abbrev I3 (T : Table) : Table := ext (I2 T) 38 saysSeek
include hT in
theorem i3 : TS9 (I3 T) := by
 refine ext_run (i2 hT) (f := 38) (fn := Tryz.f38) rfl rfl [0, 1, 3, 4] fun args H p r' H' hs hp => ?_
 unfold saysSeek at hs
 split at hs
 ·split at hs
  ·rename_i a n _ fs _
   cases hs
   obtain ⟨ha, hl⟩ := hp
   rw [ha]
   refine ⟨nB9 rfl, [], rfl, nK9, ?_⟩
   repeat ((conv => whnf); refine ⟨⟨rfl, rfl, hl⟩, ?_⟩)
   conv => whnf
   exact eR9
  ·cases hs
 ·cases hs
def saysChk : Says := fun args H => match args, H with
 | [a], [] => match daFl a with
  | some fs => some (some (args = [.c (.p (.l flC fs))] ∧ fs.length ≤ 1000000000), .int .i64 (chkV fs), [])
  | none => none
 | _, _ => none
abbrev I4 (T : Table) : Table := ext (I3 T) 27 saysChk
include hT in
theorem i4 : TS9 (I4 T) := by
 refine ext_run (i3 hT) (f := 27) (fn := Tryz.f27) rfl rfl [0, 2, 3, 4, 7, 8, 9, 10, 11, 20] fun args H p r' H' hs hp => ?_
 unfold saysChk at hs
 split at hs
 ·split at hs
  ·rename_i a fs _
   cases hs
   obtain ⟨ha, hl⟩ := hp
   rw [ha]
   refine ⟨nB9 rfl, [], rfl, nK9, ?_⟩
   unfold chkV
   conv => whnf
   refine cI9 ?_ ?_<;>intro h
   ·have h1 : 8 < fs.length := by
     have : (8 : Int) < (fs.length : Nat) := oT9 h
     omega
    rw [if_pos h1]
    conv => whnf
    exact eR9
   have h1 : ¬ 8 < fs.length := by
    have : ¬ (8 : Int) < (fs.length : Nat) := oF9 h
    omega
   rw [if_neg h1]
   conv => whnf
   refine lI9 (σ := Nat × Nat) (fun ⟨i, _⟩ => [(0, XV.s (.a (.c (.p (.l flC fs))))), (2, nX9), (3, nX9), (4, nX9), (7, nX9), (8, XV.s (.a (.c (.p (.l flC fs))))), (9, XV.s (.int .i64 (fs.length : Nat))), (10, XV.s (.int .i64 (i : Nat))), (11, nX9), (20, nX9)])
    (fun _ => []) (fun ⟨i, m⟩ => i + m = fs.length ∧ chkGo fs m i = chkGo fs fs.length 0) (fun ⟨_, m⟩ => m) (0, fs.length) ?_ rfl ?_ ?_
   ·repeat first|exact lN9|refine lD9 ?_|refine lS9 ?_
   ·exact ⟨Nat.zero_add _, rfl⟩
   rintro ⟨i, m⟩ ⟨h2, h3⟩
   conv => whnf
   refine cI9 ?_ ?_<;>intro h4
   ·have h5 : i < fs.length := by
     have : (i : Int) < (fs.length : Nat) := oT9 h4
     omega
    obtain ⟨m, rfl⟩ : ∃ j, m = j + 1 := ⟨m - 1, by omega⟩
    rw [chkGo_succ] at h3
    have hin : 0 ≤ (i : Int) ∧ (i : Int) < (fs.length : Nat) := by omega
    repeat ((conv => whnf); refine ⟨by first | exact hin | exact ⟨rfl, hl⟩, ?_⟩)
    conv => whnf
    refine cI9 ?_ ?_<;>intro h6
    ·have h7 : seekV fs (fs.getD i flC.dflt).1 < (i : Int) := oT9 h6
     rw [if_pos h7] at h3
     rw [← h3]
     conv => whnf
     exact eR9
    ·have h7 : ¬ seekV fs (fs.getD i flC.dflt).1 < (i : Int) := oF9 h6
     rw [if_neg h7] at h3
     repeat ((conv => whnf); refine ⟨by (unfold inI64; omega), ?_⟩)
     conv => whnf
     refine kI9 (i + 1, m) [] rfl (nK9) ?_ ?_ ?_ ?_
     ·rfl
     ·repeat first|exact kN9|refine kD9 ?_|refine kR9 rfl ?_
     ·exact ⟨by omega, h3⟩
     ·exact nS9 m
   ·have h5 : m = 0 := by
     have : ¬ (i : Int) < (fs.length : Nat) := oF9 h4
     omega
    subst h5
    rw [← h3]
    conv => whnf
    exact eR9
  ·cases hs
 ·cases hs
end
end Go.Ab
