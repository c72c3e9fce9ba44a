/- Package bringupgrow: Members. -/
import Derived.Test.YtpeeeiaihjilnaaGreatTX23toX24
namespace Go.Ab
open Go.Proofs
set_option linter.unusedSectionVars false
set_option maxRecDepth 100000
variable [Glob]
def saysMem (K : Nat) : Says := saysTapeI fun zs n d => (some (tapeOk zs n ∧ 0 ≤ d ∧ d ≤ K ∧ K ≤ 3), .str (memT zs d.toNat n).1, (memT zs d.toNat n).2)
theorem memZ_le : ∀ d, d ≤ 3 → (4000 + memZ d) * 4 ≤ 6000000 ∧ memZ d ≤ 6000000 := by decide
set_option maxHeartbeats 4000000 in
theorem z9k (K : Nat) : TSound Tryz.prog (ext Z8 25 (saysMem K)) := by
 refine ext_rec z8 (f := 25) (fn := Tryz.f25) rfl rfl [0, 1, 4, 5, 6, 7, 11, 16, 28, 36, 45, 54, 71, 76] (fun K args H p r H' hs hp => ?_) K
 unfold saysMem saysTapeI at hs
 split at hs
 ·rename_i d zs n
  cases hs
  obtain ⟨ht, h0, h1, h2⟩ : tapeOk zs n ∧ 0 ≤ d ∧ d ≤ K ∧ K ≤ 3 := hp
  refine ⟨Nat.le_of_ble_eq_true rfl, [0], rfl, id0, ?_⟩
  obtain ⟨d, rfl⟩ : ∃ m : Nat, d = m := ⟨d.toNat, by omega⟩
  have hm0 := mN9 (rawV zs n) 5
  have hm1 := modV_lt (rawV zs n) 5 (by decide)
  cases d with
  | zero =>
   repeat ((conv => whnf); refine ⟨by exact ⟨ht, by decide⟩, ?_⟩)
   conv => whnf
   refine lI9 (σ := Nat × Int × ByteArray × Int) (fun ⟨_, i, t, _⟩ => [(0, XV.s (.a (.c (.ptr 0 0)))), (1, XV.s (.int .i64 ((0 : Nat) : Int))), (4, XV.s .none), (5, XV.s (.a (.c (.p (.v (.string t)))))), (6, XV.s (.int .i64 i)), (7, XV.s .none), (11, XV.s .none), (16, XV.s .none), (28, XV.s .none), (36, XV.s .none), (45, XV.s .none), (54, XV.s .none), (71, XV.s .none), (76, XV.s .none)])
    (fun ⟨_, _, _, m⟩ => [tapeO zs m]) (fun ⟨k, i, t, m⟩ => i = k ∧ k ≤ 4 ∧ t.size ≤ 4000 * (4 - k) ∧ tapeOk zs m ∧ memG (none) zs k t m = memT zs (0) n) (fun ⟨k, _, _, _⟩ => k) ((modV (rawV zs n) 5).toNat, modV (rawV zs n) 5, ⟨#[]⟩, rawN zs n) ?_ ?_ ?_ ?_
   ·repeat (first | exact LeL.nil | refine LeL.drop ?_ | refine LeL.same ?_)
   ·rfl
   ·exact ⟨by omega, by omega, Nat.zero_le _, rawN_ok ht, rfl⟩
   rintro ⟨k, i, t, m⟩ ⟨hik, hk, hz, hm, hgo⟩
   replace hik : i = k := hik
   subst hik
   conv => whnf
   refine cI9 (fun h => ?_) (fun h => ?_)
   ·obtain ⟨k, rfl⟩ : ∃ j, k = j + 1 := ⟨k - 1, by have : (0 : Int) < k := of_decide_eq_true h; omega⟩
    obtain ⟨p1, p2⟩ := memP_ok (r := none) (m := 0) (zs := zs) (trivial) t hm
    have hz0 : t.size ≤ 6000000 := by omega
    have inv : k ≤ 4 ∧ (memP (none) zs t m).1.size ≤ 4000 * (4 - k) ∧ tapeOk zs (memP (none) zs t m).2 ∧ memG (none) zs k (memP (none) zs t m).1 (memP (none) zs t m).2 = memT zs (0) n := by
     refine ⟨by omega, ?_, p2, hgo⟩
     rw [show 4 - k = (4 - (k + 1)) + 1 by omega, Nat.mul_succ]
     omega
    have r1 := rawN_ok hm
    have r2 := rawN_ok r1
    have r3 := rawN_ok r2
    have b1 := prop_size zs (rawN zs m)
    have b2 := name_size zs (rawN zs m)
    have b3 : ([⟨#[49]⟩, ⟨#[50]⟩, ⟨#[55]⟩, ⟨#[57]⟩].getD (modV (rawV zs (rawN zs (rawN zs m))) 4).toNat CT.str.dflt : ByteArray).size ≤ 1 := ph4_size zs (rawN zs (rawN zs m))
    obtain ⟨v1, v2⟩ := valT_ok r2
    have hi4 : 0 ≤ modV (rawV zs (rawN zs (rawN zs m))) 4 ∧ modV (rawV zs (rawN zs (rawN zs m))) 4 < 4 := ⟨mN9 _ _, modV_lt _ _ (by decide)⟩
    repeat ((conv => whnf); refine ⟨by exact ⟨hm, by decide⟩, ?_⟩)
    conv => whnf
    refine cI9 (fun g0 => ?_) (fun g0 => ?_)
    ·have c0 : modV (rawV zs m) 12 < 5 := of_decide_eq_true g0
     repeat ((conv => whnf); refine ⟨by first | exact r1 | exact r2 | (simp only [ByteArray.size_append, bsz2, List.size_toArray, List.length_cons, List.length_nil]; omega) | (unfold inI64; omega), ?_⟩)
     conv => whnf
     have e : memP (none) zs t m = (t ++ (pickS propL zs (rawN zs m) ++ ⟨#[32, 61, 32]⟩ ++ (valT zs (rawN zs (rawN zs m))).1 ++ ⟨#[59, 32]⟩), (valT zs (rawN zs (rawN zs m))).2) := by unfold memP; rw [if_pos c0]
     rw [e] at inv
     refine hI9 (k, ((k + 1 : Nat) : Int) - 1, t ++ (pickS propL zs (rawN zs m) ++ ⟨#[32, 61, 32]⟩ ++ (valT zs (rawN zs (rawN zs m))).1 ++ ⟨#[59, 32]⟩), (valT zs (rawN zs (rawN zs m))).2) ?_ ?_ ?_ ?_
     ·repeat (first | exact LeL.nil | refine LeL.drop ?_ | refine LeL.same ?_)
     ·rfl
     ·exact ⟨by omega, inv⟩
     ·exact Nat.lt_succ_self k
    have n0 : ¬ modV (rawV zs m) 12 < 5 := of_decide_eq_false g0
    conv => whnf
    refine cI9 (fun g1 => ?_) (fun g1 => ?_)
    ·have c1 : modV (rawV zs m) 12 = 5 := of_decide_eq_true g1
     repeat ((conv => whnf); refine ⟨by first | exact r1 | (simp only [ByteArray.size_append, bsz2, List.size_toArray, List.length_cons, List.length_nil]; omega) | (unfold inI64; omega), ?_⟩)
     conv => whnf
     have e : memP (none) zs t m = (t ++ (pickS propL zs (rawN zs m) ++ ⟨#[59, 32]⟩), (rawN zs (rawN zs m))) := by unfold memP; rw [if_neg n0, if_pos c1]
     rw [e] at inv
     refine hI9 (k, ((k + 1 : Nat) : Int) - 1, t ++ (pickS propL zs (rawN zs m) ++ ⟨#[59, 32]⟩), (rawN zs (rawN zs m))) ?_ ?_ ?_ ?_
     ·repeat (first | exact LeL.nil | refine LeL.drop ?_ | refine LeL.same ?_)
     ·rfl
     ·exact ⟨by omega, inv⟩
     ·exact Nat.lt_succ_self k
    have n1 : ¬ modV (rawV zs m) 12 = 5 := of_decide_eq_false g1
    conv => whnf
    refine cI9 (fun g2 => ?_) (fun g2 => ?_)
    ·have c2 : modV (rawV zs m) 12 = 6 := of_decide_eq_true g2
     repeat ((conv => whnf); refine ⟨by first | exact r1 | (simp only [ByteArray.size_append, bsz2, List.size_toArray, List.length_cons, List.length_nil]; omega) | (unfold inI64; omega), ?_⟩)
     conv => whnf
     have e : memP (none) zs t m = (t ++ (⟨#[47, 100, 101, 108, 101, 116, 101, 45, 112, 114, 111, 112, 101, 114, 116, 121, 47, 32]⟩ ++ pickS propL zs (rawN zs m) ++ ⟨#[59, 32]⟩), (rawN zs (rawN zs m))) := by unfold memP; rw [if_neg n0, if_neg n1, if_pos c2]
     rw [e] at inv
     refine hI9 (k, ((k + 1 : Nat) : Int) - 1, t ++ (⟨#[47, 100, 101, 108, 101, 116, 101, 45, 112, 114, 111, 112, 101, 114, 116, 121, 47, 32]⟩ ++ pickS propL zs (rawN zs m) ++ ⟨#[59, 32]⟩), (rawN zs (rawN zs m))) ?_ ?_ ?_ ?_
     ·repeat (first | exact LeL.nil | refine LeL.drop ?_ | refine LeL.same ?_)
     ·rfl
     ·exact ⟨by omega, inv⟩
     ·exact Nat.lt_succ_self k
    have n2 : ¬ modV (rawV zs m) 12 = 6 := of_decide_eq_false g2
    conv => whnf
    refine cI9 (fun g3 => ?_) (fun g3 => ?_)
    ·have c3 : modV (rawV zs m) 12 = 7 := of_decide_eq_true g3
     repeat ((conv => whnf); refine ⟨by first | exact r1 | (simp only [ByteArray.size_append, bsz2, List.size_toArray, List.length_cons, List.length_nil]; omega) | (unfold inI64; omega), ?_⟩)
     conv => whnf
     have e : memP (none) zs t m = (t ++ (⟨#[47, 100, 101, 108, 101, 116, 101, 45, 110, 111, 100, 101, 47, 32]⟩ ++ pickS nameL zs (rawN zs m) ++ ⟨#[59, 10]⟩), (rawN zs (rawN zs m))) := by unfold memP; rw [if_neg n0, if_neg n1, if_neg n2, if_pos c3]
     rw [e] at inv
     refine hI9 (k, ((k + 1 : Nat) : Int) - 1, t ++ (⟨#[47, 100, 101, 108, 101, 116, 101, 45, 110, 111, 100, 101, 47, 32]⟩ ++ pickS nameL zs (rawN zs m) ++ ⟨#[59, 10]⟩), (rawN zs (rawN zs m))) ?_ ?_ ?_ ?_
     ·repeat (first | exact LeL.nil | refine LeL.drop ?_ | refine LeL.same ?_)
     ·rfl
     ·exact ⟨by omega, inv⟩
     ·exact Nat.lt_succ_self k
    have n3 : ¬ modV (rawV zs m) 12 = 7 := of_decide_eq_false g3
    conv => whnf
    refine cI9 (fun g4 => ?_) (fun g4 => ?_)
    ·have c4 : modV (rawV zs m) 12 = 8 := by
      have h2 : lit true (decide (modV (rawV zs m) 12 = 8)) = true := g4
      simpa [lit] using h2
     repeat ((conv => whnf); refine ⟨by exact ⟨r1, by decide⟩, ?_⟩)
     conv => whnf
     refine cI9 (fun g5 => ?_) (fun g5 => ?_)
     ·have c5 : modV (rawV zs (rawN zs m)) 3 = 0 := by
       have h2 : (decide (modV (rawV zs m) 12 = 8) && decide (modV (rawV zs (rawN zs m)) 3 = 0)) = true := g5
       exact of_decide_eq_true (Bool.and_eq_true_iff.1 h2).2
      conv => whnf
      refine ⟨by exact ⟨r2, by decide⟩, ?_⟩
      conv => whnf
      refine ⟨by exact hi4, ?_⟩
      conv => whnf
      refine ⟨by ((try dsimp only); first | (simp only [bsz2, List.size_toArray, List.length_cons, List.length_nil]; omega) | (simp only [ByteArray.size_append, bsz2, List.size_toArray, List.length_cons, List.length_nil]; omega)), ?_⟩
      conv => whnf
      refine ⟨by ((try dsimp only); first | (simp only [bsz2, List.size_toArray, List.length_cons, List.length_nil]; omega) | (simp only [ByteArray.size_append, bsz2, List.size_toArray, List.length_cons, List.length_nil]; omega)), ?_⟩
      conv => whnf
      refine ⟨by ((try dsimp only); first | (simp only [bsz2, List.size_toArray, List.length_cons, List.length_nil]; omega) | (simp only [ByteArray.size_append, bsz2, List.size_toArray, List.length_cons, List.length_nil]; omega)), ?_⟩
      repeat ((conv => whnf); refine ⟨by (unfold inI64; omega), ?_⟩)
      conv => whnf
      have e : memP (none) zs t m = (t ++ (⟨#[112, 104, 97, 110, 100, 108, 101, 32, 61, 32, 60]⟩ ++ pickS ph4L zs (rawN zs (rawN zs m)) ++ ⟨#[62, 59, 32]⟩), (rawN zs (rawN zs (rawN zs m)))) := by unfold memP; rw [if_neg n0, if_neg n1, if_neg n2, if_neg n3, if_pos c4, if_pos c5]
      rw [e] at inv
      refine kI9 (k, ((k + 1 : Nat) : Int) - 1, t ++ (⟨#[112, 104, 97, 110, 100, 108, 101, 32, 61, 32, 60]⟩ ++ pickS ph4L zs (rawN zs (rawN zs m)) ++ ⟨#[62, 59, 32]⟩), (rawN zs (rawN zs (rawN zs m)))) [0] rfl id0 rfl ?_ ?_ ?_
      ·repeat (first | exact KeepL.nil | refine KeepL.drop ?_ | refine KeepL.ren rfl ?_)
      ·exact ⟨by omega, inv⟩
      ·exact Nat.lt_succ_self k
     ·have c5 : ¬ modV (rawV zs (rawN zs m)) 3 = 0 := by
       have h2 : (decide (modV (rawV zs m) 12 = 8) && decide (modV (rawV zs (rawN zs m)) 3 = 0)) = false := g5
       intro h3
       rw [c4, h3] at h2
       cases h2
      repeat ((conv => whnf); refine ⟨by (unfold inI64; omega), ?_⟩)
      conv => whnf
      have e : memP (none) zs t m = (t, (rawN zs (rawN zs m))) := by unfold memP; rw [if_neg n0, if_neg n1, if_neg n2, if_neg n3, if_pos c4, if_neg c5]
      rw [e] at inv
      refine hI9 (k, ((k + 1 : Nat) : Int) - 1, t, (rawN zs (rawN zs m))) ?_ ?_ ?_ ?_
      ·repeat (first | exact LeL.nil | refine LeL.drop ?_ | refine LeL.same ?_)
      ·rfl
      ·exact ⟨by omega, inv⟩
      ·exact Nat.lt_succ_self k
    ·have c4 : ¬ modV (rawV zs m) 12 = 8 := by
      have h2 : lit true (decide (modV (rawV zs m) 12 = 8)) = false := g4
      simpa [lit] using h2
     conv => whnf
     refine cI9 (fun g5 => by rw [g4] at g5; cases g5) (fun _ => ?_)
     conv => whnf
     refine cI9 (fun g6 => ?_) (fun _ => ?_)
     ·exfalso
      have h2 : (decide (modV (rawV zs m) 12 = 8) && false) = true := g6
      simp at h2
     ·repeat ((conv => whnf); refine ⟨by (unfold inI64; omega), ?_⟩)
      conv => whnf
      have e : memP (none) zs t m = (t, (rawN zs m)) := by unfold memP; rw [if_neg n0, if_neg n1, if_neg n2, if_neg n3, if_neg c4]
      rw [e] at inv
      refine hI9 (k, ((k + 1 : Nat) : Int) - 1, t, (rawN zs m)) ?_ ?_ ?_ ?_
      ·repeat (first | exact LeL.nil | refine LeL.drop ?_ | refine LeL.same ?_)
      ·rfl
      ·exact ⟨by omega, inv⟩
      ·exact Nat.lt_succ_self k
   ·have hk0 : k = 0 := by have : ¬ (0 : Int) < k := of_decide_eq_false h; omega
    subst hk0
    have e9 : (t, m) = memT zs (0) n := hgo
    conv => whnf
    refine eE9 ⟨?_, ?_⟩
    ·show SV.str t = SV.str (memT zs (((0 : Nat) : Int) : Int).toNat n).1
     rw [show ((((0 : Nat) : Int) : Int).toNat) = 0 from rfl, ← e9]
    ·show [tapeO zs m] = [tapeO zs (memT zs (((0 : Nat) : Int) : Int).toNat n).2]
     rw [show ((((0 : Nat) : Int) : Int).toNat) = 0 from rfl, ← e9]
  | succ d =>
   cases K with
   | zero => exfalso; omega
   | succ K =>
   have hE : (((d + 1 : Nat) : Int) - 1).toNat = d := by omega
   have hzd := memZ_le d (by omega)
   repeat ((conv => whnf); refine ⟨by exact ⟨ht, by decide⟩, ?_⟩)
   conv => whnf
   refine lI9 (σ := Nat × Int × ByteArray × Int) (fun ⟨_, i, t, _⟩ => [(0, XV.s (.a (.c (.ptr 0 0)))), (1, XV.s (.int .i64 ((d + 1 : Nat) : Int))), (4, XV.s .none), (5, XV.s (.a (.c (.p (.v (.string t)))))), (6, XV.s (.int .i64 i)), (7, XV.s .none), (11, XV.s .none), (16, XV.s .none), (28, XV.s .none), (36, XV.s .none), (45, XV.s .none), (54, XV.s .none), (71, XV.s .none), (76, XV.s .none)])
    (fun ⟨_, _, _, m⟩ => [tapeO zs m]) (fun ⟨k, i, t, m⟩ => i = k ∧ k ≤ 4 ∧ t.size ≤ (4000 + memZ (((d + 1 : Nat) : Int) - 1).toNat) * (4 - k) ∧ tapeOk zs m ∧ memG (some (memT zs (((d + 1 : Nat) : Int) - 1).toNat)) zs k t m = memT zs (d + 1) n) (fun ⟨k, _, _, _⟩ => k) ((modV (rawV zs n) 5).toNat, modV (rawV zs n) 5, ⟨#[]⟩, rawN zs n) ?_ ?_ ?_ ?_
   ·repeat (first | exact LeL.nil | refine LeL.drop ?_ | refine LeL.same ?_)
   ·rfl
   ·exact ⟨by omega, by omega, Nat.zero_le _, rawN_ok ht, by rw [hE]; rfl⟩
   rintro ⟨k, i, t, m⟩ ⟨hik, hk, hz, hm, hgo⟩
   replace hik : i = k := hik
   subst hik
   conv => whnf
   refine cI9 (fun h => ?_) (fun h => ?_)
   ·obtain ⟨k, rfl⟩ : ∃ j, k = j + 1 := ⟨k - 1, by have : (0 : Int) < k := of_decide_eq_true h; omega⟩
    obtain ⟨p1, p2⟩ := memP_ok (r := some (memT zs (((d + 1 : Nat) : Int) - 1).toNat)) (m := memZ (((d + 1 : Nat) : Int) - 1).toNat) (zs := zs) (fun n h => memT_ok _ h) t hm
    have hz0 : t.size ≤ 6000000 := by rw [hE] at hz p1; have := hzd; have h7 : (4000 + memZ d) * (4 - (k + 1)) ≤ (4000 + memZ d) * 4 := Nat.mul_le_mul_left _ (by omega); omega
    have inv : k ≤ 4 ∧ (memP (some (memT zs (((d + 1 : Nat) : Int) - 1).toNat)) zs t m).1.size ≤ (4000 + memZ (((d + 1 : Nat) : Int) - 1).toNat) * (4 - k) ∧ tapeOk zs (memP (some (memT zs (((d + 1 : Nat) : Int) - 1).toNat)) zs t m).2 ∧ memG (some (memT zs (((d + 1 : Nat) : Int) - 1).toNat)) zs k (memP (some (memT zs (((d + 1 : Nat) : Int) - 1).toNat)) zs t m).1 (memP (some (memT zs (((d + 1 : Nat) : Int) - 1).toNat)) zs t m).2 = memT zs (d + 1) n := by
     refine ⟨by omega, ?_, p2, hgo⟩
     rw [show 4 - k = (4 - (k + 1)) + 1 by omega, Nat.mul_succ]
     omega
    have r1 := rawN_ok hm
    have r2 := rawN_ok r1
    have r3 := rawN_ok r2
    have b1 := prop_size zs (rawN zs m)
    have b2 := name_size zs (rawN zs m)
    have b3 : ([⟨#[49]⟩, ⟨#[50]⟩, ⟨#[55]⟩, ⟨#[57]⟩].getD (modV (rawV zs (rawN zs (rawN zs m))) 4).toNat CT.str.dflt : ByteArray).size ≤ 1 := ph4_size zs (rawN zs (rawN zs m))
    obtain ⟨v1, v2⟩ := valT_ok r2
    have hi4 : 0 ≤ modV (rawV zs (rawN zs (rawN zs m))) 4 ∧ modV (rawV zs (rawN zs (rawN zs m))) 4 < 4 := ⟨mN9 _ _, modV_lt _ _ (by decide)⟩
    repeat ((conv => whnf); refine ⟨by exact ⟨hm, by decide⟩, ?_⟩)
    conv => whnf
    refine cI9 (fun g0 => ?_) (fun g0 => ?_)
    ·have c0 : modV (rawV zs m) 12 < 5 := of_decide_eq_true g0
     repeat ((conv => whnf); refine ⟨by first | exact r1 | exact r2 | (simp only [ByteArray.size_append, bsz2, List.size_toArray, List.length_cons, List.length_nil]; omega) | (unfold inI64; omega), ?_⟩)
     conv => whnf
     have e : memP (some (memT zs (((d + 1 : Nat) : Int) - 1).toNat)) zs t m = (t ++ (pickS propL zs (rawN zs m) ++ ⟨#[32, 61, 32]⟩ ++ (valT zs (rawN zs (rawN zs m))).1 ++ ⟨#[59, 32]⟩), (valT zs (rawN zs (rawN zs m))).2) := by unfold memP; rw [if_pos c0]
     rw [e] at inv
     refine hI9 (k, ((k + 1 : Nat) : Int) - 1, t ++ (pickS propL zs (rawN zs m) ++ ⟨#[32, 61, 32]⟩ ++ (valT zs (rawN zs (rawN zs m))).1 ++ ⟨#[59, 32]⟩), (valT zs (rawN zs (rawN zs m))).2) ?_ ?_ ?_ ?_
     ·repeat (first | exact LeL.nil | refine LeL.drop ?_ | refine LeL.same ?_)
     ·rfl
     ·exact ⟨by omega, inv⟩
     ·exact Nat.lt_succ_self k
    have n0 : ¬ modV (rawV zs m) 12 < 5 := of_decide_eq_false g0
    conv => whnf
    refine cI9 (fun g1 => ?_) (fun g1 => ?_)
    ·have c1 : modV (rawV zs m) 12 = 5 := of_decide_eq_true g1
     repeat ((conv => whnf); refine ⟨by first | exact r1 | (simp only [ByteArray.size_append, bsz2, List.size_toArray, List.length_cons, List.length_nil]; omega) | (unfold inI64; omega), ?_⟩)
     conv => whnf
     have e : memP (some (memT zs (((d + 1 : Nat) : Int) - 1).toNat)) zs t m = (t ++ (pickS propL zs (rawN zs m) ++ ⟨#[59, 32]⟩), (rawN zs (rawN zs m))) := by unfold memP; rw [if_neg n0, if_pos c1]
     rw [e] at inv
     refine hI9 (k, ((k + 1 : Nat) : Int) - 1, t ++ (pickS propL zs (rawN zs m) ++ ⟨#[59, 32]⟩), (rawN zs (rawN zs m))) ?_ ?_ ?_ ?_
     ·repeat (first | exact LeL.nil | refine LeL.drop ?_ | refine LeL.same ?_)
     ·rfl
     ·exact ⟨by omega, inv⟩
     ·exact Nat.lt_succ_self k
    have n1 : ¬ modV (rawV zs m) 12 = 5 := of_decide_eq_false g1
    conv => whnf
    refine cI9 (fun g2 => ?_) (fun g2 => ?_)
    ·have c2 : modV (rawV zs m) 12 = 6 := of_decide_eq_true g2
     repeat ((conv => whnf); refine ⟨by first | exact r1 | (simp only [ByteArray.size_append, bsz2, List.size_toArray, List.length_cons, List.length_nil]; omega) | (unfold inI64; omega), ?_⟩)
     conv => whnf
     have e : memP (some (memT zs (((d + 1 : Nat) : Int) - 1).toNat)) zs t m = (t ++ (⟨#[47, 100, 101, 108, 101, 116, 101, 45, 112, 114, 111, 112, 101, 114, 116, 121, 47, 32]⟩ ++ pickS propL zs (rawN zs m) ++ ⟨#[59, 32]⟩), (rawN zs (rawN zs m))) := by unfold memP; rw [if_neg n0, if_neg n1, if_pos c2]
     rw [e] at inv
     refine hI9 (k, ((k + 1 : Nat) : Int) - 1, t ++ (⟨#[47, 100, 101, 108, 101, 116, 101, 45, 112, 114, 111, 112, 101, 114, 116, 121, 47, 32]⟩ ++ pickS propL zs (rawN zs m) ++ ⟨#[59, 32]⟩), (rawN zs (rawN zs m))) ?_ ?_ ?_ ?_
     ·repeat (first | exact LeL.nil | refine LeL.drop ?_ | refine LeL.same ?_)
     ·rfl
     ·exact ⟨by omega, inv⟩
     ·exact Nat.lt_succ_self k
    have n2 : ¬ modV (rawV zs m) 12 = 6 := of_decide_eq_false g2
    conv => whnf
    refine cI9 (fun g3 => ?_) (fun g3 => ?_)
    ·have c3 : modV (rawV zs m) 12 = 7 := of_decide_eq_true g3
     repeat ((conv => whnf); refine ⟨by first | exact r1 | (simp only [ByteArray.size_append, bsz2, List.size_toArray, List.length_cons, List.length_nil]; omega) | (unfold inI64; omega), ?_⟩)
     conv => whnf
     have e : memP (some (memT zs (((d + 1 : Nat) : Int) - 1).toNat)) zs t m = (t ++ (⟨#[47, 100, 101, 108, 101, 116, 101, 45, 110, 111, 100, 101, 47, 32]⟩ ++ pickS nameL zs (rawN zs m) ++ ⟨#[59, 10]⟩), (rawN zs (rawN zs m))) := by unfold memP; rw [if_neg n0, if_neg n1, if_neg n2, if_pos c3]
     rw [e] at inv
     refine hI9 (k, ((k + 1 : Nat) : Int) - 1, t ++ (⟨#[47, 100, 101, 108, 101, 116, 101, 45, 110, 111, 100, 101, 47, 32]⟩ ++ pickS nameL zs (rawN zs m) ++ ⟨#[59, 10]⟩), (rawN zs (rawN zs m))) ?_ ?_ ?_ ?_
     ·repeat (first | exact LeL.nil | refine LeL.drop ?_ | refine LeL.same ?_)
     ·rfl
     ·exact ⟨by omega, inv⟩
     ·exact Nat.lt_succ_self k
    have n3 : ¬ modV (rawV zs m) 12 = 7 := of_decide_eq_false g3
    conv => whnf
    refine cI9 (fun g4 => ?_) (fun g4 => ?_)
    ·have c4 : modV (rawV zs m) 12 = 8 := by
      have h2 : lit true (decide (modV (rawV zs m) 12 = 8)) = true := g4
      simpa [lit] using h2
     repeat ((conv => whnf); refine ⟨by exact ⟨r1, by decide⟩, ?_⟩)
     conv => whnf
     refine cI9 (fun g5 => ?_) (fun g5 => ?_)
     ·have c5 : modV (rawV zs (rawN zs m)) 3 = 0 := by
       have h2 : (decide (modV (rawV zs m) 12 = 8) && decide (modV (rawV zs (rawN zs m)) 3 = 0)) = true := g5
       exact of_decide_eq_true (Bool.and_eq_true_iff.1 h2).2
      conv => whnf
      refine ⟨by exact ⟨r2, by decide⟩, ?_⟩
      conv => whnf
      refine ⟨by exact hi4, ?_⟩
      conv => whnf
      refine ⟨by ((try dsimp only); first | (simp only [bsz2, List.size_toArray, List.length_cons, List.length_nil]; omega) | (simp only [ByteArray.size_append, bsz2, List.size_toArray, List.length_cons, List.length_nil]; omega)), ?_⟩
      conv => whnf
      refine ⟨by ((try dsimp only); first | (simp only [bsz2, List.size_toArray, List.length_cons, List.length_nil]; omega) | (simp only [ByteArray.size_append, bsz2, List.size_toArray, List.length_cons, List.length_nil]; omega)), ?_⟩
      conv => whnf
      refine ⟨by ((try dsimp only); first | (simp only [bsz2, List.size_toArray, List.length_cons, List.length_nil]; omega) | (simp only [ByteArray.size_append, bsz2, List.size_toArray, List.length_cons, List.length_nil]; omega)), ?_⟩
      repeat ((conv => whnf); refine ⟨by (unfold inI64; omega), ?_⟩)
      conv => whnf
      have e : memP (some (memT zs (((d + 1 : Nat) : Int) - 1).toNat)) zs t m = (t ++ (⟨#[112, 104, 97, 110, 100, 108, 101, 32, 61, 32, 60]⟩ ++ pickS ph4L zs (rawN zs (rawN zs m)) ++ ⟨#[62, 59, 32]⟩), (rawN zs (rawN zs (rawN zs m)))) := by unfold memP; rw [if_neg n0, if_neg n1, if_neg n2, if_neg n3, if_pos c4, if_pos c5]
      rw [e] at inv
      refine kI9 (k, ((k + 1 : Nat) : Int) - 1, t ++ (⟨#[112, 104, 97, 110, 100, 108, 101, 32, 61, 32, 60]⟩ ++ pickS ph4L zs (rawN zs (rawN zs m)) ++ ⟨#[62, 59, 32]⟩), (rawN zs (rawN zs (rawN zs m)))) [0] rfl id0 rfl ?_ ?_ ?_
      ·repeat (first | exact KeepL.nil | refine KeepL.drop ?_ | refine KeepL.ren rfl ?_)
      ·exact ⟨by omega, inv⟩
      ·exact Nat.lt_succ_self k
     ·have c5 : ¬ modV (rawV zs (rawN zs m)) 3 = 0 := by
       have h2 : (decide (modV (rawV zs m) 12 = 8) && decide (modV (rawV zs (rawN zs m)) 3 = 0)) = false := g5
       intro h3
       rw [c4, h3] at h2
       cases h2
      have w0 := r2
      have w1 := rawN_ok w0
      have w2 := rawN_ok w1
      have w3 := rawN_ok w2
      have y1 := lab_size zs (rawN zs (rawN zs (rawN zs m)))
      have y2 := name_size zs (rawN zs (rawN zs (rawN zs m)))
      have y3 := name_size zs (rawN zs (rawN zs (rawN zs (rawN zs m))))
      have y4 := (memT_ok (zs := zs) (((d + 1 : Nat) : Int) - 1).toNat w3).1
      have y6 : memZ (((d + 1 : Nat) : Int) - 1).toNat ≤ 6000000 := by rw [hE]; exact hzd.2
      have y5 := (memT_ok (zs := zs) (((d + 1 : Nat) : Int) - 1).toNat w2).1
      have x3 : tapeOk zs (rawN zs (rawN zs (rawN zs (rawN zs (rawN zs m))))) ∧ 0 ≤ ((d + 1 : Nat) : Int) - 1 ∧ ((d + 1 : Nat) : Int) - 1 ≤ (K : Int) ∧ K ≤ 3 := ⟨w3, by omega, by omega, by omega⟩
      have x2 : tapeOk zs (rawN zs (rawN zs (rawN zs (rawN zs m)))) ∧ 0 ≤ ((d + 1 : Nat) : Int) - 1 ∧ ((d + 1 : Nat) : Int) - 1 ≤ (K : Int) ∧ K ≤ 3 := ⟨w2, by omega, by omega, by omega⟩
      conv => whnf
      refine cI9 (fun hd => ?_) (fun hd => ?_)
      ·repeat ((conv => whnf); refine ⟨by exact ⟨w0, by decide⟩, ?_⟩)
       conv => whnf
       refine cI9 (fun hc => ?_) (fun hc => ?_)
       ·have c2 : modV (rawV zs (rawN zs (rawN zs m))) 2 = 0 := of_decide_eq_true hc
        conv => whnf
        refine ⟨by exact w1, ?_⟩
        conv => whnf
        refine ⟨by ((try dsimp only); first | (simp only [bsz2, List.size_toArray, List.length_cons, List.length_nil]; omega) | (simp only [ByteArray.size_append, bsz2, List.size_toArray, List.length_cons, List.length_nil]; omega)), ?_⟩
        conv => whnf
        refine ⟨by ((try dsimp only); first | (simp only [bsz2, List.size_toArray, List.length_cons, List.length_nil]; omega) | (simp only [ByteArray.size_append, bsz2, List.size_toArray, List.length_cons, List.length_nil]; omega)), ?_⟩
        conv => whnf
        refine ⟨by exact w2, ?_⟩
        conv => whnf
        refine ⟨by ((try dsimp only); first | (simp only [bsz2, List.size_toArray, List.length_cons, List.length_nil]; omega) | (simp only [ByteArray.size_append, bsz2, List.size_toArray, List.length_cons, List.length_nil]; omega)), ?_⟩
        conv => whnf
        refine ⟨by (unfold inI64; omega), ?_⟩
        conv => whnf
        refine ⟨by exact x3, ?_⟩
        conv => whnf
        refine ⟨by ((try dsimp only); first | (simp only [bsz2, List.size_toArray, List.length_cons, List.length_nil]; omega) | (simp only [ByteArray.size_append, bsz2, List.size_toArray, List.length_cons, List.length_nil]; omega)), ?_⟩
        conv => whnf
        refine ⟨by ((try dsimp only); first | (simp only [bsz2, List.size_toArray, List.length_cons, List.length_nil]; omega) | (simp only [ByteArray.size_append, bsz2, List.size_toArray, List.length_cons, List.length_nil]; omega)), ?_⟩
        conv => whnf
        refine ⟨by ((try dsimp only); first | (simp only [bsz2, List.size_toArray, List.length_cons, List.length_nil]; omega) | (simp only [ByteArray.size_append, bsz2, List.size_toArray, List.length_cons, List.length_nil]; omega)), ?_⟩
        repeat ((conv => whnf); refine ⟨by (unfold inI64; omega), ?_⟩)
        conv => whnf
        have e : memP (some (memT zs (((d + 1 : Nat) : Int) - 1).toNat)) zs t m = (t ++ (pickS labL zs (rawN zs (rawN zs (rawN zs m))) ++ ⟨#[58, 32]⟩) ++ (pickS nameL zs (rawN zs (rawN zs (rawN zs (rawN zs m)))) ++ ⟨#[32, 123, 10]⟩ ++ (memT zs (((d + 1 : Nat) : Int) - 1).toNat (rawN zs (rawN zs (rawN zs (rawN zs (rawN zs m)))))).1 ++ ⟨#[125, 59, 10]⟩), (memT zs (((d + 1 : Nat) : Int) - 1).toNat (rawN zs (rawN zs (rawN zs (rawN zs (rawN zs m)))))).2) := by unfold memP; rw [if_neg n0, if_neg n1, if_neg n2, if_neg n3, if_pos c4, if_neg c5]; show nodG _ _ _ _ = _; unfold nodG; rw [if_pos c2]
        rw [e] at inv
        refine hI9 (k, ((k + 1 : Nat) : Int) - 1, t ++ (pickS labL zs (rawN zs (rawN zs (rawN zs m))) ++ ⟨#[58, 32]⟩) ++ (pickS nameL zs (rawN zs (rawN zs (rawN zs (rawN zs m)))) ++ ⟨#[32, 123, 10]⟩ ++ (memT zs (((d + 1 : Nat) : Int) - 1).toNat (rawN zs (rawN zs (rawN zs (rawN zs (rawN zs m)))))).1 ++ ⟨#[125, 59, 10]⟩), (memT zs (((d + 1 : Nat) : Int) - 1).toNat (rawN zs (rawN zs (rawN zs (rawN zs (rawN zs m)))))).2) ?_ ?_ ?_ ?_
        ·repeat (first | exact LeL.nil | refine LeL.drop ?_ | refine LeL.same ?_)
        ·rfl
        ·exact ⟨by omega, inv⟩
        ·exact Nat.lt_succ_self k
       ·have c2 : ¬ modV (rawV zs (rawN zs (rawN zs m))) 2 = 0 := of_decide_eq_false hc
        conv => whnf
        refine ⟨by exact w1, ?_⟩
        conv => whnf
        refine ⟨by ((try dsimp only); first | (simp only [bsz2, List.size_toArray, List.length_cons, List.length_nil]; omega) | (simp only [ByteArray.size_append, bsz2, List.size_toArray, List.length_cons, List.length_nil]; omega)), ?_⟩
        conv => whnf
        refine ⟨by (unfold inI64; omega), ?_⟩
        conv => whnf
        refine ⟨by exact x2, ?_⟩
        conv => whnf
        refine ⟨by ((try dsimp only); first | (simp only [bsz2, List.size_toArray, List.length_cons, List.length_nil]; omega) | (simp only [ByteArray.size_append, bsz2, List.size_toArray, List.length_cons, List.length_nil]; omega)), ?_⟩
        conv => whnf
        refine ⟨by ((try dsimp only); first | (simp only [bsz2, List.size_toArray, List.length_cons, List.length_nil]; omega) | (simp only [ByteArray.size_append, bsz2, List.size_toArray, List.length_cons, List.length_nil]; omega)), ?_⟩
        conv => whnf
        refine ⟨by ((try dsimp only); first | (simp only [bsz2, List.size_toArray, List.length_cons, List.length_nil]; omega) | (simp only [ByteArray.size_append, bsz2, List.size_toArray, List.length_cons, List.length_nil]; omega)), ?_⟩
        repeat ((conv => whnf); refine ⟨by (unfold inI64; omega), ?_⟩)
        conv => whnf
        have e : memP (some (memT zs (((d + 1 : Nat) : Int) - 1).toNat)) zs t m = (t ++ (pickS nameL zs (rawN zs (rawN zs (rawN zs m))) ++ ⟨#[32, 123, 10]⟩ ++ (memT zs (((d + 1 : Nat) : Int) - 1).toNat (rawN zs (rawN zs (rawN zs (rawN zs m))))).1 ++ ⟨#[125, 59, 10]⟩), (memT zs (((d + 1 : Nat) : Int) - 1).toNat (rawN zs (rawN zs (rawN zs (rawN zs m))))).2) := by unfold memP; rw [if_neg n0, if_neg n1, if_neg n2, if_neg n3, if_pos c4, if_neg c5]; show nodG _ _ _ _ = _; unfold nodG; rw [if_neg c2]
        rw [e] at inv
        refine hI9 (k, ((k + 1 : Nat) : Int) - 1, t ++ (pickS nameL zs (rawN zs (rawN zs (rawN zs m))) ++ ⟨#[32, 123, 10]⟩ ++ (memT zs (((d + 1 : Nat) : Int) - 1).toNat (rawN zs (rawN zs (rawN zs (rawN zs m))))).1 ++ ⟨#[125, 59, 10]⟩), (memT zs (((d + 1 : Nat) : Int) - 1).toNat (rawN zs (rawN zs (rawN zs (rawN zs m))))).2) ?_ ?_ ?_ ?_
        ·repeat (first | exact LeL.nil | refine LeL.drop ?_ | refine LeL.same ?_)
        ·rfl
        ·exact ⟨by omega, inv⟩
        ·exact Nat.lt_succ_self k
      ·exfalso
       have := of_decide_eq_false hd
       omega
    ·have c4 : ¬ modV (rawV zs m) 12 = 8 := by
      have h2 : lit true (decide (modV (rawV zs m) 12 = 8)) = false := g4
      simpa [lit] using h2
     conv => whnf
     refine cI9 (fun g5 => by rw [g4] at g5; cases g5) (fun _ => ?_)
     conv => whnf
     refine cI9 (fun g6 => ?_) (fun _ => ?_)
     ·exfalso
      have h2 : (decide (modV (rawV zs m) 12 = 8) && false) = true := g6
      simp at h2
     ·skip
      have w0 := r1
      have w1 := rawN_ok w0
      have w2 := rawN_ok w1
      have w3 := rawN_ok w2
      have y1 := lab_size zs (rawN zs (rawN zs m))
      have y2 := name_size zs (rawN zs (rawN zs m))
      have y3 := name_size zs (rawN zs (rawN zs (rawN zs m)))
      have y4 := (memT_ok (zs := zs) (((d + 1 : Nat) : Int) - 1).toNat w3).1
      have y6 : memZ (((d + 1 : Nat) : Int) - 1).toNat ≤ 6000000 := by rw [hE]; exact hzd.2
      have y5 := (memT_ok (zs := zs) (((d + 1 : Nat) : Int) - 1).toNat w2).1
      have x3 : tapeOk zs (rawN zs (rawN zs (rawN zs (rawN zs m)))) ∧ 0 ≤ ((d + 1 : Nat) : Int) - 1 ∧ ((d + 1 : Nat) : Int) - 1 ≤ (K : Int) ∧ K ≤ 3 := ⟨w3, by omega, by omega, by omega⟩
      have x2 : tapeOk zs (rawN zs (rawN zs (rawN zs m))) ∧ 0 ≤ ((d + 1 : Nat) : Int) - 1 ∧ ((d + 1 : Nat) : Int) - 1 ≤ (K : Int) ∧ K ≤ 3 := ⟨w2, by omega, by omega, by omega⟩
      conv => whnf
      refine cI9 (fun hd => ?_) (fun hd => ?_)
      ·repeat ((conv => whnf); refine ⟨by exact ⟨w0, by decide⟩, ?_⟩)
       conv => whnf
       refine cI9 (fun hc => ?_) (fun hc => ?_)
       ·have c2 : modV (rawV zs (rawN zs m)) 2 = 0 := of_decide_eq_true hc
        conv => whnf
        refine ⟨by exact w1, ?_⟩
        conv => whnf
        refine ⟨by ((try dsimp only); first | (simp only [bsz2, List.size_toArray, List.length_cons, List.length_nil]; omega) | (simp only [ByteArray.size_append, bsz2, List.size_toArray, List.length_cons, List.length_nil]; omega)), ?_⟩
        conv => whnf
        refine ⟨by ((try dsimp only); first | (simp only [bsz2, List.size_toArray, List.length_cons, List.length_nil]; omega) | (simp only [ByteArray.size_append, bsz2, List.size_toArray, List.length_cons, List.length_nil]; omega)), ?_⟩
        conv => whnf
        refine ⟨by exact w2, ?_⟩
        conv => whnf
        refine ⟨by ((try dsimp only); first | (simp only [bsz2, List.size_toArray, List.length_cons, List.length_nil]; omega) | (simp only [ByteArray.size_append, bsz2, List.size_toArray, List.length_cons, List.length_nil]; omega)), ?_⟩
        conv => whnf
        refine ⟨by (unfold inI64; omega), ?_⟩
        conv => whnf
        refine ⟨by exact x3, ?_⟩
        conv => whnf
        refine ⟨by ((try dsimp only); first | (simp only [bsz2, List.size_toArray, List.length_cons, List.length_nil]; omega) | (simp only [ByteArray.size_append, bsz2, List.size_toArray, List.length_cons, List.length_nil]; omega)), ?_⟩
        conv => whnf
        refine ⟨by ((try dsimp only); first | (simp only [bsz2, List.size_toArray, List.length_cons, List.length_nil]; omega) | (simp only [ByteArray.size_append, bsz2, List.size_toArray, List.length_cons, List.length_nil]; omega)), ?_⟩
        conv => whnf
        refine ⟨by ((try dsimp only); first | (simp only [bsz2, List.size_toArray, List.length_cons, List.length_nil]; omega) | (simp only [ByteArray.size_append, bsz2, List.size_toArray, List.length_cons, List.length_nil]; omega)), ?_⟩
        repeat ((conv => whnf); refine ⟨by (unfold inI64; omega), ?_⟩)
        conv => whnf
        have e : memP (some (memT zs (((d + 1 : Nat) : Int) - 1).toNat)) zs t m = (t ++ (pickS labL zs (rawN zs (rawN zs m)) ++ ⟨#[58, 32]⟩) ++ (pickS nameL zs (rawN zs (rawN zs (rawN zs m))) ++ ⟨#[32, 123, 10]⟩ ++ (memT zs (((d + 1 : Nat) : Int) - 1).toNat (rawN zs (rawN zs (rawN zs (rawN zs m))))).1 ++ ⟨#[125, 59, 10]⟩), (memT zs (((d + 1 : Nat) : Int) - 1).toNat (rawN zs (rawN zs (rawN zs (rawN zs m))))).2) := by unfold memP; rw [if_neg n0, if_neg n1, if_neg n2, if_neg n3, if_neg c4]; show nodG _ _ _ _ = _; unfold nodG; rw [if_pos c2]
        rw [e] at inv
        refine hI9 (k, ((k + 1 : Nat) : Int) - 1, t ++ (pickS labL zs (rawN zs (rawN zs m)) ++ ⟨#[58, 32]⟩) ++ (pickS nameL zs (rawN zs (rawN zs (rawN zs m))) ++ ⟨#[32, 123, 10]⟩ ++ (memT zs (((d + 1 : Nat) : Int) - 1).toNat (rawN zs (rawN zs (rawN zs (rawN zs m))))).1 ++ ⟨#[125, 59, 10]⟩), (memT zs (((d + 1 : Nat) : Int) - 1).toNat (rawN zs (rawN zs (rawN zs (rawN zs m))))).2) ?_ ?_ ?_ ?_
        ·repeat (first | exact LeL.nil | refine LeL.drop ?_ | refine LeL.same ?_)
        ·rfl
        ·exact ⟨by omega, inv⟩
        ·exact Nat.lt_succ_self k
       ·have c2 : ¬ modV (rawV zs (rawN zs m)) 2 = 0 := of_decide_eq_false hc
        conv => whnf
        refine ⟨by exact w1, ?_⟩
        conv => whnf
        refine ⟨by ((try dsimp only); first | (simp only [bsz2, List.size_toArray, List.length_cons, List.length_nil]; omega) | (simp only [ByteArray.size_append, bsz2, List.size_toArray, List.length_cons, List.length_nil]; omega)), ?_⟩
        conv => whnf
        refine ⟨by (unfold inI64; omega), ?_⟩
        conv => whnf
        refine ⟨by exact x2, ?_⟩
        conv => whnf
        refine ⟨by ((try dsimp only); first | (simp only [bsz2, List.size_toArray, List.length_cons, List.length_nil]; omega) | (simp only [ByteArray.size_append, bsz2, List.size_toArray, List.length_cons, List.length_nil]; omega)), ?_⟩
        conv => whnf
        refine ⟨by ((try dsimp only); first | (simp only [bsz2, List.size_toArray, List.length_cons, List.length_nil]; omega) | (simp only [ByteArray.size_append, bsz2, List.size_toArray, List.length_cons, List.length_nil]; omega)), ?_⟩
        conv => whnf
        refine ⟨by ((try dsimp only); first | (simp only [bsz2, List.size_toArray, List.length_cons, List.length_nil]; omega) | (simp only [ByteArray.size_append, bsz2, List.size_toArray, List.length_cons, List.length_nil]; omega)), ?_⟩
        repeat ((conv => whnf); refine ⟨by (unfold inI64; omega), ?_⟩)
        conv => whnf
        have e : memP (some (memT zs (((d + 1 : Nat) : Int) - 1).toNat)) zs t m = (t ++ (pickS nameL zs (rawN zs (rawN zs m)) ++ ⟨#[32, 123, 10]⟩ ++ (memT zs (((d + 1 : Nat) : Int) - 1).toNat (rawN zs (rawN zs (rawN zs m)))).1 ++ ⟨#[125, 59, 10]⟩), (memT zs (((d + 1 : Nat) : Int) - 1).toNat (rawN zs (rawN zs (rawN zs m)))).2) := by unfold memP; rw [if_neg n0, if_neg n1, if_neg n2, if_neg n3, if_neg c4]; show nodG _ _ _ _ = _; unfold nodG; rw [if_neg c2]
        rw [e] at inv
        refine hI9 (k, ((k + 1 : Nat) : Int) - 1, t ++ (pickS nameL zs (rawN zs (rawN zs m)) ++ ⟨#[32, 123, 10]⟩ ++ (memT zs (((d + 1 : Nat) : Int) - 1).toNat (rawN zs (rawN zs (rawN zs m)))).1 ++ ⟨#[125, 59, 10]⟩), (memT zs (((d + 1 : Nat) : Int) - 1).toNat (rawN zs (rawN zs (rawN zs m)))).2) ?_ ?_ ?_ ?_
        ·repeat (first | exact LeL.nil | refine LeL.drop ?_ | refine LeL.same ?_)
        ·rfl
        ·exact ⟨by omega, inv⟩
        ·exact Nat.lt_succ_self k
      ·exfalso
       have := of_decide_eq_false hd
       omega
   ·have hk0 : k = 0 := by have : ¬ (0 : Int) < k := of_decide_eq_false h; omega
    subst hk0
    have e9 : (t, m) = memT zs (d + 1) n := hgo
    conv => whnf
    refine eE9 ⟨?_, ?_⟩
    ·show SV.str t = SV.str (memT zs (((d + 1 : Nat) : Int) : Int).toNat n).1
     rw [show ((((d + 1 : Nat) : Int) : Int).toNat) = d + 1 from rfl, ← e9]
    ·show [tapeO zs m] = [tapeO zs (memT zs (((d + 1 : Nat) : Int) : Int).toNat n).2]
     rw [show ((((d + 1 : Nat) : Int) : Int).toNat) = d + 1 from rfl, ← e9]
 ·cases hs
end Go.Ab
