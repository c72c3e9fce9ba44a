/- Package bringupgrow: Document. -/
import Derived.Test.YtpeeeiaihjilnaaGreatTX25
import Derived.Test.YtpeeeiaihjilnaaGreatTR21toR23
import Derived.Test.YtpeeeiaihjilnaaGreatTY43
import Derived.Test.YtpeeeiaihjilnaaGreatTY38toV15
import Derived.Test.YtpeeeiaihjilnaaGreatTV22toV23
namespace Go.Ab
open Go.Proofs
set_option linter.unusedSectionVars false
set_option maxRecDepth 100000
variable [Glob]
def incL : List ByteArray := [⟨#[97]⟩, ⟨#[98]⟩, ⟨#[109, 97, 105, 110]⟩, ⟨#[110, 111, 110, 101]⟩]
theorem inc_size (zs : List Int) (n : Int) : (pickS incL zs n).size ≤ 4 := pick_size (by decide +kernel) zs n
def topP (zs : List Int) (t : ByteArray) (n : Int) : ByteArray × Int :=
 if modV (rawV zs n) 8 = 0 then (t ++ (⟨#[38]⟩ ++ pickS labL zs (rawN zs n) ++ ⟨#[32, 123, 32]⟩ ++ (memT zs 1 (rawN zs (rawN zs n))).1 ++ ⟨#[125, 59, 10]⟩), (memT zs 1 (rawN zs (rawN zs n))).2)
 else if modV (rawV zs n) 8 = 1 then (t ++ (⟨#[47, 100, 101, 108, 101, 116, 101, 45, 110, 111, 100, 101, 47, 32, 38]⟩ ++ pickS labL zs (rawN zs n) ++ ⟨#[59, 10]⟩), (rawN zs (rawN zs n)))
 else if modV (rawV zs n) 8 = 2 then
  (if modV (rawV zs (rawN zs n)) 3 = 0 then (t ++ (⟨#[47, 105, 110, 99, 108, 117, 100, 101, 47, 32, 34]⟩ ++ pickS incL zs (rawN zs (rawN zs n)) ++ ⟨#[34, 59, 10]⟩), (rawN zs (rawN zs (rawN zs n)))) else (t, (rawN zs (rawN zs n))))
 else if modV (rawV zs (rawN zs n)) 4 = 0 then (t ++ (pickS labL zs (rawN zs (rawN zs n)) ++ ⟨#[58, 32]⟩) ++ (⟨#[47, 32, 123, 32]⟩ ++ (memT zs 3 (rawN zs (rawN zs (rawN zs n)))).1 ++ ⟨#[125, 59, 10]⟩), (memT zs 3 (rawN zs (rawN zs (rawN zs n)))).2)
 else (t ++ (⟨#[47, 32, 123, 32]⟩ ++ (memT zs 3 (rawN zs (rawN zs n))).1 ++ ⟨#[125, 59, 10]⟩), (memT zs 3 (rawN zs (rawN zs n))).2)
def docG (zs : List Int) : Nat → ByteArray → Int → ByteArray × Int
 | 0, t, n => (t, n)
 | k + 1, t, n => docG zs k (topP zs t n).1 (topP zs t n).2
def docTd (zs : List Int) (d n : Int) : ByteArray × Int := docG zs (1 + modV (rawV zs n) (d - 1 + 1)).toNat ⟨#[]⟩ (rawN zs n)
theorem topP_ok {zs : List Int} (t : ByteArray) {n : Int} (h : tapeOk zs n) : (topP zs t n).1.size ≤ t.size + 1361000 ∧ tapeOk zs (topP zs t n).2 := by
 have h1 := rawN_ok h
 have h2 := rawN_ok h1
 have h3 := rawN_ok h2
 have l1 := lab_size zs (rawN zs n)
 have l2 := lab_size zs (rawN zs (rawN zs n))
 have i2 := inc_size zs (rawN zs (rawN zs n))
 obtain ⟨a1, a2⟩ := memT_ok (zs := zs) 1 h2
 obtain ⟨b1, b2⟩ := memT_ok (zs := zs) 3 h3
 obtain ⟨d1, d2⟩ := memT_ok (zs := zs) 3 h2
 simp only [memZ] at a1 b1 d1
 unfold topP
 split
 ·exact ⟨by simp only [ByteArray.size_append, bsz2, List.size_toArray, List.length_cons, List.length_nil]; omega, a2⟩
 ·split
  ·exact ⟨by simp only [ByteArray.size_append, bsz2, List.size_toArray, List.length_cons, List.length_nil]; omega, h2⟩
  ·split
   ·split
    ·exact ⟨by simp only [ByteArray.size_append, bsz2, List.size_toArray, List.length_cons, List.length_nil]; omega, h3⟩
    ·exact ⟨by show t.size ≤ _; omega, h2⟩
   ·split
    ·exact ⟨by simp only [ByteArray.size_append, bsz2, List.size_toArray, List.length_cons, List.length_nil]; omega, b2⟩
    ·exact ⟨by simp only [ByteArray.size_append, bsz2, List.size_toArray, List.length_cons, List.length_nil]; omega, d2⟩
theorem docG_ok {zs : List Int} : ∀ (k : Nat) (t : ByteArray) {n : Int}, tapeOk zs n → (docG zs k t n).1.size ≤ t.size + 1361000 * k ∧ tapeOk zs (docG zs k t n).2 := by
 intro k
 induction k with
 | zero => intro t n h; exact ⟨Nat.le_add_right _ _, h⟩
 | succ k ih =>
  intro t n h
  obtain ⟨h1, h2⟩ := topP_ok t h
  obtain ⟨h3, h4⟩ := ih (topP zs t n).1 h2
  refine ⟨?_, h4⟩
  simp only [docG]
  omega
theorem docTd_ok {zs : List Int} {d n : Int} (h : tapeOk zs n) (hd1 : 1 ≤ d) (hd4 : d ≤ 4) : (docTd zs d n).1.size ≤ 5444000 ∧ tapeOk zs (docTd zs d n).2 := by
 have h0 := mN9 (rawV zs n) (d - 1 + 1)
 have h1 := modV_lt (rawV zs n) (d - 1 + 1) (by omega)
 obtain ⟨h3, h4⟩ := docG_ok (1 + modV (rawV zs n) (d - 1 + 1)).toNat ⟨#[]⟩ (rawN_ok h)
 refine ⟨?_, h4⟩
 have h6 : (⟨#[]⟩ : ByteArray).size = 0 := rfl
 unfold docTd
 omega
def Z9 : Table := ext Z8 25 (saysMem 3)
theorem z9 : TSound Tryz.prog Z9 := z9k 3
def saysDoc : Says := saysTapeI fun zs n d => (some (tapeOk zs n ∧ 1 ≤ d ∧ d ≤ 4), .str (docTd zs d n).1, (docTd zs d n).2)
def Z10 : Table := ext Z9 9 saysDoc
set_option maxHeartbeats 4000000 in
theorem z10 : TSound Tryz.prog Z10 := by
 refine extTapeI z9 9 (fn := Tryz.f9) rfl rfl (by decide) _ [0, 1, 4, 5, 6, 11, 15, 18, 30, 42, 50, 54] fun zs n d hn => ?_
 obtain ⟨ht, hd1, hd4⟩ : tapeOk zs n ∧ 1 ≤ d ∧ d ≤ 4 := hn
 have hm0 := mN9 (rawV zs n) (d - 1 + 1)
 have hm1 := modV_lt (rawV zs n) (d - 1 + 1) (by omega)
 repeat ((conv => whnf); refine ⟨by exact ⟨ht, by omega, by omega, by omega⟩, ?_⟩)
 conv => whnf
 refine lI9 (σ := Nat × Int × ByteArray × Int) (fun ⟨_, i, t, _⟩ => [(0, XV.s (.a (.c (.ptr 0 0)))), (1, XV.s (.int .i64 d)), (4, XV.s .none), (5, XV.s (.a (.c (.p (.v (.string t)))))), (6, XV.s (.int .i64 i)), (11, XV.s .none), (15, XV.s .none), (18, XV.s .none), (30, XV.s .none), (42, XV.s .none), (50, XV.s .none), (54, XV.s .none)])
  (fun ⟨_, _, _, m⟩ => [tapeO zs m]) (fun ⟨k, i, t, m⟩ => i = k ∧ k ≤ 4 ∧ t.size ≤ 1361000 * (4 - k) ∧ tapeOk zs m ∧ docG zs k t m = docTd zs d n) (fun ⟨k, _, _, _⟩ => k) ((1 + modV (rawV zs n) (d - 1 + 1)).toNat, 1 + modV (rawV zs n) (d - 1 + 1), ⟨#[]⟩, rawN zs n) ?_ ?_ ?_ ?_
 ·repeat (first | exact LeL.nil | refine LeL.drop ?_ | refine LeL.same ?_)
 ·rfl
 ·exact ⟨by omega, by omega, Nat.zero_le _, rawN_ok ht, rfl⟩
 rintro ⟨k, i, t, m⟩ ⟨hik, hk, hz, hm, hgo⟩
 replace hik : i = k := hik
 subst hik
 conv => whnf
 refine cI9 (fun h => ?_) (fun h => ?_)
 ·obtain ⟨k, rfl⟩ : ∃ j, k = j + 1 := ⟨k - 1, by have : (0 : Int) < k := of_decide_eq_true h; omega⟩
  obtain ⟨p1, p2⟩ := topP_ok (zs := zs) t hm
  have inv : k ≤ 4 ∧ (topP zs t m).1.size ≤ 1361000 * (4 - k) ∧ tapeOk zs (topP zs t m).2 ∧ docG zs k (topP zs t m).1 (topP zs t m).2 = docTd zs d n := ⟨by omega, by omega, p2, hgo⟩
  have r1 := rawN_ok hm
  have r2 := rawN_ok r1
  have r3 := rawN_ok r2
  have l1 := lab_size zs (rawN zs m)
  have l2 := lab_size zs (rawN zs (rawN zs m))
  have i2 : ([⟨#[97]⟩, ⟨#[98]⟩, ⟨#[109, 97, 105, 110]⟩, ⟨#[110, 111, 110, 101]⟩].getD (modV (rawV zs (rawN zs (rawN zs m))) 4).toNat CT.str.dflt : ByteArray).size ≤ 4 := inc_size zs (rawN zs (rawN zs m))
  have a1 : (memT zs (Int.toNat 1) (rawN zs (rawN zs m))).1.size ≤ 80000 := (memT_ok 1 r2).1
  have b1 : (memT zs (Int.toNat 3) (rawN zs (rawN zs (rawN zs m)))).1.size ≤ 1360000 := (memT_ok 3 r3).1
  have d1 : (memT zs (Int.toNat 3) (rawN zs (rawN zs m))).1.size ≤ 1360000 := (memT_ok 3 r2).1
  have hi4 : 0 ≤ modV (rawV zs (rawN zs (rawN zs m))) 4 ∧ modV (rawV zs (rawN zs (rawN zs m))) 4 < 4 := ⟨mN9 _ _, modV_lt _ _ (by decide)⟩
  have x2 : tapeOk zs (rawN zs (rawN zs m)) ∧ (0 : Int) ≤ 1 ∧ (1 : Int) ≤ ((3 : Nat) : Int) ∧ 3 ≤ 3 := ⟨r2, by decide, by decide, by decide⟩
  have x3 : tapeOk zs (rawN zs (rawN zs (rawN zs m))) ∧ (0 : Int) ≤ 3 ∧ (3 : Int) ≤ ((3 : Nat) : Int) ∧ 3 ≤ 3 := ⟨r3, by decide, by decide, by decide⟩
  have x4 : tapeOk zs (rawN zs (rawN zs m)) ∧ (0 : Int) ≤ 3 ∧ (3 : Int) ≤ ((3 : Nat) : Int) ∧ 3 ≤ 3 := ⟨r2, by decide, by decide, by decide⟩
  repeat ((conv => whnf); refine ⟨by exact ⟨hm, by decide⟩, ?_⟩)
  conv => whnf
  refine cI9 (fun g0 => ?_) (fun g0 => ?_)
  ·have c0 : modV (rawV zs m) 8 = 0 := of_decide_eq_true g0
   conv => whnf
   refine ⟨by exact r1, ?_⟩
   conv => whnf
   refine ⟨by ((try dsimp only); first | (simp only [bsz2, List.size_toArray, List.length_cons, List.length_nil]; omega) | (simp only [ByteArray.size_append, bsz2, List.size_toArray, List.length_cons, List.length_nil]; omega)), ?_⟩
   conv => whnf
   refine ⟨by ((try dsimp only); first | (simp only [bsz2, List.size_toArray, List.length_cons, List.length_nil]; omega) | (simp only [ByteArray.size_append, bsz2, List.size_toArray, List.length_cons, List.length_nil]; omega)), ?_⟩
   conv => whnf
   refine ⟨by exact x2, ?_⟩
   conv => whnf
   refine ⟨by ((try dsimp only); first | (simp only [bsz2, List.size_toArray, List.length_cons, List.length_nil]; omega) | (simp only [ByteArray.size_append, bsz2, List.size_toArray, List.length_cons, List.length_nil]; omega)), ?_⟩
   conv => whnf
   refine ⟨by ((try dsimp only); first | (simp only [bsz2, List.size_toArray, List.length_cons, List.length_nil]; omega) | (simp only [ByteArray.size_append, bsz2, List.size_toArray, List.length_cons, List.length_nil]; omega)), ?_⟩
   conv => whnf
   refine ⟨by ((try dsimp only); first | (simp only [bsz2, List.size_toArray, List.length_cons, List.length_nil]; omega) | (simp only [ByteArray.size_append, bsz2, List.size_toArray, List.length_cons, List.length_nil]; omega)), ?_⟩
   repeat ((conv => whnf); refine ⟨by (unfold inI64; omega), ?_⟩)
   conv => whnf
   have e : topP zs t m = (t ++ (⟨#[38]⟩ ++ pickS labL zs (rawN zs m) ++ ⟨#[32, 123, 32]⟩ ++ (memT zs 1 (rawN zs (rawN zs m))).1 ++ ⟨#[125, 59, 10]⟩), (memT zs 1 (rawN zs (rawN zs m))).2) := by unfold topP; rw [if_pos c0]
   rw [e] at inv
   refine hI9 (k, ((k + 1 : Nat) : Int) - 1, t ++ (⟨#[38]⟩ ++ pickS labL zs (rawN zs m) ++ ⟨#[32, 123, 32]⟩ ++ (memT zs 1 (rawN zs (rawN zs m))).1 ++ ⟨#[125, 59, 10]⟩), (memT zs 1 (rawN zs (rawN zs m))).2) ?_ ?_ ?_ ?_
   ·repeat (first | exact LeL.nil | refine LeL.drop ?_ | refine LeL.same ?_)
   ·rfl
   ·exact ⟨by omega, inv⟩
   ·exact Nat.lt_succ_self k
  have n0 : ¬ modV (rawV zs m) 8 = 0 := of_decide_eq_false g0
  conv => whnf
  refine cI9 (fun g1 => ?_) (fun g1 => ?_)
  ·have c1 : modV (rawV zs m) 8 = 1 := of_decide_eq_true g1
   conv => whnf
   refine ⟨by exact r1, ?_⟩
   conv => whnf
   refine ⟨by ((try dsimp only); first | (simp only [bsz2, List.size_toArray, List.length_cons, List.length_nil]; omega) | (simp only [ByteArray.size_append, bsz2, List.size_toArray, List.length_cons, List.length_nil]; omega)), ?_⟩
   conv => whnf
   refine ⟨by ((try dsimp only); first | (simp only [bsz2, List.size_toArray, List.length_cons, List.length_nil]; omega) | (simp only [ByteArray.size_append, bsz2, List.size_toArray, List.length_cons, List.length_nil]; omega)), ?_⟩
   conv => whnf
   refine ⟨by ((try dsimp only); first | (simp only [bsz2, List.size_toArray, List.length_cons, List.length_nil]; omega) | (simp only [ByteArray.size_append, bsz2, List.size_toArray, List.length_cons, List.length_nil]; omega)), ?_⟩
   repeat ((conv => whnf); refine ⟨by (unfold inI64; omega), ?_⟩)
   conv => whnf
   have e : topP zs t m = (t ++ (⟨#[47, 100, 101, 108, 101, 116, 101, 45, 110, 111, 100, 101, 47, 32, 38]⟩ ++ pickS labL zs (rawN zs m) ++ ⟨#[59, 10]⟩), (rawN zs (rawN zs m))) := by unfold topP; rw [if_neg n0, if_pos c1]
   rw [e] at inv
   refine hI9 (k, ((k + 1 : Nat) : Int) - 1, t ++ (⟨#[47, 100, 101, 108, 101, 116, 101, 45, 110, 111, 100, 101, 47, 32, 38]⟩ ++ pickS labL zs (rawN zs m) ++ ⟨#[59, 10]⟩), (rawN zs (rawN zs m))) ?_ ?_ ?_ ?_
   ·repeat (first | exact LeL.nil | refine LeL.drop ?_ | refine LeL.same ?_)
   ·rfl
   ·exact ⟨by omega, inv⟩
   ·exact Nat.lt_succ_self k
  have n1 : ¬ modV (rawV zs m) 8 = 1 := of_decide_eq_false g1
  conv => whnf
  refine cI9 (fun g2 => ?_) (fun g2 => ?_)
  ·have c2 : modV (rawV zs m) 8 = 2 := of_decide_eq_true g2
   repeat ((conv => whnf); refine ⟨by exact ⟨r1, by decide⟩, ?_⟩)
   conv => whnf
   refine cI9 (fun g3 => ?_) (fun g3 => ?_)
   ·have c3 : modV (rawV zs (rawN zs m)) 3 = 0 := of_decide_eq_true g3
    conv => whnf
    refine ⟨by exact ⟨r2, by decide⟩, ?_⟩
    conv => whnf
    refine ⟨by exact hi4, ?_⟩
    conv => whnf
    refine ⟨by ((try dsimp only); first | (simp only [bsz2, List.size_toArray, List.length_cons, List.length_nil]; omega) | (simp only [ByteArray.size_append, bsz2, List.size_toArray, List.length_cons, List.length_nil]; omega)), ?_⟩
    conv => whnf
    refine ⟨by ((try dsimp only); first | (simp only [bsz2, List.size_toArray, List.length_cons, List.length_nil]; omega) | (simp only [ByteArray.size_append, bsz2, List.size_toArray, List.length_cons, List.length_nil]; omega)), ?_⟩
    conv => whnf
    refine ⟨by ((try dsimp only); first | (simp only [bsz2, List.size_toArray, List.length_cons, List.length_nil]; omega) | (simp only [ByteArray.size_append, bsz2, List.size_toArray, List.length_cons, List.length_nil]; omega)), ?_⟩
    repeat ((conv => whnf); refine ⟨by (unfold inI64; omega), ?_⟩)
    conv => whnf
    have e : topP zs t m = (t ++ (⟨#[47, 105, 110, 99, 108, 117, 100, 101, 47, 32, 34]⟩ ++ pickS incL zs (rawN zs (rawN zs m)) ++ ⟨#[34, 59, 10]⟩), (rawN zs (rawN zs (rawN zs m)))) := by unfold topP; rw [if_neg n0, if_neg n1, if_pos c2, if_pos c3]
    rw [e] at inv
    refine kI9 (k, ((k + 1 : Nat) : Int) - 1, t ++ (⟨#[47, 105, 110, 99, 108, 117, 100, 101, 47, 32, 34]⟩ ++ pickS incL zs (rawN zs (rawN zs m)) ++ ⟨#[34, 59, 10]⟩), (rawN zs (rawN zs (rawN zs m)))) [0] rfl id0 rfl ?_ ?_ ?_
    ·repeat (first | exact KeepL.nil | refine KeepL.drop ?_ | refine KeepL.ren rfl ?_)
    ·exact ⟨by omega, inv⟩
    ·exact Nat.lt_succ_self k
   ·have c3 : ¬ modV (rawV zs (rawN zs m)) 3 = 0 := of_decide_eq_false g3
    repeat ((conv => whnf); refine ⟨by (unfold inI64; omega), ?_⟩)
    conv => whnf
    have e : topP zs t m = (t, (rawN zs (rawN zs m))) := by unfold topP; rw [if_neg n0, if_neg n1, if_pos c2, if_neg c3]
    rw [e] at inv
    refine hI9 (k, ((k + 1 : Nat) : Int) - 1, t, (rawN zs (rawN zs m))) ?_ ?_ ?_ ?_
    ·repeat (first | exact LeL.nil | refine LeL.drop ?_ | refine LeL.same ?_)
    ·rfl
    ·exact ⟨by omega, inv⟩
    ·exact Nat.lt_succ_self k
  have n2 : ¬ modV (rawV zs m) 8 = 2 := of_decide_eq_false g2
  repeat ((conv => whnf); refine ⟨by exact ⟨r1, by decide⟩, ?_⟩)
  conv => whnf
  refine cI9 (fun g3 => ?_) (fun g3 => ?_)
  ·have c3 : modV (rawV zs (rawN zs m)) 4 = 0 := of_decide_eq_true g3
   conv => whnf
   refine ⟨by exact r2, ?_⟩
   conv => whnf
   refine ⟨by ((try dsimp only); first | (simp only [bsz2, List.size_toArray, List.length_cons, List.length_nil]; omega) | (simp only [ByteArray.size_append, bsz2, List.size_toArray, List.length_cons, List.length_nil]; omega)), ?_⟩
   conv => whnf
   refine ⟨by ((try dsimp only); first | (simp only [bsz2, List.size_toArray, List.length_cons, List.length_nil]; omega) | (simp only [ByteArray.size_append, bsz2, List.size_toArray, List.length_cons, List.length_nil]; omega)), ?_⟩
   conv => whnf
   refine ⟨by exact x3, ?_⟩
   conv => whnf
   refine ⟨by ((try dsimp only); first | (simp only [bsz2, List.size_toArray, List.length_cons, List.length_nil]; omega) | (simp only [ByteArray.size_append, bsz2, List.size_toArray, List.length_cons, List.length_nil]; omega)), ?_⟩
   conv => whnf
   refine ⟨by ((try dsimp only); first | (simp only [bsz2, List.size_toArray, List.length_cons, List.length_nil]; omega) | (simp only [ByteArray.size_append, bsz2, List.size_toArray, List.length_cons, List.length_nil]; omega)), ?_⟩
   conv => whnf
   refine ⟨by ((try dsimp only); first | (simp only [bsz2, List.size_toArray, List.length_cons, List.length_nil]; omega) | (simp only [ByteArray.size_append, bsz2, List.size_toArray, List.length_cons, List.length_nil]; omega)), ?_⟩
   repeat ((conv => whnf); refine ⟨by (unfold inI64; omega), ?_⟩)
   conv => whnf
   have e : topP zs t m = (t ++ (pickS labL zs (rawN zs (rawN zs m)) ++ ⟨#[58, 32]⟩) ++ (⟨#[47, 32, 123, 32]⟩ ++ (memT zs 3 (rawN zs (rawN zs (rawN zs m)))).1 ++ ⟨#[125, 59, 10]⟩), (memT zs 3 (rawN zs (rawN zs (rawN zs m)))).2) := by unfold topP; rw [if_neg n0, if_neg n1, if_neg n2, if_pos c3]
   rw [e] at inv
   refine hI9 (k, ((k + 1 : Nat) : Int) - 1, t ++ (pickS labL zs (rawN zs (rawN zs m)) ++ ⟨#[58, 32]⟩) ++ (⟨#[47, 32, 123, 32]⟩ ++ (memT zs 3 (rawN zs (rawN zs (rawN zs m)))).1 ++ ⟨#[125, 59, 10]⟩), (memT zs 3 (rawN zs (rawN zs (rawN zs m)))).2) ?_ ?_ ?_ ?_
   ·repeat (first | exact LeL.nil | refine LeL.drop ?_ | refine LeL.same ?_)
   ·rfl
   ·exact ⟨by omega, inv⟩
   ·exact Nat.lt_succ_self k
  ·have c3 : ¬ modV (rawV zs (rawN zs m)) 4 = 0 := of_decide_eq_false g3
   conv => whnf
   refine ⟨by exact x4, ?_⟩
   conv => whnf
   refine ⟨by ((try dsimp only); first | (simp only [bsz2, List.size_toArray, List.length_cons, List.length_nil]; omega) | (simp only [ByteArray.size_append, bsz2, List.size_toArray, List.length_cons, List.length_nil]; omega)), ?_⟩
   conv => whnf
   refine ⟨by ((try dsimp only); first | (simp only [bsz2, List.size_toArray, List.length_cons, List.length_nil]; omega) | (simp only [ByteArray.size_append, bsz2, List.size_toArray, List.length_cons, List.length_nil]; omega)), ?_⟩
   conv => whnf
   refine ⟨by ((try dsimp only); first | (simp only [bsz2, List.size_toArray, List.length_cons, List.length_nil]; omega) | (simp only [ByteArray.size_append, bsz2, List.size_toArray, List.length_cons, List.length_nil]; omega)), ?_⟩
   repeat ((conv => whnf); refine ⟨by (unfold inI64; omega), ?_⟩)
   conv => whnf
   have e : topP zs t m = (t ++ (⟨#[47, 32, 123, 32]⟩ ++ (memT zs 3 (rawN zs (rawN zs m))).1 ++ ⟨#[125, 59, 10]⟩), (memT zs 3 (rawN zs (rawN zs m))).2) := by unfold topP; rw [if_neg n0, if_neg n1, if_neg n2, if_neg c3]
   rw [e] at inv
   refine hI9 (k, ((k + 1 : Nat) : Int) - 1, t ++ (⟨#[47, 32, 123, 32]⟩ ++ (memT zs 3 (rawN zs (rawN zs m))).1 ++ ⟨#[125, 59, 10]⟩), (memT zs 3 (rawN zs (rawN zs m))).2) ?_ ?_ ?_ ?_
   ·repeat (first | exact LeL.nil | refine LeL.drop ?_ | refine LeL.same ?_)
   ·rfl
   ·exact ⟨by omega, inv⟩
   ·exact Nat.lt_succ_self k
 ·have hk0 : k = 0 := by have : ¬ (0 : Int) < k := of_decide_eq_false h; omega
  subst hk0
  conv => whnf
  rw [← hgo]
  exact eE9 ⟨rfl, rfl⟩
def spoilM (zs : List Int) (s : ByteArray) (k m n2 : Int) : ByteArray × Int :=
 if m = 0 then (s.extract 0 k.toNat ++ s.extract (k + 1).toNat s.size, n2)
 else if m = 1 then (s.extract 0 k.toNat ++ s.extract k.toNat (k + 1).toNat ++ s.extract k.toNat s.size, n2)
 else if m = 2 then (s.extract 0 k.toNat ++ bytesOf [IntKind.u8.wrap (modV (rawV zs n2) 256)] ++ s.extract (k + 1).toNat s.size, rawN zs n2)
 else if m = 3 then (s.extract 0 k.toNat ++ pickS oddL zs n2 ++ s.extract k.toNat s.size, rawN zs n2)
 else (s.extract 0 k.toNat ++ pickS pieceL zs n2 ++ s.extract k.toNat s.size, rawN zs n2)
def spoilV (zs : List Int) (n : Int) (s : ByteArray) : ByteArray × Int :=
 if s.size = 0 then (pickS oddL zs n, rawN zs n) else spoilM zs s (modV (rawV zs n) s.size) (modV (rawV zs (rawN zs n)) 5) (rawN zs (rawN zs n))
def T73 : Table := ext T72 10 (saysTapeS fun zs n s => (some (tapeOk zs n ∧ s.size ≤ 100000000), .str (spoilV zs n s).1, (spoilV zs n s).2))
theorem t73 : TSound Tryz.prog T73 := by
 refine extTapeS t72 10 (fn := Tryz.f10) rfl rfl (by decide) _ [0, 1, 4, 5, 8, 16, 17, 27, 42, 58] fun zs n s hn => ?_
 obtain ⟨ht, h3⟩ : tapeOk zs n ∧ s.size ≤ 100000000 := hn
 have h0 := ht.1
 have h1 := ht.2.1
 have h2 := ht.2.2
 have r1 := rawN_ok' ht
 have r2 := rawN_ok' r1
 have r3 := rawN_ok' r2
 conv => whnf
 refine cI9 (fun g0 => ?_) (fun g0 => ?_)
 ·have g0' : s.size = 0 := by have : (s.size : Int) = 0 := of_decide_eq_true g0
                              omega
  repeat ((conv => whnf); refine ⟨by exact ⟨h0, by omega, by omega⟩, ?_⟩)
  conv => whnf
  refine eE9 ⟨?_, ?_⟩
  ·show SV.str (pickS oddL zs n) = SV.str (spoilV zs n s).1
   rw [spoilV, if_pos g0']
  ·show [tapeO zs (rawN zs n)] = [tapeO zs (spoilV zs n s).2]
   rw [spoilV, if_pos g0']
 have g0' : ¬ s.size = 0 := fun h => of_decide_eq_false g0 (by rw [h]; rfl)
 have hm0 := mN9 (rawV zs n) s.size
 have hm1 := modV_lt (rawV zs n) s.size (by omega)
 have hp1 := mN9 (rawV zs (rawN zs n)) 5
 have hp2 := modV_lt (rawV zs (rawN zs n)) 5 (by decide)
 repeat ((conv => whnf); refine ⟨by first | exact ⟨⟨h0, by omega, by omega⟩, by omega⟩ | exact ⟨⟨r1.1, by show rawN zs n ≤ _; omega, by omega⟩, by decide⟩, ?_⟩)
 conv => whnf
 have hS : spoilV zs n s = spoilM zs s (modV (rawV zs n) s.size) (modV (rawV zs (rawN zs n)) 5) (rawN zs (rawN zs n)) := by rw [spoilV, if_neg g0']
 dsimp only
 have hodd := pick_len (l := oddL) (b := 40) (by decide +kernel) zs (rawN zs (rawN zs n))
 have hpie := pick_len (l := pieceL) (b := 40) (by decide +kernel) zs (rawN zs (rawN zs n))
 generalize hk : modV (rawV zs n) s.size = k at hm0 hm1 hS
 generalize hm : modV (rawV zs (rawN zs n)) 5 = m at hp1 hp2 hS
 have hx : ∀ a b : Nat, (s.extract a b).size ≤ s.size := fun a b => by rw [ByteArray.size_extract]; omega
 refine cI9 (fun g1 => ?_) (fun g1 => ?_)
 ·have g1' : m = 0 := of_decide_eq_true g1
  have hV := hS
  rw [spoilM, if_pos g1'] at hV
  have x1 := hx (0 : Int).toNat k.toNat
  have x2 := hx (k + 1).toNat ((s.size : Int)).toNat
  repeat ((conv => whnf); refine ⟨by first | (unfold inI64; omega) | omega | exact rfl, ?_⟩)
  conv => whnf
  refine eE9 ⟨?_, ?_⟩
  ·show _ = SV.str (spoilV zs n s).1
   rw [hV]
   rfl
  ·show _ = [tapeO zs (spoilV zs n s).2]
   rw [hV]
 have n1 : ¬ m = 0 := of_decide_eq_false g1
 conv => whnf
 refine cI9 (fun g2 => ?_) (fun g2 => ?_)
 ·have g2' : m = 1 := of_decide_eq_true g2
  have hV := hS
  rw [spoilM, if_neg n1, if_pos g2'] at hV
  have x1 := hx (0 : Int).toNat k.toNat
  have x2 : (s.extract k.toNat ((s.size : Int)).toNat).size ≤ s.size := hx _ _
  have x3 : (s.extract (0 : Int).toNat k.toNat ++ s.extract k.toNat (k + 1).toNat).size = (s.extract (0 : Int).toNat k.toNat).size + (s.extract k.toNat (k + 1).toNat).size := ByteArray.size_append ..
  have x4 : (s.extract k.toNat (k + 1).toNat).size ≤ s.size := hx _ _
  repeat ((conv => whnf); refine ⟨by first | (unfold inI64; omega) | omega | exact rfl, ?_⟩)
  conv => whnf
  refine eE9 ⟨?_, ?_⟩
  ·show _ = SV.str (spoilV zs n s).1
   rw [hV]
   rfl
  ·show _ = [tapeO zs (spoilV zs n s).2]
   rw [hV]
 have n2 : ¬ m = 1 := of_decide_eq_false g2
 conv => whnf
 refine cI9 (fun g3 => ?_) (fun g3 => ?_)
 ·have g3' : m = 2 := of_decide_eq_true g3
  have hV := hS
  rw [spoilM, if_neg n1, if_neg n2, if_pos g3'] at hV
  have x1 := hx (0 : Int).toNat k.toNat
  have x2 : (s.extract (k + 1).toNat ((s.size : Int)).toNat).size ≤ s.size := hx _ _
  have x3 : (s.extract (0 : Int).toNat k.toNat ++ bytesOf [IntKind.u8.wrap (modV (rawV zs (rawN zs (rawN zs n))) 256)]).size = (s.extract (0 : Int).toNat k.toNat).size + (bytesOf [IntKind.u8.wrap (modV (rawV zs (rawN zs (rawN zs n))) 256)]).size := ByteArray.size_append ..
  have x4 : (bytesOf [IntKind.u8.wrap (modV (rawV zs (rawN zs (rawN zs n))) 256)]).size = 1 := rfl
  repeat ((conv => whnf); refine ⟨by first | exact ⟨⟨r2.1, by show rawN zs (rawN zs n) ≤ _; omega, by omega⟩, by decide⟩ | exact rfl | (unfold inI64; omega) | omega, ?_⟩)
  conv => whnf
  dsimp only
  conv => whnf
  refine eE9 ⟨?_, ?_⟩
  ·show _ = SV.str (spoilV zs n s).1
   rw [hV]
   rfl
  ·show _ = [tapeO zs (spoilV zs n s).2]
   rw [hV]
 have n3 : ¬ m = 2 := of_decide_eq_false g3
 conv => whnf
 refine cI9 (fun g4 => ?_) (fun g4 => ?_)
 ·have g4' : m = 3 := of_decide_eq_true g4
  have hV := hS
  rw [spoilM, if_neg n1, if_neg n2, if_neg n3, if_pos g4'] at hV
  have x1 := hx (0 : Int).toNat k.toNat
  have x2 : (s.extract k.toNat ((s.size : Int)).toNat).size ≤ s.size := hx _ _
  have x3 : (s.extract (0 : Int).toNat k.toNat ++ pickS oddL zs (rawN zs (rawN zs n))).size = (s.extract (0 : Int).toNat k.toNat).size + (pickS oddL zs (rawN zs (rawN zs n))).size := ByteArray.size_append ..
  repeat ((conv => whnf); refine ⟨by first | exact ⟨r2.1, by show rawN zs (rawN zs n) ≤ _; omega, by omega⟩ | exact rfl | omega, ?_⟩)
  conv => whnf
  refine eE9 ⟨?_, ?_⟩
  ·show _ = SV.str (spoilV zs n s).1
   rw [hV]
   rfl
  ·show _ = [tapeO zs (spoilV zs n s).2]
   rw [hV]
 have n4 : ¬ m = 3 := of_decide_eq_false g4
 have hV := hS
 rw [spoilM, if_neg n1, if_neg n2, if_neg n3, if_neg n4] at hV
 have x1 := hx (0 : Int).toNat k.toNat
 have x2 : (s.extract k.toNat ((s.size : Int)).toNat).size ≤ s.size := hx _ _
 have x3 : (s.extract (0 : Int).toNat k.toNat ++ pickS pieceL zs (rawN zs (rawN zs n))).size = (s.extract (0 : Int).toNat k.toNat).size + (pickS pieceL zs (rawN zs (rawN zs n))).size := ByteArray.size_append ..
 repeat ((conv => whnf); refine ⟨by first | exact ⟨r2.1, by show rawN zs (rawN zs n) ≤ _; omega, by omega⟩ | exact rfl | omega, ?_⟩)
 conv => whnf
 refine eE9 ⟨?_, ?_⟩
 ·show _ = SV.str (spoilV zs n s).1
  rw [hV]
  rfl
 ·show _ = [tapeO zs (spoilV zs n s).2]
  rw [hV]
theorem spoil_ok {zs : List Int} {n : Int} (s : ByteArray) (h : tapeOk zs n) : tapeOk zs (spoilV zs n s).2 := by
 unfold spoilV
 split
 ·exact rawN_ok' h
 ·have h2 := rawN_ok' (rawN_ok' h)
  unfold spoilM
  split
  ·exact h2
  ·split
   ·exact h2
   ·split
    ·exact rawN_ok' h2
    ·split
     ·exact rawN_ok' h2
     ·exact rawN_ok' h2
theorem spoil_size (zs : List Int) (n : Int) (s : ByteArray) : (spoilV zs n s).1.size ≤ 3 * s.size + 100 := by
 have hx : ∀ a b : Nat, (s.extract a b).size ≤ s.size := fun a b => by rw [ByteArray.size_extract]; omega
 have ho : ∀ m, (pickS oddL zs m).size ≤ 40 := fun m => pick_len (l := oddL) (b := 40) (by decide +kernel) zs m
 have hp : ∀ m, (pickS pieceL zs m).size ≤ 40 := fun m => pick_len (l := pieceL) (b := 40) (by decide +kernel) zs m
 have hb : ∀ x : Int, (bytesOf [x]).size = 1 := fun _ => rfl
 unfold spoilV
 split
 ·have := ho n
  show (pickS oddL zs n).size ≤ _
  omega
 ·generalize modV (rawV zs n) s.size = k
  generalize modV (rawV zs (rawN zs n)) 5 = m
  generalize rawN zs (rawN zs n) = n2
  have a1 := hx 0 k.toNat
  have a2 := hx (k + 1).toNat s.size
  have a3 := hx k.toNat (k + 1).toNat
  have a4 := hx k.toNat s.size
  have a5 := ho n2
  have a6 := hp n2
  unfold spoilM
  split
  ·simp only [ByteArray.size_append]; omega
  ·split
   ·simp only [ByteArray.size_append]; omega
   ·split
    ·simp only [ByteArray.size_append, hb]; omega
    ·split
     ·simp only [ByteArray.size_append]; omega
     ·simp only [ByteArray.size_append]; omega
theorem mad_ok {zs : List Int} {n : Int} (k : Int) (h : tapeOk zs n) : tapeOk zs (madV zs n k).2 := by
 have go : ∀ (k : Nat) {n : Int} (out : ByteArray), tapeOk zs n → tapeOk zs (madGo zs k n out).2 := by
  intro k
  induction k with
  | zero => intro n out h; exact h
  | succ k ih =>
   intro n out h
   simp only [madGo]
   by_cases ho : modV (rawV zs n) 40 = 39
   ·simp only [if_pos ho]
    exact ih _ (rawN_ok' (rawN_ok' (rawN_ok' (rawN_ok' h))))
   ·simp only [if_neg ho]
    exact ih _ (rawN_ok' (rawN_ok' (rawN_ok' h)))
 exact go _ _ (rawN_ok' h)
def lwA (ys : List Int) : ByteArray × Int := docTd ys 3 0
def lwS (ys : List Int) : ByteArray × Int := spoilV ys (lwA ys).2 (lwA ys).1
def lwI (ys : List Int) : ByteArray × Int := spoilV ys (lwS ys).2 (lwA ys).1
def lwT (ys : List Int) : ByteArray × Int := spoilV ys (lwI ys).2 (lwI ys).1
def lwM (ys : List Int) : ByteArray × Int := madV ys (lwT ys).2 12
def lwN (ys : List Int) : ByteArray × Int := madV ys (lwM ys).2 6
def lwL (ys : List Int) (raw : ByteArray) : List ByteArray := [raw, (lwA ys).1, (lwS ys).1, (lwT ys).1, (lwM ys).1, ⟨#[47, 32, 123, 32]⟩ ++ (lwN ys).1 ++ ⟨#[32, 125, 59]⟩]
abbrev W0 (N : Nat) : Table := Q8 (ER N Z10)
theorem w0 {N : Nat} (hN : 20000 ≤ N) : TSound Tryz.prog (W0 N) := q8 (er z10 hN)
abbrev W1 (N : Nat) : Table := ext (W0 N) 10 (saysTapeS fun zs n s => (some (tapeOk zs n ∧ s.size ≤ 100000000), .str (spoilV zs n s).1, (spoilV zs n s).2))
theorem w1 {N : Nat} (hN : 20000 ≤ N) : TSound Tryz.prog (W1 N) := ext_only t73 (w0 hN)
abbrev W2 (N : Nat) : Table := ext (W1 N) 11 (saysTapeI fun zs n k => (some (tapeOk zs n ∧ 0 ≤ k ∧ k ≤ 1000), .str (madV zs n k).1, (madV zs n k).2))
theorem w2 {N : Nat} (hN : 20000 ≤ N) : TSound Tryz.prog (W2 N) := ext_only t57 (w1 hN)
abbrev W3 (N : Nat) : Table := ext (W2 N) 7 (fun args H => match args, H with | [], [] => some (none, .bool true, []) | _, _ => none)
theorem w3 {N : Nat} (hN : 20000 ≤ N) : TSound Tryz.prog (W3 N) := ext_only y64 (w2 hN)
abbrev W4 (N : Nat) : Table := ext (W3 N) 12 (saysSI fun s f => (none, (srcV s f).sv))
theorem w4 {N : Nat} (hN : 20000 ≤ N) : TSound Tryz.prog (W4 N) := ext_only z5 (w3 hN)
def saysReads : Says := fun args H => match args, H with
 | [.c (.p (.l (.int .i64) _)), .c (.p (.v (.string _))), .c (.p (.l c0 _)), .c (.p (.v (.int .i64 _)))], [] => match decide (c0 = defC) with
  | true => some (none, .bool true, [])
  | false => none
 | _, _ => none
abbrev W5 (N : Nat) : Table := ext (W4 N) 3 saysReads
theorem tape_nw' (zs : List Int) : tapeOk (zs.take 500) 0 := by
 have := List.length_take_le 500 zs
 exact ⟨by decide, by decide, by omega⟩
theorem idk2' : ∀ k, k < 2 → [0, 1][k]? = some k := fun k hk => by
 have : k = 0 ∨ k = 1 := by omega
 rcases this with rfl | rfl <;> rfl
set_option maxHeartbeats 4000000 in
theorem w5 {N : Nat} (hN : 20000 ≤ N) : TSound Tryz.prog (W5 N) := by
 refine ext_run (w4 hN) (f := 3) (fn := Tryz.f3) rfl rfl [0, 1, 2, 3, 8, 9, 10, 12, 13, 14, 15, 16, 17, 18, 26, 48, 49, 50, 51, 96] fun args H p r' H' hs hp => ?_
 unfold saysReads at hs
 split at hs
 ·split at hs
  ·rename_i zs raw c0 l file _ hc0
   cases hs
   obtain rfl : c0 = defC := of_decide_eq_true hc0
   refine ⟨Nat.le_of_ble_eq_true rfl, [], rfl, fun k hk => absurd hk (Nat.not_lt_zero k), ?_⟩
   have ht0 := tape_nw' zs
   generalize hz : (zs : List Int).take 500 = ys at ht0
   conv => whnf
   refine cI9 (fun h => ?_) (fun h => ?_)
   ·skip
    conv => whnf
    exact eE9 ⟨rfl, rfl⟩
   obtain ⟨z1, i1⟩ := docTd_ok (d := 3) ht0 (by decide) (by decide)
   have i2 : tapeOk ys (lwS ys).2 := spoil_ok _ i1
   have i3 : tapeOk ys (lwI ys).2 := spoil_ok _ i2
   have i4 : tapeOk ys (lwT ys).2 := spoil_ok _ i3
   have i5 : tapeOk ys (lwM ys).2 := mad_ok _ i4
   have i6 : tapeOk ys (lwN ys).2 := mad_ok _ i5
   have z2 := spoil_size ys (lwS ys).2 (lwA ys).1
   have z3 := (madV_le ys (lwM ys).2 6 i5.1 (by decide)).2.2
   have c1 : tapeOk ys 0 ∧ (1 : Int) ≤ 3 ∧ (3 : Int) ≤ 4 := ⟨ht0, by decide, by decide⟩
   have c2 : tapeOk ys (lwA ys).2 ∧ (lwA ys).1.size ≤ 100000000 := ⟨i1, by unfold lwA; omega⟩
   have c3 : tapeOk ys (lwS ys).2 ∧ (lwA ys).1.size ≤ 100000000 := ⟨i2, c2.2⟩
   have c4 : tapeOk ys (lwI ys).2 ∧ (lwI ys).1.size ≤ 100000000 := ⟨i3, by
    have h1 : (lwA ys).1.size ≤ 5444000 := z1
    have h2 : (lwI ys).1.size ≤ 3 * (lwA ys).1.size + 100 := z2
    omega⟩
   have c5 : tapeOk ys (lwT ys).2 ∧ (0 : Int) ≤ 12 ∧ (12 : Int) ≤ 1000 := ⟨i4, by decide, by decide⟩
   have c6 : tapeOk ys (lwM ys).2 ∧ (0 : Int) ≤ 6 ∧ (6 : Int) ≤ 1000 := ⟨i5, by decide, by decide⟩
   have e4 : (⟨#[47, 32, 123, 32]⟩ : ByteArray).size = 4 := rfl
   have e3 : (⟨#[32, 125, 59]⟩ : ByteArray).size = 3 := rfl
   have c7 : ((((⟨#[47, 32, 123, 32]⟩ : ByteArray).size + (lwN ys).1.size : Nat)) : Int) ≤ 9223372036854775807 := by
    have h1 : ((lwN ys).1.size : Int) ≤ 81 * 6 := z3
    omega
   have c8 : ((((⟨#[47, 32, 123, 32]⟩ ++ (lwN ys).1 : ByteArray).size + (⟨#[32, 125, 59]⟩ : ByteArray).size : Nat)) : Int) ≤ 9223372036854775807 := by
    have h1 : ((lwN ys).1.size : Int) ≤ 81 * 6 := z3
    rw [ByteArray.size_append]
    omega
   repeat ((conv => whnf); rw [hz])
   conv => whnf
   refine ⟨c1, ?_⟩
   conv => whnf
   refine ⟨c2, ?_⟩
   conv => whnf
   refine ⟨c3, ?_⟩
   conv => whnf
   refine ⟨c4, ?_⟩
   conv => whnf
   refine ⟨c5, ?_⟩
   conv => whnf
   refine ⟨c6, ?_⟩
   conv => whnf
   refine ⟨c7, ?_⟩
   conv => whnf
   refine ⟨c8, ?_⟩
   conv => whnf
   obtain ⟨L, hL⟩ : ∃ L : List ByteArray, L = lwL ys raw := ⟨_, rfl⟩
   have hL6 : L.length = 6 := by rw [hL]; rfl
   obtain ⟨m0, hm0⟩ : ∃ m0 : Int, m0 = (lwN ys).2 := ⟨_, rfl⟩
   refine lI9 (σ := Nat) (fun i => [(0, XV.s .none), (1, XV.s .none), (2, XV.s (.a (.c (.p (.l defC l))))), (3, XV.s (.int .i64 file)), (8, XV.s .none), (9, XV.s .none), (10, XV.s .none), (12, XV.s .none), (13, XV.s .none), (14, XV.s .none), (15, XV.s .none), (16, XV.s .none), (17, XV.s .none), (18, XV.s .none), (26, XV.s .none), (48, XV.s (.a (.c (.own 1 .str L)))), (49, XV.s (.int .i64 6)), (50, XV.s (.int .i64 (i : Nat))), (51, XV.s .none), (96, XV.s .none)]) (fun _ => [tapeO ys m0, .tok 9 .str 6 false]) (fun i => i ≤ 6) (fun i => 6 - i) 0 ?_ ?_ ?_ ?_
   ·subst hL
    repeat (first | exact LeL.nil | refine LeL.drop ?_ | refine LeL.same ?_)
   ·subst hm0
    rfl
   ·decide
   clear hL hm0 i1 i2 i3 i4 i5 i6 z1 z2 z3 c1 c2 c3 c4 c5 c6 c7 c8
   intro i hi
   conv => whnf
   refine cI9 (fun h1 => ?_) (fun h1 => ?_)
   ·have hi6 : i < 6 := by
     have : (i : Int) < 6 := of_decide_eq_true h1
     omega
    have hin : 0 ≤ (i : Int) ∧ (i : Int) < (L.length : Nat) := by omega
    have hf : ∀ X : ByteArray, (CT.list defC).fit (srcV X file).defs := fun X => srcV_fit X file
    have eqg : eqGood Tryz.prog 32 := ⟨by decide +kernel, by decide +kernel⟩
    repeat ((conv => whnf); refine ⟨by first | exact hin | exact fun _ => eqg | exact fun _ => hf _, ?_⟩)
    conv => whnf
    refine cI9 (fun h2 => ?_) (fun h2 => ?_)
    ·exfalso
     revert h2
     simp [defsB]
    repeat ((conv => whnf); refine ⟨by (unfold inI64; omega), ?_⟩)
    conv => whnf
    refine kI9 (i + 1) [0, 1] rfl idk2' rfl ?_ hi6 ?_
    ·repeat (first | exact KeepL.nil | refine KeepL.drop ?_ | refine KeepL.ren rfl ?_)
    ·show 6 - (i + 1) < 6 - i
     omega
   ·skip
    conv => whnf
    exact eE9 ⟨rfl, rfl⟩
  ·cases hs
 ·cases hs
end Go.Ab
