/- The tape: numbers and decimal texts. -/
import Derived.Test.YtkgcgbpclpmleaaGreatTY38toV32
import Derived.Test.YtkgcgbpclpmleaaGreatTX13toY42
import Derived.Test.YtkgcgbpclpmleaaGreatTX8toX10
namespace Go.Ab
open Go.Proofs
set_option linter.unusedSectionVars false
set_option maxRecDepth 100000
variable [Glob]
def X59 : Table := Y62
theorem x59 : TS9 X59 := y62
theorem rawN_ok {zs : List Int} {n : Int} (h : tapeOk zs n) : tapeOk zs (rawN zs n) := by
 obtain ⟨h0, h1, h2⟩ := h
 unfold rawN
 split
 ·exact ⟨h0, h1, h2⟩
 ·exact ⟨by omega, by omega, h2⟩
theorem bsz2 (a : Array UInt8) : (⟨a⟩ : ByteArray).size = a.size := rfl
def X60 : Table := ext X59 64 saysTr
theorem x60 : TS9 X60 := by
 refine ext_run x59 (f := 64) (fn := Tryz.f64) rfl rfl [0, 2, 3] fun args H p r H' hs hp => ?_
 unfold saysTr at hs
 split at hs
 ·cases hs
  refine ⟨nB9 rfl, [], rfl, nK9, ?_⟩
  conv => whnf
  refine cI9 ?_ ?_<;>intro h <;> subst h <;> conv => whnf
  ·exact eR9
  ·exact eR9
 ·cases hs
def saysSh : Says := fun args H => match args, H with
 | [.c (.p (.v (.int .u32 x))), .c (.p (.v (.int .u32 y))), .c (.p (.v (.bool b)))], [] => some (some (In32 x ∧ In32 y), .int .u32 (if b then calcV 3 ⟨#[60, 60]⟩ x y else calcV 3 ⟨#[62, 62]⟩ x y), [])
 | _, _ => none
theorem shl_big (x : Int) {y : Int} (h : 31 < y) : w32 (x * 2 ^ min y.toNat 32) = 0 := by
 rw [show min y.toNat 32 = 32 by omega, w32_eq]
 omega
theorem shr_big {x y : Int} (hx : In32 x) (h : 31 < y) : x.fdiv (2 ^ min y.toNat 32) = 0 := by
 rw [show min y.toNat 32 = 32 by omega]
 obtain ⟨a, rfl⟩ : ∃ n : Nat, x = n := ⟨x.toNat, by unfold In32 at hx; omega⟩
 unfold In32 at hx
 have e : (a : Int).fdiv (2 ^ 32) = ((a / 2 ^ 32 : Nat) : Int) := by
  rw [show ((2 : Int) ^ 32) = ((2 ^ 32 : Nat) : Int) by simp]
  exact (Int.ofNat_fdiv a (2 ^ 32)).symm
 rw [e]
 omega
def X61 : Table := ext X60 63 saysSh
theorem x61 : TS9 X61 := by
 refine ext_run x60 (f := 63) (fn := Tryz.f63) rfl rfl [0, 1, 2, 6, 8, 9] fun args H p r H' hs hp => ?_
 unfold saysSh at hs
 split at hs
 ·rename_i x y b
  cases hs
  obtain ⟨hx, hy⟩ := hp
  refine ⟨nB9 rfl, [], rfl, nK9, ?_⟩
  have hy0 : 0 ≤ y := hy.1
  conv => whnf
  refine cI9 ?_ ?_<;>intro h
  ·have h1 : 31 < y := by simpa using h
   conv => whnf
   refine eT9 ?_
   cases b
   ·show _ = SV.int .u32 (x.fdiv (2 ^ min y.toNat 32))
    rw [shr_big hx h1]
   ·show _ = SV.int .u32 (w32 (x * 2 ^ min y.toNat 32))
    rw [shl_big x h1]
  ·skip
   conv => whnf
   refine cI9 ?_ ?_<;>intro h2
   ·subst h2
    repeat ((conv => whnf); refine ⟨by omega, ?_⟩)
    conv => whnf
    exact eR9
   ·subst h2
    repeat ((conv => whnf); refine ⟨by omega, ?_⟩)
    conv => whnf
    exact eR9
 ·cases hs
def saysDec (k : Nat) : Says := saysI fun n => (some (0 ≤ n ∧ n < 10 ^ (k + 1) ∧ k ≤ 17), .str (B (basedV false 10 n.toNat)))
theorem pow_le18 {k : Nat} (h : k ≤ 17) : (10 : Int) ^ (k + 1) ≤ 10 ^ 18 := by
 have h1 : 10 ^ (k + 1) ≤ 10 ^ 18 := Nat.pow_le_pow_right (by decide) (by omega)
 have := Int.ofNat_le.2 h1
 simpa using this
theorem x62k (k : Nat) : TS9 (ext X61 62 (saysDec k)) := by
 refine ext_rec x61 (f := 62) (fn := Tryz.f62) rfl rfl [0, 2, 4] (fun k args H p r H' hs hp => ?_) k
 unfold saysDec saysI at hs
 split at hs
 ·rename_i n
  cases hs
  obtain ⟨h0, h1, h2⟩ : 0 ≤ n ∧ n < 10 ^ (k + 1) ∧ k ≤ 17 := hp
  have hk := pow_le18 h2
  have hn : n < 1000000000000000000 := by
   have : (10 : Int) ^ 18 = 1000000000000000000 := by decide
   omega
  refine ⟨nB9 rfl, [], rfl, nK9, ?_⟩
  obtain ⟨N, rfl⟩ : ∃ m : Nat, n = m := ⟨n.toNat, by omega⟩
  conv => whnf
  refine cI9 ?_ ?_<;>intro h
  ·have h3 : N < 10 := by have := oT9 h; omega
   repeat ((conv => whnf); refine ⟨by first | exact ⟨by omega, by omega, by show (N : Int) + 1 ≤ ((10 : Nat) : Int); omega⟩ | (unfold inI64; omega), ?_⟩)
   conv => whnf
   refine eT9 ?_
   show _ = SV.str (B (basedV false 10 (N : Int).toNat))
   rw [Int.toNat_natCast, dec_small h3, show ((N : Int) + 1).toNat = N + 1 by omega]
   show SV.str ((B [48, 49, 50, 51, 52, 53, 54, 55, 56, 57]).extract N (N + 1)) = _
   rw [piece1 _ _ (by exact h3)]
   congr 2
   rcases (by omega : N = 0 ∨ N = 1 ∨ N = 2 ∨ N = 3 ∨ N = 4 ∨ N = 5 ∨ N = 6 ∨ N = 7 ∨ N = 8 ∨ N = 9) with rfl | rfl | rfl | rfl | rfl | rfl | rfl | rfl | rfl | rfl <;> rfl
  ·have h3 : 10 ≤ N := by have := oF9 h; omega
   cases k with
   | zero => exfalso; simp at h1; omega
   | succ k =>
    have hq := quo_nat N 10 (by omega)
    have hq1 : 0 ≤ IntKind.i64.wrap ((N : Int).tdiv ((10 : Nat) : Int)) ∧ IntKind.i64.wrap ((N : Int).tdiv ((10 : Nat) : Int)) < 10 ^ (k + 1) ∧ k ≤ 17 := by
     rw [hq]
     refine ⟨by omega, ?_, by omega⟩
     rw [Int.pow_succ] at h1
     omega
    have hd : (N : Int).tmod 10 = ((N % 10 : Nat) : Int) := (Int.ofNat_tmod N 10).symm
    have hd1 : 0 ≤ (N : Int).tmod 10 ∧ (N : Int).tmod 10 ≤ (N : Int).tmod 10 + 1 ∧ (N : Int).tmod 10 + 1 ≤ ((10 : Nat) : Int) := by rw [hd]; omega
    have hd2 : inI64 ((N : Int).tmod 10 + 1) := by rw [hd]; unfold inI64; omega
    have hl := basedV_len false 10 (IntKind.i64.wrap ((N : Int).tdiv ((10 : Nat) : Int))).toNat
    repeat ((conv => whnf); refine ⟨by first | exact hq1 | exact hd1 | exact hd2 | omega, ?_⟩)
    conv => whnf
    have hx : (⟨#[48, 49, 50, 51, 52, 53, 54, 55, 56, 57]⟩ : ByteArray).extract ((N : Int).tmod 10).toNat ((N : Int).tmod 10 + 1).toNat = B [(digL false).getD (N % 10) 0] := by
     rw [hd, Int.toNat_natCast, show (((N % 10 : Nat) : Int) + 1).toNat = N % 10 + 1 by omega]
     show (B [48, 49, 50, 51, 52, 53, 54, 55, 56, 57]).extract (N % 10) (N % 10 + 1) = _
     rw [piece1 _ _ (show N % 10 < 10 by omega)]
     congr 2
     generalize hm : N % 10 = m
     rcases (by omega : m = 0 ∨ m = 1 ∨ m = 2 ∨ m = 3 ∨ m = 4 ∨ m = 5 ∨ m = 6 ∨ m = 7 ∨ m = 8 ∨ m = 9) with rfl | rfl | rfl | rfl | rfl | rfl | rfl | rfl | rfl | rfl <;> rfl
    repeat ((conv => whnf); refine ⟨by first | (rw [hx, B_size, B_size]; simp only [zC9, zN9]; exact (show (((basedV false 10 (IntKind.i64.wrap ((N : Int).tdiv ((10 : Nat) : Int))).toNat).length + 1 : Nat) : Int) ≤ 9223372036854775807 by omega)) | exact rfl, ?_⟩)
    conv => whnf
    refine eT9 ?_
    show _ = SV.str (B (basedV false 10 (N : Int).toNat))
    rw [Int.toNat_natCast, dec_big h3 (by omega), ← B_append]
    have hq2 : IntKind.i64.wrap ((N : Int).tdiv 10) = ((N / 10 : Nat) : Int) := hq
    rw [hx, hq2, Int.toNat_natCast]
 ·cases hs
def X62 : Table := ext X61 62 (saysDec 9)
theorem x62 : TS9 X62 := x62k 9
def saysRange : Says := fun args H => match args, H with
 | [.c (.ptr 0 0), .c (.p (.v (.int .i64 lo))), .c (.p (.v (.int .i64 hi)))], [.row [.p (.l (.int .i64) zs), .p (.v (.int .i64 n))]] => some (some (tapeOk zs n ∧ 0 ≤ lo ∧ lo ≤ hi ∧ hi ≤ 4294967295), .int .i64 (lo + modV (rawV zs n) (hi - lo + 1)), [tapeO zs (rawN zs n)])
 | _, _ => none
def X63 : Table := ext X62 15 saysRange
theorem x63 : TS9 X63 := by
 refine ext_run x62 (f := 15) (fn := Tryz.f15) rfl rfl [0, 1, 2, 6] fun args H p r H' hs hp => ?_
 unfold saysRange at hs
 split at hs
 ·rename_i lo hi zs n
  cases hs
  obtain ⟨ht, h0, h1, h2⟩ := hp
  refine ⟨nB9 rfl, [0], rfl, id0, ?_⟩
  have hm0 := mN9 (rawV zs n) (hi - lo + 1)
  have hm1 := modV_lt (rawV zs n) (hi - lo + 1) (by omega)
  repeat ((conv => whnf); refine ⟨by first | exact ⟨ht, by omega⟩ | (unfold inI64; omega), ?_⟩)
  conv => whnf
  exact eR9
 ·cases hs
def saysPick : Says := fun args H => match args, H with
 | [.c (.ptr 0 0), .c (.p (.l (.int .i64) l))], [.row [.p (.l (.int .i64) zs), .p (.v (.int .i64 n))]] => some (some (tapeOk zs n ∧ 1 ≤ (l : List Int).length ∧ (l : List Int).length ≤ 1000), .int .i64 ((l : List Int).getD (modV (rawV zs n) (l : List Int).length).toNat 0), [tapeO zs (rawN zs n)])
 | _, _ => none
def X64 : Table := ext X63 75 saysPick
theorem x64 : TS9 X64 := by
 refine ext_run x63 (f := 75) (fn := Tryz.f75) rfl rfl [0, 1, 4] fun args H p r H' hs hp => ?_
 unfold saysPick at hs
 split at hs
 ·rename_i l zs n
  cases hs
  obtain ⟨ht, h0, h1⟩ := hp
  refine ⟨nB9 rfl, [0], rfl, id0, ?_⟩
  have hm0 := mN9 (rawV zs n) (l : List Int).length
  have hm1 := modV_lt (rawV zs n) (l : List Int).length (by omega)
  repeat ((conv => whnf); refine ⟨by first | exact ⟨ht, by omega⟩ | exact ⟨hm0, hm1⟩, ?_⟩)
  conv => whnf
  exact eR9
 ·cases hs
def tnL (zs : List Int) (n : Int) : List Int := [0, 1, 2, 3, 5, 31, 32, 0 + modV (rawV zs n) 301, 4294967295, 2147483648, 0 + modV (rawV zs (rawN zs n)) 4294967296]
def tnV (zs : List Int) (n : Int) : Int := (tnL zs n).getD (modV (rawV zs (rawN zs (rawN zs n))) 11).toNat 0
def tnN (zs : List Int) (n : Int) : Int := rawN zs (rawN zs (rawN zs n))
theorem tnN_ok {zs : List Int} {n : Int} (h : tapeOk zs n) : tapeOk zs (tnN zs n) := rawN_ok (rawN_ok (rawN_ok h))
theorem tnV_in (zs : List Int) (n : Int) : In32 (tnV zs n) := by
 have h1 := mN9 (rawV zs (rawN zs (rawN zs n))) 11
 have h2 := modV_lt (rawV zs (rawN zs (rawN zs n))) 11 (by decide)
 have a1 := mN9 (rawV zs n) 301
 have a2 := modV_lt (rawV zs n) 301 (by decide)
 have b1 := mN9 (rawV zs (rawN zs n)) 4294967296
 have b2 := modV_lt (rawV zs (rawN zs n)) 4294967296 (by decide)
 unfold tnV
 generalize (modV (rawV zs (rawN zs (rawN zs n))) 11) = k at h1 h2
 have hm : (tnL zs n).getD k.toNat 0 ∈ tnL zs n := by
  rw [List.getD_eq_getElem?_getD, List.getElem?_eq_getElem (by show k.toNat < 11; omega)]
  exact List.getElem_mem _
 generalize (tnL zs n).getD k.toNat 0 = v at hm
 simp only [tnL, List.mem_cons, List.not_mem_nil, or_false] at hm
 unfold In32
 omega
def X65 : Table := ext X64 61 (saysTape fun zs n => (some (tapeOk zs n), .int .i64 (tnV zs n), tnN zs n))
theorem x65 : TS9 X65 := by
 refine extTape x64 61 (fn := Tryz.f61) rfl rfl (by decide) _ [0, 2] fun zs n hn => ?_
 have hn1 : tapeOk zs n := hn
 have hn2 := rawN_ok hn1
 have hn3 := rawN_ok hn2
 repeat ((conv => whnf); refine ⟨by first | exact ⟨hn1, by decide⟩ | exact ⟨hn2, by decide⟩ | exact ⟨hn3, nB9 rfl, nB9 rfl⟩, ?_⟩)
 conv => whnf
 exact eR9
def opB (op : Int) (a : ByteArray) (x : Int) (b : ByteArray) (y : Int) : ByteArray × Int :=
 if op = 0 then (⟨#[45]⟩ ++ a, w32 (0 - x))
 else if op = 1 then (⟨#[126]⟩ ++ a, bitsA .xor .u32 4294967295 x)
 else if op = 2 then (⟨#[33]⟩ ++ a, tr (decide (0 = x)))
 else if op = 3 then (a ++ ⟨#[32, 43, 32]⟩ ++ b, w32 (x + y))
 else if op = 4 then (a ++ ⟨#[45]⟩ ++ b, w32 (x - y))
 else if op = 5 then (a ++ ⟨#[32, 42, 32]⟩ ++ b, w32 (x * y))
 else if op = 6 then (if y = 0 then (a ++ ⟨#[47, 32, 49]⟩, x) else (a ++ ⟨#[32, 47, 32]⟩ ++ b, w32 (x.tdiv y)))
 else if op = 7 then (if y = 0 then (a ++ ⟨#[32, 37, 32, 55]⟩, x.tmod 7) else (a ++ ⟨#[32, 37, 32]⟩ ++ b, x.tmod y))
 else if op = 8 then (a ++ ⟨#[32, 60, 60, 32]⟩ ++ b, w32 (x * 2 ^ min y.toNat 32))
 else if op = 9 then (a ++ ⟨#[32, 62, 62, 32]⟩ ++ b, x.fdiv (2 ^ min y.toNat 32))
 else if op = 10 then (a ++ ⟨#[32, 38, 32]⟩ ++ b, bitsA .and .u32 x y)
 else if op = 11 then (a ++ ⟨#[32, 124, 32]⟩ ++ b, bitsA .or .u32 x y)
 else if op = 12 then (a ++ ⟨#[32, 94, 32]⟩ ++ b, bitsA .xor .u32 x y)
 else if op = 13 then (a ++ ⟨#[32, 61, 61, 32]⟩ ++ b, tr (decide (x = y)))
 else if op = 14 then (a ++ ⟨#[32, 33, 61, 32]⟩ ++ b, tr (!decide (x = y)))
 else if op = 15 then (a ++ ⟨#[32, 60, 32]⟩ ++ b, tr (decide (x < y)))
 else if op = 16 then (a ++ ⟨#[32, 62, 61, 32]⟩ ++ b, tr (decide (y ≤ x)))
 else if op = 17 then (a ++ ⟨#[32, 38, 38, 32]⟩ ++ b, tr (!decide (x = 0) && !decide (y = 0)))
 else if op = 18 then (a ++ ⟨#[32, 124, 124, 32]⟩ ++ b, tr (!decide (x = 0) || !decide (y = 0)))
 else (a ++ ⟨#[32, 63, 32]⟩ ++ b ++ ⟨#[32, 58, 32, 53]⟩, if x ≠ 0 then y else 5)
theorem opB2z {a b : ByteArray} {x y : Int} (h : x = 0) : opB 2 a x b y = (⟨#[33]⟩ ++ a, 1) := by subst h; rfl
theorem opB2n {a b : ByteArray} {x y : Int} (h : ¬ x = 0) : opB 2 a x b y = (⟨#[33]⟩ ++ a, 0) := by
 show (⟨#[33]⟩ ++ a, tr (decide (0 = x))) = _
 rw [dF9 (fun e => h e.symm)]
 rfl
theorem opB6z {a b : ByteArray} {x y : Int} (h : y = 0) : opB 6 a x b y = (a ++ ⟨#[47, 32, 49]⟩, x) := by subst h; rfl
theorem opB6n {a b : ByteArray} {x y : Int} (h : ¬ y = 0) : opB 6 a x b y = (a ++ ⟨#[32, 47, 32]⟩ ++ b, w32 (x.tdiv y)) := by
 show (if y = 0 then _ else _) = _
 rw [if_neg h]
theorem opB7z {a b : ByteArray} {x y : Int} (h : y = 0) : opB 7 a x b y = (a ++ ⟨#[32, 37, 32, 55]⟩, x.tmod 7) := by subst h; rfl
theorem opB7n {a b : ByteArray} {x y : Int} (h : ¬ y = 0) : opB 7 a x b y = (a ++ ⟨#[32, 37, 32]⟩ ++ b, x.tmod y) := by
 show (if y = 0 then _ else _) = _
 rw [if_neg h]
theorem opB19n {a b : ByteArray} {x y : Int} (h : ¬ x = 0) : opB 19 a x b y = (a ++ ⟨#[32, 63, 32]⟩ ++ b ++ ⟨#[32, 58, 32, 53]⟩, y) := by
 show (_, if x ≠ 0 then y else 5) = _
 rw [if_pos h]
theorem opB19z {a b : ByteArray} {x y : Int} (h : x = 0) : opB 19 a x b y = (a ++ ⟨#[32, 63, 32]⟩ ++ b ++ ⟨#[32, 58, 32, 53]⟩, 5) := by subst h; rfl
def inB (a : ByteArray) : ByteArray := ⟨#[40]⟩ ++ a ++ ⟨#[41]⟩
def exprT (zs : List Int) : Nat → Int → ByteArray × Int × Int
 | 0, n => (B (basedV false 10 (tnV zs n).toNat), w32 (tnV zs n), tnN zs n)
 | d + 1, n =>
  if modV (rawV zs n) 5 = 0 then (B (basedV false 10 (tnV zs (rawN zs n)).toNat), w32 (tnV zs (rawN zs n)), tnN zs (rawN zs n))
  else
   let p := exprT zs d (rawN zs n)
   let q := exprT zs d p.2.2
   let r := opB (modV (rawV zs q.2.2) 20) (inB p.1) p.2.1 (inB q.1) q.2.1
   (r.1, r.2, rawN zs q.2.2)
def exLen : Nat → Nat
 | 0 => 10
 | d + 1 => (exLen d + 2) + (exLen d + 2) + 7
theorem exLen_pos (d : Nat) : 10 ≤ exLen d := by
 induction d with
 | zero => exact nR9 _
 | succ d ih => simp only [exLen]; omega
theorem opB_size (op : Int) (a : ByteArray) (x : Int) (b : ByteArray) (y : Int) : (opB op a x b y).1.size ≤ a.size + b.size + 7 := by
 have one : ∀ s : ByteArray, s.size ≤ 7 → (s ++ a).size ≤ a.size + b.size + 7 ∧ (a ++ s).size ≤ a.size + b.size + 7 ∧ (a ++ s ++ b).size ≤ a.size + b.size + 7 := fun s h => by
  simp only [zA9]
  omega
 unfold opB
 by_cases h0 : op = 0; · rw [if_pos h0]; exact (one ⟨#[45]⟩ (by decide)).1
 rw [if_neg h0]
 by_cases h1 : op = 1; · rw [if_pos h1]; exact (one ⟨#[126]⟩ (by decide)).1
 rw [if_neg h1]
 by_cases h2 : op = 2; · rw [if_pos h2]; exact (one ⟨#[33]⟩ (by decide)).1
 rw [if_neg h2]
 by_cases h6 : op = 6
 ·subst h6
  show (if y = 0 then (a ++ ⟨#[47, 32, 49]⟩, x) else (a ++ ⟨#[32, 47, 32]⟩ ++ b, w32 (x.tdiv y))).1.size ≤ _
  split
  ·exact (one ⟨#[47, 32, 49]⟩ (by decide)).2.1
  ·exact (one ⟨#[32, 47, 32]⟩ (by decide)).2.2
 by_cases h7 : op = 7
 ·subst h7
  show (if y = 0 then (a ++ ⟨#[32, 37, 32, 55]⟩, x.tmod 7) else (a ++ ⟨#[32, 37, 32]⟩ ++ b, x.tmod y)).1.size ≤ _
  split
  ·exact (one ⟨#[32, 37, 32, 55]⟩ (by decide)).2.1
  ·exact (one ⟨#[32, 37, 32]⟩ (by decide)).2.2
 have three : ∀ (s : ByteArray) (v : Int), s.size ≤ 7 → (a ++ s ++ b, v).1.size ≤ a.size + b.size + 7 := fun s _ h => (one s h).2.2
 by_cases h3 : op = 3; · rw [if_pos h3]; exact three _ _ (by decide)
 rw [if_neg h3]
 by_cases h4 : op = 4; · rw [if_pos h4]; exact three _ _ (by decide)
 rw [if_neg h4]
 by_cases h5 : op = 5; · rw [if_pos h5]; exact three _ _ (by decide)
 rw [if_neg h5]
 rw [if_neg h6]
 rw [if_neg h7]
 by_cases h8 : op = 8; · rw [if_pos h8]; exact three _ _ (by decide)
 rw [if_neg h8]
 by_cases h9 : op = 9; · rw [if_pos h9]; exact three _ _ (by decide)
 rw [if_neg h9]
 by_cases h10 : op = 10; · rw [if_pos h10]; exact three _ _ (by decide)
 rw [if_neg h10]
 by_cases h11 : op = 11; · rw [if_pos h11]; exact three _ _ (by decide)
 rw [if_neg h11]
 by_cases h12 : op = 12; · rw [if_pos h12]; exact three _ _ (by decide)
 rw [if_neg h12]
 by_cases h13 : op = 13; · rw [if_pos h13]; exact three _ _ (by decide)
 rw [if_neg h13]
 by_cases h14 : op = 14; · rw [if_pos h14]; exact three _ _ (by decide)
 rw [if_neg h14]
 by_cases h15 : op = 15; · rw [if_pos h15]; exact three _ _ (by decide)
 rw [if_neg h15]
 by_cases h16 : op = 16; · rw [if_pos h16]; exact three _ _ (by decide)
 rw [if_neg h16]
 by_cases h17 : op = 17; · rw [if_pos h17]; exact three _ _ (by decide)
 rw [if_neg h17]
 by_cases h18 : op = 18; · rw [if_pos h18]; exact three _ _ (by decide)
 rw [if_neg h18]
 show (a ++ ⟨#[32, 63, 32]⟩ ++ b ++ ⟨#[32, 58, 32, 53]⟩).size ≤ _
 simp only [zA9]
 have e1 : (⟨#[32, 63, 32]⟩ : ByteArray).size = 3 := rfl
 have e2 : (⟨#[32, 58, 32, 53]⟩ : ByteArray).size = 4 := rfl
 omega
theorem opB_in (op : Int) (a : ByteArray) {x : Int} (b : ByteArray) {y : Int} (hx : In32 x) (hy : In32 y) : In32 (opB op a x b y).2 := by
 unfold opB
 by_cases h0 : op = 0; · rw [if_pos h0]; exact in32_w _
 rw [if_neg h0]
 by_cases h1 : op = 1; · rw [if_pos h1]; exact in32_w _
 rw [if_neg h1]
 by_cases h2 : op = 2; · rw [if_pos h2]; exact in32_tr _
 rw [if_neg h2]
 by_cases h3 : op = 3; · rw [if_pos h3]; exact in32_w _
 rw [if_neg h3]
 by_cases h4 : op = 4; · rw [if_pos h4]; exact in32_w _
 rw [if_neg h4]
 by_cases h5 : op = 5; · rw [if_pos h5]; exact in32_w _
 rw [if_neg h5]
 by_cases h6 : op = 6; · rw [if_pos h6]; split; exact hx; exact in32_w _
 rw [if_neg h6]
 by_cases h7 : op = 7; · rw [if_pos h7]; split; exact in32_mod hx ⟨by decide, by decide⟩; exact in32_mod hx hy
 rw [if_neg h7]
 by_cases h8 : op = 8; · rw [if_pos h8]; exact in32_w _
 rw [if_neg h8]
 by_cases h9 : op = 9; · rw [if_pos h9]; exact in32_shr hx _
 rw [if_neg h9]
 by_cases h10 : op = 10; · rw [if_pos h10]; exact in32_w _
 rw [if_neg h10]
 by_cases h11 : op = 11; · rw [if_pos h11]; exact in32_w _
 rw [if_neg h11]
 by_cases h12 : op = 12; · rw [if_pos h12]; exact in32_w _
 rw [if_neg h12]
 by_cases h13 : op = 13; · rw [if_pos h13]; exact in32_tr _
 rw [if_neg h13]
 by_cases h14 : op = 14; · rw [if_pos h14]; exact in32_tr _
 rw [if_neg h14]
 by_cases h15 : op = 15; · rw [if_pos h15]; exact in32_tr _
 rw [if_neg h15]
 by_cases h16 : op = 16; · rw [if_pos h16]; exact in32_tr _
 rw [if_neg h16]
 by_cases h17 : op = 17; · rw [if_pos h17]; exact in32_tr _
 rw [if_neg h17]
 by_cases h18 : op = 18; · rw [if_pos h18]; exact in32_tr _
 rw [if_neg h18]
 show In32 (if x ≠ 0 then y else 5)
 split
 ·exact hy
 ·exact ⟨by decide, by decide⟩
theorem exprT_len (zs : List Int) : ∀ (d : Nat) (n : Int), (exprT zs d n).1.size ≤ exLen d ∧ In32 (exprT zs d n).2.1 := by
 have num : ∀ n, (B (basedV false 10 (tnV zs n).toNat)).size ≤ 10 ∧ In32 (w32 (tnV zs n)) := fun n => by
  have h := tnV_in zs n
  refine ⟨?_, in32_w _⟩
  have h1 := h.1
  have h2 := h.2
  exact dec_len 9 (tnV zs n).toNat (by omega) (by omega)
 intro d
 induction d with
 | zero => intro n; exact num n
 | succ d ih =>
  intro n
  unfold exprT
  split
  ·exact ⟨Nat.le_trans (num _).1 (exLen_pos _), (num _).2⟩
  ·obtain ⟨a1, a2⟩ := ih (rawN zs n)
   obtain ⟨b1, b2⟩ := ih (exprT zs d (rawN zs n)).2.2
   have hin : ∀ a : ByteArray, (inB a).size = a.size + 2 := fun a => by
    unfold inB
    simp only [zA9]
    have e1 : (⟨#[40]⟩ : ByteArray).size = 1 := rfl
    have e2 : (⟨#[41]⟩ : ByteArray).size = 1 := rfl
    omega
   refine ⟨Nat.le_trans (opB_size _ _ _ _ _) ?_, opB_in _ _ _ a2 b2⟩
   rw [hin, hin]
   simp only [exLen]
   omega
theorem exprT_size (zs : List Int) (d : Nat) (n : Int) (hd : d ≤ 4) : (exprT zs d n).1.size ≤ 400 ∧ In32 (exprT zs d n).2.1 := by
 obtain ⟨h1, h2⟩ := exprT_len zs d n
 refine ⟨Nat.le_trans h1 ?_, h2⟩
 rcases (by omega : d = 0 ∨ d = 1 ∨ d = 2 ∨ d = 3 ∨ d = 4) with rfl | rfl | rfl | rfl | rfl <;> decide
theorem exprT_tape {zs : List Int} : ∀ (d : Nat) {n : Int}, tapeOk zs n → tapeOk zs (exprT zs d n).2.2 := by
 intro d
 induction d with
 | zero => intro n h; exact tnN_ok h
 | succ d ih =>
  intro n h
  unfold exprT
  split
  ·exact tnN_ok (rawN_ok h)
  ·exact rawN_ok (ih (ih (rawN_ok h)))
def saysExpr (k : Nat) : Says := fun args H => match args, H with
 | [.c (.ptr 0 0), .c (.p (.v (.int .i64 d)))], [.row [.p (.l (.int .i64) zs), .p (.v (.int .i64 n))]] => some (some (tapeOk zs n ∧ 0 ≤ d ∧ d ≤ k ∧ k ≤ 4), .tup [.c (.p (.v (.string (exprT zs d.toNat n).1))), .c (.int .u32 (exprT zs d.toNat n).2.1)], [tapeO zs (exprT zs d.toNat n).2.2])
 | _, _ => none
set_option maxHeartbeats 4000000 in
theorem x66k (k : Nat) : TS9 (ext X65 41 (saysExpr k)) := by
 refine ext_rec x65 (f := 41) (fn := Tryz.f41) rfl rfl [0, 1, 4, 5, 6, 7, 8, 9, 10, 17, 45, 46, 52, 58, 61, 66, 75, 84, 93, 96, 107, 110, 122, 131, 140, 149, 158, 167, 177, 187, 197, 207, 220, 234] (fun k args H p r H' hs hp => ?_) k
 unfold saysExpr at hs
 split at hs
 ·rename_i d zs n
  cases hs
  obtain ⟨ht, h0, h1, h2⟩ := hp
  refine ⟨nB9 rfl, [0], rfl, id0, ?_⟩
  obtain ⟨d, rfl⟩ : ∃ m : Nat, d = m := ⟨d.toNat, by omega⟩
  have num : ∀ m, tapeOk zs m → (0 ≤ tnV zs m ∧ tnV zs m < 10 ^ (9 + 1) ∧ 9 ≤ 17) := fun m _ => ⟨(tnV_in zs m).1, by have := (tnV_in zs m).2; omega, by decide⟩
  cases d with
  | zero =>
   have n0 := num n ht
   repeat ((conv => whnf); refine ⟨by first | exact ht | exact n0, ?_⟩)
   conv => whnf
   exact eR9
  | succ d =>
   cases k with
   | zero => exfalso; omega
   | succ k =>
   have ht1 := rawN_ok ht
   have n1 := num _ ht1
   have hE : (((d + 1 : Nat) : Int) - 1).toNat = d := by omega
   have hp := exprT_size zs (((d + 1 : Nat) : Int) - 1).toNat (rawN zs n) (by omega)
   have htp := exprT_tape (zs := zs) (((d + 1 : Nat) : Int) - 1).toNat ht1
   have hq := exprT_size zs (((d + 1 : Nat) : Int) - 1).toNat (exprT zs (((d + 1 : Nat) : Int) - 1).toNat (rawN zs n)).2.2 (by omega)
   have htq := exprT_tape (zs := zs) (((d + 1 : Nat) : Int) - 1).toNat htp
   have hop0 := mN9 (rawV zs (exprT zs (((d + 1 : Nat) : Int) - 1).toNat (exprT zs (((d + 1 : Nat) : Int) - 1).toNat (rawN zs n)).2.2).2.2) 20
   have hop1 := modV_lt (rawV zs (exprT zs (((d + 1 : Nat) : Int) - 1).toNat (exprT zs (((d + 1 : Nat) : Int) - 1).toNat (rawN zs n)).2.2).2.2) 20 (by decide)
   have c1 : tapeOk zs (rawN zs n) ∧ 0 ≤ ((d + 1 : Nat) : Int) - 1 ∧ ((d + 1 : Nat) : Int) - 1 ≤ (k : Int) ∧ k ≤ 4 := ⟨ht1, by omega, by omega, by omega⟩
   have c2 : tapeOk zs (exprT zs (((d + 1 : Nat) : Int) - 1).toNat (rawN zs n)).2.2 ∧ 0 ≤ ((d + 1 : Nat) : Int) - 1 ∧ ((d + 1 : Nat) : Int) - 1 ≤ (k : Int) ∧ k ≤ 4 := ⟨htp, by omega, by omega, by omega⟩
   repeat ((conv => whnf); refine ⟨⟨ht, by decide⟩, ?_⟩)
   conv => whnf
   refine cI9 ?_ ?_<;>intro h5
   ·have h5' : modV (rawV zs n) 5 = 0 := by
     have h6 : (decide (((d + 1 : Nat) : Int) = 0) || decide (modV (rawV zs n) 5 = 0)) = true := h5
     rw [dF9 (show ¬ ((d + 1 : Nat) : Int) = 0 by omega), Bool.false_or] at h6
     exact oT9 h6
    have hres : exprT zs ((d + 1 : Nat) : Int).toNat n = (B (basedV false 10 (tnV zs (rawN zs n)).toNat), w32 (tnV zs (rawN zs n)), tnN zs (rawN zs n)) := by
     show (if modV (rawV zs n) 5 = 0 then _ else _) = _
     rw [if_pos h5']
    repeat ((conv => whnf); refine ⟨by first | exact ht1 | exact n1, ?_⟩)
    conv => whnf
    refine eE9 ⟨?_, ?_⟩ <;> rw [hres] <;> rfl
   have h5' : ¬ modV (rawV zs n) 5 = 0 := by
    intro h
    rw [h] at h5
    simp at h5
   have hres : exprT zs ((d + 1 : Nat) : Int).toNat n = ((opB (modV (rawV zs (exprT zs (((d + 1 : Nat) : Int) - 1).toNat (exprT zs (((d + 1 : Nat) : Int) - 1).toNat (rawN zs n)).2.2).2.2) 20) (inB (exprT zs (((d + 1 : Nat) : Int) - 1).toNat (rawN zs n)).1) (exprT zs (((d + 1 : Nat) : Int) - 1).toNat (rawN zs n)).2.1 (inB (exprT zs (((d + 1 : Nat) : Int) - 1).toNat (exprT zs (((d + 1 : Nat) : Int) - 1).toNat (rawN zs n)).2.2).1) (exprT zs (((d + 1 : Nat) : Int) - 1).toNat (exprT zs (((d + 1 : Nat) : Int) - 1).toNat (rawN zs n)).2.2).2.1).1, (opB (modV (rawV zs (exprT zs (((d + 1 : Nat) : Int) - 1).toNat (exprT zs (((d + 1 : Nat) : Int) - 1).toNat (rawN zs n)).2.2).2.2) 20) (inB (exprT zs (((d + 1 : Nat) : Int) - 1).toNat (rawN zs n)).1) (exprT zs (((d + 1 : Nat) : Int) - 1).toNat (rawN zs n)).2.1 (inB (exprT zs (((d + 1 : Nat) : Int) - 1).toNat (exprT zs (((d + 1 : Nat) : Int) - 1).toNat (rawN zs n)).2.2).1) (exprT zs (((d + 1 : Nat) : Int) - 1).toNat (exprT zs (((d + 1 : Nat) : Int) - 1).toNat (rawN zs n)).2.2).2.1).2, rawN zs (exprT zs (((d + 1 : Nat) : Int) - 1).toNat (exprT zs (((d + 1 : Nat) : Int) - 1).toNat (rawN zs n)).2.2).2.2) := by
    rw [Int.toNat_natCast, hE]
    show (if modV (rawV zs n) 5 = 0 then _ else _) = _
    rw [if_neg h5']
   repeat ((conv => whnf); refine ⟨by first | exact c1 | exact c2 | exact ⟨htq, by decide⟩ | (unfold inI64; omega) | (simp only [zA9, bsz2, zS9, zC9, zN9]; omega), ?_⟩)
   conv => whnf
   refine cI9 ?_ ?_<;>intro h100
   ·have hop : (modV (rawV zs (exprT zs (((d + 1 : Nat) : Int) - 1).toNat (exprT zs (((d + 1 : Nat) : Int) - 1).toNat (rawN zs n)).2.2).2.2) 20) = 0 := oT9 h100
    repeat ((conv => whnf); refine ⟨by (simp only [zA9, bsz2, zS9, zC9, zN9]; omega), ?_⟩)
    conv => whnf
    refine eE9 ⟨?_, ?_⟩ <;> rw [hres, hop] <;> rfl
   have n100 : ¬ (modV (rawV zs (exprT zs (((d + 1 : Nat) : Int) - 1).toNat (exprT zs (((d + 1 : Nat) : Int) - 1).toNat (rawN zs n)).2.2).2.2) 20) = 0 := oF9 h100
   conv => whnf
   refine cI9 ?_ ?_<;>intro h101
   ·have hop : (modV (rawV zs (exprT zs (((d + 1 : Nat) : Int) - 1).toNat (exprT zs (((d + 1 : Nat) : Int) - 1).toNat (rawN zs n)).2.2).2.2) 20) = 1 := oT9 h101
    repeat ((conv => whnf); refine ⟨by (simp only [zA9, bsz2, zS9, zC9, zN9]; omega), ?_⟩)
    conv => whnf
    refine eE9 ⟨?_, ?_⟩ <;> rw [hres, hop] <;> rfl
   have n101 : ¬ (modV (rawV zs (exprT zs (((d + 1 : Nat) : Int) - 1).toNat (exprT zs (((d + 1 : Nat) : Int) - 1).toNat (rawN zs n)).2.2).2.2) 20) = 1 := oF9 h101
   conv => whnf
   refine cI9 ?_ ?_<;>intro h102
   ·have hop : (modV (rawV zs (exprT zs (((d + 1 : Nat) : Int) - 1).toNat (exprT zs (((d + 1 : Nat) : Int) - 1).toNat (rawN zs n)).2.2).2.2) 20) = 2 := oT9 h102
    conv => whnf
    refine cI9 ?_ ?_<;>intro hy
    ·have hy' : (exprT zs (((d + 1 : Nat) : Int) - 1).toNat (rawN zs n)).2.1 = 0 := oT9 hy
     repeat ((conv => whnf); refine ⟨by (simp only [zA9, bsz2, zS9, zC9, zN9]; omega), ?_⟩)
     conv => whnf
     refine eE9 ⟨?_, ?_⟩ <;> rw [hres, hop, opB2z hy'] <;> rfl
    ·have hy' : ¬ (exprT zs (((d + 1 : Nat) : Int) - 1).toNat (rawN zs n)).2.1 = 0 := oF9 hy
     repeat ((conv => whnf); refine ⟨by (simp only [zA9, bsz2, zS9, zC9, zN9]; omega), ?_⟩)
     conv => whnf
     refine eE9 ⟨?_, ?_⟩ <;> rw [hres, hop, opB2n hy'] <;> rfl
   have n102 : ¬ (modV (rawV zs (exprT zs (((d + 1 : Nat) : Int) - 1).toNat (exprT zs (((d + 1 : Nat) : Int) - 1).toNat (rawN zs n)).2.2).2.2) 20) = 2 := oF9 h102
   conv => whnf
   refine cI9 ?_ ?_<;>intro h103
   ·have hop : (modV (rawV zs (exprT zs (((d + 1 : Nat) : Int) - 1).toNat (exprT zs (((d + 1 : Nat) : Int) - 1).toNat (rawN zs n)).2.2).2.2) 20) = 3 := oT9 h103
    repeat ((conv => whnf); refine ⟨by (simp only [zA9, bsz2, zS9, zC9, zN9]; omega), ?_⟩)
    conv => whnf
    refine eE9 ⟨?_, ?_⟩ <;> rw [hres, hop] <;> rfl
   have n103 : ¬ (modV (rawV zs (exprT zs (((d + 1 : Nat) : Int) - 1).toNat (exprT zs (((d + 1 : Nat) : Int) - 1).toNat (rawN zs n)).2.2).2.2) 20) = 3 := oF9 h103
   conv => whnf
   refine cI9 ?_ ?_<;>intro h104
   ·have hop : (modV (rawV zs (exprT zs (((d + 1 : Nat) : Int) - 1).toNat (exprT zs (((d + 1 : Nat) : Int) - 1).toNat (rawN zs n)).2.2).2.2) 20) = 4 := oT9 h104
    repeat ((conv => whnf); refine ⟨by (simp only [zA9, bsz2, zS9, zC9, zN9]; omega), ?_⟩)
    conv => whnf
    refine eE9 ⟨?_, ?_⟩ <;> rw [hres, hop] <;> rfl
   have n104 : ¬ (modV (rawV zs (exprT zs (((d + 1 : Nat) : Int) - 1).toNat (exprT zs (((d + 1 : Nat) : Int) - 1).toNat (rawN zs n)).2.2).2.2) 20) = 4 := oF9 h104
   conv => whnf
   refine cI9 ?_ ?_<;>intro h105
   ·have hop : (modV (rawV zs (exprT zs (((d + 1 : Nat) : Int) - 1).toNat (exprT zs (((d + 1 : Nat) : Int) - 1).toNat (rawN zs n)).2.2).2.2) 20) = 5 := oT9 h105
    repeat ((conv => whnf); refine ⟨by (simp only [zA9, bsz2, zS9, zC9, zN9]; omega), ?_⟩)
    conv => whnf
    refine eE9 ⟨?_, ?_⟩ <;> rw [hres, hop] <;> rfl
   have n105 : ¬ (modV (rawV zs (exprT zs (((d + 1 : Nat) : Int) - 1).toNat (exprT zs (((d + 1 : Nat) : Int) - 1).toNat (rawN zs n)).2.2).2.2) 20) = 5 := oF9 h105
   conv => whnf
   refine cI9 ?_ ?_<;>intro h106
   ·have hop : (modV (rawV zs (exprT zs (((d + 1 : Nat) : Int) - 1).toNat (exprT zs (((d + 1 : Nat) : Int) - 1).toNat (rawN zs n)).2.2).2.2) 20) = 6 := oT9 h106
    conv => whnf
    refine cI9 ?_ ?_<;>intro hy
    ·have hy' : (exprT zs (((d + 1 : Nat) : Int) - 1).toNat (exprT zs (((d + 1 : Nat) : Int) - 1).toNat (rawN zs n)).2.2).2.1 = 0 := oT9 hy
     repeat ((conv => whnf); refine ⟨by (simp only [zA9, bsz2, zS9, zC9, zN9]; omega), ?_⟩)
     conv => whnf
     refine eE9 ⟨?_, ?_⟩ <;> rw [hres, hop, opB6z hy'] <;> rfl
    ·have hy' : ¬ (exprT zs (((d + 1 : Nat) : Int) - 1).toNat (exprT zs (((d + 1 : Nat) : Int) - 1).toNat (rawN zs n)).2.2).2.1 = 0 := oF9 hy
     repeat ((conv => whnf); refine ⟨by first | (simp only [zA9, bsz2, zS9, zC9, zN9]; omega) | exact rfl, ?_⟩)
     conv => whnf
     refine eE9 ⟨?_, ?_⟩ <;> rw [hres, hop, opB6n hy'] <;> rfl
   have n106 : ¬ (modV (rawV zs (exprT zs (((d + 1 : Nat) : Int) - 1).toNat (exprT zs (((d + 1 : Nat) : Int) - 1).toNat (rawN zs n)).2.2).2.2) 20) = 6 := oF9 h106
   conv => whnf
   refine cI9 ?_ ?_<;>intro h107
   ·have hop : (modV (rawV zs (exprT zs (((d + 1 : Nat) : Int) - 1).toNat (exprT zs (((d + 1 : Nat) : Int) - 1).toNat (rawN zs n)).2.2).2.2) 20) = 7 := oT9 h107
    conv => whnf
    refine cI9 ?_ ?_<;>intro hy
    ·have hy' : (exprT zs (((d + 1 : Nat) : Int) - 1).toNat (exprT zs (((d + 1 : Nat) : Int) - 1).toNat (rawN zs n)).2.2).2.1 = 0 := oT9 hy
     repeat ((conv => whnf); refine ⟨by first | (simp only [zA9, bsz2, zS9, zC9, zN9]; omega) | omega, ?_⟩)
     conv => whnf
     refine eE9 ⟨?_, ?_⟩ <;> rw [hres, hop, opB7z hy'] <;> rfl
    ·have hy' : ¬ (exprT zs (((d + 1 : Nat) : Int) - 1).toNat (exprT zs (((d + 1 : Nat) : Int) - 1).toNat (rawN zs n)).2.2).2.1 = 0 := oF9 hy
     repeat ((conv => whnf); refine ⟨by first | (simp only [zA9, bsz2, zS9, zC9, zN9]; omega) | exact rfl, ?_⟩)
     conv => whnf
     refine eE9 ⟨?_, ?_⟩ <;> rw [hres, hop, opB7n hy'] <;> rfl
   have n107 : ¬ (modV (rawV zs (exprT zs (((d + 1 : Nat) : Int) - 1).toNat (exprT zs (((d + 1 : Nat) : Int) - 1).toNat (rawN zs n)).2.2).2.2) 20) = 7 := oF9 h107
   conv => whnf
   refine cI9 ?_ ?_<;>intro h108
   ·have hop : (modV (rawV zs (exprT zs (((d + 1 : Nat) : Int) - 1).toNat (exprT zs (((d + 1 : Nat) : Int) - 1).toNat (rawN zs n)).2.2).2.2) 20) = 8 := oT9 h108
    repeat ((conv => whnf); refine ⟨by first | (simp only [zA9, bsz2, zS9, zC9, zN9]; omega) | exact ⟨hp.2, hq.2⟩, ?_⟩)
    conv => whnf
    refine eE9 ⟨?_, ?_⟩ <;> rw [hres, hop] <;> rfl
   have n108 : ¬ (modV (rawV zs (exprT zs (((d + 1 : Nat) : Int) - 1).toNat (exprT zs (((d + 1 : Nat) : Int) - 1).toNat (rawN zs n)).2.2).2.2) 20) = 8 := oF9 h108
   conv => whnf
   refine cI9 ?_ ?_<;>intro h109
   ·have hop : (modV (rawV zs (exprT zs (((d + 1 : Nat) : Int) - 1).toNat (exprT zs (((d + 1 : Nat) : Int) - 1).toNat (rawN zs n)).2.2).2.2) 20) = 9 := oT9 h109
    repeat ((conv => whnf); refine ⟨by first | (simp only [zA9, bsz2, zS9, zC9, zN9]; omega) | exact ⟨hp.2, hq.2⟩, ?_⟩)
    conv => whnf
    refine eE9 ⟨?_, ?_⟩ <;> rw [hres, hop] <;> rfl
   have n109 : ¬ (modV (rawV zs (exprT zs (((d + 1 : Nat) : Int) - 1).toNat (exprT zs (((d + 1 : Nat) : Int) - 1).toNat (rawN zs n)).2.2).2.2) 20) = 9 := oF9 h109
   conv => whnf
   refine cI9 ?_ ?_<;>intro h110
   ·have hop : (modV (rawV zs (exprT zs (((d + 1 : Nat) : Int) - 1).toNat (exprT zs (((d + 1 : Nat) : Int) - 1).toNat (rawN zs n)).2.2).2.2) 20) = 10 := oT9 h110
    repeat ((conv => whnf); refine ⟨by (simp only [zA9, bsz2, zS9, zC9, zN9]; omega), ?_⟩)
    conv => whnf
    refine eE9 ⟨?_, ?_⟩ <;> rw [hres, hop] <;> rfl
   have n110 : ¬ (modV (rawV zs (exprT zs (((d + 1 : Nat) : Int) - 1).toNat (exprT zs (((d + 1 : Nat) : Int) - 1).toNat (rawN zs n)).2.2).2.2) 20) = 10 := oF9 h110
   conv => whnf
   refine cI9 ?_ ?_<;>intro h111
   ·have hop : (modV (rawV zs (exprT zs (((d + 1 : Nat) : Int) - 1).toNat (exprT zs (((d + 1 : Nat) : Int) - 1).toNat (rawN zs n)).2.2).2.2) 20) = 11 := oT9 h111
    repeat ((conv => whnf); refine ⟨by (simp only [zA9, bsz2, zS9, zC9, zN9]; omega), ?_⟩)
    conv => whnf
    refine eE9 ⟨?_, ?_⟩ <;> rw [hres, hop] <;> rfl
   have n111 : ¬ (modV (rawV zs (exprT zs (((d + 1 : Nat) : Int) - 1).toNat (exprT zs (((d + 1 : Nat) : Int) - 1).toNat (rawN zs n)).2.2).2.2) 20) = 11 := oF9 h111
   conv => whnf
   refine cI9 ?_ ?_<;>intro h112
   ·have hop : (modV (rawV zs (exprT zs (((d + 1 : Nat) : Int) - 1).toNat (exprT zs (((d + 1 : Nat) : Int) - 1).toNat (rawN zs n)).2.2).2.2) 20) = 12 := oT9 h112
    repeat ((conv => whnf); refine ⟨by (simp only [zA9, bsz2, zS9, zC9, zN9]; omega), ?_⟩)
    conv => whnf
    refine eE9 ⟨?_, ?_⟩ <;> rw [hres, hop] <;> rfl
   have n112 : ¬ (modV (rawV zs (exprT zs (((d + 1 : Nat) : Int) - 1).toNat (exprT zs (((d + 1 : Nat) : Int) - 1).toNat (rawN zs n)).2.2).2.2) 20) = 12 := oF9 h112
   conv => whnf
   refine cI9 ?_ ?_<;>intro h113
   ·have hop : (modV (rawV zs (exprT zs (((d + 1 : Nat) : Int) - 1).toNat (exprT zs (((d + 1 : Nat) : Int) - 1).toNat (rawN zs n)).2.2).2.2) 20) = 13 := oT9 h113
    repeat ((conv => whnf); refine ⟨by (simp only [zA9, bsz2, zS9, zC9, zN9]; omega), ?_⟩)
    conv => whnf
    refine eE9 ⟨?_, ?_⟩ <;> rw [hres, hop] <;> rfl
   have n113 : ¬ (modV (rawV zs (exprT zs (((d + 1 : Nat) : Int) - 1).toNat (exprT zs (((d + 1 : Nat) : Int) - 1).toNat (rawN zs n)).2.2).2.2) 20) = 13 := oF9 h113
   conv => whnf
   refine cI9 ?_ ?_<;>intro h114
   ·have hop : (modV (rawV zs (exprT zs (((d + 1 : Nat) : Int) - 1).toNat (exprT zs (((d + 1 : Nat) : Int) - 1).toNat (rawN zs n)).2.2).2.2) 20) = 14 := oT9 h114
    repeat ((conv => whnf); refine ⟨by (simp only [zA9, bsz2, zS9, zC9, zN9]; omega), ?_⟩)
    conv => whnf
    refine eE9 ⟨?_, ?_⟩ <;> rw [hres, hop] <;> rfl
   have n114 : ¬ (modV (rawV zs (exprT zs (((d + 1 : Nat) : Int) - 1).toNat (exprT zs (((d + 1 : Nat) : Int) - 1).toNat (rawN zs n)).2.2).2.2) 20) = 14 := oF9 h114
   conv => whnf
   refine cI9 ?_ ?_<;>intro h115
   ·have hop : (modV (rawV zs (exprT zs (((d + 1 : Nat) : Int) - 1).toNat (exprT zs (((d + 1 : Nat) : Int) - 1).toNat (rawN zs n)).2.2).2.2) 20) = 15 := oT9 h115
    repeat ((conv => whnf); refine ⟨by (simp only [zA9, bsz2, zS9, zC9, zN9]; omega), ?_⟩)
    conv => whnf
    refine eE9 ⟨?_, ?_⟩ <;> rw [hres, hop] <;> rfl
   have n115 : ¬ (modV (rawV zs (exprT zs (((d + 1 : Nat) : Int) - 1).toNat (exprT zs (((d + 1 : Nat) : Int) - 1).toNat (rawN zs n)).2.2).2.2) 20) = 15 := oF9 h115
   conv => whnf
   refine cI9 ?_ ?_<;>intro h116
   ·have hop : (modV (rawV zs (exprT zs (((d + 1 : Nat) : Int) - 1).toNat (exprT zs (((d + 1 : Nat) : Int) - 1).toNat (rawN zs n)).2.2).2.2) 20) = 16 := oT9 h116
    repeat ((conv => whnf); refine ⟨by (simp only [zA9, bsz2, zS9, zC9, zN9]; omega), ?_⟩)
    conv => whnf
    refine eE9 ⟨?_, ?_⟩ <;> rw [hres, hop] <;> rfl
   have n116 : ¬ (modV (rawV zs (exprT zs (((d + 1 : Nat) : Int) - 1).toNat (exprT zs (((d + 1 : Nat) : Int) - 1).toNat (rawN zs n)).2.2).2.2) 20) = 16 := oF9 h116
   conv => whnf
   refine cI9 ?_ ?_<;>intro h117
   ·have hop : (modV (rawV zs (exprT zs (((d + 1 : Nat) : Int) - 1).toNat (exprT zs (((d + 1 : Nat) : Int) - 1).toNat (rawN zs n)).2.2).2.2) 20) = 17 := oT9 h117
    repeat ((conv => whnf); refine ⟨by (simp only [zA9, bsz2, zS9, zC9, zN9]; omega), ?_⟩)
    conv => whnf
    refine eE9 ⟨?_, ?_⟩ <;> rw [hres, hop] <;> rfl
   have n117 : ¬ (modV (rawV zs (exprT zs (((d + 1 : Nat) : Int) - 1).toNat (exprT zs (((d + 1 : Nat) : Int) - 1).toNat (rawN zs n)).2.2).2.2) 20) = 17 := oF9 h117
   conv => whnf
   refine cI9 ?_ ?_<;>intro h118
   ·have hop : (modV (rawV zs (exprT zs (((d + 1 : Nat) : Int) - 1).toNat (exprT zs (((d + 1 : Nat) : Int) - 1).toNat (rawN zs n)).2.2).2.2) 20) = 18 := oT9 h118
    repeat ((conv => whnf); refine ⟨by (simp only [zA9, bsz2, zS9, zC9, zN9]; omega), ?_⟩)
    conv => whnf
    refine eE9 ⟨?_, ?_⟩ <;> rw [hres, hop] <;> rfl
   have n118 : ¬ (modV (rawV zs (exprT zs (((d + 1 : Nat) : Int) - 1).toNat (exprT zs (((d + 1 : Nat) : Int) - 1).toNat (rawN zs n)).2.2).2.2) 20) = 18 := oF9 h118
   conv => whnf
   have hop : (modV (rawV zs (exprT zs (((d + 1 : Nat) : Int) - 1).toNat (exprT zs (((d + 1 : Nat) : Int) - 1).toNat (rawN zs n)).2.2).2.2) 20) = 19 := by
    revert hop0 hop1 n100 n101 n102 n103 n104 n105 n106 n107 n108 n109 n110 n111 n112 n113 n114 n115 n116 n117 n118
    generalize (modV (rawV zs (exprT zs (((d + 1 : Nat) : Int) - 1).toNat (exprT zs (((d + 1 : Nat) : Int) - 1).toNat (rawN zs n)).2.2).2.2) 20) = o
    intros
    omega
   refine cI9 ?_ ?_<;>intro hy
   ·have hy' : ¬ (exprT zs (((d + 1 : Nat) : Int) - 1).toNat (rawN zs n)).2.1 = 0 := by simpa using hy
    repeat ((conv => whnf); refine ⟨by (simp only [zA9, bsz2, zS9, zC9, zN9]; omega), ?_⟩)
    conv => whnf
    refine eE9 ⟨?_, ?_⟩ <;> rw [hres, hop, opB19n hy'] <;> rfl
   ·have hy' : (exprT zs (((d + 1 : Nat) : Int) - 1).toNat (rawN zs n)).2.1 = 0 := by simpa using hy
    repeat ((conv => whnf); refine ⟨by (simp only [zA9, bsz2, zS9, zC9, zN9]; omega), ?_⟩)
    conv => whnf
    refine eE9 ⟨?_, ?_⟩ <;> rw [hres, hop, opB19z hy'] <;> rfl
 ·cases hs
def X66 : Table := ext X65 41 (saysExpr 4)
theorem x66 : TS9 X66 := x66k 4
end Go.Ab
