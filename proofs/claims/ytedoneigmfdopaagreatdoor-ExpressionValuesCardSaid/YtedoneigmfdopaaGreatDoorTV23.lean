/- The tape: numbers and decimal texts. -/
import Derived.Test.YtedoneigmfdopaaGreatDoorTV14toG4
namespace Go.Ab
open Go.Proofs
set_option linter.unusedSectionVars false
set_option maxRecDepth 100000
variable [GlobX]

theorem rawN_ok {zs : List Int} {n : Int} (h : tapeOk zs n) : tapeOk zs (rawN zs n) := by
  obtain ⟨h0, h1, h2⟩ := h
  unfold rawN
  split
  · exact ⟨h0, h1, h2⟩
  · exact ⟨by omega, by omega, h2⟩

theorem bsz2 (a : Array UInt8) : (⟨a⟩ : ByteArray).size = a.size := rfl

def X60 : Table := ext X52 26 saysTr
theorem x60 : TSound Tryz.prog X60 := by
  refine ext_run x52 (f := 26) (fn := Tryz.f26) rfl rfl [0, 2, 3] fun args H p r H' hs hp => ?_
  unfold saysTr at hs
  split at hs
  · cases hs
    refine ⟨Nat.le_of_ble_eq_true rfl, [], rfl, fun k hk => absurd hk (Nat.not_lt_zero k), ?_⟩
    conv => whnf
    refine cond_intro (fun h => ?_) (fun h => ?_) <;> subst h <;> conv => whnf
    · exact ends_eq ⟨rfl, rfl⟩
    · exact ends_eq ⟨rfl, rfl⟩
  · cases hs

def saysSh : Says := fun args H => match args, H with
  | [.c (.p (.v (.int .u32 x))), .c (.p (.v (.int .u32 y))), .c (.p (.v (.bool b)))], [] => some (some (In32 x ∧ In32 y), .int .u32 (if b then calcV 3 ⟨#[60, 60]⟩ x y else calcV 3 ⟨#[62, 62]⟩ x y), [])
  | _, _ => none

theorem shl_big (x : Int) {y : Int} (h : 31 < y) : w32 (x * 2 ^ min y.toNat 32) = 0 := by
  rw [show min y.toNat 32 = 32 by omega, w32_eq]
  omega
theorem shr_big {x y : Int} (hx : In32 x) (h : 31 < y) : x.fdiv (2 ^ min y.toNat 32) = 0 := by
  rw [show min y.toNat 32 = 32 by omega]
  obtain ⟨a, rfl⟩ : ∃ n : Nat, x = n := ⟨x.toNat, by unfold In32 at hx; omega⟩
  unfold In32 at hx
  have e : (a : Int).fdiv (2 ^ 32) = ((a / 2 ^ 32 : Nat) : Int) := by
    rw [show ((2 : Int) ^ 32) = ((2 ^ 32 : Nat) : Int) by simp]
    exact (Int.ofNat_fdiv a (2 ^ 32)).symm
  rw [e]
  omega

def X61 : Table := ext X60 25 saysSh
theorem x61 : TSound Tryz.prog X61 := by
  refine ext_run x60 (f := 25) (fn := Tryz.f25) rfl rfl [0, 1, 2, 6, 8, 9] fun args H p r H' hs hp => ?_
  unfold saysSh at hs
  split at hs
  · rename_i x y b
    cases hs
    obtain ⟨hx, hy⟩ := hp
    refine ⟨Nat.le_of_ble_eq_true rfl, [], rfl, fun k hk => absurd hk (Nat.not_lt_zero k), ?_⟩
    have hy0 : 0 ≤ y := hy.1
    repeat ((conv => whnf); refine ⟨by first | (unfold inI64; omega) | omega | exact ⟨by omega, by omega⟩ | (intro hg; first | (unfold inI64; omega) | omega | exact ⟨by omega, by omega⟩ | (simp [lit] at hg; unfold inI64; omega) | (simp [lit] at hg; omega) | (simp [lit] at hg; exact ⟨by omega, by omega⟩)) | (show (_ : Nat) + 1 ≤ 1000000000000; omega) | exact rfl | (unfold inI64; dsimp only; omega) | (dsimp only; omega) | (intro hg; simp [lit] at hg; first | (unfold inI64; dsimp only; omega) | (dsimp only; omega)) | decide +kernel, ?_⟩)
    conv => whnf
    refine cond_intro (fun h => ?_) (fun h => ?_)
    · have h1 : 31 < y := by simpa using h
      repeat ((conv => whnf); refine ⟨by first | (unfold inI64; omega) | omega | exact ⟨by omega, by omega⟩ | (intro hg; first | (unfold inI64; omega) | omega | exact ⟨by omega, by omega⟩ | (simp [lit] at hg; unfold inI64; omega) | (simp [lit] at hg; omega) | (simp [lit] at hg; exact ⟨by omega, by omega⟩)) | (show (_ : Nat) + 1 ≤ 1000000000000; omega) | exact rfl | (unfold inI64; dsimp only; omega) | (dsimp only; omega) | (intro hg; simp [lit] at hg; first | (unfold inI64; dsimp only; omega) | (dsimp only; omega)) | decide +kernel, ?_⟩)
      conv => whnf
      refine ends_eq ⟨?_, rfl⟩
      cases b
      · show _ = SV.int .u32 (x.fdiv (2 ^ min y.toNat 32))
        rw [shr_big hx h1]
      · show _ = SV.int .u32 (w32 (x * 2 ^ min y.toNat 32))
        rw [shl_big x h1]
    · repeat ((conv => whnf); refine ⟨by first | (unfold inI64; omega) | omega | exact ⟨by omega, by omega⟩ | (intro hg; first | (unfold inI64; omega) | omega | exact ⟨by omega, by omega⟩ | (simp [lit] at hg; unfold inI64; omega) | (simp [lit] at hg; omega) | (simp [lit] at hg; exact ⟨by omega, by omega⟩)) | (show (_ : Nat) + 1 ≤ 1000000000000; omega) | exact rfl | (unfold inI64; dsimp only; omega) | (dsimp only; omega) | (intro hg; simp [lit] at hg; first | (unfold inI64; dsimp only; omega) | (dsimp only; omega)) | decide +kernel, ?_⟩)
      conv => whnf
      refine cond_intro (fun h2 => ?_) (fun h2 => ?_)
      · subst h2
        repeat ((conv => whnf); refine ⟨by first | (unfold inI64; omega) | omega | exact ⟨by omega, by omega⟩ | (intro hg; first | (unfold inI64; omega) | omega | exact ⟨by omega, by omega⟩ | (simp [lit] at hg; unfold inI64; omega) | (simp [lit] at hg; omega) | (simp [lit] at hg; exact ⟨by omega, by omega⟩)) | (show (_ : Nat) + 1 ≤ 1000000000000; omega) | exact rfl | (unfold inI64; dsimp only; omega) | (dsimp only; omega) | (intro hg; simp [lit] at hg; first | (unfold inI64; dsimp only; omega) | (dsimp only; omega)) | decide +kernel, ?_⟩)
        conv => whnf
        exact ends_eq ⟨rfl, rfl⟩
      · subst h2
        repeat ((conv => whnf); refine ⟨by first | (unfold inI64; omega) | omega | exact ⟨by omega, by omega⟩ | (intro hg; first | (unfold inI64; omega) | omega | exact ⟨by omega, by omega⟩ | (simp [lit] at hg; unfold inI64; omega) | (simp [lit] at hg; omega) | (simp [lit] at hg; exact ⟨by omega, by omega⟩)) | (show (_ : Nat) + 1 ≤ 1000000000000; omega) | exact rfl | (unfold inI64; dsimp only; omega) | (dsimp only; omega) | (intro hg; simp [lit] at hg; first | (unfold inI64; dsimp only; omega) | (dsimp only; omega)) | decide +kernel, ?_⟩)
        conv => whnf
        exact ends_eq ⟨rfl, rfl⟩
  · cases hs

def saysDec (k : Nat) : Says := saysI fun n => (some (0 ≤ n ∧ n < 10 ^ (k + 1) ∧ k ≤ 17), .str (B (basedV false 10 n.toNat)))

theorem pow_le18 {k : Nat} (h : k ≤ 17) : (10 : Int) ^ (k + 1) ≤ 10 ^ 18 := by
  have h1 : 10 ^ (k + 1) ≤ 10 ^ 18 := Nat.pow_le_pow_right (by decide) (by omega)
  have := Int.ofNat_le.2 h1
  simpa using this

theorem x62k (k : Nat) : TSound Tryz.prog (ext X61 24 (saysDec k)) := by
  refine ext_rec x61 (f := 24) (fn := Tryz.f24) rfl rfl [0, 2, 4] (fun k args H p r H' hs hp => ?_) k
  unfold saysDec saysI at hs
  split at hs
  · rename_i n
    cases hs
    obtain ⟨h0, h1, h2⟩ : 0 ≤ n ∧ n < 10 ^ (k + 1) ∧ k ≤ 17 := hp
    have hk := pow_le18 h2
    have hn : n < 1000000000000000000 := by
      have : (10 : Int) ^ 18 = 1000000000000000000 := by decide
      omega
    refine ⟨Nat.le_of_ble_eq_true rfl, [], rfl, fun k hk => absurd hk (Nat.not_lt_zero k), ?_⟩
    obtain ⟨N, rfl⟩ : ∃ m : Nat, n = m := ⟨n.toNat, by omega⟩
    repeat ((conv => whnf); refine ⟨by first | (unfold inI64; omega) | omega | exact ⟨by omega, by omega⟩ | (intro hg; first | (unfold inI64; omega) | omega | exact ⟨by omega, by omega⟩ | (simp [lit] at hg; unfold inI64; omega) | (simp [lit] at hg; omega) | (simp [lit] at hg; exact ⟨by omega, by omega⟩)) | (show (_ : Nat) + 1 ≤ 1000000000000; omega) | exact rfl | (unfold inI64; dsimp only; omega) | (dsimp only; omega) | (intro hg; simp [lit] at hg; first | (unfold inI64; dsimp only; omega) | (dsimp only; omega)) | decide +kernel, ?_⟩)
    conv => whnf
    refine cond_intro (fun h => ?_) (fun h => ?_)
    · have h3 : N < 10 := by have := of_decide_eq_true h; omega
      repeat ((conv => whnf); refine ⟨by first | exact ⟨by omega, by omega, by show (N : Int) + 1 ≤ ((10 : Nat) : Int); omega⟩ | (unfold inI64; omega) | omega | exact ⟨by omega, by omega⟩ | (intro hg; first | (unfold inI64; omega) | omega | exact ⟨by omega, by omega⟩ | (simp [lit] at hg; unfold inI64; omega) | (simp [lit] at hg; omega) | (simp [lit] at hg; exact ⟨by omega, by omega⟩)) | (show (_ : Nat) + 1 ≤ 1000000000000; omega) | exact rfl | (unfold inI64; dsimp only; omega) | (dsimp only; omega) | (intro hg; simp [lit] at hg; first | (unfold inI64; dsimp only; omega) | (dsimp only; omega)) | decide +kernel, ?_⟩)
      conv => whnf
      refine ends_eq ⟨?_, rfl⟩
      show _ = SV.str (B (basedV false 10 (N : Int).toNat))
      rw [Int.toNat_natCast, dec_small h3, show ((N : Int) + 1).toNat = N + 1 by omega]
      show SV.str ((B [48, 49, 50, 51, 52, 53, 54, 55, 56, 57]).extract N (N + 1)) = _
      rw [piece1 _ _ (by exact h3)]
      congr 2
      rcases (by omega : N = 0 ∨ N = 1 ∨ N = 2 ∨ N = 3 ∨ N = 4 ∨ N = 5 ∨ N = 6 ∨ N = 7 ∨ N = 8 ∨ N = 9) with rfl | rfl | rfl | rfl | rfl | rfl | rfl | rfl | rfl | rfl <;> rfl
    · have h3 : 10 ≤ N := by have := of_decide_eq_false h; omega
      cases k with
      | zero => exfalso; simp at h1; omega
      | succ k =>
        have hq := quo_nat N 10 (by omega)
        have hq1 : 0 ≤ IntKind.i64.wrap ((N : Int).tdiv ((10 : Nat) : Int)) ∧ IntKind.i64.wrap ((N : Int).tdiv ((10 : Nat) : Int)) < 10 ^ (k + 1) ∧ k ≤ 17 := by
          rw [hq]
          refine ⟨by omega, ?_, by omega⟩
          rw [Int.pow_succ] at h1
          omega
        have hd : (N : Int).tmod 10 = ((N % 10 : Nat) : Int) := (Int.ofNat_tmod N 10).symm
        have hd1 : 0 ≤ (N : Int).tmod 10 ∧ (N : Int).tmod 10 ≤ (N : Int).tmod 10 + 1 ∧ (N : Int).tmod 10 + 1 ≤ ((10 : Nat) : Int) := by rw [hd]; omega
        have hd2 : inI64 ((N : Int).tmod 10 + 1) := by rw [hd]; unfold inI64; omega
        have hl := basedV_len false 10 (IntKind.i64.wrap ((N : Int).tdiv ((10 : Nat) : Int))).toNat
        repeat ((conv => whnf); refine ⟨by first | exact hq1 | exact hd1 | exact hd2 | (unfold inI64; omega) | omega | decide +kernel, ?_⟩)
        conv => whnf
        have hx : (⟨#[48, 49, 50, 51, 52, 53, 54, 55, 56, 57]⟩ : ByteArray).extract ((N : Int).tmod 10).toNat ((N : Int).tmod 10 + 1).toNat = B [(digL false).getD (N % 10) 0] := by
          rw [hd, Int.toNat_natCast, show (((N % 10 : Nat) : Int) + 1).toNat = N % 10 + 1 by omega]
          show (B [48, 49, 50, 51, 52, 53, 54, 55, 56, 57]).extract (N % 10) (N % 10 + 1) = _
          rw [piece1 _ _ (show N % 10 < 10 by omega)]
          congr 2
          generalize hm : N % 10 = m
          rcases (by omega : m = 0 ∨ m = 1 ∨ m = 2 ∨ m = 3 ∨ m = 4 ∨ m = 5 ∨ m = 6 ∨ m = 7 ∨ m = 8 ∨ m = 9) with rfl | rfl | rfl | rfl | rfl | rfl | rfl | rfl | rfl | rfl <;> rfl
        repeat ((conv => whnf); refine ⟨by first | (rw [hx, B_size, B_size]; simp only [List.length_cons, List.length_nil]; exact (show (((basedV false 10 (IntKind.i64.wrap ((N : Int).tdiv ((10 : Nat) : Int))).toNat).length + 1 : Nat) : Int) ≤ 9223372036854775807 by omega)) | (unfold inI64; omega) | omega | exact ⟨by omega, by omega⟩ | (intro hg; first | (unfold inI64; omega) | omega | exact ⟨by omega, by omega⟩ | (simp [lit] at hg; unfold inI64; omega) | (simp [lit] at hg; omega) | (simp [lit] at hg; exact ⟨by omega, by omega⟩)) | (show (_ : Nat) + 1 ≤ 1000000000000; omega) | exact rfl | (unfold inI64; dsimp only; omega) | (dsimp only; omega) | (intro hg; simp [lit] at hg; first | (unfold inI64; dsimp only; omega) | (dsimp only; omega)) | decide +kernel, ?_⟩)
        conv => whnf
        refine ends_eq ⟨?_, rfl⟩
        show _ = SV.str (B (basedV false 10 (N : Int).toNat))
        rw [Int.toNat_natCast, dec_big h3 (by omega), ← B_append]
        have hq2 : IntKind.i64.wrap ((N : Int).tdiv 10) = ((N / 10 : Nat) : Int) := hq
        rw [hx, hq2, Int.toNat_natCast]
  · cases hs

def X62 : Table := ext X61 24 (saysDec 9)
theorem x62 : TSound Tryz.prog X62 := x62k 9

def saysRange : Says := fun args H => match args, H with
  | [.c (.ptr 0 0), .c (.p (.v (.int .i64 lo))), .c (.p (.v (.int .i64 hi)))], [.row [.p (.l (.int .i64) zs), .p (.v (.int .i64 n))]] => some (some (tapeOk zs n ∧ 0 ≤ lo ∧ lo ≤ hi ∧ hi ≤ 4294967295), .int .i64 (lo + modV (rawV zs n) (hi - lo + 1)), [tapeO zs (rawN zs n)])
  | _, _ => none

def X63 : Table := ext X62 43 saysRange
theorem x63 : TSound Tryz.prog X63 := by
  refine ext_run x62 (f := 43) (fn := Tryz.f43) rfl rfl [0, 1, 2, 6] fun args H p r H' hs hp => ?_
  unfold saysRange at hs
  split at hs
  · rename_i lo hi zs n
    cases hs
    obtain ⟨ht, h0, h1, h2⟩ := hp
    refine ⟨Nat.le_of_ble_eq_true rfl, [0], rfl, id0, ?_⟩
    have hm0 := modV_nonneg (rawV zs n) (hi - lo + 1)
    have hm1 := modV_lt (rawV zs n) (hi - lo + 1) (by omega)
    repeat ((conv => whnf); refine ⟨by first | exact ⟨ht, by omega⟩ | (unfold inI64; omega) | omega | exact ⟨by omega, by omega⟩ | (intro hg; first | (unfold inI64; omega) | omega | exact ⟨by omega, by omega⟩ | (simp [lit] at hg; unfold inI64; omega) | (simp [lit] at hg; omega) | (simp [lit] at hg; exact ⟨by omega, by omega⟩)) | (show (_ : Nat) + 1 ≤ 1000000000000; omega) | exact rfl | (unfold inI64; dsimp only; omega) | (dsimp only; omega) | (intro hg; simp [lit] at hg; first | (unfold inI64; dsimp only; omega) | (dsimp only; omega)) | decide +kernel, ?_⟩)
    conv => whnf
    exact ends_eq ⟨rfl, rfl⟩
  · cases hs

def saysPick : Says := fun args H => match args, H with
  | [.c (.ptr 0 0), .c (.p (.l (.int .i64) l))], [.row [.p (.l (.int .i64) zs), .p (.v (.int .i64 n))]] => some (some (tapeOk zs n ∧ 1 ≤ (l : List Int).length ∧ (l : List Int).length ≤ 1000), .int .i64 ((l : List Int).getD (modV (rawV zs n) (l : List Int).length).toNat 0), [tapeO zs (rawN zs n)])
  | _, _ => none

def X64 : Table := ext X63 42 saysPick
theorem x64 : TSound Tryz.prog X64 := by
  refine ext_run x63 (f := 42) (fn := Tryz.f42) rfl rfl [0, 1, 4] fun args H p r H' hs hp => ?_
  unfold saysPick at hs
  split at hs
  · rename_i l zs n
    cases hs
    obtain ⟨ht, h0, h1⟩ := hp
    refine ⟨Nat.le_of_ble_eq_true rfl, [0], rfl, id0, ?_⟩
    have hm0 := modV_nonneg (rawV zs n) (l : List Int).length
    have hm1 := modV_lt (rawV zs n) (l : List Int).length (by omega)
    repeat ((conv => whnf); refine ⟨by first | exact ⟨ht, by omega⟩ | exact ⟨hm0, hm1⟩ | (unfold inI64; omega) | omega | exact ⟨by omega, by omega⟩ | (intro hg; first | (unfold inI64; omega) | omega | exact ⟨by omega, by omega⟩ | (simp [lit] at hg; unfold inI64; omega) | (simp [lit] at hg; omega) | (simp [lit] at hg; exact ⟨by omega, by omega⟩)) | (show (_ : Nat) + 1 ≤ 1000000000000; omega) | exact rfl | (unfold inI64; dsimp only; omega) | (dsimp only; omega) | (intro hg; simp [lit] at hg; first | (unfold inI64; dsimp only; omega) | (dsimp only; omega)) | decide +kernel, ?_⟩)
    conv => whnf
    exact ends_eq ⟨rfl, rfl⟩
  · cases hs

def tnL (zs : List Int) (n : Int) : List Int := [0, 1, 2, 3, 5, 31, 32, 0 + modV (rawV zs n) 301, 4294967295, 2147483648, 0 + modV (rawV zs (rawN zs n)) 4294967296]
def tnV (zs : List Int) (n : Int) : Int := (tnL zs n).getD (modV (rawV zs (rawN zs (rawN zs n))) 11).toNat 0
def tnN (zs : List Int) (n : Int) : Int := rawN zs (rawN zs (rawN zs n))

theorem tnN_ok {zs : List Int} {n : Int} (h : tapeOk zs n) : tapeOk zs (tnN zs n) := rawN_ok (rawN_ok (rawN_ok h))

theorem tnV_in (zs : List Int) (n : Int) : In32 (tnV zs n) := by
  have h1 := modV_nonneg (rawV zs (rawN zs (rawN zs n))) 11
  have h2 := modV_lt (rawV zs (rawN zs (rawN zs n))) 11 (by decide)
  have a1 := modV_nonneg (rawV zs n) 301
  have a2 := modV_lt (rawV zs n) 301 (by decide)
  have b1 := modV_nonneg (rawV zs (rawN zs n)) 4294967296
  have b2 := modV_lt (rawV zs (rawN zs n)) 4294967296 (by decide)
  unfold tnV
  generalize (modV (rawV zs (rawN zs (rawN zs n))) 11) = k at h1 h2
  have hm : (tnL zs n).getD k.toNat 0 ∈ tnL zs n := by
    rw [List.getD_eq_getElem?_getD, List.getElem?_eq_getElem (by show k.toNat < 11; omega)]
    exact List.getElem_mem _
  generalize (tnL zs n).getD k.toNat 0 = v at hm
  simp only [tnL, List.mem_cons, List.not_mem_nil, or_false] at hm
  unfold In32
  omega

def X65 : Table := ext X64 21 (saysTape fun zs n => (some (tapeOk zs n), .int .i64 (tnV zs n), tnN zs n))
theorem x65 : TSound Tryz.prog X65 := by
  refine extTape x64 21 (fn := Tryz.f21) rfl rfl (by decide) _ [0, 2] fun zs n hn => ?_
  have hn1 : tapeOk zs n := hn
  have hn2 := rawN_ok hn1
  have hn3 := rawN_ok hn2
  repeat ((conv => whnf); refine ⟨by first | exact ⟨hn1, by decide⟩ | exact ⟨hn2, by decide⟩ | exact ⟨hn3, Nat.le_of_ble_eq_true rfl, Nat.le_of_ble_eq_true rfl⟩ | (unfold inI64; omega) | omega | exact ⟨by omega, by omega⟩ | (intro hg; first | (unfold inI64; omega) | omega | exact ⟨by omega, by omega⟩ | (simp [lit] at hg; unfold inI64; omega) | (simp [lit] at hg; omega) | (simp [lit] at hg; exact ⟨by omega, by omega⟩)) | (show (_ : Nat) + 1 ≤ 1000000000000; omega) | exact rfl | (unfold inI64; dsimp only; omega) | (dsimp only; omega) | (intro hg; simp [lit] at hg; first | (unfold inI64; dsimp only; omega) | (dsimp only; omega)) | decide +kernel, ?_⟩)
  conv => whnf
  exact ends_eq ⟨rfl, rfl⟩
end Go.Ab
