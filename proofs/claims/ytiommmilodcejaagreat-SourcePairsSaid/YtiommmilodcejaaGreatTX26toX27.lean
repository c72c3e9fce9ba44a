/- Package bringupgrow: Document. -/
import Derived.Test.YtiommmilodcejaaGreatTX25
import Derived.Test.YtiommmilodcejaaGreatTX21toX22
namespace Go.Ab
open Go.Proofs
set_option linter.unusedSectionVars false
set_option maxRecDepth 100000
variable [Glob]

def incL : List ByteArray := [⟨#[97]⟩, ⟨#[98]⟩, ⟨#[109, 97, 105, 110]⟩, ⟨#[110, 111, 110, 101]⟩]
theorem inc_size (zs : List Int) (n : Int) : (pickS incL zs n).size ≤ 4 := pick_size (by decide +kernel) zs n

/-- One top of a document. -/
def topP (zs : List Int) (t : ByteArray) (n : Int) : ByteArray × Int :=
  if modV (rawV zs n) 8 = 0 then (t ++ (⟨#[38]⟩ ++ pickS labL zs (rawN zs n) ++ ⟨#[32, 123, 32]⟩ ++ (memT zs 1 (rawN zs (rawN zs n))).1 ++ ⟨#[125, 59, 10]⟩), (memT zs 1 (rawN zs (rawN zs n))).2)
  else if modV (rawV zs n) 8 = 1 then (t ++ (⟨#[47, 100, 101, 108, 101, 116, 101, 45, 110, 111, 100, 101, 47, 32, 38]⟩ ++ pickS labL zs (rawN zs n) ++ ⟨#[59, 10]⟩), (rawN zs (rawN zs n)))
  else if modV (rawV zs n) 8 = 2 then
    (if modV (rawV zs (rawN zs n)) 3 = 0 then (t ++ (⟨#[47, 105, 110, 99, 108, 117, 100, 101, 47, 32, 34]⟩ ++ pickS incL zs (rawN zs (rawN zs n)) ++ ⟨#[34, 59, 10]⟩), (rawN zs (rawN zs (rawN zs n)))) else (t, (rawN zs (rawN zs n))))
  else if modV (rawV zs (rawN zs n)) 4 = 0 then (t ++ (pickS labL zs (rawN zs (rawN zs n)) ++ ⟨#[58, 32]⟩) ++ (⟨#[47, 32, 123, 32]⟩ ++ (memT zs 3 (rawN zs (rawN zs (rawN zs n)))).1 ++ ⟨#[125, 59, 10]⟩), (memT zs 3 (rawN zs (rawN zs (rawN zs n)))).2)
  else (t ++ (⟨#[47, 32, 123, 32]⟩ ++ (memT zs 3 (rawN zs (rawN zs n))).1 ++ ⟨#[125, 59, 10]⟩), (memT zs 3 (rawN zs (rawN zs n))).2)

def docG (zs : List Int) : Nat → ByteArray → Int → ByteArray × Int
  | 0, t, n => (t, n)
  | k + 1, t, n => docG zs k (topP zs t n).1 (topP zs t n).2

/-- A document of at most four tops, and the tape's place behind it. -/
def docT (zs : List Int) (n : Int) : ByteArray × Int := docG zs (1 + modV (rawV zs n) 4).toNat ⟨#[]⟩ (rawN zs n)

theorem topP_ok {zs : List Int} (t : ByteArray) {n : Int} (h : tapeOk zs n) : (topP zs t n).1.size ≤ t.size + 1361000 ∧ tapeOk zs (topP zs t n).2 := by
  have h1 := rawN_ok h
  have h2 := rawN_ok h1
  have h3 := rawN_ok h2
  have l1 := lab_size zs (rawN zs n)
  have l2 := lab_size zs (rawN zs (rawN zs n))
  have i2 := inc_size zs (rawN zs (rawN zs n))
  obtain ⟨a1, a2⟩ := memT_ok (zs := zs) 1 h2
  obtain ⟨b1, b2⟩ := memT_ok (zs := zs) 3 h3
  obtain ⟨d1, d2⟩ := memT_ok (zs := zs) 3 h2
  simp only [memZ] at a1 b1 d1
  unfold topP
  split
  · exact ⟨by simp only [ByteArray.size_append, bsz2, List.size_toArray, List.length_cons, List.length_nil]; omega, a2⟩
  · split
    · exact ⟨by simp only [ByteArray.size_append, bsz2, List.size_toArray, List.length_cons, List.length_nil]; omega, h2⟩
    · split
      · split
        · exact ⟨by simp only [ByteArray.size_append, bsz2, List.size_toArray, List.length_cons, List.length_nil]; omega, h3⟩
        · exact ⟨by show t.size ≤ _; omega, h2⟩
      · split
        · exact ⟨by simp only [ByteArray.size_append, bsz2, List.size_toArray, List.length_cons, List.length_nil]; omega, b2⟩
        · exact ⟨by simp only [ByteArray.size_append, bsz2, List.size_toArray, List.length_cons, List.length_nil]; omega, d2⟩

theorem docG_ok {zs : List Int} : ∀ (k : Nat) (t : ByteArray) {n : Int}, tapeOk zs n → (docG zs k t n).1.size ≤ t.size + 1361000 * k ∧ tapeOk zs (docG zs k t n).2 := by
  intro k
  induction k with
  | zero => intro t n h; exact ⟨Nat.le_add_right _ _, h⟩
  | succ k ih =>
    intro t n h
    obtain ⟨h1, h2⟩ := topP_ok t h
    obtain ⟨h3, h4⟩ := ih (topP zs t n).1 h2
    refine ⟨?_, h4⟩
    simp only [docG]
    omega

theorem docT_ok {zs : List Int} {n : Int} (h : tapeOk zs n) : (docT zs n).1.size ≤ 5444000 ∧ tapeOk zs (docT zs n).2 := by
  have h0 := modV_nonneg (rawV zs n) 4
  have h1 := modV_lt (rawV zs n) 4 (by decide)
  obtain ⟨h3, h4⟩ := docG_ok (1 + modV (rawV zs n) 4).toNat ⟨#[]⟩ (rawN_ok h)
  refine ⟨?_, h4⟩
  have h6 : (⟨#[]⟩ : ByteArray).size = 0 := rfl
  unfold docT
  omega

def Z9 : Table := ext Z8 20 (saysMem 3)
theorem z9 : TSound Tryz.prog Z9 := z9k 3

def saysDoc : Says := saysTapeI fun zs n d => (some (tapeOk zs n ∧ d = 4), .str (docT zs n).1, (docT zs n).2)
def Z10 : Table := ext Z9 9 saysDoc

set_option maxHeartbeats 4000000 in
theorem z10 : TSound Tryz.prog Z10 := by
  refine extTapeI z9 9 (fn := Tryz.f9) rfl rfl (by decide) _ [0, 1, 4, 5, 6, 11, 15, 18, 30, 42, 50, 54] fun zs n d hn => ?_
  obtain ⟨ht, rfl⟩ : tapeOk zs n ∧ d = 4 := hn
  have hm0 := modV_nonneg (rawV zs n) 4
  have hm1 := modV_lt (rawV zs n) 4 (by decide)
  repeat ((conv => whnf); refine ⟨by first | exact ⟨ht, by decide, by decide, by decide⟩ | (unfold inI64; omega) | omega | exact ⟨by omega, by omega⟩ | exact rfl | decide +kernel, ?_⟩)
  conv => whnf
  refine loop_intro (σ := Nat × Int × ByteArray × Int) (fun ⟨_, i, t, _⟩ => [(0, XV.s (.a (.c (.ptr 0 0)))), (1, XV.s (.int .i64 4)), (4, XV.s .none), (5, XV.s (.a (.c (.p (.v (.string t)))))), (6, XV.s (.int .i64 i)), (11, XV.s .none), (15, XV.s .none), (18, XV.s .none), (30, XV.s .none), (42, XV.s .none), (50, XV.s .none), (54, XV.s .none)])
    (fun ⟨_, _, _, m⟩ => [tapeO zs m]) (fun ⟨k, i, t, m⟩ => i = k ∧ k ≤ 4 ∧ t.size ≤ 1361000 * (4 - k) ∧ tapeOk zs m ∧ docG zs k t m = docT zs n) (fun ⟨k, _, _, _⟩ => k) ((1 + modV (rawV zs n) 4).toNat, 1 + modV (rawV zs n) 4, ⟨#[]⟩, rawN zs n) ?_ ?_ ?_ ?_
  · repeat (first | exact LeL.nil | refine LeL.drop ?_ | refine LeL.same ?_)
  · rfl
  · exact ⟨by omega, by omega, Nat.zero_le _, rawN_ok ht, rfl⟩
  rintro ⟨k, i, t, m⟩ ⟨hik, hk, hz, hm, hgo⟩
  replace hik : i = k := hik
  subst hik
  repeat ((conv => whnf); refine ⟨by first | (unfold inI64; omega) | omega | exact ⟨by omega, by omega⟩ | exact rfl | decide +kernel, ?_⟩)
  conv => whnf
  refine cond_intro (fun h => ?_) (fun h => ?_)
  · obtain ⟨k, rfl⟩ : ∃ j, k = j + 1 := ⟨k - 1, by have : (0 : Int) < k := of_decide_eq_true h; omega⟩
    obtain ⟨p1, p2⟩ := topP_ok (zs := zs) t hm
    have inv : k ≤ 4 ∧ (topP zs t m).1.size ≤ 1361000 * (4 - k) ∧ tapeOk zs (topP zs t m).2 ∧ docG zs k (topP zs t m).1 (topP zs t m).2 = docT zs n := ⟨by omega, by omega, p2, hgo⟩
    have r1 := rawN_ok hm
    have r2 := rawN_ok r1
    have r3 := rawN_ok r2
    have l1 := lab_size zs (rawN zs m)
    have l2 := lab_size zs (rawN zs (rawN zs m))
    have i2 : ([⟨#[97]⟩, ⟨#[98]⟩, ⟨#[109, 97, 105, 110]⟩, ⟨#[110, 111, 110, 101]⟩].getD (modV (rawV zs (rawN zs (rawN zs m))) 4).toNat CT.str.dflt : ByteArray).size ≤ 4 := inc_size zs (rawN zs (rawN zs m))
    have a1 : (memT zs (Int.toNat 1) (rawN zs (rawN zs m))).1.size ≤ 80000 := (memT_ok 1 r2).1
    have b1 : (memT zs (Int.toNat 3) (rawN zs (rawN zs (rawN zs m)))).1.size ≤ 1360000 := (memT_ok 3 r3).1
    have d1 : (memT zs (Int.toNat 3) (rawN zs (rawN zs m))).1.size ≤ 1360000 := (memT_ok 3 r2).1
    have hi4 : 0 ≤ modV (rawV zs (rawN zs (rawN zs m))) 4 ∧ modV (rawV zs (rawN zs (rawN zs m))) 4 < 4 := ⟨modV_nonneg _ _, modV_lt _ _ (by decide)⟩
    have x2 : tapeOk zs (rawN zs (rawN zs m)) ∧ (0 : Int) ≤ 1 ∧ (1 : Int) ≤ ((3 : Nat) : Int) ∧ 3 ≤ 3 := ⟨r2, by decide, by decide, by decide⟩
    have x3 : tapeOk zs (rawN zs (rawN zs (rawN zs m))) ∧ (0 : Int) ≤ 3 ∧ (3 : Int) ≤ ((3 : Nat) : Int) ∧ 3 ≤ 3 := ⟨r3, by decide, by decide, by decide⟩
    have x4 : tapeOk zs (rawN zs (rawN zs m)) ∧ (0 : Int) ≤ 3 ∧ (3 : Int) ≤ ((3 : Nat) : Int) ∧ 3 ≤ 3 := ⟨r2, by decide, by decide, by decide⟩
    repeat ((conv => whnf); refine ⟨by first | exact ⟨hm, by decide⟩ | (unfold inI64; omega) | omega | exact ⟨by omega, by omega⟩ | exact rfl | decide +kernel, ?_⟩)
    conv => whnf
    refine cond_intro (fun g0 => ?_) (fun g0 => ?_)
    · have c0 : modV (rawV zs m) 8 = 0 := of_decide_eq_true g0
      conv => whnf
      refine ⟨by exact r1, ?_⟩
      conv => whnf
      refine ⟨by ((try dsimp only); first | (simp only [bsz2, List.size_toArray, List.length_cons, List.length_nil]; omega) | (simp only [ByteArray.size_append, bsz2, List.size_toArray, List.length_cons, List.length_nil]; omega)), ?_⟩
      conv => whnf
      refine ⟨by ((try dsimp only); first | (simp only [bsz2, List.size_toArray, List.length_cons, List.length_nil]; omega) | (simp only [ByteArray.size_append, bsz2, List.size_toArray, List.length_cons, List.length_nil]; omega)), ?_⟩
      conv => whnf
      refine ⟨by exact x2, ?_⟩
      conv => whnf
      refine ⟨by ((try dsimp only); first | (simp only [bsz2, List.size_toArray, List.length_cons, List.length_nil]; omega) | (simp only [ByteArray.size_append, bsz2, List.size_toArray, List.length_cons, List.length_nil]; omega)), ?_⟩
      conv => whnf
      refine ⟨by ((try dsimp only); first | (simp only [bsz2, List.size_toArray, List.length_cons, List.length_nil]; omega) | (simp only [ByteArray.size_append, bsz2, List.size_toArray, List.length_cons, List.length_nil]; omega)), ?_⟩
      conv => whnf
      refine ⟨by ((try dsimp only); first | (simp only [bsz2, List.size_toArray, List.length_cons, List.length_nil]; omega) | (simp only [ByteArray.size_append, bsz2, List.size_toArray, List.length_cons, List.length_nil]; omega)), ?_⟩
      repeat ((conv => whnf); refine ⟨by first | (unfold inI64; omega) | omega | exact ⟨by omega, by omega⟩ | exact rfl | decide +kernel, ?_⟩)
      conv => whnf
      have e : topP zs t m = (t ++ (⟨#[38]⟩ ++ pickS labL zs (rawN zs m) ++ ⟨#[32, 123, 32]⟩ ++ (memT zs 1 (rawN zs (rawN zs m))).1 ++ ⟨#[125, 59, 10]⟩), (memT zs 1 (rawN zs (rawN zs m))).2) := by unfold topP; rw [if_pos c0]
      rw [e] at inv
      refine head_intro (k, ((k + 1 : Nat) : Int) - 1, t ++ (⟨#[38]⟩ ++ pickS labL zs (rawN zs m) ++ ⟨#[32, 123, 32]⟩ ++ (memT zs 1 (rawN zs (rawN zs m))).1 ++ ⟨#[125, 59, 10]⟩), (memT zs 1 (rawN zs (rawN zs m))).2) ?_ ?_ ?_ ?_
      · repeat (first | exact LeL.nil | refine LeL.drop ?_ | refine LeL.same ?_)
      · rfl
      · exact ⟨by omega, inv⟩
      · exact Nat.lt_succ_self k
    have n0 : ¬ modV (rawV zs m) 8 = 0 := of_decide_eq_false g0
    repeat ((conv => whnf); refine ⟨by first | (unfold inI64; omega) | omega | exact ⟨by omega, by omega⟩ | exact rfl | decide +kernel, ?_⟩)
    conv => whnf
    refine cond_intro (fun g1 => ?_) (fun g1 => ?_)
    · have c1 : modV (rawV zs m) 8 = 1 := of_decide_eq_true g1
      conv => whnf
      refine ⟨by exact r1, ?_⟩
      conv => whnf
      refine ⟨by ((try dsimp only); first | (simp only [bsz2, List.size_toArray, List.length_cons, List.length_nil]; omega) | (simp only [ByteArray.size_append, bsz2, List.size_toArray, List.length_cons, List.length_nil]; omega)), ?_⟩
      conv => whnf
      refine ⟨by ((try dsimp only); first | (simp only [bsz2, List.size_toArray, List.length_cons, List.length_nil]; omega) | (simp only [ByteArray.size_append, bsz2, List.size_toArray, List.length_cons, List.length_nil]; omega)), ?_⟩
      conv => whnf
      refine ⟨by ((try dsimp only); first | (simp only [bsz2, List.size_toArray, List.length_cons, List.length_nil]; omega) | (simp only [ByteArray.size_append, bsz2, List.size_toArray, List.length_cons, List.length_nil]; omega)), ?_⟩
      repeat ((conv => whnf); refine ⟨by first | (unfold inI64; omega) | omega | exact ⟨by omega, by omega⟩ | exact rfl | decide +kernel, ?_⟩)
      conv => whnf
      have e : topP zs t m = (t ++ (⟨#[47, 100, 101, 108, 101, 116, 101, 45, 110, 111, 100, 101, 47, 32, 38]⟩ ++ pickS labL zs (rawN zs m) ++ ⟨#[59, 10]⟩), (rawN zs (rawN zs m))) := by unfold topP; rw [if_neg n0, if_pos c1]
      rw [e] at inv
      refine head_intro (k, ((k + 1 : Nat) : Int) - 1, t ++ (⟨#[47, 100, 101, 108, 101, 116, 101, 45, 110, 111, 100, 101, 47, 32, 38]⟩ ++ pickS labL zs (rawN zs m) ++ ⟨#[59, 10]⟩), (rawN zs (rawN zs m))) ?_ ?_ ?_ ?_
      · repeat (first | exact LeL.nil | refine LeL.drop ?_ | refine LeL.same ?_)
      · rfl
      · exact ⟨by omega, inv⟩
      · exact Nat.lt_succ_self k
    have n1 : ¬ modV (rawV zs m) 8 = 1 := of_decide_eq_false g1
    repeat ((conv => whnf); refine ⟨by first | (unfold inI64; omega) | omega | exact ⟨by omega, by omega⟩ | exact rfl | decide +kernel, ?_⟩)
    conv => whnf
    refine cond_intro (fun g2 => ?_) (fun g2 => ?_)
    · have c2 : modV (rawV zs m) 8 = 2 := of_decide_eq_true g2
      repeat ((conv => whnf); refine ⟨by first | exact ⟨r1, by decide⟩ | (unfold inI64; omega) | omega | exact ⟨by omega, by omega⟩ | exact rfl | decide +kernel, ?_⟩)
      conv => whnf
      refine cond_intro (fun g3 => ?_) (fun g3 => ?_)
      · have c3 : modV (rawV zs (rawN zs m)) 3 = 0 := of_decide_eq_true g3
        conv => whnf
        refine ⟨by exact ⟨r2, by decide⟩, ?_⟩
        conv => whnf
        refine ⟨by exact hi4, ?_⟩
        conv => whnf
        refine ⟨by ((try dsimp only); first | (simp only [bsz2, List.size_toArray, List.length_cons, List.length_nil]; omega) | (simp only [ByteArray.size_append, bsz2, List.size_toArray, List.length_cons, List.length_nil]; omega)), ?_⟩
        conv => whnf
        refine ⟨by ((try dsimp only); first | (simp only [bsz2, List.size_toArray, List.length_cons, List.length_nil]; omega) | (simp only [ByteArray.size_append, bsz2, List.size_toArray, List.length_cons, List.length_nil]; omega)), ?_⟩
        conv => whnf
        refine ⟨by ((try dsimp only); first | (simp only [bsz2, List.size_toArray, List.length_cons, List.length_nil]; omega) | (simp only [ByteArray.size_append, bsz2, List.size_toArray, List.length_cons, List.length_nil]; omega)), ?_⟩
        repeat ((conv => whnf); refine ⟨by first | (unfold inI64; omega) | omega | exact ⟨by omega, by omega⟩ | exact rfl | decide +kernel, ?_⟩)
        conv => whnf
        have e : topP zs t m = (t ++ (⟨#[47, 105, 110, 99, 108, 117, 100, 101, 47, 32, 34]⟩ ++ pickS incL zs (rawN zs (rawN zs m)) ++ ⟨#[34, 59, 10]⟩), (rawN zs (rawN zs (rawN zs m)))) := by unfold topP; rw [if_neg n0, if_neg n1, if_pos c2, if_pos c3]
        rw [e] at inv
        refine head_keep (k, ((k + 1 : Nat) : Int) - 1, t ++ (⟨#[47, 105, 110, 99, 108, 117, 100, 101, 47, 32, 34]⟩ ++ pickS incL zs (rawN zs (rawN zs m)) ++ ⟨#[34, 59, 10]⟩), (rawN zs (rawN zs (rawN zs m)))) [0] rfl id0 rfl ?_ ?_ ?_
        · repeat (first | exact KeepL.nil | refine KeepL.drop ?_ | refine KeepL.ren rfl ?_)
        · exact ⟨by omega, inv⟩
        · exact Nat.lt_succ_self k
      · have c3 : ¬ modV (rawV zs (rawN zs m)) 3 = 0 := of_decide_eq_false g3
        repeat ((conv => whnf); refine ⟨by first | (unfold inI64; omega) | omega | exact ⟨by omega, by omega⟩ | exact rfl | decide +kernel, ?_⟩)
        conv => whnf
        have e : topP zs t m = (t, (rawN zs (rawN zs m))) := by unfold topP; rw [if_neg n0, if_neg n1, if_pos c2, if_neg c3]
        rw [e] at inv
        refine head_intro (k, ((k + 1 : Nat) : Int) - 1, t, (rawN zs (rawN zs m))) ?_ ?_ ?_ ?_
        · repeat (first | exact LeL.nil | refine LeL.drop ?_ | refine LeL.same ?_)
        · rfl
        · exact ⟨by omega, inv⟩
        · exact Nat.lt_succ_self k
    have n2 : ¬ modV (rawV zs m) 8 = 2 := of_decide_eq_false g2
    repeat ((conv => whnf); refine ⟨by first | exact ⟨r1, by decide⟩ | (unfold inI64; omega) | omega | exact ⟨by omega, by omega⟩ | exact rfl | decide +kernel, ?_⟩)
    conv => whnf
    refine cond_intro (fun g3 => ?_) (fun g3 => ?_)
    · have c3 : modV (rawV zs (rawN zs m)) 4 = 0 := of_decide_eq_true g3
      conv => whnf
      refine ⟨by exact r2, ?_⟩
      conv => whnf
      refine ⟨by ((try dsimp only); first | (simp only [bsz2, List.size_toArray, List.length_cons, List.length_nil]; omega) | (simp only [ByteArray.size_append, bsz2, List.size_toArray, List.length_cons, List.length_nil]; omega)), ?_⟩
      conv => whnf
      refine ⟨by ((try dsimp only); first | (simp only [bsz2, List.size_toArray, List.length_cons, List.length_nil]; omega) | (simp only [ByteArray.size_append, bsz2, List.size_toArray, List.length_cons, List.length_nil]; omega)), ?_⟩
      conv => whnf
      refine ⟨by exact x3, ?_⟩
      conv => whnf
      refine ⟨by ((try dsimp only); first | (simp only [bsz2, List.size_toArray, List.length_cons, List.length_nil]; omega) | (simp only [ByteArray.size_append, bsz2, List.size_toArray, List.length_cons, List.length_nil]; omega)), ?_⟩
      conv => whnf
      refine ⟨by ((try dsimp only); first | (simp only [bsz2, List.size_toArray, List.length_cons, List.length_nil]; omega) | (simp only [ByteArray.size_append, bsz2, List.size_toArray, List.length_cons, List.length_nil]; omega)), ?_⟩
      conv => whnf
      refine ⟨by ((try dsimp only); first | (simp only [bsz2, List.size_toArray, List.length_cons, List.length_nil]; omega) | (simp only [ByteArray.size_append, bsz2, List.size_toArray, List.length_cons, List.length_nil]; omega)), ?_⟩
      repeat ((conv => whnf); refine ⟨by first | (unfold inI64; omega) | omega | exact ⟨by omega, by omega⟩ | exact rfl | decide +kernel, ?_⟩)
      conv => whnf
      have e : topP zs t m = (t ++ (pickS labL zs (rawN zs (rawN zs m)) ++ ⟨#[58, 32]⟩) ++ (⟨#[47, 32, 123, 32]⟩ ++ (memT zs 3 (rawN zs (rawN zs (rawN zs m)))).1 ++ ⟨#[125, 59, 10]⟩), (memT zs 3 (rawN zs (rawN zs (rawN zs m)))).2) := by unfold topP; rw [if_neg n0, if_neg n1, if_neg n2, if_pos c3]
      rw [e] at inv
      refine head_intro (k, ((k + 1 : Nat) : Int) - 1, t ++ (pickS labL zs (rawN zs (rawN zs m)) ++ ⟨#[58, 32]⟩) ++ (⟨#[47, 32, 123, 32]⟩ ++ (memT zs 3 (rawN zs (rawN zs (rawN zs m)))).1 ++ ⟨#[125, 59, 10]⟩), (memT zs 3 (rawN zs (rawN zs (rawN zs m)))).2) ?_ ?_ ?_ ?_
      · repeat (first | exact LeL.nil | refine LeL.drop ?_ | refine LeL.same ?_)
      · rfl
      · exact ⟨by omega, inv⟩
      · exact Nat.lt_succ_self k
    · have c3 : ¬ modV (rawV zs (rawN zs m)) 4 = 0 := of_decide_eq_false g3
      conv => whnf
      refine ⟨by exact x4, ?_⟩
      conv => whnf
      refine ⟨by ((try dsimp only); first | (simp only [bsz2, List.size_toArray, List.length_cons, List.length_nil]; omega) | (simp only [ByteArray.size_append, bsz2, List.size_toArray, List.length_cons, List.length_nil]; omega)), ?_⟩
      conv => whnf
      refine ⟨by ((try dsimp only); first | (simp only [bsz2, List.size_toArray, List.length_cons, List.length_nil]; omega) | (simp only [ByteArray.size_append, bsz2, List.size_toArray, List.length_cons, List.length_nil]; omega)), ?_⟩
      conv => whnf
      refine ⟨by ((try dsimp only); first | (simp only [bsz2, List.size_toArray, List.length_cons, List.length_nil]; omega) | (simp only [ByteArray.size_append, bsz2, List.size_toArray, List.length_cons, List.length_nil]; omega)), ?_⟩
      repeat ((conv => whnf); refine ⟨by first | (unfold inI64; omega) | omega | exact ⟨by omega, by omega⟩ | exact rfl | decide +kernel, ?_⟩)
      conv => whnf
      have e : topP zs t m = (t ++ (⟨#[47, 32, 123, 32]⟩ ++ (memT zs 3 (rawN zs (rawN zs m))).1 ++ ⟨#[125, 59, 10]⟩), (memT zs 3 (rawN zs (rawN zs m))).2) := by unfold topP; rw [if_neg n0, if_neg n1, if_neg n2, if_neg c3]
      rw [e] at inv
      refine head_intro (k, ((k + 1 : Nat) : Int) - 1, t ++ (⟨#[47, 32, 123, 32]⟩ ++ (memT zs 3 (rawN zs (rawN zs m))).1 ++ ⟨#[125, 59, 10]⟩), (memT zs 3 (rawN zs (rawN zs m))).2) ?_ ?_ ?_ ?_
      · repeat (first | exact LeL.nil | refine LeL.drop ?_ | refine LeL.same ?_)
      · rfl
      · exact ⟨by omega, inv⟩
      · exact Nat.lt_succ_self k
  · have hk0 : k = 0 := by have : ¬ (0 : Int) < k := of_decide_eq_false h; omega
    subst hk0
    repeat ((conv => whnf); refine ⟨by first | (unfold inI64; omega) | omega | exact ⟨by omega, by omega⟩ | exact rfl | decide +kernel, ?_⟩)
    conv => whnf
    rw [← hgo]
    exact ends_eq ⟨rfl, rfl⟩
end Go.Ab

/- Package source: definitions are in pairs, and their positions ascend. -/
namespace Go.Ab
open Go.Proofs
set_option linter.unusedSectionVars false
set_option maxRecDepth 100000
variable [Glob]

def posD (d : defC.den) : Int × Int := d.2.2.2.2.2
def posK (t : tkC.den) : Int × Int := t.2.2.2.2
def outB (s : ByteArray) : Bool := decide (s = ⟨#[47]⟩) || decide (byteAt s 0 = 38)

/-- How deep one is behind a definition; none: it may not stand there. -/
def wk (d : Nat) (x : defC.den) : Option Nat :=
  if x.1 = 1 then (if x.2.2.1.size = 0 then none else if decide (d = 0) = outB x.2.2.1 then some (d + 1) else none)
  else if x.1 = 2 then (if d = 0 then none else some (d - 1))
  else if x.1 = 3 ∨ x.1 = 4 then (if d = 0 then none else some d)
  else if x.1 = 6 then (if d = 0 then some d else none) else some d

def wks : Nat → List defC.den → Option Nat
  | d, [] => some d
  | d, x :: l => (wk d x).bind fun e => wks e l

theorem wk_in {d : Nat} {x : defC.den} (h : x.1 = 3 ∨ x.1 = 4) (hd : d ≠ 0) : wk d x = some d := by
  unfold wk
  rw [if_neg (by rcases h with h | h <;> rw [h] <;> decide), if_neg (by rcases h with h | h <;> rw [h] <;> decide), if_pos h, if_neg hd]

theorem wks_append : ∀ (a b : List defC.den) (d : Nat), wks d (a ++ b) = (wks d a).bind fun e => wks e b
  | [], b, d => rfl
  | x :: a, b, d => by
    show (wk d x).bind (fun e => wks e (a ++ b)) = ((wk d x).bind fun e => wks e a).bind fun e => wks e b
    cases wk d x with
    | none => rfl
    | some e => exact wks_append a b e

/-- The positions are those of tokens, one behind the other. -/
def PosIn (toks : List tkC.den) : Nat → Nat → List defC.den → Prop
  | a, b, [] => a ≤ b
  | a, b, d :: ds => ∃ i, a ≤ i ∧ posD d = posK (toks.getD i tkC.dflt) ∧ PosIn toks (i + 1) b ds

theorem PosIn.low {toks : List tkC.den} : ∀ {ds : List defC.den} {a a' b : Nat}, a' ≤ a → PosIn toks a b ds → PosIn toks a' b ds
  | [], _, _, _, h, k => Nat.le_trans h k
  | _ :: _, _, _, _, h, ⟨i, h1, h2, h3⟩ => ⟨i, Nat.le_trans h h1, h2, h3⟩

theorem PosIn.append {toks : List tkC.den} : ∀ {ds es : List defC.den} {a b c : Nat}, PosIn toks a b ds → PosIn toks b c es → PosIn toks a c (ds ++ es)
  | [], _, _, _, _, h, k => k.low h
  | _ :: _, _, _, _, _, ⟨i, h1, h2, h3⟩, k => ⟨i, h1, h2, h3.append k⟩

/-- What was read between two places is in pairs, from depth d to depth e. -/
structure Prd (d e : Nat) (r q : Sr) : Prop where
  toks : q.toks = r.toks
  ex : ∃ ds, q.defs = r.defs ++ ds ∧ wks d ds = some e ∧ PosIn r.toks r.at_ q.at_ ds

theorem Prd.same {d : Nat} {r q : Sr} (h : Adv r q) (hd : q.defs = r.defs) : Prd d d r q := ⟨h.toks, [], by rw [hd, List.append_nil], rfl, h.le⟩
theorem Prd.trans {d e f : Nat} {a b c : Sr} (h : Prd d e a b) (k : Prd e f b c) : Prd d f a c := by
  obtain ⟨x, h1, h2, h3⟩ := h.ex
  obtain ⟨y, k1, k2, k3⟩ := k.ex
  refine ⟨k.toks.trans h.toks, x ++ y, by rw [k1, h1, List.append_assoc], by rw [wks_append, h2]; exact k2, ?_⟩
  rw [h.toks] at k3
  exact h3.append k3
theorem Prd.one {d e : Nat} {r q : Sr} (h : Adv r q) (hl : r.at_ < q.at_) (hd : q.defs = r.defs) {x : defC.den} (hx : posD x = posK r.tok) (hw : wk d x = some e) : Prd d e r (q.add x) :=
  ⟨h.toks, [x], by show q.defs ++ [x] = _; rw [hd], by show (wk d x).bind _ = _; rw [hw]; rfl, r.at_, Nat.le_refl _, hx, hl⟩

theorem posD_dfn (k : Int) (l n : ByteArray) (p : List prtC.den) (t : tkC.den) : posD (dfn k l n p t) = posK t := rfl

/-! What adds no definition. -/
theorem mustS_defs (s : ByteArray) (r : Sr) : (mustS s r).2.defs = r.defs := by unfold mustS; split <;> rfl
theorem takeS_defs (k : Int) (v : ByteArray → Bool) (r : Sr) : (takeS k v r).2.defs = r.defs := by
  unfold takeS
  split
  · split <;> rfl
  · rfl
theorem nmS_defs (nm : Nm) (r : Sr) : (nmS nm r).2.defs = r.defs := by
  cases nm with
  | root => exact mustS_defs _ r
  | ref => exact takeS_defs _ _ r
  | node => exact takeS_defs _ _ r
  | prop => exact takeS_defs _ _ r
  | str => exact takeS_defs _ _ r
theorem numsS_defs : ∀ (k : Nat) (r : Sr) (out : List Int), (numsS k r out).2.defs = r.defs
  | 0, _, _ => rfl
  | k + 1, r, out => by
    unfold numsS
    split
    · rfl
    · split
      · split
        · rfl
        · exact numsS_defs k r.adv _
      · rfl
theorem celS_defs (r : Sr) : (celS r).2.defs = r.defs := by
  unfold celS
  split
  · exact takeS_defs _ _ r
  · simp only
    split <;> rfl
theorem celsS_defs : ∀ (k : Nat) (r : Sr) (out : List celC.den), (celsS k r out).2.defs = r.defs
  | 0, _, _ => rfl
  | k + 1, r, out => by
    unfold celsS
    split
    · rfl
    · split
      · exact (celsS_defs k _ _).trans (celS_defs r)
      · exact celS_defs r
theorem prtS_defs (r : Sr) : (prtS r).2.defs = r.defs := by
  unfold prtS
  split
  · exact celsS_defs _ r.adv _
  · split
    · exact numsS_defs _ r.adv _
    · split
      · exact takeS_defs _ _ r
      · exact takeS_defs _ _ r
theorem prtsS_defs : ∀ (k : Nat) (r : Sr) (out : List prtC.den), (prtsS k r out).2.defs = r.defs
  | 0, _, _ => rfl
  | k + 1, r, out => by
    unfold prtsS
    split
    · split
      · exact (prtsS_defs k _ _).trans (prtS_defs r)
      · exact prtS_defs r
    · exact prtS_defs r

/-! The steps. -/
theorem Prd.must {d : Nat} {r : Sr} (h : Vld r) (s : ByteArray) : Prd d d r (mustS s r).2 := Prd.same (mustS_good h s).adv (mustS_defs s r)

/-- A definition, and the sign behind it. -/
theorem Prd.close {d e : Nat} {r q : Sr} (h : Vld r) (k : Good r 0 q) (hd : q.defs = r.defs) {x : defC.den} (hx : posD x = posK r.tok) (hw : wk d x = some e) (s : ByteArray) : Prd d e r (mustS s (q.add x)).2 :=
  (Prd.one k.adv (k.ok rfl).1 hd hx hw).trans (Prd.must ((k.add x).vld h (by show q.bod ≤ 9; rw [(k.ok rfl).2.1]; exact h.bod)) s)

theorem cmdS_prd {d : Nat} {r : Sr} (h : Vld r) (hk : r.tok.1 ≠ 8) (kind : Int) (nm : Nm) (hw : ∀ n, wk d (dfn kind e0 n [] r.tok) = some d) (he : (cmdS kind nm r).1 = 0) : Prd d d r (cmdS kind nm r).2 := by
  have h1 := h.adv hk 0
  have v1 := h1.vld h
  have h2 := nmS_good v1 nm
  unfold cmdS at he ⊢
  simp only at he ⊢
  split
  · rename_i h3
    rw [h3] at h2
    exact Prd.close h (h1.trans h2) (nmS_defs nm r.adv) (posD_dfn ..) (hw _) _
  · rename_i h3
    rw [if_neg h3] at he
    exact absurd he h3

theorem prpS_prd {d : Nat} {r : Sr} (h : Vld r) (hd : d ≠ 0) (he : (prpS r).1 = 0) : Prd d d r (prpS r).2 := by
  have h1 := nmS_good h .prop
  have hw : ∀ n l, wk d (dfn 3 e0 n l r.tok) = some d := fun n l => by
    exact wk_in (Or.inl rfl) hd
  unfold prpS at he ⊢
  simp only at he ⊢
  split
  · rename_i h2
    rw [h2] at h1
    rw [if_pos h2] at he
    have v1 := h1.vld h
    by_cases hs : sgnI (nmS .prop r).2.tok ⟨#[61]⟩ = true
    · rw [if_pos hs] at he ⊢
      have h3 := v1.adv (sgnI_kind hs) 0
      have h4 := h1.trans (h3.trans (prtsS_good (nmS .prop r).2.toks.length (h3.vld v1) []))
      split
      · rename_i h5
        rw [h5] at h4
        exact Prd.close h h4 ((prtsS_defs _ _ _).trans (nmS_defs .prop r)) (posD_dfn ..) (hw _ _) _
      · rename_i h5
        rw [if_neg h5] at he
        exact absurd he h5
    · rw [if_neg hs]
      simp only [if_true]
      exact Prd.close h h1 (nmS_defs .prop r) (posD_dfn ..) (hw _ _) _
  · rename_i h2
    rw [if_neg h2] at he
    exact absurd he h2

/-- The name of a node at this depth. -/
def NmOk (d : Nat) (nm : Nm) : Prop := ∀ r, (nmS nm r).1.2 = 0 → ¬ (nmS nm r).1.1.size = 0 ∧ decide (d = 0) = outB (nmS nm r).1.1

theorem nm_root : NmOk 0 .root := fun r _ => ⟨show ¬ (⟨#[47]⟩ : ByteArray).size = 0 by decide, rfl⟩
theorem byteAt_ref (s : ByteArray) : byteAt (⟨#[38]⟩ ++ s) 0 = 38 := by
  unfold byteAt
  rw [ByteArray.data_append, Array.toList_append]
  rfl
theorem nm_ref : NmOk 0 .ref := fun r _ => by
  refine ⟨?_, ?_⟩
  · show ¬ (⟨#[38]⟩ ++ (takeS 6 labB r).1.1 : ByteArray).size = 0
    rw [ByteArray.size_append]
    have : (⟨#[38]⟩ : ByteArray).size = 1 := rfl
    omega
  · show true = outB (⟨#[38]⟩ ++ (takeS 6 labB r).1.1)
    unfold outB
    rw [byteAt_ref]
    simp
theorem nm_node {d : Nat} (hd : d ≠ 0) : NmOk d .node := fun r he => by
  have he' : (takeS 1 namB r).1.2 = 0 := he
  show ¬ (takeS 1 namB r).1.1.size = 0 ∧ decide (d = 0) = outB (takeS 1 namB r).1.1
  unfold takeS at he' ⊢
  split
  · rename_i h1
    rw [if_pos h1] at he'
    split
    · rename_i h2
      have h3 : (!decide (r.tok.2.1 = ⟨#[]⟩) && decide ((r.tok.2.1.size : Int) ≤ 31) && firstB (byteAt r.tok.2.1 0) && decide ((leadN nameB r.tok.2.1 : Int) = r.tok.2.1.size)) = true := h2
      simp only [Bool.and_eq_true] at h3
      obtain ⟨⟨⟨h4, _⟩, h5⟩, _⟩ := h3
      refine ⟨fun h0 => ?_, ?_⟩
      · have : r.tok.2.1 = ⟨#[]⟩ := ByteArray.ext (Array.eq_empty_of_size_eq_zero h0)
        simp [this] at h4
      · rw [decide_eq_false hd]
        have h6 : ¬ r.tok.2.1 = ⟨#[47]⟩ := fun h7 => by rw [h7] at h5; revert h5; decide
        have h7 : ¬ byteAt r.tok.2.1 0 = 38 := fun h8 => by rw [h8] at h5; revert h5; decide
        unfold outB
        rw [decide_eq_false h6, decide_eq_false h7]
        rfl
    · rename_i h2
      rw [if_neg h2] at he'
      cases he'
  · rename_i h1
    rw [if_neg h1] at he'
    cases he'

/-- A body: it closes what the node opened. -/
def BodPr (body : Sr → Int × Sr) : Prop := BodOk body ∧ ∀ d r, Vld r → (body r).1 = 0 → Prd (d + 1) d r (body r).2

theorem nodF_prd {body : Sr → Int × Sr} (hb : BodPr body) {d : Nat} {r : Sr} (h : Vld r) {nm : Nm} (hn : NmOk d nm) (he : (nodF body nm r).1 = 0) : Prd d d r (nodF body nm r).2 := by
  have go : ∀ (l : ByteArray) (q : Sr), Adv r q → q.bod = r.bod → q.defs = r.defs →
      (if (nmS nm q).1.2 = 0 then (if (body ((nmS nm q).2.add (dfn 1 l (nmS nm q).1.1 [] r.tok))).1 = 0 then mustS ⟨#[59]⟩ (body ((nmS nm q).2.add (dfn 1 l (nmS nm q).1.1 [] r.tok))).2 else body ((nmS nm q).2.add (dfn 1 l (nmS nm q).1.1 [] r.tok))) else ((nmS nm q).1.2, (nmS nm q).2)).1 = 0 →
      Prd d d r (if (nmS nm q).1.2 = 0 then (if (body ((nmS nm q).2.add (dfn 1 l (nmS nm q).1.1 [] r.tok))).1 = 0 then mustS ⟨#[59]⟩ (body ((nmS nm q).2.add (dfn 1 l (nmS nm q).1.1 [] r.tok))).2 else body ((nmS nm q).2.add (dfn 1 l (nmS nm q).1.1 [] r.tok))) else ((nmS nm q).1.2, (nmS nm q).2)).2 := by
    intro l q ha hq hdf he
    have vq := ha.vld h (by rw [hq]; exact h.bod)
    have h1 := ha.then hq (nmS_good vq nm)
    split
    · rename_i h2
      obtain ⟨n1, n2⟩ := hn q h2
      rw [h2] at h1
      rw [if_pos h2] at he
      have hw : wk d (dfn 1 l (nmS nm q).1.1 [] r.tok) = some (d + 1) := by
        unfold wk
        rw [if_pos (show (dfn 1 l (nmS nm q).1.1 [] r.tok).1 = 1 from rfl), if_neg (show ¬ (dfn 1 l (nmS nm q).1.1 [] r.tok).2.2.1.size = 0 from n1), if_pos (show decide (d = 0) = outB (dfn 1 l (nmS nm q).1.1 [] r.tok).2.2.1 from n2)]
      have h3 := h1.add (dfn 1 l (nmS nm q).1.1 [] r.tok)
      have p3 : Prd d (d + 1) r ((nmS nm q).2.add (dfn 1 l (nmS nm q).1.1 [] r.tok)) := Prd.one h1.adv (h1.ok rfl).1 ((nmS_defs nm q).trans hdf) (posD_dfn ..) hw
      have hbo : ((nmS nm q).2.add (dfn 1 l (nmS nm q).1.1 [] r.tok)).bod = r.bod := (h1.ok rfl).2.1
      have v3 := h3.vld h (by rw [hbo]; exact h.bod)
      have h4 := h3.then hbo (hb.1 _ v3)
      split
      · rename_i h5
        rw [h5] at h4
        exact (p3.trans (hb.2 d _ v3 h5)).trans (Prd.must (h4.vld h) _)
      · rename_i h5
        rw [if_neg h5] at he
        exact absurd he h5
    · rename_i h2
      rw [if_neg h2] at he
      exact absurd he h2
  unfold nodF at he ⊢
  simp only at he ⊢
  by_cases h5 : r.tok.1 = 5
  · rw [if_pos h5] at he ⊢
    have h1 := takeS_good h (k := 5) (by decide) labB
    split
    · rename_i h2
      rw [h2] at h1
      rw [if_pos h2] at he
      exact go _ _ h1.adv (h1.ok rfl).2.1 (takeS_defs _ _ r) he
    · rename_i h2
      rw [if_neg h2] at he
      exact absurd he h2
  · rw [if_neg h5] at he ⊢
    simp only [if_true] at he ⊢
    exact go _ _ h.refl rfl rfl he

theorem memF_prd {node : Nm → Sr → Int × Sr} {d : Nat} (hd : d ≠ 0) (hn : ∀ r, Vld r → (node .node r).1 = 0 → Prd d d r (node .node r).2) {r : Sr} (h : Vld r) (he : (memF node r).1 = 0) : Prd d d r (memF node r).2 := by
  unfold memF at he ⊢
  split
  · rename_i h1
    rw [if_pos h1] at he
    refine cmdS_prd h (wrdI_kind h1) _ _ (fun n => ?_) he
    exact wk_in (Or.inr rfl) hd
  · rename_i h1
    rw [if_neg h1] at he
    split
    · rename_i h2
      rw [if_pos h2] at he
      refine cmdS_prd h (wrdI_kind h2) _ _ (fun n => ?_) he
      rfl
    · rename_i h2
      rw [if_neg h2] at he
      split
      · rename_i h3
        rw [if_pos h3] at he
        exact prpS_prd h hd he
      · rename_i h3
        rw [if_neg h3] at he
        exact hn r h he

theorem memsF_prd {mem : Sr → Int × Sr} {d : Nat} (hg : ∀ r, Vld r → Good r (mem r).1 (mem r).2) (hm : ∀ r, Vld r → (mem r).1 = 0 → Prd d d r (mem r).2) : ∀ (k : Nat) {r : Sr}, Vld r → (memsF mem k r).1 = 0 → Prd d d r (memsF mem k r).2 := by
  intro k
  induction k with
  | zero => intro r h he; cases he
  | succ k ih =>
    intro r h he
    have h1 := hg r h
    unfold memsF at he ⊢
    split
    · exact Prd.same h.refl rfl
    · rename_i h2
      rw [if_neg h2] at he
      split
      · rename_i h3
        rw [if_pos h3] at he
        rw [h3] at h1
        exact (hm r h h3).trans (ih (h1.vld h) he)
      · rename_i h3
        rw [if_neg h3] at he
        exact absurd he h3

theorem bodF_prd {mem : Sr → Int × Sr} (hg : ∀ r, Vld r → Good r (mem r).1 (mem r).2) (hm : ∀ d, d ≠ 0 → ∀ r, Vld r → (mem r).1 = 0 → Prd d d r (mem r).2) : BodPr (bodF mem) := by
  refine ⟨bodF_good hg, fun d r h he => ?_⟩
  unfold bodF at he ⊢
  split
  · rename_i hs
    rw [if_pos hs] at he
    split
    · rename_i hb
      rw [if_pos hb] at he
      cases he
    · rename_i hb
      rw [if_neg hb] at he
      have h1 := h.adv (sgnI_kind hs) 0
      have v1 : Vld { r.adv with bod := r.bod + 1 } := ⟨h.len, h1.adv.lt, h.lst, h.fit, by have := h.dfs; show r.defs.length ≤ 2 * (r.at_ + 1); omega, by show r.bod + 1 ≤ 9; omega⟩
      have a1 : Adv r { r.adv with bod := r.bod + 1 } := ⟨rfl, Nat.le_succ _, h1.adv.lt, by show r.defs.length + 2 * r.at_ ≤ r.defs.length + 2 * (r.at_ + 1); omega⟩
      obtain ⟨h2, h3⟩ := memsF_good hg r.toks.length v1
      have p2 := memsF_prd hg (hm (d + 1) (Nat.succ_ne_zero d)) r.toks.length v1
      simp only at he ⊢
      split
      · rename_i h4
        obtain ⟨h5, h6⟩ := h3 h4
        have p3 := p2 h4
        generalize memsF mem r.toks.length { r.adv with bod := r.bod + 1 } = x at *
        have hmu : mustS ⟨#[125]⟩ ({ x.2 with bod := x.2.bod - 1 }.add (dfn 2 e0 e0 [] x.2.tok)) = (0, ({ x.2 with bod := x.2.bod - 1 }.add (dfn 2 e0 e0 [] x.2.tok)).adv) := by
          unfold mustS
          rw [if_pos (show sgnI (({ x.2 with bod := x.2.bod - 1 } : Sr).add (dfn 2 e0 e0 [] x.2.tok)).tok ⟨#[125]⟩ = true from h6)]
        rw [hmu]
        have p4 : Prd (d + 1) (d + 1) r x.2 := (Prd.same a1 rfl).trans p3
        obtain ⟨ds, q1, q2, q3⟩ := p4.ex
        refine ⟨p4.toks, ds ++ [dfn 2 e0 e0 [] x.2.tok], ?_, ?_, ?_⟩
        · show x.2.defs ++ [_] = _
          rw [q1, List.append_assoc]
        · rw [wks_append, q2]
          rfl
        · refine q3.append (c := x.2.at_ + 1) ⟨x.2.at_, Nat.le_refl _, ?_, Nat.le_refl _⟩
          rw [← p4.toks]
          rfl
      · rename_i h4
        rw [if_neg h4] at he
        exact absurd he h4
  · rename_i hs
    rw [if_neg hs] at he
    cases he

theorem bodS_prd : ∀ k, BodPr (bodS k) := by
  intro k
  induction k with
  | zero => exact ⟨bodS_good 0, fun d r h he => by cases he⟩
  | succ k ih => exact bodF_prd (fun r h => memF_good (fun r nm h => nodF_good ih.1 h nm) h) fun d hd r h he => memF_prd hd (fun r h he => nodF_prd ih h (nm_node hd) he) h he

theorem topS_prd {r : Sr} (h : Vld r) (he : (topS r).1 = 0) : Prd 0 0 r (topS r).2 := by
  unfold topS at he ⊢
  split
  · rename_i h1
    rw [if_pos h1] at he
    exact cmdS_prd h (wrdI_kind h1) _ _ (fun n => rfl) he
  · rename_i h1
    rw [if_neg h1] at he
    split
    · rename_i h2
      rw [if_pos h2] at he
      exact cmdS_prd h (wrdI_kind h2) _ _ (fun n => rfl) he
    · rename_i h2
      rw [if_neg h2] at he
      split
      · rename_i h3
        rw [if_pos h3] at he
        exact nodF_prd (bodS_prd _) h nm_ref he
      · rename_i h3
        rw [if_neg h3] at he
        exact nodF_prd (bodS_prd _) h nm_root he

theorem topsS_prd : ∀ (k : Nat) {r : Sr}, Vld r → (topsS k r).1 = 0 → Prd 0 0 r (topsS k r).2 ∧ (topsS k r).2.at_ < r.toks.length := by
  intro k
  induction k with
  | zero => intro r h he; cases he
  | succ k ih =>
    intro r h he
    have h1 := topS_good h
    unfold topsS at he ⊢
    split
    · exact ⟨Prd.same h.refl rfl, h.lt⟩
    · rename_i h2
      rw [if_neg h2] at he
      split
      · rename_i h3
        rw [if_pos h3] at he
        rw [h3] at h1
        obtain ⟨h4, h5⟩ := ih (h1.vld h) he
        rw [h1.adv.toks] at h5
        exact ⟨(topS_prd h h3).trans h4, h5⟩
      · rename_i h3
        rw [if_neg h3] at he
        exact absurd he h3

/-- What Read gives is in pairs, and its positions are those of tokens, one behind the other. -/
theorem srcV_prd (s : ByteArray) (f : Int) : wks 0 (srcV s f).defs = some 0 ∧ (∃ n, n ≤ (readV s f).toks.length ∧ PosIn (readV s f).toks 0 n (srcV s f).defs) ∧ ((srcV s f).err = 0 ∨ (srcV s f).defs = []) := by
  unfold srcV
  split
  · rename_i h0
    simp only
    split
    · rename_i h1
      obtain ⟨h2, h3⟩ := topsS_prd _ (srV_vld' h0) h1
      obtain ⟨ds, q1, q2, q3⟩ := h2.ex
      have q4 : (topsS (readV s f).toks.length ⟨(readV s f).toks, 0, 0, []⟩).2.defs = ds := q1
      simp only [q4]
      exact ⟨q2, ⟨_, Nat.le_of_lt h3, q3⟩, Or.inl trivial⟩
    · exact ⟨rfl, ⟨0, Nat.zero_le _, Nat.le_refl 0⟩, Or.inr rfl⟩
  · exact ⟨rfl, ⟨0, Nat.zero_le _, Nat.le_refl 0⟩, Or.inr rfl⟩
end Go.Ab
