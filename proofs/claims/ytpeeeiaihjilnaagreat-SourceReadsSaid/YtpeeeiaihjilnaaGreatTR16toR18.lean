/- Made texts. -/
import Derived.Test.YtpeeeiaihjilnaaGreatTS2toS8
namespace Go.Ab
open Go.Proofs
set_option linter.unusedSectionVars false
set_option maxRecDepth 100000
variable [Glob]
theorem pick_len {l : List ByteArray} {b : Nat} (h : ∀ x ∈ l, x.size ≤ b) (zs : List Int) (n : Int) : (pickS l zs n).size ≤ b := by
 unfold pickS
 generalize (modV (rawV zs n) l.length).toNat = i
 rw [List.getD_eq_getElem?_getD]
 cases hi : l[i]? with
 | none => exact Nat.zero_le _
 | some x => exact h x (List.mem_of_getElem? hi)
def madGo (zs : List Int) : Nat → Int → ByteArray → ByteArray × Int
 | 0, n, out => (out, n)
 | k + 1, n, out =>
  let o := modV (rawV zs n) 40 = 39
  let out1 := if o then out ++ pickS oddL zs (rawN zs n) else out
  let n1 := if o then rawN zs (rawN zs n) else rawN zs n
  let out2 := out1 ++ pickS pieceL zs n1
  let n2 := rawN zs n1
  let out3 := if 0 < modV (rawV zs n2) 3 then out2 ++ ⟨#[32]⟩ else out2
  madGo zs k (rawN zs n2) out3
def madV (zs : List Int) (n k : Int) : ByteArray × Int := madGo zs (modV (rawV zs n) (k + 1)).toNat (rawN zs n) ⟨#[]⟩
theorem rawN_le (zs : List Int) (n : Int) (h : 0 ≤ n) : 0 ≤ rawN zs n ∧ rawN zs n ≤ n + 1 := by unfold rawN; split <;> omega
theorem madGo_le (zs : List Int) : ∀ (k : Nat) (n : Int) (out : ByteArray), 0 ≤ n → 0 ≤ (madGo zs k n out).2 ∧ (madGo zs k n out).2 ≤ n + 4 * k ∧ (madGo zs k n out).1.size ≤ out.size + 81 * k
 | 0, n, out, h => by simp only [madGo]; omega
 | k + 1, n, out, h => by
  have h1 := rawN_le zs n h
  have h2 := rawN_le zs _ h1.1
  have h3 := rawN_le zs _ h2.1
  have h4 := rawN_le zs _ h3.1
  have h5 := pick_len (l := oddL) (b := 40) (by decide +kernel) zs (rawN zs n)
  have h6 := pick_len (l := pieceL) (b := 40) (by decide +kernel) zs (rawN zs n)
  have h7 := pick_len (l := pieceL) (b := 40) (by decide +kernel) zs (rawN zs (rawN zs n))
  have h8 : (⟨#[32]⟩ : ByteArray).size = 1 := rfl
  simp only [madGo]
  by_cases ho : modV (rawV zs n) 40 = 39
  ·simp only [if_pos ho]
   by_cases hb : 0 < modV (rawV zs (rawN zs (rawN zs (rawN zs n)))) 3
   ·simp only [if_pos hb]
    have := madGo_le zs k (rawN zs (rawN zs (rawN zs (rawN zs n)))) (out ++ pickS oddL zs (rawN zs n) ++ pickS pieceL zs (rawN zs (rawN zs n)) ++ ⟨#[32]⟩) h4.1
    simp only [ByteArray.size_append] at this
    omega
   ·simp only [if_neg hb]
    have := madGo_le zs k (rawN zs (rawN zs (rawN zs (rawN zs n)))) (out ++ pickS oddL zs (rawN zs n) ++ pickS pieceL zs (rawN zs (rawN zs n))) h4.1
    simp only [ByteArray.size_append] at this
    omega
  ·simp only [if_neg ho]
   by_cases hb : 0 < modV (rawV zs (rawN zs (rawN zs n))) 3
   ·simp only [if_pos hb]
    have := madGo_le zs k (rawN zs (rawN zs (rawN zs n))) (out ++ pickS pieceL zs (rawN zs n) ++ ⟨#[32]⟩) h3.1
    simp only [ByteArray.size_append] at this
    omega
   ·simp only [if_neg hb]
    have := madGo_le zs k (rawN zs (rawN zs (rawN zs n))) (out ++ pickS pieceL zs (rawN zs n)) h3.1
    simp only [ByteArray.size_append] at this
    omega
theorem madV_le (zs : List Int) (n k : Int) (hn : 0 ≤ n) (hk0 : 0 ≤ k) : 0 ≤ (madV zs n k).2 ∧ (madV zs n k).2 ≤ n + 1 + 4 * k ∧ ((madV zs n k).1.size : Int) ≤ 81 * k := by
 have h1 := rawN_le zs n hn
 have h2 := mN9 (rawV zs n) (k + 1)
 have h3 := modV_lt (rawV zs n) (k + 1) (by omega)
 have h4 := madGo_le zs (modV (rawV zs n) (k + 1)).toNat (rawN zs n) ⟨#[]⟩ h1.1
 have h5 : (⟨#[]⟩ : ByteArray).size = 0 := rfl
 unfold madV
 omega
theorem rawN_ok' {zs : List Int} {n : Int} (h : tapeOk zs n) : tapeOk zs (rawN zs n) := by
 obtain ⟨h1, h2, h3⟩ := h
 unfold rawN
 split <;> exact ⟨by omega, by omega, h3⟩
def T57 : Table := ext T52 11 (saysTapeI fun zs n k => (some (tapeOk zs n ∧ 0 ≤ k ∧ k ≤ 1000), .str (madV zs n k).1, (madV zs n k).2))
theorem t57 : TSound Tryz.prog T57 := by
 refine extTapeI t52 11 (fn := Tryz.f11) rfl rfl (by decide) _ [0, 1, 4, 5, 6, 12, 17, 28] fun zs n k hn => ?_
 obtain ⟨ht, h3, h4⟩ : tapeOk zs n ∧ 0 ≤ k ∧ k ≤ 1000 := hn
 have h0 := ht.1
 have h1 := ht.2.1
 have h2 := ht.2.2
 conv => whnf
 refine ⟨by unfold inI64; omega, ?_⟩
 conv => whnf
 refine ⟨⟨⟨h0, by omega, by omega⟩, by omega⟩, ?_⟩
 conv => whnf
 have hm0 := mN9 (rawV zs n) (k + 1)
 have hm1 := modV_lt (rawV zs n) (k + 1) (by omega)
 have hr := rawN_ok' ht
 refine lI9 (σ := Nat × Int × ByteArray) (fun ⟨i, _, out⟩ => [(0, XV.s (.a (.c (.ptr 0 0)))), (1, XV.s .none), (4, XV.s (SV.str ⟨#[]⟩)), (5, XV.s (SV.str out)), (6, XV.s (.int .i64 i)), (12, XV.s .none), (17, XV.s .none), (28, XV.s .none)])
  (fun ⟨_, n, _⟩ => [tapeO zs n])
  (fun ⟨i, m, out⟩ => i ≤ 1000 ∧ tapeOk zs m ∧ out.size + 81 * i ≤ 100000 ∧ madGo zs i m out = madV zs n k) (fun ⟨i, _, _⟩ => i) ((modV (rawV zs n) (k + 1)).toNat, rawN zs n, ⟨#[]⟩) ?_ rfl ?_ fun ⟨i, m, out⟩ hI => ?_
 ·repeat (first | exact LeL.nil | refine LeL.drop ?_ | refine LeL.same ?_ | refine LeL.eq (congrArg (fun x => XV.s (SV.int .i64 x)) (Int.toNat_of_nonneg hm0)) ?_)
 ·have h5 : (⟨#[]⟩ : ByteArray).size = 0 := rfl
  exact ⟨by omega, hr, by omega, rfl⟩
 obtain ⟨hi, hmt, ho, hgo⟩ := hI
 have hm := hmt.1
 conv => whnf
 refine cI9 (fun h => ?_) (fun h => ?_)
 ·obtain ⟨i', rfl⟩ : ∃ i', i = i' + 1 := ⟨i - 1, by have : (0 : Int) < i := of_decide_eq_true h
                                                    omega⟩
  simp only [madGo] at hgo
  have q1 := rawN_ok' hmt
  have q2 := rawN_ok' q1
  have q3 := rawN_ok' q2
  have q4 := rawN_ok' q3
  have z1 := pick_len (l := oddL) (b := 40) (by decide +kernel) zs (rawN zs m)
  have z2 := pick_len (l := pieceL) (b := 40) (by decide +kernel) zs (rawN zs m)
  have z3 := pick_len (l := pieceL) (b := 40) (by decide +kernel) zs (rawN zs (rawN zs m))
  have z4 : (⟨#[32]⟩ : ByteArray).size = 1 := rfl
  conv => whnf
  refine ⟨⟨⟨hm, by omega, by omega⟩, by decide⟩, ?_⟩
  conv => whnf
  refine cI9 (fun h5 => ?_) (fun h5 => ?_)
  ·have h5' : modV (rawV zs m) 40 = 39 := of_decide_eq_true h5
   simp only [if_pos h5'] at hgo
   conv => whnf
   refine ⟨⟨q1.1, by show rawN zs m ≤ _; omega, by omega⟩, ?_⟩
   conv => whnf
   refine ⟨by show ((out.size + (pickS oddL zs (rawN zs m)).size : Nat) : Int) ≤ _; omega, ?_⟩
   conv => whnf
   refine ⟨⟨q2.1, by show rawN zs (rawN zs m) ≤ _; omega, by omega⟩, ?_⟩
   conv => whnf
   refine ⟨by show (((out ++ pickS oddL zs (rawN zs m)).size + (pickS pieceL zs (rawN zs (rawN zs m))).size : Nat) : Int) ≤ _; rw [ByteArray.size_append]; omega, ?_⟩
   conv => whnf
   refine ⟨⟨⟨q3.1, by show rawN zs (rawN zs (rawN zs m)) ≤ _; omega, by omega⟩, by decide⟩, ?_⟩
   conv => whnf
   refine cI9 (fun h6 => ?_) (fun h6 => ?_)
   ·have h6' : 0 < modV (rawV zs (rawN zs (rawN zs (rawN zs m)))) 3 := of_decide_eq_true h6
    simp only [if_pos h6'] at hgo
    conv => whnf
    refine ⟨by show (((out ++ pickS oddL zs (rawN zs m) ++ pickS pieceL zs (rawN zs (rawN zs m))).size + 1 : Nat) : Int) ≤ _; simp only [ByteArray.size_append]; omega, ?_⟩
    conv => whnf
    refine ⟨by unfold inI64; omega, ?_⟩
    conv => whnf
    refine hI9 (i', rawN zs (rawN zs (rawN zs (rawN zs m))), out ++ pickS oddL zs (rawN zs m) ++ pickS pieceL zs (rawN zs (rawN zs m)) ++ ⟨#[32]⟩) ?_ rfl ?_ ?_
    ·repeat (first | exact LeL.nil | refine LeL.drop ?_ | refine LeL.same ?_ | refine LeL.eq (congrArg (fun x => XV.s (SV.int .i64 x)) (by omega : (i' : Int) = ((i' + 1 : Nat) : Int) - 1)) ?_)
    ·exact ⟨by omega, q4, by simp only [ByteArray.size_append]; omega, hgo⟩
    ·exact Nat.lt_succ_self i'
   ·have h6' : ¬ 0 < modV (rawV zs (rawN zs (rawN zs (rawN zs m)))) 3 := of_decide_eq_false h6
    simp only [if_neg h6'] at hgo
    conv => whnf
    refine ⟨by unfold inI64; omega, ?_⟩
    conv => whnf
    refine hI9 (i', rawN zs (rawN zs (rawN zs (rawN zs m))), out ++ pickS oddL zs (rawN zs m) ++ pickS pieceL zs (rawN zs (rawN zs m))) ?_ rfl ?_ ?_
    ·repeat (first | exact LeL.nil | refine LeL.drop ?_ | refine LeL.same ?_ | refine LeL.eq (congrArg (fun x => XV.s (SV.int .i64 x)) (by omega : (i' : Int) = ((i' + 1 : Nat) : Int) - 1)) ?_)
    ·exact ⟨by omega, q4, by simp only [ByteArray.size_append]; omega, hgo⟩
    ·exact Nat.lt_succ_self i'
  ·have h5' : ¬ modV (rawV zs m) 40 = 39 := of_decide_eq_false h5
   simp only [if_neg h5'] at hgo
   conv => whnf
   refine ⟨⟨q1.1, by show rawN zs m ≤ _; omega, by omega⟩, ?_⟩
   conv => whnf
   refine ⟨by show ((out.size + (pickS pieceL zs (rawN zs m)).size : Nat) : Int) ≤ _; omega, ?_⟩
   conv => whnf
   refine ⟨⟨⟨q2.1, by show rawN zs (rawN zs m) ≤ _; omega, by omega⟩, by decide⟩, ?_⟩
   conv => whnf
   refine cI9 (fun h6 => ?_) (fun h6 => ?_)
   ·have h6' : 0 < modV (rawV zs (rawN zs (rawN zs m))) 3 := of_decide_eq_true h6
    simp only [if_pos h6'] at hgo
    conv => whnf
    refine ⟨by show (((out ++ pickS pieceL zs (rawN zs m)).size + 1 : Nat) : Int) ≤ _; simp only [ByteArray.size_append]; omega, ?_⟩
    conv => whnf
    refine ⟨by unfold inI64; omega, ?_⟩
    conv => whnf
    refine hI9 (i', rawN zs (rawN zs (rawN zs m)), out ++ pickS pieceL zs (rawN zs m) ++ ⟨#[32]⟩) ?_ rfl ?_ ?_
    ·repeat (first | exact LeL.nil | refine LeL.drop ?_ | refine LeL.same ?_ | refine LeL.eq (congrArg (fun x => XV.s (SV.int .i64 x)) (by omega : (i' : Int) = ((i' + 1 : Nat) : Int) - 1)) ?_)
    ·exact ⟨by omega, q3, by simp only [ByteArray.size_append]; omega, hgo⟩
    ·exact Nat.lt_succ_self i'
   ·have h6' : ¬ 0 < modV (rawV zs (rawN zs (rawN zs m))) 3 := of_decide_eq_false h6
    simp only [if_neg h6'] at hgo
    conv => whnf
    refine ⟨by unfold inI64; omega, ?_⟩
    conv => whnf
    refine hI9 (i', rawN zs (rawN zs (rawN zs m)), out ++ pickS pieceL zs (rawN zs m)) ?_ rfl ?_ ?_
    ·repeat (first | exact LeL.nil | refine LeL.drop ?_ | refine LeL.same ?_ | refine LeL.eq (congrArg (fun x => XV.s (SV.int .i64 x)) (by omega : (i' : Int) = ((i' + 1 : Nat) : Int) - 1)) ?_)
    ·exact ⟨by omega, q3, by simp only [ByteArray.size_append]; omega, hgo⟩
    ·exact Nat.lt_succ_self i'
 ·have hz : i = 0 := by have : ¬ (0 : Int) < i := of_decide_eq_false h
                        omega
  subst hz
  simp only [madGo] at hgo
  conv => whnf
  refine eE9 ⟨?_, ?_⟩
  ·show SV.str out = SV.str (madV zs n k).1
   rw [← hgo]
  ·show [tapeO zs m] = [tapeO zs (madV zs n k).2]
   rw [← hgo]
def rdigV (c : Int) : Int := if digitB c then c - 48 else if decide (97 ≤ c) && decide (c ≤ 102) then c - 97 + 10 else if decide (65 ≤ c) && decide (c ≤ 70) then c - 65 + 10 else 99
theorem rdigV_eq (c : Int) : rdigV c = if digitV c = 16 then 99 else digitV c := by
 unfold rdigV digitV
 split
 ·rename_i h
  simp [digitB] at h
  rw [if_neg (by omega)]
 ·split
  ·rename_i h
   simp at h
   rw [if_neg (by omega)]
  ·split
   ·rename_i h
    simp at h
    rw [if_neg (by omega)]
   ·rfl
def runP (b : Bool) : Int → Bool := match b with | true => nameB | false => wordB
def runV (s : ByteArray) (i : Int) (b : Bool) : Int := ((tw (runP b) (s.data.toList.drop i.toNat)).length : Int)
def T60 : Table := ext T57 115 (saysU fun c => (none, .int .i64 (rdigV c)))
def T61 : Table := ext T60 80 (saysSIB fun s i b => (some (fits s ∧ 0 ≤ i ∧ i ≤ 1000000000), .int .i64 (runV s i b)))
theorem t60 : TSound Tryz.prog T60 := by
 refine extU t57 115 (fn := Tryz.f115) rfl rfl (by decide) _ [0, 2, 3, 13, 24] fun c _ => ?_
 conv => whnf
 refine cI9 (fun h => ?_) (fun h => ?_)
 ·have h' : 48 ≤ c ∧ c ≤ 57 := by simpa [digitB] using h
  have hd : digitB c = true := h
  have hw : IntKind.u8.wrap (c - 48) = c - 48 := wrap_u8 (by omega) (by omega)
  conv => whnf
  refine ⟨by unfold inI64; omega, ?_⟩
  conv => whnf
  refine eE9 ⟨?_, rfl⟩
  rw [hw]
  simp only [rdigV, hd, if_true]
 ·have hd : digitB c = false := h
  conv => whnf
  refine cI9 (fun h2 => ?_) (fun h2 => ?_)
  ·have h' : 97 ≤ c ∧ c ≤ 102 := by simpa using h2
   have hw : IntKind.u8.wrap (c - 97) = c - 97 := wrap_u8 (by omega) (by omega)
   conv => whnf
   refine ⟨by unfold inI64; omega, ?_⟩
   conv => whnf
   refine ⟨by unfold inI64; omega, ?_⟩
   conv => whnf
   refine eE9 ⟨?_, rfl⟩
   rw [hw]
   simp only [rdigV, hd, h2, if_true, Bool.false_eq_true, if_false]
  ·conv => whnf
   refine cI9 (fun h3 => ?_) (fun h3 => ?_)
   ·have h' : 65 ≤ c ∧ c ≤ 70 := by simpa using h3
    have hw : IntKind.u8.wrap (c - 65) = c - 65 := wrap_u8 (by omega) (by omega)
    conv => whnf
    refine ⟨by unfold inI64; omega, ?_⟩
    conv => whnf
    refine ⟨by unfold inI64; omega, ?_⟩
    conv => whnf
    refine eE9 ⟨?_, rfl⟩
    rw [hw]
    simp only [rdigV, hd, h2, h3, if_true, Bool.false_eq_true, if_false]
   ·conv => whnf
    refine eE9 ⟨?_, rfl⟩
    simp only [rdigV, hd, h2, h3, Bool.false_eq_true, if_false]
theorem drop_get {l : List UInt8} {i : Nat} (h : i < l.length) : l.drop i = l.getD i 0 :: l.drop (i + 1) := by
 rw [List.drop_eq_getElem_cons h, getD_get h]
theorem twd_step {p : Int → Bool} {l : List UInt8} {i : Nat} (h : i < l.length) (hp : p (byteAt (B l) (i : Int)) = true) : (tw p (l.drop i)).length = (tw p (l.drop (i + 1))).length + 1 := by
 rw [drop_get h, tw_cons_pos (p := p) (a := l.getD i 0) hp]; rfl
theorem twd_stop {p : Int → Bool} {l : List UInt8} {i : Nat} (h : i < l.length) (hp : p (byteAt (B l) (i : Int)) = false) : (tw p (l.drop i)).length = 0 := by
 rw [drop_get h, tw_cons_neg (p := p) (a := l.getD i 0) hp]; rfl
theorem twd_end {p : Int → Bool} {l : List UInt8} {i : Nat} (h : l.length ≤ i) : (tw p (l.drop i)).length = 0 := by
 rw [List.drop_eq_nil_of_le h]; rfl
theorem twd_le (p : Int → Bool) (l : List UInt8) (i : Nat) : (tw p (l.drop i)).length ≤ l.length - i := by
 have := tw_len p (l.drop i)
 rw [List.length_drop] at this
 omega
theorem runP_eq (b : Bool) (s : ByteArray) (i : Int) : (rwordB (byteAt s i) || (b && rnameB (byteAt s i))) = runP b (byteAt s i) := by
 obtain ⟨u, hu⟩ := byteAt_byte s i
 rw [hu, word_same, name_same]
 cases b
 ·simp [runP]
 ·simp [runP, nameB]
theorem t61 : TSound Tryz.prog T61 := by
 refine extSIB t60 80 (fn := Tryz.f80) rfl rfl (by decide) _ [0, 1, 2, 6, 7, 32] fun s i b hs => ?_
 obtain ⟨hs', hi0, hi1⟩ : s.size ≤ 1000000000 ∧ 0 ≤ i ∧ i ≤ 1000000000 := hs
 obtain ⟨a, rfl⟩ : ∃ a : Nat, i = a := ⟨i.toNat, by omega⟩
 obtain ⟨l, rfl⟩ : ∃ l, s = B l := ⟨s.data.toList, rfl⟩
 rw [B_size] at hs'
 conv => whnf
 refine lI9 (σ := Nat) (fun n => [(0, XV.s (SV.str (B l))), (1, XV.s (.int .i64 a)), (2, XV.s (.bool b)), (6, XV.s (.int .i64 0)), (7, XV.s (.int .i64 n)), (32, XV.s .none)]) (fun _ => [])
  (fun n => n + (tw (runP b) (l.drop (a + n))).length = (tw (runP b) (l.drop a)).length) (fun n => l.length - n) 0 ?_ rfl ?_ fun n hI => ?_
 ·repeat (first | exact LeL.nil | refine LeL.drop ?_ | refine LeL.same ?_)
 ·exact Nat.zero_add _
 have hI' : n + (tw (runP b) (l.drop (a + n))).length = (tw (runP b) (l.drop a)).length := hI
 have hb1 := twd_le (runP b) l a
 repeat ((conv => whnf); refine ⟨by first | (unfold inI64; omega) | (intro hg; first | (unfold inI64; omega) | omega | exact ⟨by omega, by omega⟩ | (simp [lit] at hg; unfold inI64; omega) | (simp [lit] at hg; omega) | (simp [lit] at hg; exact ⟨by omega, by omega⟩)), ?_⟩)
 conv => whnf
 refine cI9 (fun h => ?_) (fun h => ?_)
 ·simp only [Bool.and_eq_true, decide_eq_true_eq] at h
  obtain ⟨h1, h2⟩ := h
  rw [runP_eq] at h2
  have h1' : a + n < l.length := by rw [B_size] at h1; omega
  have hstep := twd_step (p := runP b) h1' h2
  repeat ((conv => whnf); refine ⟨by (unfold inI64; omega), ?_⟩)
  conv => whnf
  refine hI9 (n + 1) ?_ rfl ?_ ?_
  ·repeat (first | exact LeL.nil | refine LeL.drop ?_ | refine LeL.same ?_)
  ·show n + 1 + (tw (runP b) (l.drop (a + (n + 1)))).length = _
   rw [← Nat.add_assoc]
   omega
  ·show l.length - (n + 1) < l.length - n
   omega
 ·have h0 : (tw (runP b) (l.drop (a + n))).length = 0 := by
   rcases Nat.lt_or_ge (a + n) l.length with h1 | h1
   ·refine twd_stop h1 ?_
    rw [decide_eq_true (by rw [B_size]; omega : (a : Int) + n < (B l).size), Bool.true_and, runP_eq] at h
    exact h
   ·exact twd_end h1
  conv => whnf
  refine eE9 ⟨?_, rfl⟩
  show SV.int .i64 (n : Int) = SV.int .i64 (((tw (runP b) (l.drop a)).length : Nat) : Int)
  rw [← hI', h0, Nat.add_zero]
def dropB (s : ByteArray) (i : Int) : ByteArray := B (s.data.toList.drop i.toNat)
theorem dropB_size (l : List UInt8) (i : Nat) : (dropB (B l) i).size = l.length - i := List.length_drop
theorem dropB_at (l : List UInt8) (i : Nat) (k : Nat) : byteAt (dropB (B l) i) (k : Int) = byteAt (B l) ((i : Int) + k) := by
 show ((((l.drop i).getD k 0).toNat : Nat) : Int) = (((l.getD (((i : Int) + k).toNat) 0).toNat : Nat) : Int)
 rw [show ((i : Int) + k).toNat = i + k by omega, List.getD_eq_getElem?_getD, List.getD_eq_getElem?_getD, List.getElem?_drop]
theorem dropB_end {l : List UInt8} {i : Nat} (h : i ≤ l.length) (k : Nat) : endB (dropB (B l) i) (k : Int) = (decide (((B l).size : Int) ≤ (i : Int) + k) || decide (byteAt (B l) ((i : Int) + k) = 10)) := by
 unfold endB
 rw [dropB_at, dropB_size, B_size]
 congr 1
 rw [decide_eq_decide]
 omega
def T62 : Table := ext T61 116 (saysSI fun s i => (some (fits s ∧ 0 ≤ i ∧ i ≤ s.size), escSV (escV (dropB s i))))
theorem rdig99 (c : Int) : decide (rdigV c = 99) = decide (digitV c = 16) := by
 have := digitV_range c
 rw [rdigV_eq, decide_eq_decide]
 split <;> omega
theorem rdig_eq {c : Int} (h : ¬ digitV c = 16) : rdigV c = digitV c := by rw [rdigV_eq, if_neg h]
theorem t62 : TSound Tryz.prog T62 := by
 refine extSI t61 116 (fn := Tryz.f116) rfl rfl (by decide) _ [0, 1, 4, 5, 6, 7, 8, 20, 24, 25, 27, 29, 36, 39, 55, 62] fun s i hs => ?_
 obtain ⟨hs', hi0, hi1⟩ : s.size ≤ 1000000000 ∧ 0 ≤ i ∧ i ≤ s.size := hs
 obtain ⟨a, rfl⟩ : ∃ a : Nat, i = a := ⟨i.toNat, by omega⟩
 obtain ⟨l, rfl⟩ : ∃ l, s = B l := ⟨s.data.toList, rfl⟩
 have ha : a ≤ l.length := by rw [B_size] at hi1; omega
 have e1 := dropB_end ha 1
 have b1 : byteAt (dropB (B l) a) 1 = byteAt (B l) ((a : Int) + 1) := dropB_at l a 1
 rw [B_size] at hs' hi1
 have hB : (B l).size = l.length := rfl
 repeat ((conv => whnf); refine ⟨by first | (unfold inI64; omega) | (intro hg; first | (unfold inI64; omega) | omega | exact ⟨by omega, by omega⟩ | (simp [lit] at hg; unfold inI64; omega) | (simp [lit] at hg; omega) | (simp [lit] at hg; exact ⟨by omega, by omega⟩)), ?_⟩)
 conv => whnf
 refine cI9 (fun h => ?_) (fun h => ?_)
 ·have h' : endB (dropB (B l) a) 1 = true := e1.trans h
  conv => whnf
  refine eE9 ⟨?_, rfl⟩
  simp only [escV, h', if_true]
  rfl
 have h' : endB (dropB (B l) a) 1 = false := e1.trans h
 have hlt := end_lt h'
 rw [dropB_size] at hlt
 repeat ((conv => whnf); refine ⟨by first | (unfold inI64; omega) | omega, ?_⟩)
 conv => whnf
 refine cI9 (fun h1 => ?_) (fun h1 => ?_)
 ·have h1' : byteAt (dropB (B l) a) 1 = 110 := b1.trans (of_decide_eq_true h1)
  conv => whnf
  refine eE9 ⟨?_, rfl⟩
  simp only [escV, h', h1', if_true, Bool.false_eq_true, if_false]
  rfl
 have h1' : ¬ byteAt (dropB (B l) a) 1 = 110 := fun h => of_decide_eq_false h1 (b1.symm.trans h)
 conv => whnf
 refine cI9 (fun h2 => ?_) (fun h2 => ?_)
 ·have h2' : byteAt (dropB (B l) a) 1 = 116 := b1.trans (of_decide_eq_true h2)
  conv => whnf
  refine eE9 ⟨?_, rfl⟩
  simp only [escV, h', if_neg h1', if_pos h2', Bool.false_eq_true, if_false]
  rfl
 have h2' : ¬ byteAt (dropB (B l) a) 1 = 116 := fun h => of_decide_eq_false h2 (b1.symm.trans h)
 conv => whnf
 refine cI9 (fun h3 => ?_) (fun h3 => ?_)
 ·have h3' : byteAt (dropB (B l) a) 1 = 34 := b1.trans (of_decide_eq_true h3)
  repeat ((conv => whnf); refine ⟨by first | (unfold inI64; omega) | omega, ?_⟩)
  conv => whnf
  refine eE9 ⟨?_, rfl⟩
  simp only [escV, h', if_neg h1', if_neg h2', if_pos h3', Bool.false_eq_true, if_false]
  rw [b1]
  rfl
 have h3' : ¬ byteAt (dropB (B l) a) 1 = 34 := fun h => of_decide_eq_false h3 (b1.symm.trans h)
 conv => whnf
 refine cI9 (fun h4 => ?_) (fun h4 => ?_)
 ·have h4' : byteAt (dropB (B l) a) 1 = 92 := b1.trans (of_decide_eq_true h4)
  repeat ((conv => whnf); refine ⟨by first | (unfold inI64; omega) | omega, ?_⟩)
  conv => whnf
  refine eE9 ⟨?_, rfl⟩
  simp only [escV, h', if_neg h1', if_neg h2', if_neg h3', if_pos h4', Bool.false_eq_true, if_false]
  rw [b1]
  rfl
 have h4' : ¬ byteAt (dropB (B l) a) 1 = 92 := fun h => of_decide_eq_false h4 (b1.symm.trans h)
 conv => whnf
 refine cI9 (fun h5 => ?_) (fun h5 => ?_)
 ·have h5' : byteAt (dropB (B l) a) 1 = 120 := b1.trans (of_decide_eq_true h5)
  have hX : escV (dropB (B l) a) = escNum (dropB (B l) a) := by
   simp only [escV, h', if_neg h1', if_neg h2', if_neg h3', if_neg h4', if_pos h5', Bool.false_eq_true, if_false]
  rw [hX]
  conv => whnf
  refine lI9 (σ := Nat × Int) (fun ⟨k, v⟩ => [(0, XV.s (SV.str (B l))), (1, XV.s (.int .i64 a)), (4, XV.s .none), (5, XV.s .none), (6, XV.s .none), (7, XV.s (.int .i64 v)), (8, XV.s (.int .i64 (k : Int))), (20, XV.s .none), (24, XV.s .none), (25, XV.s .none), (27, XV.s .none), (29, XV.s .none), (36, XV.s .none), (39, XV.s .none), (55, XV.s .none), (62, XV.s .none)]) (fun _ => [])
   (fun ⟨k, v⟩ => 2 ≤ k ∧ k ≤ 4 ∧ 0 ≤ v ∧ ((k ≤ 3 → v ≤ 16 * ((k : Int) - 2)) ∧ v ≤ 1000) ∧ escGo (dropB (B l) a) (4 - k) (k - 2) v = escNum (dropB (B l) a)) (fun ⟨k, _⟩ => 4 - k) (2, 0) ?_ rfl ?_ fun ⟨k, v⟩ hI => ?_
  ·repeat (first | exact LeL.nil | refine LeL.drop ?_ | refine LeL.same ?_)
  ·exact ⟨by omega, by omega, by omega, ⟨fun _ => by omega, by omega⟩, rfl⟩
  obtain ⟨hk, hk4, hv0, ⟨hv1, hv3⟩, hgo⟩ := hI
  have hd := digitV_range (byteAt (B l) ((a : Int) + k))
  have e2 := dropB_end ha k
  have b2 := dropB_at l a k
  conv => whnf
  refine cI9 (fun h6 => ?_) (fun h6 => ?_)
  ·have hlt4 : k < 4 := by have : (k : Int) < 4 := of_decide_eq_true h6
                           omega
   rw [show 4 - k = (3 - k) + 1 by omega] at hgo
   simp only [escGo] at hgo
   rw [show (2 : Int) + ((k - 2 : Nat) : Int) = (k : Int) by omega, e2, b2] at hgo
   repeat ((conv => whnf); refine ⟨by first | (unfold inI64; omega) | (intro hg; first | (unfold inI64; omega) | omega | exact ⟨by omega, by omega⟩ | (simp [lit] at hg; unfold inI64; omega) | (simp [lit] at hg; omega) | (simp [lit] at hg; exact ⟨by omega, by omega⟩)), ?_⟩)
   conv => whnf
   refine cI9 (fun h7 => ?_) (fun h7 => ?_)
   ·rw [if_pos h7] at hgo
    conv => whnf
    refine eE9 ⟨?_, rfl⟩
    show _ = escSV (escNum (dropB (B l) a))
    rw [← hgo]
    rfl
   rw [if_neg (by rw [h7]; decide)] at hgo
   have h7' : ((a : Int) + k < l.length) := by
    rw [Bool.or_eq_false_iff, decide_eq_false_iff_not] at h7
    omega
   repeat ((conv => whnf); refine ⟨by first | (unfold inI64; omega) | omega, ?_⟩)
   conv => whnf
   refine cI9 (fun h8 => ?_) (fun h8 => ?_)
   ·have h8' : digitV (byteAt (B l) ((a : Int) + k)) = 16 := of_decide_eq_true ((rdig99 _).symm.trans h8)
    rw [if_pos h8'] at hgo
    conv => whnf
    refine eE9 ⟨?_, rfl⟩
    show _ = escSV (escNum (dropB (B l) a))
    rw [← hgo]
    rfl
   have h8' : ¬ digitV (byteAt (B l) ((a : Int) + k)) = 16 := of_decide_eq_false ((rdig99 _).symm.trans h8)
   rw [if_neg h8'] at hgo
   have hrd := rdig_eq h8'
   have hv2 : v ≤ 16 := by
    have := hv1 (by omega)
    omega
   repeat ((conv => whnf); refine ⟨by first | (unfold inI64; omega) | omega, ?_⟩)
   conv => whnf
   rw [hrd]
   refine hI9 (k + 1, v * 16 + digitV (byteAt (B l) ((a : Int) + k))) ?_ rfl ?_ ?_
   ·repeat (first | exact LeL.nil | refine LeL.drop ?_ | refine LeL.same ?_)
   ·refine ⟨by omega, by omega, by omega, ⟨fun h9 => ?_, by omega⟩, ?_⟩
    ·have := hv1 (by omega)
     have h0 : k = 2 := by omega
     subst h0
     omega
    ·rw [← hgo, show 4 - (k + 1) = 3 - k by omega, show k + 1 - 2 = k - 2 + 1 by omega]
   ·show 4 - (k + 1) < 4 - k
    omega
  ·have hk5 : k = 4 := by have : ¬ (k : Int) < 4 := of_decide_eq_false h6
                          omega
   subst hk5
   conv => whnf
   refine eE9 ⟨?_, rfl⟩
   show _ = escSV (escNum (dropB (B l) a))
   rw [← hgo]
   rfl
 ·have h5' : ¬ byteAt (dropB (B l) a) 1 = 120 := fun h => of_decide_eq_false h5 (b1.symm.trans h)
  conv => whnf
  refine eE9 ⟨?_, rfl⟩
  simp only [escV, h', if_neg h1', if_neg h2', if_neg h3', if_neg h4', if_neg h5', Bool.false_eq_true, if_false]
  rfl
end Go.Ab
