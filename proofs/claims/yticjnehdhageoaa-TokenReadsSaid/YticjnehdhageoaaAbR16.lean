/- Made texts. -/
import Derived.Test.YticjnehdhageoaaAbR11
namespace Go.Ab
open Go.Proofs
set_option linter.unusedSectionVars false
set_option maxRecDepth 100000
variable [Glob]

theorem pick_mem {l : List ByteArray} (h : 0 < l.length) (zs : List Int) (n : Int) : pickS l zs n ∈ l := by
  unfold pickS
  have h1 := modV_nonneg (rawV zs n) l.length
  have h2 := modV_lt (rawV zs n) l.length (by omega)
  have h3 : (modV (rawV zs n) l.length).toNat < l.length := by omega
  rw [getD_get h3]
  exact List.getElem_mem h3

theorem pick_len {l : List ByteArray} {b : Nat} (h : ∀ x ∈ l, x.size ≤ b) (zs : List Int) (n : Int) : (pickS l zs n).size ≤ b := by
  unfold pickS
  generalize (modV (rawV zs n) l.length).toNat = i
  rw [List.getD_eq_getElem?_getD]
  cases hi : l[i]? with
  | none => exact Nat.zero_le _
  | some x => exact h x (List.mem_of_getElem? hi)

/-- A made text: so many rounds, from a place of the tape on; the place behind it. -/
def srcGo (zs : List Int) : Nat → Int → ByteArray → ByteArray × Int
  | 0, n, out => (out, n)
  | k + 1, n, out =>
    let o := modV (rawV zs n) 40 = 39
    let out1 := if o then out ++ pickS oddL zs (rawN zs n) else out
    let n1 := if o then rawN zs (rawN zs n) else rawN zs n
    let out2 := out1 ++ pickS pieceL zs n1
    let n2 := rawN zs n1
    let out3 := if 0 < modV (rawV zs n2) 3 then out2 ++ ⟨#[32]⟩ else out2
    srcGo zs k (rawN zs n2) out3

def srcV (zs : List Int) (n k : Int) : ByteArray × Int := srcGo zs (modV (rawV zs n) (k + 1)).toNat (rawN zs n) ⟨#[]⟩

theorem rawN_le (zs : List Int) (n : Int) (h : 0 ≤ n) : 0 ≤ rawN zs n ∧ rawN zs n ≤ n + 1 := by unfold rawN; split <;> omega

theorem srcGo_le (zs : List Int) : ∀ (k : Nat) (n : Int) (out : ByteArray), 0 ≤ n → 0 ≤ (srcGo zs k n out).2 ∧ (srcGo zs k n out).2 ≤ n + 4 * k ∧ (srcGo zs k n out).1.size ≤ out.size + 81 * k
  | 0, n, out, h => by simp only [srcGo]; omega
  | k + 1, n, out, h => by
    have h1 := rawN_le zs n h
    have h2 := rawN_le zs _ h1.1
    have h3 := rawN_le zs _ h2.1
    have h4 := rawN_le zs _ h3.1
    have h5 := pick_len (l := oddL) (b := 40) (by decide +kernel) zs (rawN zs n)
    have h6 := pick_len (l := pieceL) (b := 40) (by decide +kernel) zs (rawN zs n)
    have h7 := pick_len (l := pieceL) (b := 40) (by decide +kernel) zs (rawN zs (rawN zs n))
    have h8 : (⟨#[32]⟩ : ByteArray).size = 1 := rfl
    simp only [srcGo]
    by_cases ho : modV (rawV zs n) 40 = 39
    · simp only [if_pos ho]
      by_cases hb : 0 < modV (rawV zs (rawN zs (rawN zs (rawN zs n)))) 3
      · simp only [if_pos hb]
        have := srcGo_le zs k (rawN zs (rawN zs (rawN zs (rawN zs n)))) (out ++ pickS oddL zs (rawN zs n) ++ pickS pieceL zs (rawN zs (rawN zs n)) ++ ⟨#[32]⟩) h4.1
        simp only [ByteArray.size_append] at this
        omega
      · simp only [if_neg hb]
        have := srcGo_le zs k (rawN zs (rawN zs (rawN zs (rawN zs n)))) (out ++ pickS oddL zs (rawN zs n) ++ pickS pieceL zs (rawN zs (rawN zs n))) h4.1
        simp only [ByteArray.size_append] at this
        omega
    · simp only [if_neg ho]
      by_cases hb : 0 < modV (rawV zs (rawN zs (rawN zs n))) 3
      · simp only [if_pos hb]
        have := srcGo_le zs k (rawN zs (rawN zs (rawN zs n))) (out ++ pickS pieceL zs (rawN zs n) ++ ⟨#[32]⟩) h3.1
        simp only [ByteArray.size_append] at this
        omega
      · simp only [if_neg hb]
        have := srcGo_le zs k (rawN zs (rawN zs (rawN zs n))) (out ++ pickS pieceL zs (rawN zs n)) h3.1
        simp only [ByteArray.size_append] at this
        omega

theorem srcV_le (zs : List Int) (n k : Int) (hn : 0 ≤ n) (hk0 : 0 ≤ k) : 0 ≤ (srcV zs n k).2 ∧ (srcV zs n k).2 ≤ n + 1 + 4 * k ∧ ((srcV zs n k).1.size : Int) ≤ 81 * k := by
  have h1 := rawN_le zs n hn
  have h2 := modV_nonneg (rawV zs n) (k + 1)
  have h3 := modV_lt (rawV zs n) (k + 1) (by omega)
  have h4 := srcGo_le zs (modV (rawV zs n) (k + 1)).toNat (rawN zs n) ⟨#[]⟩ h1.1
  have h5 : (⟨#[]⟩ : ByteArray).size = 0 := rfl
  unfold srcV
  omega

def T57 : Table := ext T52 11 (saysTapeI fun zs n k => (some (0 ≤ n ∧ n ≤ 1000000000 ∧ zs.length ≤ 1000000 ∧ 0 ≤ k ∧ k ≤ 1000), .str (srcV zs n k).1, (srcV zs n k).2))

theorem t57 : TSound Try.prog T57 := by
  refine extTapeI t52 11 (fn := Try.f11) rfl rfl (by decide) _ [0, 1, 4, 5, 6, 12, 17, 28] fun zs n k hn => ?_
  obtain ⟨h0, h1, h2, h3, h4⟩ : 0 ≤ n ∧ n ≤ 1000000000 ∧ zs.length ≤ 1000000 ∧ 0 ≤ k ∧ k ≤ 1000 := hn
  conv => whnf
  refine ⟨by unfold inI64; omega, ?_⟩
  conv => whnf
  refine ⟨⟨⟨h0, by omega, by omega⟩, by omega⟩, ?_⟩
  conv => whnf
  have hm0 := modV_nonneg (rawV zs n) (k + 1)
  have hm1 := modV_lt (rawV zs n) (k + 1) (by omega)
  have hr := rawN_le zs n h0
  refine loop_intro (σ := Nat × Int × ByteArray) (fun ⟨i, _, out⟩ => [(0, XV.s (.a (.c (.ptr 0 0)))), (1, XV.s .none), (4, XV.s (SV.str ⟨#[]⟩)), (5, XV.s (SV.str out)), (6, XV.s (.int .i64 i)), (12, XV.s .none), (17, XV.s .none), (28, XV.s .none)])
    (fun ⟨_, n, _⟩ => [tapeO zs n])
    (fun ⟨i, m, out⟩ => i ≤ 1000 ∧ 0 ≤ m ∧ m + 4 * i ≤ 1000005000 ∧ out.size + 81 * i ≤ 100000 ∧ srcGo zs i m out = srcV zs n k) (fun ⟨i, _, _⟩ => i) ((modV (rawV zs n) (k + 1)).toNat, rawN zs n, ⟨#[]⟩) ?_ rfl ?_ fun ⟨i, m, out⟩ hI => ?_
  · repeat (first | exact LeL.nil | refine LeL.drop ?_ | refine LeL.same ?_ | refine LeL.eq (congrArg (fun x => XV.s (SV.int .i64 x)) (Int.toNat_of_nonneg hm0)) ?_)
  · have h5 : (⟨#[]⟩ : ByteArray).size = 0 := rfl
    exact ⟨by omega, hr.1, by omega, by omega, rfl⟩
  obtain ⟨hi, hm, hm2, ho, hgo⟩ := hI
  conv => whnf
  refine cond_intro (fun h => ?_) (fun h => ?_)
  · obtain ⟨i', rfl⟩ : ∃ i', i = i' + 1 := ⟨i - 1, by have : (0 : Int) < i := of_decide_eq_true h
                                                      omega⟩
    simp only [srcGo] at hgo
    have q1 := rawN_le zs m hm
    have q2 := rawN_le zs _ q1.1
    have q3 := rawN_le zs _ q2.1
    have q4 := rawN_le zs _ q3.1
    have z1 := pick_len (l := oddL) (b := 40) (by decide +kernel) zs (rawN zs m)
    have z2 := pick_len (l := pieceL) (b := 40) (by decide +kernel) zs (rawN zs m)
    have z3 := pick_len (l := pieceL) (b := 40) (by decide +kernel) zs (rawN zs (rawN zs m))
    have z4 : (⟨#[32]⟩ : ByteArray).size = 1 := rfl
    conv => whnf
    refine ⟨⟨⟨hm, by omega, by omega⟩, by decide⟩, ?_⟩
    conv => whnf
    refine cond_intro (fun h5 => ?_) (fun h5 => ?_)
    · have h5' : modV (rawV zs m) 40 = 39 := of_decide_eq_true h5
      simp only [if_pos h5'] at hgo
      conv => whnf
      refine ⟨⟨q1.1, by show rawN zs m ≤ _; omega, by omega⟩, ?_⟩
      conv => whnf
      refine ⟨by show ((out.size + (pickS oddL zs (rawN zs m)).size : Nat) : Int) ≤ _; omega, ?_⟩
      conv => whnf
      refine ⟨⟨q2.1, by show rawN zs (rawN zs m) ≤ _; omega, by omega⟩, ?_⟩
      conv => whnf
      refine ⟨by show (((out ++ pickS oddL zs (rawN zs m)).size + (pickS pieceL zs (rawN zs (rawN zs m))).size : Nat) : Int) ≤ _; rw [ByteArray.size_append]; omega, ?_⟩
      conv => whnf
      refine ⟨⟨⟨q3.1, by show rawN zs (rawN zs (rawN zs m)) ≤ _; omega, by omega⟩, by decide⟩, ?_⟩
      conv => whnf
      refine cond_intro (fun h6 => ?_) (fun h6 => ?_)
      · have h6' : 0 < modV (rawV zs (rawN zs (rawN zs (rawN zs m)))) 3 := of_decide_eq_true h6
        simp only [if_pos h6'] at hgo
        conv => whnf
        refine ⟨by show (((out ++ pickS oddL zs (rawN zs m) ++ pickS pieceL zs (rawN zs (rawN zs m))).size + 1 : Nat) : Int) ≤ _; simp only [ByteArray.size_append]; omega, ?_⟩
        conv => whnf
        refine ⟨by unfold inI64; omega, ?_⟩
        conv => whnf
        refine head_intro (i', rawN zs (rawN zs (rawN zs (rawN zs m))), out ++ pickS oddL zs (rawN zs m) ++ pickS pieceL zs (rawN zs (rawN zs m)) ++ ⟨#[32]⟩) ?_ rfl ?_ ?_
        · repeat (first | exact LeL.nil | refine LeL.drop ?_ | refine LeL.same ?_ | refine LeL.eq (congrArg (fun x => XV.s (SV.int .i64 x)) (by omega : (i' : Int) = ((i' + 1 : Nat) : Int) - 1)) ?_)
        · exact ⟨by omega, q4.1, by omega, by simp only [ByteArray.size_append]; omega, hgo⟩
        · exact Nat.lt_succ_self i'
      · have h6' : ¬ 0 < modV (rawV zs (rawN zs (rawN zs (rawN zs m)))) 3 := of_decide_eq_false h6
        simp only [if_neg h6'] at hgo
        conv => whnf
        refine ⟨by unfold inI64; omega, ?_⟩
        conv => whnf
        refine head_intro (i', rawN zs (rawN zs (rawN zs (rawN zs m))), out ++ pickS oddL zs (rawN zs m) ++ pickS pieceL zs (rawN zs (rawN zs m))) ?_ rfl ?_ ?_
        · repeat (first | exact LeL.nil | refine LeL.drop ?_ | refine LeL.same ?_ | refine LeL.eq (congrArg (fun x => XV.s (SV.int .i64 x)) (by omega : (i' : Int) = ((i' + 1 : Nat) : Int) - 1)) ?_)
        · exact ⟨by omega, q4.1, by omega, by simp only [ByteArray.size_append]; omega, hgo⟩
        · exact Nat.lt_succ_self i'
    · have h5' : ¬ modV (rawV zs m) 40 = 39 := of_decide_eq_false h5
      simp only [if_neg h5'] at hgo
      conv => whnf
      refine ⟨⟨q1.1, by show rawN zs m ≤ _; omega, by omega⟩, ?_⟩
      conv => whnf
      refine ⟨by show ((out.size + (pickS pieceL zs (rawN zs m)).size : Nat) : Int) ≤ _; omega, ?_⟩
      conv => whnf
      refine ⟨⟨⟨q2.1, by show rawN zs (rawN zs m) ≤ _; omega, by omega⟩, by decide⟩, ?_⟩
      conv => whnf
      refine cond_intro (fun h6 => ?_) (fun h6 => ?_)
      · have h6' : 0 < modV (rawV zs (rawN zs (rawN zs m))) 3 := of_decide_eq_true h6
        simp only [if_pos h6'] at hgo
        conv => whnf
        refine ⟨by show (((out ++ pickS pieceL zs (rawN zs m)).size + 1 : Nat) : Int) ≤ _; simp only [ByteArray.size_append]; omega, ?_⟩
        conv => whnf
        refine ⟨by unfold inI64; omega, ?_⟩
        conv => whnf
        refine head_intro (i', rawN zs (rawN zs (rawN zs m)), out ++ pickS pieceL zs (rawN zs m) ++ ⟨#[32]⟩) ?_ rfl ?_ ?_
        · repeat (first | exact LeL.nil | refine LeL.drop ?_ | refine LeL.same ?_ | refine LeL.eq (congrArg (fun x => XV.s (SV.int .i64 x)) (by omega : (i' : Int) = ((i' + 1 : Nat) : Int) - 1)) ?_)
        · exact ⟨by omega, q3.1, by omega, by simp only [ByteArray.size_append]; omega, hgo⟩
        · exact Nat.lt_succ_self i'
      · have h6' : ¬ 0 < modV (rawV zs (rawN zs (rawN zs m))) 3 := of_decide_eq_false h6
        simp only [if_neg h6'] at hgo
        conv => whnf
        refine ⟨by unfold inI64; omega, ?_⟩
        conv => whnf
        refine head_intro (i', rawN zs (rawN zs (rawN zs m)), out ++ pickS pieceL zs (rawN zs m)) ?_ rfl ?_ ?_
        · repeat (first | exact LeL.nil | refine LeL.drop ?_ | refine LeL.same ?_ | refine LeL.eq (congrArg (fun x => XV.s (SV.int .i64 x)) (by omega : (i' : Int) = ((i' + 1 : Nat) : Int) - 1)) ?_)
        · exact ⟨by omega, q3.1, by omega, by simp only [ByteArray.size_append]; omega, hgo⟩
        · exact Nat.lt_succ_self i'
  · have hz : i = 0 := by have : ¬ (0 : Int) < i := of_decide_eq_false h
                          omega
    subst hz
    simp only [srcGo] at hgo
    conv => whnf
    refine ends_eq ⟨?_, ?_⟩
    · show SV.str out = SV.str (srcV zs n k).1
      rw [← hgo]
    · show [tapeO zs m] = [tapeO zs (srcV zs n k).2]
      rw [← hgo]
end Go.Ab
