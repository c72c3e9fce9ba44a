/- Texts of numbers and signs. -/
import Derived.Test.YteidakoieemlgaaGreatDoorTR22toY6
import Derived.Test.YteidakoieemlgaaGreatDoorTY8toS8
import Derived.Test.YteidakoieemlgaaGreatDoorTV24
namespace Go.Ab
open Go.Proofs
set_option linter.unusedSectionVars false
set_option maxRecDepth 100000
variable [GlobX]

def sgnL : List ByteArray := [⟨#[48]⟩, ⟨#[49]⟩, ⟨#[50]⟩, ⟨#[55]⟩, ⟨#[48, 120, 102, 102]⟩, ⟨#[51]⟩, ⟨#[40]⟩, ⟨#[41]⟩, ⟨#[45]⟩, ⟨#[126]⟩, ⟨#[33]⟩, ⟨#[43]⟩, ⟨#[42]⟩, ⟨#[47]⟩, ⟨#[37]⟩, ⟨#[60, 60]⟩, ⟨#[62, 62]⟩, ⟨#[60]⟩, ⟨#[62]⟩, ⟨#[60, 61]⟩, ⟨#[62, 61]⟩, ⟨#[61, 61]⟩, ⟨#[33, 61]⟩, ⟨#[38]⟩, ⟨#[124]⟩, ⟨#[94]⟩, ⟨#[38, 38]⟩, ⟨#[124, 124]⟩, ⟨#[63]⟩, ⟨#[58]⟩]
def sgnAt (zs : List Int) (n : Int) (k : Nat) : Int × Int :=
  if 0 < modV (rawV zs (rawN zs n)) 5 then
    if ((k : Nat) : Int).tmod 2 = 0 then (11 + modV (rawV zs (rawN zs (rawN zs (rawN zs n)))) 17, rawN zs (rawN zs (rawN zs (rawN zs n))))
    else (modV (rawV zs (rawN zs (rawN zs n))) 6, rawN zs (rawN zs (rawN zs n)))
  else (modV (rawV zs n) 30, rawN zs (rawN zs n))
def sgnGo (zs : List Int) : Nat → Int → ByteArray → ByteArray × Int
  | 0, n, out => (out, n)
  | k + 1, n, out => sgnGo zs k (sgnAt zs n (k + 1)).2 (out ++ (sgnL.getD (sgnAt zs n (k + 1)).1.toNat ⟨#[]⟩ ++ ⟨#[32]⟩))
def sgnV (zs : List Int) (n k : Int) : ByteArray × Int := sgnGo zs (modV (rawV zs n) (k + 1)).toNat (rawN zs n) ⟨#[]⟩

theorem sgnL_len (i : Nat) : (sgnL.getD i ⟨#[]⟩).size ≤ 4 := by
  rw [List.getD_eq_getElem?_getD]
  cases hi : sgnL[i]? with
  | none => exact Nat.zero_le _
  | some x => exact (by decide +kernel : ∀ x ∈ sgnL, x.size ≤ 4) x (List.mem_of_getElem? hi)

theorem rawN_step (zs : List Int) {n b : Int} (h : 0 ≤ n ∧ n ≤ b) : 0 ≤ rawN zs n ∧ rawN zs n ≤ b + 1 := by
  have := rawN_le zs n h.1
  omega
theorem sgnAt_le (zs : List Int) {n : Int} (h : 0 ≤ n) (k : Nat) : 0 ≤ (sgnAt zs n k).2 ∧ (sgnAt zs n k).2 ≤ n + 4 ∧ 0 ≤ (sgnAt zs n k).1 ∧ (sgnAt zs n k).1 < 30 := by
  have h1 := rawN_le zs n h
  have h2 := rawN_le zs _ h1.1
  have h3 := rawN_le zs _ h2.1
  have h4 := rawN_le zs _ h3.1
  have m1 := modV_nonneg (rawV zs n) 30
  have m2 := modV_lt (rawV zs n) 30 (by decide)
  have m3 := modV_nonneg (rawV zs (rawN zs (rawN zs n))) 6
  have m4 := modV_lt (rawV zs (rawN zs (rawN zs n))) 6 (by decide)
  have m5 := modV_nonneg (rawV zs (rawN zs (rawN zs (rawN zs n)))) 17
  have m6 := modV_lt (rawV zs (rawN zs (rawN zs (rawN zs n)))) 17 (by decide)
  unfold sgnAt
  split
  · split <;> dsimp only <;> omega
  · dsimp only
    omega
theorem sgnGo_le (zs : List Int) : ∀ (k : Nat) (n : Int) (out : ByteArray), 0 ≤ n → 0 ≤ (sgnGo zs k n out).2 ∧ (sgnGo zs k n out).2 ≤ n + 4 * k ∧ (sgnGo zs k n out).1.size ≤ out.size + 5 * k
  | 0, n, out, h => by simp only [sgnGo]; omega
  | k + 1, n, out, h => by
    have h1 := sgnAt_le zs h (k + 1)
    have h2 := sgnL_len (sgnAt zs n (k + 1)).1.toNat
    have h3 := sgnGo_le zs k (sgnAt zs n (k + 1)).2 (out ++ (sgnL.getD (sgnAt zs n (k + 1)).1.toNat ⟨#[]⟩ ++ ⟨#[32]⟩)) h1.1
    have h4 : (⟨#[32]⟩ : ByteArray).size = 1 := rfl
    simp only [sgnGo]
    simp only [ByteArray.size_append] at h3
    omega
theorem sgnV_le (zs : List Int) (n k : Int) (hn : 0 ≤ n) (hk0 : 0 ≤ k) : 0 ≤ (sgnV zs n k).2 ∧ (sgnV zs n k).2 ≤ n + 1 + 4 * k ∧ ((sgnV zs n k).1.size : Int) ≤ 5 * k := by
  have h1 := rawN_le zs n hn
  have h2 := modV_nonneg (rawV zs n) (k + 1)
  have h3 := modV_lt (rawV zs n) (k + 1) (by omega)
  have h4 := sgnGo_le zs (modV (rawV zs n) (k + 1)).toNat (rawN zs n) ⟨#[]⟩ h1.1
  have h5 : (⟨#[]⟩ : ByteArray).size = 0 := rfl
  unfold sgnV
  omega

section
variable {T : Table} (hT : TSound Tryz.prog T)
abbrev P12 (N : Nat) : Table := ext (P11 N X66) 8 (saysTapeI fun zs n k => (some (0 ≤ n ∧ n ≤ 1000000000 ∧ zs.length ≤ 1000000 ∧ 0 ≤ k ∧ k ≤ 1000), .str (sgnV zs n k).1, (sgnV zs n k).2))

set_option maxHeartbeats 1000000 in
theorem p12 {N : Nat} (hN : 20000 ≤ N) : TSound Tryz.prog (P12 N) := by
  refine extTapeI (p11 x66 hN) 8 (fn := Tryz.f8) rfl rfl (by decide) _ [0, 1, 4, 5, 6, 7, 8, 15, 24, 29] fun zs n k hn => ?_
  obtain ⟨h0, h1, h2, h3, h4⟩ : 0 ≤ n ∧ n ≤ 1000000000 ∧ zs.length ≤ 1000000 ∧ 0 ≤ k ∧ k ≤ 1000 := hn
  have hm0 := modV_nonneg (rawV zs n) (k + 1)
  have hm1 := modV_lt (rawV zs n) (k + 1) (by omega)
  have hr := rawN_le zs n h0
  repeat ((conv => whnf); refine ⟨by first | exact ⟨⟨h0, by omega, by omega⟩, by omega⟩ | (unfold inI64; omega) | omega | exact ⟨by omega, by omega⟩ | (intro hg; first | (unfold inI64; omega) | omega | exact ⟨by omega, by omega⟩ | (simp [lit] at hg; unfold inI64; omega) | (simp [lit] at hg; omega) | (simp [lit] at hg; exact ⟨by omega, by omega⟩)) | (show (_ : Nat) + 1 ≤ 1000000000000; omega) | exact rfl | (unfold inI64; dsimp only; omega) | (dsimp only; omega) | (intro hg; simp [lit] at hg; first | (unfold inI64; dsimp only; omega) | (dsimp only; omega)) | decide +kernel, ?_⟩)
  conv => whnf
  refine loop_intro (σ := Nat × Int × ByteArray) (fun ⟨i, _, out⟩ => [(0, XV.s (.a (.c (.ptr 0 0)))), (1, XV.s .none), (4, XV.s .none), (5, XV.s (.a (.c (.own 1 .str sgnL)))), (6, XV.s (SV.str out)), (7, XV.s (.int .i64 i)), (8, XV.s .none), (15, XV.s .none), (24, XV.s .none), (29, XV.s .none)])
    (fun ⟨_, n, _⟩ => [tapeO zs n, .tok 9 .str 30 false])
    (fun ⟨i, m, out⟩ => i ≤ 1000 ∧ 0 ≤ m ∧ m + 4 * i ≤ 1000005000 ∧ out.size + 81 * i ≤ 100000 ∧ sgnGo zs i m out = sgnV zs n k) (fun ⟨i, _, _⟩ => i) ((modV (rawV zs n) (k + 1)).toNat, rawN zs n, ⟨#[]⟩) ?_ rfl ?_ fun ⟨i, m, out⟩ hI => ?_
  · repeat (first | exact LeL.nil | refine LeL.drop ?_ | refine LeL.same ?_ | refine LeL.eq (congrArg (fun x => XV.s (SV.int .i64 x)) (Int.toNat_of_nonneg hm0)) ?_)
  · have h5 : (⟨#[]⟩ : ByteArray).size = 0 := rfl
    exact ⟨by omega, hr.1, by omega, by omega, rfl⟩
  obtain ⟨hi, hm, hm2, ho, hgo⟩ := hI
  repeat ((conv => whnf); refine ⟨by first | (unfold inI64; omega) | omega | exact ⟨by omega, by omega⟩ | (intro hg; first | (unfold inI64; omega) | omega | exact ⟨by omega, by omega⟩ | (simp [lit] at hg; unfold inI64; omega) | (simp [lit] at hg; omega) | (simp [lit] at hg; exact ⟨by omega, by omega⟩)) | (show (_ : Nat) + 1 ≤ 1000000000000; omega) | exact rfl | (unfold inI64; dsimp only; omega) | (dsimp only; omega) | (intro hg; simp [lit] at hg; first | (unfold inI64; dsimp only; omega) | (dsimp only; omega)) | decide +kernel, ?_⟩)
  conv => whnf
  refine cond_intro (fun h => ?_) (fun h => ?_)
  · obtain ⟨i', rfl⟩ : ∃ i', i = i' + 1 := ⟨i - 1, by have : (0 : Int) < i := of_decide_eq_true h
                                                      omega⟩
    simp only [sgnGo] at hgo
    have q1 := rawN_le zs m hm
    have q2 := rawN_le zs _ q1.1
    have q3 := rawN_le zs _ q2.1
    have q4 := rawN_le zs _ q3.1
    have hA := sgnAt_le zs hm (i' + 1)
    have hL := sgnL_len (sgnAt zs m (i' + 1)).1.toNat
    have z4 : (⟨#[32]⟩ : ByteArray).size = 1 := rfl
    have c1 : ∀ x, 0 ≤ x ∧ x ≤ m + 4 → tapeOk zs x := fun x hx => ⟨hx.1, by omega, by omega⟩
    have t1 : tapeOk zs (rawN zs m) := c1 _ (by omega)
    have t2 : tapeOk zs (rawN zs (rawN zs m)) := c1 _ (by omega)
    have t3 : tapeOk zs (rawN zs (rawN zs (rawN zs m))) := c1 _ (by omega)
    have t0 : tapeOk zs m := c1 _ (by omega)
    have m1 := modV_nonneg (rawV zs m) 30
    have m2 := modV_lt (rawV zs m) 30 (by decide)
    have m3 := modV_nonneg (rawV zs (rawN zs (rawN zs m))) 6
    have m4 := modV_lt (rawV zs (rawN zs (rawN zs m))) 6 (by decide)
    have m5 := modV_nonneg (rawV zs (rawN zs (rawN zs (rawN zs m)))) 17
    have m6 := modV_lt (rawV zs (rawN zs (rawN zs (rawN zs m)))) 17 (by decide)
    repeat ((conv => whnf); refine ⟨by first | exact ⟨t0, by decide⟩ | exact ⟨t1, by decide⟩ | (unfold inI64; omega) | omega | exact ⟨by omega, by omega⟩ | (intro hg; first | (unfold inI64; omega) | omega | exact ⟨by omega, by omega⟩ | (simp [lit] at hg; unfold inI64; omega) | (simp [lit] at hg; omega) | (simp [lit] at hg; exact ⟨by omega, by omega⟩)) | (show (_ : Nat) + 1 ≤ 1000000000000; omega) | exact rfl | (unfold inI64; dsimp only; omega) | (dsimp only; omega) | (intro hg; simp [lit] at hg; first | (unfold inI64; dsimp only; omega) | (dsimp only; omega)) | decide +kernel, ?_⟩)
    conv => whnf
    refine cond_intro (fun h5 => ?_) (fun h5 => ?_)
    · have h6 : 0 < modV (rawV zs (rawN zs m)) 5 := of_decide_eq_true h5
      repeat ((conv => whnf); refine ⟨by first | exact ⟨t2, by decide⟩ | (unfold inI64; omega) | omega | exact ⟨by omega, by omega⟩ | (intro hg; first | (unfold inI64; omega) | omega | exact ⟨by omega, by omega⟩ | (simp [lit] at hg; unfold inI64; omega) | (simp [lit] at hg; omega) | (simp [lit] at hg; exact ⟨by omega, by omega⟩)) | (show (_ : Nat) + 1 ≤ 1000000000000; omega) | exact rfl | (unfold inI64; dsimp only; omega) | (dsimp only; omega) | (intro hg; simp [lit] at hg; first | (unfold inI64; dsimp only; omega) | (dsimp only; omega)) | decide +kernel, ?_⟩)
      conv => whnf
      refine cond_intro (fun h7 => ?_) (fun h7 => ?_)
      · have h8 : ((i' + 1 : Nat) : Int).tmod 2 = 0 := of_decide_eq_true h7
        have hs : sgnAt zs m (i' + 1) = (11 + modV (rawV zs (rawN zs (rawN zs (rawN zs m)))) 17, rawN zs (rawN zs (rawN zs (rawN zs m)))) := by
          unfold sgnAt
          rw [if_pos h6, if_pos h8]
        rw [hs] at hgo hL hA
        dsimp only at hgo hL hA
        have b1 : 0 ≤ 11 + modV (rawV zs (rawN zs (rawN zs (rawN zs m)))) 17 ∧ 11 + modV (rawV zs (rawN zs (rawN zs (rawN zs m)))) 17 < ((30 : Nat) : Int) := by omega
        have b2 : (((sgnL.getD (11 + modV (rawV zs (rawN zs (rawN zs (rawN zs m)))) 17).toNat ⟨#[]⟩).size + 1 : Nat) : Int) ≤ 9223372036854775807 := by omega
        have b3 : ((out.size + (sgnL.getD (11 + modV (rawV zs (rawN zs (rawN zs (rawN zs m)))) 17).toNat ⟨#[]⟩ ++ ⟨#[32]⟩).size : Nat) : Int) ≤ 9223372036854775807 := by
          rw [ByteArray.size_append]
          omega
        have b4 : inI64 (11 + modV (rawV zs (rawN zs (rawN zs (rawN zs m)))) 17) := by unfold inI64; omega
        conv => whnf
        refine ⟨⟨t3, by decide⟩, ?_⟩
        conv => whnf
        refine ⟨b4, ?_⟩
        conv => whnf
        refine ⟨b1, ?_⟩
        conv => whnf
        refine ⟨b2, ?_⟩
        conv => whnf
        refine ⟨b3, ?_⟩
        repeat ((conv => whnf); refine ⟨by first | (unfold inI64; omega) | omega | exact ⟨by omega, by omega⟩ | (intro hg; first | (unfold inI64; omega) | omega | exact ⟨by omega, by omega⟩ | (simp [lit] at hg; unfold inI64; omega) | (simp [lit] at hg; omega) | (simp [lit] at hg; exact ⟨by omega, by omega⟩)) | (show (_ : Nat) + 1 ≤ 1000000000000; omega) | exact rfl | (unfold inI64; dsimp only; omega) | (dsimp only; omega) | (intro hg; simp [lit] at hg; first | (unfold inI64; dsimp only; omega) | (dsimp only; omega)) | decide +kernel, ?_⟩)
        conv => whnf
        refine head_intro (i', rawN zs (rawN zs (rawN zs (rawN zs m))), out ++ (sgnL.getD (11 + modV (rawV zs (rawN zs (rawN zs (rawN zs m)))) 17).toNat ⟨#[]⟩ ++ ⟨#[32]⟩)) ?_ rfl ?_ ?_
        · repeat (first | exact LeL.nil | refine LeL.drop ?_ | refine LeL.same ?_ | refine LeL.eq (congrArg (fun x => XV.s (SV.int .i64 x)) (by omega : (i' : Int) = ((i' + 1 : Nat) : Int) - 1)) ?_)
        · refine ⟨by omega, hA.1, by omega, ?_, hgo⟩
          rw [ByteArray.size_append, ByteArray.size_append]
          omega
        · exact Nat.lt_succ_self i'
      · have h8 : ¬ ((i' + 1 : Nat) : Int).tmod 2 = 0 := of_decide_eq_false h7
        have hs : sgnAt zs m (i' + 1) = (modV (rawV zs (rawN zs (rawN zs m))) 6, rawN zs (rawN zs (rawN zs m))) := by
          unfold sgnAt
          rw [if_pos h6, if_neg h8]
        rw [hs] at hgo hL hA
        dsimp only at hgo hL hA
        have b1 : 0 ≤ modV (rawV zs (rawN zs (rawN zs m))) 6 ∧ modV (rawV zs (rawN zs (rawN zs m))) 6 < ((30 : Nat) : Int) := by omega
        have b2 : (((sgnL.getD (modV (rawV zs (rawN zs (rawN zs m))) 6).toNat ⟨#[]⟩).size + 1 : Nat) : Int) ≤ 9223372036854775807 := by omega
        have b3 : ((out.size + (sgnL.getD (modV (rawV zs (rawN zs (rawN zs m))) 6).toNat ⟨#[]⟩ ++ ⟨#[32]⟩).size : Nat) : Int) ≤ 9223372036854775807 := by
          rw [ByteArray.size_append]
          omega
        have b4 : inI64 (modV (rawV zs (rawN zs (rawN zs m))) 6) := by unfold inI64; omega
        conv => whnf
        refine ⟨b1, ?_⟩
        conv => whnf
        refine ⟨b2, ?_⟩
        conv => whnf
        refine ⟨b3, ?_⟩
        repeat ((conv => whnf); refine ⟨by first | (unfold inI64; omega) | omega | exact ⟨by omega, by omega⟩ | (intro hg; first | (unfold inI64; omega) | omega | exact ⟨by omega, by omega⟩ | (simp [lit] at hg; unfold inI64; omega) | (simp [lit] at hg; omega) | (simp [lit] at hg; exact ⟨by omega, by omega⟩)) | (show (_ : Nat) + 1 ≤ 1000000000000; omega) | exact rfl | (unfold inI64; dsimp only; omega) | (dsimp only; omega) | (intro hg; simp [lit] at hg; first | (unfold inI64; dsimp only; omega) | (dsimp only; omega)) | decide +kernel, ?_⟩)
        conv => whnf
        refine head_intro (i', rawN zs (rawN zs (rawN zs m)), out ++ (sgnL.getD (modV (rawV zs (rawN zs (rawN zs m))) 6).toNat ⟨#[]⟩ ++ ⟨#[32]⟩)) ?_ rfl ?_ ?_
        · repeat (first | exact LeL.nil | refine LeL.drop ?_ | refine LeL.same ?_ | refine LeL.eq (congrArg (fun x => XV.s (SV.int .i64 x)) (by omega : (i' : Int) = ((i' + 1 : Nat) : Int) - 1)) ?_)
        · refine ⟨by omega, hA.1, by omega, ?_, hgo⟩
          rw [ByteArray.size_append, ByteArray.size_append]
          omega
        · exact Nat.lt_succ_self i'
    · have h6 : ¬ 0 < modV (rawV zs (rawN zs m)) 5 := of_decide_eq_false h5
      have hs : sgnAt zs m (i' + 1) = (modV (rawV zs m) 30, rawN zs (rawN zs m)) := by
        unfold sgnAt
        rw [if_neg h6]
      rw [hs] at hgo hL hA
      dsimp only at hgo hL hA
      have b1 : 0 ≤ modV (rawV zs m) 30 ∧ modV (rawV zs m) 30 < ((30 : Nat) : Int) := by omega
      have b2 : (((sgnL.getD (modV (rawV zs m) 30).toNat ⟨#[]⟩).size + 1 : Nat) : Int) ≤ 9223372036854775807 := by omega
      have b3 : ((out.size + (sgnL.getD (modV (rawV zs m) 30).toNat ⟨#[]⟩ ++ ⟨#[32]⟩).size : Nat) : Int) ≤ 9223372036854775807 := by
        rw [ByteArray.size_append]
        omega
      have b4 : inI64 (modV (rawV zs m) 30) := by unfold inI64; omega
      conv => whnf
      refine ⟨b1, ?_⟩
      conv => whnf
      refine ⟨b2, ?_⟩
      conv => whnf
      refine ⟨b3, ?_⟩
      repeat ((conv => whnf); refine ⟨by first | (unfold inI64; omega) | omega | exact ⟨by omega, by omega⟩ | (intro hg; first | (unfold inI64; omega) | omega | exact ⟨by omega, by omega⟩ | (simp [lit] at hg; unfold inI64; omega) | (simp [lit] at hg; omega) | (simp [lit] at hg; exact ⟨by omega, by omega⟩)) | (show (_ : Nat) + 1 ≤ 1000000000000; omega) | exact rfl | (unfold inI64; dsimp only; omega) | (dsimp only; omega) | (intro hg; simp [lit] at hg; first | (unfold inI64; dsimp only; omega) | (dsimp only; omega)) | decide +kernel, ?_⟩)
      conv => whnf
      refine head_intro (i', rawN zs (rawN zs m), out ++ (sgnL.getD (modV (rawV zs m) 30).toNat ⟨#[]⟩ ++ ⟨#[32]⟩)) ?_ rfl ?_ ?_
      · repeat (first | exact LeL.nil | refine LeL.drop ?_ | refine LeL.same ?_ | refine LeL.eq (congrArg (fun x => XV.s (SV.int .i64 x)) (by omega : (i' : Int) = ((i' + 1 : Nat) : Int) - 1)) ?_)
      · refine ⟨by omega, hA.1, by omega, ?_, hgo⟩
        rw [ByteArray.size_append, ByteArray.size_append]
        omega
      · exact Nat.lt_succ_self i'
  · have hz : i = 0 := by have : ¬ (0 : Int) < i := of_decide_eq_false h
                          omega
    subst hz
    simp only [sgnGo] at hgo
    repeat ((conv => whnf); refine ⟨by first | (unfold inI64; omega) | omega | exact ⟨by omega, by omega⟩ | (intro hg; first | (unfold inI64; omega) | omega | exact ⟨by omega, by omega⟩ | (simp [lit] at hg; unfold inI64; omega) | (simp [lit] at hg; omega) | (simp [lit] at hg; exact ⟨by omega, by omega⟩)) | (show (_ : Nat) + 1 ≤ 1000000000000; omega) | exact rfl | (unfold inI64; dsimp only; omega) | (dsimp only; omega) | (intro hg; simp [lit] at hg; first | (unfold inI64; dsimp only; omega) | (dsimp only; omega)) | decide +kernel, ?_⟩)
    conv => whnf
    refine ends_eq ⟨?_, ?_⟩
    · show SV.str out = SV.str (sgnV zs n k).1
      rw [← hgo]
    · show [tapeO zs m] = [tapeO zs (sgnV zs n k).2]
      rw [← hgo]
end
end Go.Ab

/- ExpressionAnswers: the law. -/
namespace Go.Ab
open Go.Proofs
set_option linter.unusedSectionVars false
set_option maxRecDepth 100000
variable [GlobX]

abbrev P13 (N : Nat) : Table := ext (P12 N) 7 (saysTapeS fun zs n s => (some (0 ≤ n ∧ n ≤ 1000000000 ∧ zs.length ≤ 1000000 ∧ s.size ≤ 1000000), .str (spoilV zs n s).1, (spoilV zs n s).2))
theorem p13 {N : Nat} (hN : 20000 ≤ N) : TSound Tryz.prog (P13 N) := ext_only t73 (p12 hN)
abbrev P14 (N : Nat) : Table := ext (P13 N) 9 (saysTapeI fun zs n k => (some (0 ≤ n ∧ n ≤ 1000000000 ∧ zs.length ≤ 1000000 ∧ 0 ≤ k ∧ k ≤ 1000), .str (srcV zs n k).1, (srcV zs n k).2))
theorem p14 {N : Nat} (hN : 20000 ≤ N) : TSound Tryz.prog (P14 N) := ext_only t57 (p13 hN)
abbrev P15 (N : Nat) : Table := ext (P14 N) 16 (saysVal true)
theorem p15 {N : Nat} (hN : 20000 ≤ N) : TSound Tryz.prog (P15 N) := ext_only y40 (p14 hN)

theorem tape_nw (zs : List Int) : tapeOk (zs.take 500) 0 := by
  have := List.length_take_le 500 zs
  exact ⟨by decide, by decide, by omega⟩

def tpIn (zs : List Int) (n : Int) : Prop := 0 ≤ n ∧ n ≤ zs.length
theorem rawN_in {zs : List Int} {n : Int} (h : tpIn zs n) : tpIn zs (rawN zs n) := by
  obtain ⟨h0, h1⟩ := h
  unfold tpIn rawN
  split <;> omega
theorem exprT_in {zs : List Int} : ∀ (d : Nat) {n : Int}, tpIn zs n → tpIn zs (exprT zs d n).2.2 := by
  intro d
  induction d with
  | zero => intro n h; exact rawN_in (rawN_in (rawN_in h))
  | succ d ih =>
    intro n h
    unfold exprT
    split
    · exact rawN_in (rawN_in (rawN_in (rawN_in h)))
    · exact rawN_in (ih (ih (rawN_in h)))
theorem spoil_in {zs : List Int} {n : Int} (s : ByteArray) (h : tpIn zs n) : tpIn zs (spoilV zs n s).2 := by
  unfold spoilV
  split
  · exact rawN_in h
  · have h2 := rawN_in (rawN_in h)
    unfold spoilM
    split
    · exact h2
    · split
      · exact h2
      · split
        · exact rawN_in h2
        · split
          · exact rawN_in h2
          · exact rawN_in h2
theorem sgnAt_in {zs : List Int} {n : Int} (h : tpIn zs n) (k : Nat) : tpIn zs (sgnAt zs n k).2 := by
  have h2 := rawN_in (rawN_in h)
  unfold sgnAt
  split
  · split
    · exact rawN_in (rawN_in h2)
    · exact rawN_in h2
  · exact h2
theorem sgnGo_in {zs : List Int} : ∀ (k : Nat) {n : Int} (out : ByteArray), tpIn zs n → tpIn zs (sgnGo zs k n out).2
  | 0, _, _, h => h
  | k + 1, _, _, h => sgnGo_in k _ (sgnAt_in h (k + 1))
theorem sgn_in {zs : List Int} {n : Int} (k : Int) (h : tpIn zs n) : tpIn zs (sgnV zs n k).2 := sgnGo_in _ _ (rawN_in h)
theorem srcGo_in {zs : List Int} : ∀ (k : Nat) {n : Int} (out : ByteArray), tpIn zs n → tpIn zs (srcGo zs k n out).2
  | 0, _, _, h => h
  | k + 1, n, out, h => by
    simp only [srcGo]
    by_cases ho : modV (rawV zs n) 40 = 39
    · simp only [if_pos ho]
      exact srcGo_in k _ (rawN_in (rawN_in (rawN_in (rawN_in h))))
    · simp only [if_neg ho]
      exact srcGo_in k _ (rawN_in (rawN_in (rawN_in h)))
theorem src_in {zs : List Int} {n : Int} (k : Int) (h : tpIn zs n) : tpIn zs (srcV zs n k).2 := srcGo_in _ _ (rawN_in h)

/-- The texts that are looked at, and how far the tape was read. -/
def anA (ys : List Int) : ByteArray × Int × Int := exprT ys 3 0
def anS (ys : List Int) : ByteArray × Int := spoilV ys (anA ys).2.2 (anA ys).1
def anG (ys : List Int) : ByteArray × Int := sgnV ys (anS ys).2 15
def anH (ys : List Int) : ByteArray × Int := sgnV ys (anG ys).2 9
def anR (ys : List Int) : ByteArray × Int := srcV ys (anH ys).2 8
def anL (ys : List Int) (raw : ByteArray) : List ByteArray := [raw, (anA ys).1, (anS ys).1, (anG ys).1, (anH ys).1, (anR ys).1]

theorem readV_len0 (s : ByteArray) : (readV s 0).toks.length ≤ 6000 := (readV_end s 0).1

def saysAns : Says := fun args H => match args, H with
  | [.c (.p (.l (.int .i64) _)), .c (.p (.v (.string _))), .c (.p (.l c0 _)), .c (.p (.v (.int .i64 a))), .c (.p (.v (.int .i64 n)))], [] => match decide (c0 = tkC) with
    | true => some (some (inI64 a ∧ inI64 n), .bool true, [])
    | false => none
  | _, _ => none

abbrev P16 (N : Nat) : Table := ext (P15 N) 3 saysAns

theorem idk2 : ∀ k, k < 2 → [0, 1][k]? = some k := fun k hk => by
  have : k = 0 ∨ k = 1 := by omega
  rcases this with rfl | rfl <;> rfl
theorem idk4 : ∀ k, k < 4 → [0, 1, 2, 3][k]? = some k := fun k hk => by
  have : k = 0 ∨ k = 1 ∨ k = 2 ∨ k = 3 := by omega
  rcases this with rfl | rfl | rfl | rfl <;> rfl

set_option maxHeartbeats 4000000 in
theorem p16 {N : Nat} (hN : 20000 ≤ N) : TSound Tryz.prog (P16 N) := by
  refine ext_run (p15 hN) (f := 3) (fn := Tryz.f3) rfl rfl [0, 1, 2, 3, 4, 10, 11, 12, 15, 16, 17, 18, 19, 20, 24, 26, 27, 28, 29, 30, 31, 32, 33, 34, 35, 36, 37, 38, 40, 48, 68, 69, 70, 71, 91, 105, 106, 107, 108, 117, 118, 119, 120, 178, 185, 186, 187, 188, 195] fun args H p r' H' hs hp => ?_
  unfold saysAns at hs
  split at hs
  · split at hs
    · rename_i zs raw c0 tk at_ n0 _ hc0
      cases hs
      obtain rfl : c0 = tkC := of_decide_eq_true hc0
      obtain ⟨hat, hn0⟩ := hp
      refine ⟨Nat.le_of_ble_eq_true rfl, [], rfl, fun k hk => absurd hk (Nat.not_lt_zero k), ?_⟩
      have ht0 := tape_nw zs
      generalize hz : (zs : List Int).take 500 = ys at ht0
      have hyl : ys.length ≤ 500 := by rw [← hz]; exact List.length_take_le 500 zs
      repeat ((conv => whnf); refine ⟨by first | (unfold inI64; omega) | omega | exact ⟨by omega, by omega⟩ | exact rfl | decide +kernel, ?_⟩)
      conv => whnf
      refine cond_intro (fun h => ?_) (fun h => ?_)
      · repeat ((conv => whnf); refine ⟨by first | (unfold inI64; omega) | omega | exact ⟨by omega, by omega⟩ | exact rfl | decide +kernel, ?_⟩)
        conv => whnf
        exact ends_eq ⟨rfl, rfl⟩
      have hlen : (tk : List tkC.den).length ≤ 60 := by
        have h2 : (decide ((1000 : Int) < (raw.size : Nat)) || decide ((60 : Int) < ((tk : List tkC.den).length : Nat))) = false := h
        simp at h2
        omega
      have i0 : tpIn ys 0 := ⟨by decide, by omega⟩
      have i1 : tpIn ys (anA ys).2.2 := exprT_in 3 i0
      have i2 : tpIn ys (anS ys).2 := spoil_in _ i1
      have i3 : tpIn ys (anG ys).2 := sgn_in _ i2
      have i4 : tpIn ys (anH ys).2 := sgn_in _ i3
      have i5 : tpIn ys (anR ys).2 := src_in _ i4
      have z1 := (exprT_size ys 3 0 (by decide)).1
      have c1 : tapeOk ys 0 ∧ (0 : Int) ≤ 3 ∧ (3 : Int) ≤ (4 : Nat) ∧ 4 ≤ 4 := ⟨ht0, by decide, by decide, by decide⟩
      have c2 : 0 ≤ (anA ys).2.2 ∧ (anA ys).2.2 ≤ 1000000000 ∧ ys.length ≤ 1000000 ∧ (anA ys).1.size ≤ 1000000 := ⟨i1.1, by have := i1.2; omega, by omega, by unfold anA; omega⟩
      have c3 : 0 ≤ (anS ys).2 ∧ (anS ys).2 ≤ 1000000000 ∧ ys.length ≤ 1000000 ∧ (0 : Int) ≤ 15 ∧ (15 : Int) ≤ 1000 := ⟨i2.1, by have := i2.2; omega, by omega, by decide, by decide⟩
      have c4 : 0 ≤ (anG ys).2 ∧ (anG ys).2 ≤ 1000000000 ∧ ys.length ≤ 1000000 ∧ (0 : Int) ≤ 9 ∧ (9 : Int) ≤ 1000 := ⟨i3.1, by have := i3.2; omega, by omega, by decide, by decide⟩
      have c5 : 0 ≤ (anH ys).2 ∧ (anH ys).2 ≤ 1000000000 ∧ ys.length ≤ 1000000 ∧ (0 : Int) ≤ 8 ∧ (8 : Int) ≤ 1000 := ⟨i4.1, by have := i4.2; omega, by omega, by decide, by decide⟩
      have e3 : (exprT ys 3 0) = anA ys := rfl
      repeat ((conv => whnf); rw [hz])
      repeat ((conv => whnf); refine ⟨by first | exact c1 | exact c2 | exact c3 | exact c4 | exact c5, ?_⟩)
      conv => whnf
      obtain ⟨L, hL⟩ : ∃ L : List ByteArray, L = anL ys raw := ⟨_, rfl⟩
      have hL6 : L.length = 6 := by rw [hL]; rfl
      obtain ⟨m0, hm0⟩ : ∃ m0 : Int, m0 = (anR ys).2 := ⟨_, rfl⟩
      rw [← hm0] at i5
      refine loop_intro (σ := Nat × Int) (fun ⟨i, _⟩ => [(0, XV.s .none), (1, XV.s .none), (2, XV.s (.a (.c (.p (.l tkC tk))))), (3, XV.s (.int .i64 at_)), (4, XV.s (.int .i64 n0)), (10, XV.s .none), (11, XV.s (.a (.c (.ptr 0 0)))), (12, XV.s .none), (15, XV.s .none), (16, XV.s .none), (17, XV.s .none), (18, XV.s .none), (19, XV.s .none), (20, XV.s .none), (24, XV.s .none), (26, XV.s .none), (27, XV.s .none), (28, XV.s .none), (29, XV.s .none), (30, XV.s .none), (31, XV.s .none), (32, XV.s .none), (33, XV.s .none), (34, XV.s .none), (35, XV.s .none), (36, XV.s .none), (37, XV.s .none), (38, XV.s .none), (40, XV.s .none), (48, XV.s .none), (68, XV.s (.a (.c (.own 1 .str L)))), (69, XV.s (.int .i64 6)), (70, XV.s (.int .i64 (i : Nat))), (71, XV.s .none), (91, XV.s .none), (105, XV.s .none), (106, XV.s .none), (107, XV.s .none), (108, XV.s .none), (117, XV.s .none), (118, XV.s .none), (119, XV.s .none), (120, XV.s .none), (178, XV.s .none), (185, XV.s .none), (186, XV.s .none), (187, XV.s .none), (188, XV.s .none), (195, XV.s .none)]) (fun ⟨_, m⟩ => [tapeO ys m, .tok 9 .str 6 false]) (fun ⟨i, m⟩ => i ≤ 6 ∧ tpIn ys m) (fun ⟨i, _⟩ => 6 - i) (0, m0) ?_ ?_ ?_ ?_
      · subst hL
        repeat (first | exact LeL.nil | refine LeL.drop ?_ | refine LeL.same ?_)
      · subst hm0
        rfl
      · exact ⟨by decide, i5⟩
      clear hL hm0 i0 i1 i2 i3 i4 i5 z1 c1 c2 c3 c4 c5 e3
      rintro ⟨i, m⟩ ⟨hi, hm⟩
      repeat ((conv => whnf); refine ⟨by first | (unfold inI64; omega) | omega | exact ⟨by omega, by omega⟩ | exact rfl | decide +kernel, ?_⟩)
      conv => whnf
      refine cond_intro (fun h1 => ?_) (fun h1 => ?_)
      · have hi6 : i < 6 := by
          have : (i : Int) < 6 := of_decide_eq_true h1
          omega
        have hin : 0 ≤ (i : Int) ∧ (i : Int) < (L.length : Nat) := by omega
        repeat ((conv => whnf); refine ⟨by first | exact hin | (unfold inI64; omega) | omega | exact ⟨by omega, by omega⟩ | exact rfl | decide +kernel, ?_⟩)
        conv => whnf
        refine cond_intro (fun h2 => ?_) (fun h2 => ?_)
        · exfalso
          revert h2
          simp
        generalize hX : L.getD (i : Int).toNat CT.str.dflt = X
        have hT := readV_len0 X
        have hq : IntKind.i64.wrap (((readV X 0).toks.length : Int).tdiv 2) = (((readV X 0).toks.length / 2 : Nat) : Int) := quo_nat _ 2 (by omega)
        have c6 : (0 : Int) ≤ 0 ∧ 0 ≤ IntKind.i64.wrap (((readV X 0).toks.length : Int).tdiv 2) ∧ IntKind.i64.wrap (((readV X 0).toks.length : Int).tdiv 2) ≤ ((readV X 0).toks.length : Nat) := by rw [hq]; omega
        repeat ((conv => whnf); refine ⟨by first | exact c6 | (unfold inI64; omega) | omega | exact ⟨by omega, by omega⟩ | exact rfl | decide +kernel, ?_⟩)
        conv => whnf
        obtain ⟨Y, hY⟩ : ∃ Y : List (List tkC.den), Y = [(readV X 0).toks, tk, List.drop (Int.toNat 0) (List.take (IntKind.i64.wrap (((readV X 0).toks.length : Int).tdiv 2)).toNat (readV X 0).toks)] := ⟨_, rfl⟩
        have hY3 : Y.length = 3 := by rw [hY]; rfl
        have hYl : ∀ j, j < 3 → (Y.getD j []).length ≤ 6001 := by
          intro j hj
          rw [hY]
          rcases (by omega : j = 0 ∨ j = 1 ∨ j = 2) with rfl | rfl | rfl
          · show (readV X 0).toks.length ≤ 6001
            omega
          · show (tk : List tkC.den).length ≤ 6001
            omega
          · show (List.drop (Int.toNat 0) (List.take (IntKind.i64.wrap (((readV X 0).toks.length : Int).tdiv 2)).toNat (readV X 0).toks)).length ≤ 6001
            rw [List.length_drop, List.length_take]
            omega
        refine loop_intro (σ := Nat × Int) (fun ⟨j, _⟩ => [(0, XV.s .none), (1, XV.s .none), (2, XV.s (.a (.c (.p (.l tkC tk))))), (3, XV.s (.int .i64 at_)), (4, XV.s (.int .i64 n0)), (10, XV.s .none), (11, XV.s (.a (.c (.ptr 0 0)))), (12, XV.s .none), (15, XV.s .none), (16, XV.s .none), (17, XV.s .none), (18, XV.s .none), (19, XV.s .none), (20, XV.s .none), (24, XV.s .none), (26, XV.s .none), (27, XV.s .none), (28, XV.s .none), (29, XV.s .none), (30, XV.s .none), (31, XV.s .none), (32, XV.s .none), (33, XV.s .none), (34, XV.s .none), (35, XV.s .none), (36, XV.s .none), (37, XV.s .none), (38, XV.s .none), (40, XV.s .none), (48, XV.s .none), (68, XV.s (.a (.c (.own 1 .str L)))), (69, XV.s (.int .i64 6)), (70, XV.s (.int .i64 (i : Nat))), (71, XV.s .none), (91, XV.s .none), (105, XV.s (.a (.c (.own 3 (.list tkC) Y)))), (106, XV.s (.int .i64 3)), (107, XV.s (.int .i64 (j : Nat))), (108, XV.s .none), (117, XV.s .none), (118, XV.s .none), (119, XV.s .none), (120, XV.s .none), (178, XV.s .none), (185, XV.s .none), (186, XV.s .none), (187, XV.s .none), (188, XV.s .none), (195, XV.s .none)])
          (fun ⟨_, m⟩ => [tapeO ys m, .tok 9 .str 6 false, .row [.int .i64 (readV X 0).file, .int .i64 (readV X 0).line, .int .i64 (readV X 0).column], .tok 23 (.list tkC) 3 false]) (fun ⟨j, m⟩ => j ≤ 3 ∧ tpIn ys m) (fun ⟨j, _⟩ => 3 - j) (0, m) ?_ ?_ ?_ ?_
        · subst hY
          repeat (first | exact LeL.nil | refine LeL.drop ?_ | refine LeL.same ?_)
        · rfl
        · exact ⟨by decide, hm⟩
        clear hY c6 hq hm
        rintro ⟨j, m⟩ ⟨hj, hm⟩
        repeat ((conv => whnf); refine ⟨by first | (unfold inI64; omega) | omega | exact ⟨by omega, by omega⟩ | exact rfl | decide +kernel, ?_⟩)
        conv => whnf
        refine cond_intro (fun h3 => ?_) (fun h3 => ?_)
        · have hj3 : j < 3 := by
            have : (j : Int) < 3 := of_decide_eq_true h3
            omega
          have hin3 : 0 ≤ (j : Int) ∧ (j : Int) < (Y.length : Nat) := by omega
          have hyl := hYl j hj3
          generalize hy : Y.getD j [] = y at hyl
          have htk : tapeOk ys m := ⟨hm.1, by have := hm.2; omega, by omega⟩
          have c7 : inI64 (((Y.getD j []).length : Int) + 1) := by rw [hy]; unfold inI64; omega
          have c8 : tapeOk ys m ∧ ((Y.getD j []).length : Int) + 1 ≤ 4611686018427387904 := ⟨htk, by rw [hy]; omega⟩
          repeat ((conv => whnf); refine ⟨by first | exact hin3 | exact c7 | exact c8 | (unfold inI64; omega) | omega | exact ⟨by omega, by omega⟩ | exact rfl | decide +kernel, ?_⟩)
          conv => whnf
          obtain ⟨K, hK⟩ : ∃ K : List Int, K = [at_, 0, modV (rawV ys m) (((Y.getD j []).length : Int) + 1)] := ⟨_, rfl⟩
          have hK3 : K.length = 3 := by rw [hK]; rfl
          refine loop_intro (σ := Nat) (fun k => [(0, XV.s .none), (1, XV.s .none), (2, XV.s (.a (.c (.p (.l tkC tk))))), (3, XV.s (.int .i64 at_)), (4, XV.s (.int .i64 n0)), (10, XV.s .none), (11, XV.s (.a (.c (.ptr 0 0)))), (12, XV.s .none), (15, XV.s .none), (16, XV.s .none), (17, XV.s .none), (18, XV.s .none), (19, XV.s .none), (20, XV.s .none), (24, XV.s (.a (.c (.p (.l tkC y))))), (26, XV.s .none), (27, XV.s .none), (28, XV.s .none), (29, XV.s .none), (30, XV.s .none), (31, XV.s .none), (32, XV.s .none), (33, XV.s .none), (34, XV.s .none), (35, XV.s .none), (36, XV.s .none), (37, XV.s .none), (38, XV.s .none), (40, XV.s .none), (48, XV.s .none), (68, XV.s (.a (.c (.own 1 .str L)))), (69, XV.s (.int .i64 6)), (70, XV.s (.int .i64 (i : Nat))), (71, XV.s .none), (91, XV.s .none), (105, XV.s (.a (.c (.own 3 (.list tkC) Y)))), (106, XV.s (.int .i64 3)), (107, XV.s (.int .i64 (j : Nat))), (108, XV.s .none), (117, XV.s (.a (.c (.own 4 (.int .i64) K)))), (118, XV.s (.int .i64 3)), (119, XV.s (.int .i64 (k : Nat))), (120, XV.s .none), (178, XV.s .none), (185, XV.s .none), (186, XV.s .none), (187, XV.s .none), (188, XV.s .none), (195, XV.s .none)])
            (fun _ => [tapeO ys (rawN ys m), .tok 9 .str 6 false, .row [.int .i64 (readV X 0).file, .int .i64 (readV X 0).line, .int .i64 (readV X 0).column], .tok 23 (.list tkC) 3 false, .tok 3 (.int .i64) 3 false]) (fun k => k ≤ 3) (fun k => 3 - k) 0 ?_ ?_ ?_ ?_
          · subst hy
            subst hK
            repeat (first | exact LeL.nil | refine LeL.drop ?_ | refine LeL.same ?_)
          · rfl
          · decide
          intro k hk
          repeat ((conv => whnf); refine ⟨by first | (unfold inI64; omega) | omega | exact ⟨by omega, by omega⟩ | exact rfl | decide +kernel, ?_⟩)
          conv => whnf
          refine cond_intro (fun h4 => ?_) (fun h4 => ?_)
          · have hk3 : k < 3 := by
              have : (k : Int) < 3 := of_decide_eq_true h4
              omega
            have hin4 : 0 ≤ (k : Int) ∧ (k : Int) < (K.length : Nat) := by omega
            have c9 : (y : List tkC.den).length ≤ 1000000 := by omega
            repeat ((conv => whnf); refine ⟨by first | exact hin4 | exact ⟨rfl, c9⟩ | exact ⟨rfl, hyl⟩ | (unfold inI64; omega) | omega | exact ⟨by omega, by omega⟩ | exact rfl | decide +kernel, ?_⟩)
            conv => whnf
            refine cond_intro (fun h5 => ?_) (fun h5 => ?_)
            · exfalso
              revert h5
              simp
            · repeat ((conv => whnf); refine ⟨by first | (unfold inI64; omega) | omega | exact ⟨by omega, by omega⟩ | exact rfl | decide +kernel, ?_⟩)
              conv => whnf
              refine head_intro (k + 1) ?_ rfl ?_ ?_
              · repeat (first | exact LeL.nil | refine LeL.drop ?_ | refine LeL.same ?_)
              · exact hk3
              · omega
          · repeat ((conv => whnf); refine ⟨by first | (unfold inI64; omega) | omega | exact ⟨by omega, by omega⟩ | exact rfl | decide +kernel, ?_⟩)
            conv => whnf
            refine head_keep (j + 1, rawN ys m) [0, 1, 2, 3] rfl idk4 ?_ ?_ ?_ ?_
            · rfl
            · repeat (first | exact KeepL.nil | refine KeepL.drop ?_ | refine KeepL.ren rfl ?_)
            · exact ⟨hj3, rawN_in hm⟩
            · show 3 - (j + 1) < 3 - j
              omega
        · repeat ((conv => whnf); refine ⟨by first | (unfold inI64; omega) | omega | exact ⟨by omega, by omega⟩ | exact rfl | decide +kernel, ?_⟩)
          conv => whnf
          refine head_keep (i + 1, m) [0, 1] rfl idk2 ?_ ?_ ?_ ?_
          · rfl
          · repeat (first | exact KeepL.nil | refine KeepL.drop ?_ | refine KeepL.ren rfl ?_)
          · exact ⟨hi6, hm⟩
          · show 6 - (i + 1) < 6 - i
            omega
      · have htk : tapeOk ys m := ⟨hm.1, by have := hm.2; omega, by omega⟩
        repeat ((conv => whnf); refine ⟨by first | exact htk | (unfold inI64; omega) | omega | exact ⟨by omega, by omega⟩ | exact rfl | decide +kernel, ?_⟩)
        conv => whnf
        obtain ⟨F, hF⟩ : ∃ F : List Int, F = [n0, tnV ys m, 4294967295, 4294967296, 9, 10] := ⟨_, rfl⟩
        have hF6 : F.length = 6 := by rw [hF]; rfl
        refine loop_intro (σ := Nat) (fun k => [(0, XV.s .none), (1, XV.s .none), (2, XV.s .none), (3, XV.s .none), (4, XV.s .none), (10, XV.s .none), (11, XV.s .none), (12, XV.s .none), (15, XV.s .none), (16, XV.s .none), (17, XV.s .none), (18, XV.s .none), (19, XV.s .none), (20, XV.s .none), (24, XV.s .none), (26, XV.s .none), (27, XV.s .none), (28, XV.s .none), (29, XV.s .none), (30, XV.s .none), (31, XV.s .none), (32, XV.s .none), (33, XV.s .none), (34, XV.s .none), (35, XV.s .none), (36, XV.s .none), (37, XV.s .none), (38, XV.s .none), (40, XV.s .none), (48, XV.s .none), (68, XV.s .none), (69, XV.s .none), (70, XV.s .none), (71, XV.s .none), (91, XV.s .none), (105, XV.s .none), (106, XV.s .none), (107, XV.s .none), (108, XV.s .none), (117, XV.s .none), (118, XV.s .none), (119, XV.s .none), (120, XV.s .none), (178, XV.s .none), (185, XV.s (.a (.c (.own 2 (.int .i64) F)))), (186, XV.s (.int .i64 6)), (187, XV.s (.int .i64 (k : Nat))), (188, XV.s .none), (195, XV.s .none)]) (fun _ => [tapeO ys (tnN ys m), .tok 9 .str 6 false, .tok 3 (.int .i64) 6 false]) (fun k => k ≤ 6) (fun k => 6 - k) 0 ?_ ?_ ?_ ?_
        · subst hF
          repeat (first | exact LeL.nil | refine LeL.drop ?_ | refine LeL.same ?_)
        · rfl
        · decide
        intro k hk
        repeat ((conv => whnf); refine ⟨by first | (unfold inI64; omega) | omega | exact ⟨by omega, by omega⟩ | exact rfl | decide +kernel, ?_⟩)
        conv => whnf
        refine cond_intro (fun h6 => ?_) (fun h6 => ?_)
        · have hk6 : k < 6 := by
            have : (k : Int) < 6 := of_decide_eq_true h6
            omega
          have hin6 : 0 ≤ (k : Int) ∧ (k : Int) < (F.length : Nat) := by omega
          repeat ((conv => whnf); refine ⟨by first | exact hin6 | (unfold inI64; omega) | omega | exact ⟨by omega, by omega⟩ | exact rfl | decide +kernel, ?_⟩)
          conv => whnf
          refine cond_intro (fun h7 => ?_) (fun h7 => ?_)
          · exfalso
            revert h7
            simp
          · repeat ((conv => whnf); refine ⟨by first | (unfold inI64; omega) | omega | exact ⟨by omega, by omega⟩ | exact rfl | decide +kernel, ?_⟩)
            conv => whnf
            refine head_intro (k + 1) ?_ rfl ?_ ?_
            · repeat (first | exact LeL.nil | refine LeL.drop ?_ | refine LeL.same ?_)
            · exact hk6
            · omega
        · repeat ((conv => whnf); refine ⟨by first | (unfold inI64; omega) | omega | exact ⟨by omega, by omega⟩ | exact rfl | decide +kernel, ?_⟩)
          conv => whnf
          exact ends_eq ⟨rfl, rfl⟩
    · cases hs
  · cases hs
end Go.Ab
