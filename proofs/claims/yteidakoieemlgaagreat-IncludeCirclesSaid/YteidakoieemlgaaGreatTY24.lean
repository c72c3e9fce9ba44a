/- IncludeCircles: the law. -/
import Derived.Test.YteidakoieemlgaaGreatTY23
namespace Go.Ab
open Go.Proofs
set_option linter.unusedSectionVars false
set_option maxRecDepth 100000
variable [Glob]

def saysCirc : Says := fun args H => match args, H with
  | [.c (.p (.v (.int .u8 n))), .c (.p (.v (.int .u8 b)))], [] => some (some (0 ≤ n ∧ n ≤ 255 ∧ 0 ≤ b ∧ b ≤ 255), .bool true, [])
  | _, _ => none

abbrev J5 : Table := ext J4 6 saysCirc

set_option maxHeartbeats 1000000 in
theorem j5 : TSound Tryz.prog J5 := by
  refine ext_run j4 (f := 6) (fn := Tryz.f6) rfl rfl [0, 1, 4, 5, 6, 7, 8, 9, 11, 12, 23, 30] fun args H p r H' hs hp => ?_
  unfold saysCirc at hs
  split at hs
  · rename_i n b
    cases hs
    obtain ⟨hn0, hn1, hb0, hb1⟩ := hp
    refine ⟨Nat.le_of_ble_eq_true rfl, [], rfl, fun k hk => absurd hk (Nat.not_lt_zero k), ?_⟩
    obtain ⟨k, hk⟩ : ∃ k : Nat, 1 + n.tmod 5 = k := ⟨(1 + n.tmod 5).toNat, by have := Int.tmod_nonneg 5 hn0; omega⟩
    have hk1 : 1 ≤ k ∧ k ≤ 5 := by
      have h1 := Int.tmod_nonneg 5 hn0
      have h2 := Int.tmod_lt_of_pos n (b := 5) (by decide)
      omega
    obtain ⟨to, ht⟩ : ∃ to : Nat, b.tmod (k : Int) = to := ⟨(b.tmod (k : Int)).toNat, by have := Int.tmod_nonneg (k : Int) hb0; omega⟩
    have ht1 : to < k := by
      have h2 := Int.tmod_lt_of_pos b (b := (k : Int)) (by omega)
      omega
    have hfact := circ_ok hk1.1 hk1.2 ht1
    unfold circOk at hfact
    simp only [Bool.and_eq_true, decide_eq_true_eq] at hfact
    obtain ⟨⟨f1, f2⟩, f3⟩ := hfact
    repeat ((conv => whnf); refine ⟨by first | (unfold inI64; omega) | omega | exact ⟨by omega, by omega⟩ | exact rfl | decide +kernel, ?_⟩)
    conv => whnf
    rw [hk, ht]
    refine loop_weak (σ := Nat) (fun i => [(0, XV.s .none), (1, XV.s .none), (4, XV.s .none), (5, XV.s (.int .i64 (k : Nat))), (6, XV.s (.int .i64 (to : Nat))), (7, XV.s (.a (.c (.own 0 flC (flsC k to i))))), (8, XV.s (.int .i64 (i : Nat))), (9, XV.s .none), (11, XV.s .none), (12, XV.s .none), (23, XV.s .none), (30, XV.s .none)])
      (fun i => [.tok 40 flC i true]) (fun i => i ≤ k) (fun i => k - i) 0 ?_ ?_ ?_
    · refine Weak.own 40 ?_
      repeat (first | exact OwnL.nil | refine OwnL.drop ?_ | refine OwnL.same ?_ | refine OwnL.own ?_)
    · exact Nat.zero_le _
    intro i hi
    have hfl := flsC_len k to i
    repeat ((conv => whnf); refine ⟨by first | (unfold inI64; omega) | omega | exact ⟨by omega, by omega⟩ | exact rfl | decide +kernel, ?_⟩)
    conv => whnf
    refine cond_intro (fun h => ?_) (fun h => ?_)
    · have h1 : i < k := by
        have : (i : Int) < (k : Nat) := of_decide_eq_true h
        omega
      have c1 : ∀ j : Int, (((⟨#[47, 32, 123, 32, 112, 59, 32, 125, 59, 10, 47, 105, 110, 99, 108, 117, 100, 101, 47, 32, 34]⟩ : ByteArray).size + (bytesOf [IntKind.u8.wrap (97 + j)]).size : Nat) : Int) ≤ 9223372036854775807 := fun j => by
        show ((21 + 1 : Nat) : Int) ≤ 9223372036854775807
        decide
      have c2 : ∀ j : Int, (((⟨#[47, 32, 123, 32, 112, 59, 32, 125, 59, 10, 47, 105, 110, 99, 108, 117, 100, 101, 47, 32, 34]⟩ ++ bytesOf [IntKind.u8.wrap (97 + j)] : ByteArray).size + (⟨#[34, 59]⟩ : ByteArray).size : Nat) : Int) ≤ 9223372036854775807 := fun j => by
        rw [ByteArray.size_append]
        show ((21 + 1 + 2 : Nat) : Int) ≤ 9223372036854775807
        decide
      have c3 : i + 1 ≤ 1000000000000 := by omega
      repeat ((conv => whnf); refine ⟨by first | (unfold inI64; omega) | omega | exact ⟨by omega, by omega⟩ | exact rfl | decide +kernel, ?_⟩)
      conv => whnf
      refine cond_intro (fun h2 => ?_) (fun h2 => ?_)
      · have h3 : i + 1 = k := by
          have : (i : Int) + 1 = (k : Nat) := of_decide_eq_true h2
          omega
        have e : flsC k to (i + 1) = flsC k to i ++ [(nmC (i : Nat), txC (to : Nat))] := by
          rw [flsC]
          unfold nxC
          rw [if_pos h3]
        have d1 := c1 (to : Nat)
        have d2 := c2 (to : Nat)
        repeat ((conv => whnf); refine ⟨by first | (unfold inI64; omega) | omega | exact ⟨by omega, by omega⟩ | exact rfl | decide +kernel, ?_⟩)
        conv => whnf
        refine ⟨c3, ?_⟩
        repeat ((conv => whnf); refine ⟨by first | (unfold inI64; omega) | omega | exact ⟨by omega, by omega⟩ | exact rfl | decide +kernel, ?_⟩)
        conv => whnf
        refine head_keep (i + 1) [0] rfl (fun k hk => absurd hk (Nat.not_lt_zero k)) ?_ ?_ ?_ ?_
        · rfl
        · dsimp only
          rw [e]
          repeat (first | exact KeepL.nil | refine KeepL.drop ?_ | refine KeepL.ren rfl ?_)
        · exact h1
        · omega
      · have h3 : ¬ i + 1 = k := by
          have : ¬ (i : Int) + 1 = (k : Nat) := of_decide_eq_false h2
          omega
        have e : flsC k to (i + 1) = flsC k to i ++ [(nmC (i : Nat), txC ((i + 1 : Nat) : Int))] := by
          rw [flsC]
          unfold nxC
          rw [if_neg h3]
        have d1 := c1 ((i : Int) + 1)
        have d2 := c2 ((i : Int) + 1)
        repeat ((conv => whnf); refine ⟨by first | (unfold inI64; omega) | omega | exact ⟨by omega, by omega⟩ | exact rfl | decide +kernel, ?_⟩)
        conv => whnf
        refine ⟨c3, ?_⟩
        repeat ((conv => whnf); refine ⟨by first | (unfold inI64; omega) | omega | exact ⟨by omega, by omega⟩ | exact rfl | decide +kernel, ?_⟩)
        conv => whnf
        refine head_keep (i + 1) [0] rfl (fun k hk => absurd hk (Nat.not_lt_zero k)) ?_ ?_ ?_ ?_
        · rfl
        · dsimp only
          rw [e]
          repeat (first | exact KeepL.nil | refine KeepL.drop ?_ | refine KeepL.ren rfl ?_)
        · exact h1
        · omega
    · have h1 : i = k := by
        have : ¬ (i : Int) < (k : Nat) := of_decide_eq_false h
        omega
      subst h1
      have hl9 : (flsC i to i).length ≤ 1000000000 := by omega
      repeat ((conv => whnf); refine ⟨by first | exact ⟨rfl, hl9, f1⟩ | (intro _; refine ⟨?_, ?_⟩ <;> decide +kernel) | (unfold inI64; omega) | omega | exact ⟨by omega, by omega⟩ | exact rfl | decide +kernel, ?_⟩)
      conv => whnf
      refine ends_eq ⟨congrArg SV.bool ?_, rfl⟩
      show (decide ((loV 9 (flsC i to i) ⟨#[97]⟩).err = 10) && (decide ((loV 9 (flsC i to i) ⟨#[97]⟩).pos.1 = (i : Int) - 1) && (decide ((loV 9 (flsC i to i) ⟨#[97]⟩).pos.2.1 = 2) && decide ((loV 9 (flsC i to i) ⟨#[97]⟩).pos.2.2 = 1))) && true) = true
      rw [f2, f3]
      simp
  · cases hs
end Go.Ab
