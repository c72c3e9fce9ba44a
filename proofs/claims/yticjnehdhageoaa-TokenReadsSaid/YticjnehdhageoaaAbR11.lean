/- Numbers as text: the law's own helper. -/
import Derived.Test.YticjnehdhageoaaAbR10
import Derived.Test.YticjnehdhageoaaAbS2
namespace Go.Ab
open Go.Proofs
set_option linter.unusedSectionVars false
set_option maxRecDepth 100000
variable [Glob]

def digL (c : Bool) : List UInt8 := match c with
  | true => [48, 49, 50, 51, 52, 53, 54, 55, 56, 57, 65, 66, 67, 68, 69, 70]
  | false => [48, 49, 50, 51, 52, 53, 54, 55, 56, 57, 97, 98, 99, 100, 101, 102]

def basedL (D : List UInt8) (b : Nat) : Nat → Nat → List UInt8 → List UInt8
  | 0, _, out => out
  | k + 1, n, out => if n = 0 then out else basedL D b k (n / b) (D.getD (n % b) 0 :: out)

def basedV (c : Bool) (b n : Nat) : List UInt8 := basedL (digL c) b 64 (n / b) [(digL c).getD (n % b) 0]

def saysBased : Says := fun args H => match args, H with
  | [.c (.p (.v (.int .i64 n))), .c (.p (.v (.int .i64 b))), .c (.p (.v (.bool c)))], [] => some (some (0 ≤ n ∧ n ≤ 4611686018427387904 ∧ 2 ≤ b ∧ b ≤ 16), .str (B (basedV c b.toNat n.toNat)), [])
  | _, _ => none

def T52 : Table := ext T51 25 saysBased

theorem piece1 (D : List UInt8) (i : Nat) (h : i < D.length) : (B D).extract i (i + 1) = B [D.getD i 0] := by
  rw [B_extract]
  congr 2
  rw [List.drop_take, Nat.add_sub_cancel_left, List.getD_eq_getElem?_getD, List.getElem?_eq_getElem h, Option.getD_some]
  rw [List.drop_eq_getElem_cons h, List.take_succ_cons, List.take_zero]

theorem lt_pow_div {m b k : Nat} (hb : 2 ≤ b) (h : m < 2 ^ (k + 1)) : m / b < 2 ^ k := by
  have h1 : m / b ≤ m / 2 := Nat.div_le_div_left hb (by decide)
  have h2 : m / 2 < 2 ^ k := by rw [Nat.div_lt_iff_lt_mul (by decide), ← Nat.pow_succ]; exact h
  omega

theorem based_run (D : List UInt8) (hD : D.length = 16) (n b : Nat) (hb : 2 ≤ b) (hb2 : b ≤ 16) :
    (B D).extract ((n : Int).tmod b).toNat ((n : Int).tmod b + 1).toNat = B [D.getD (n % b) 0] := by
  have h1 : (n : Int).tmod (b : Int) = ((n % b : Nat) : Int) := (Int.ofNat_tmod n b).symm
  have h2 := Nat.mod_lt n (show 0 < b by omega)
  rw [h1, show ((n % b : Nat) : Int).toNat = n % b by omega, show (((n % b : Nat) : Int) + 1).toNat = n % b + 1 by omega]
  exact piece1 D _ (by omega)

theorem quo_nat (n b : Nat) (hn : n ≤ 4611686018427387904) : IntKind.i64.wrap ((n : Int).tdiv b) = ((n / b : Nat) : Int) := by
  have h1 : (n : Int).tdiv (b : Int) = ((n / b : Nat) : Int) := (Int.ofNat_tdiv n b).symm
  have h2 : n / b ≤ n := Nat.div_le_self n b
  rw [h1]
  revert h2
  generalize n / b = q
  intro h2
  exact wrap_i64 (by unfold inI64; omega)

theorem t52 : TSound Try.prog T52 := by
  refine ext_run t51 (f := 25) (fn := Try.f25) rfl rfl [0, 1, 2, 6, 7, 8, 9, 23] fun args H p r H' hs hp => ?_
  unfold saysBased at hs
  split at hs
  · rename_i n0 b0 c
    cases hs
    refine ⟨by show 3 ≤ _; decide, [], rfl, fun k hk => absurd hk (Nat.not_lt_zero k), ?_⟩
    obtain ⟨h0, h1, h2, h3⟩ : 0 ≤ n0 ∧ n0 ≤ 4611686018427387904 ∧ 2 ≤ b0 ∧ b0 ≤ 16 := hp
    obtain ⟨n, rfl⟩ : ∃ n : Nat, n0 = n := ⟨n0.toNat, by omega⟩
    obtain ⟨b, rfl⟩ : ∃ b : Nat, b0 = b := ⟨b0.toNat, by omega⟩
    have hm : ∀ m : Nat, (m : Int).tmod (b : Int) = ((m % b : Nat) : Int) := fun m => (Int.ofNat_tmod m b).symm
    have hlt : ∀ m : Nat, m % b < b := fun m => Nat.mod_lt m (show 0 < b by omega)
    have hnn : n ≤ 4611686018427387904 := by omega
    have hbn : 2 ≤ b := by omega
    have hbn2 : b ≤ 16 := by omega
    cases c
    · conv => whnf
      refine ⟨by omega, ?_⟩
      conv => whnf
      refine ⟨by omega, ?_⟩
      conv => whnf
      refine ⟨by unfold inI64; rw [hm]; have := hlt n; omega, ?_⟩
      conv => whnf
      refine ⟨⟨by rw [hm]; omega, by omega, by rw [hm]; have := hlt n; show ((n % b : Nat) : Int) + 1 ≤ 16; omega⟩, ?_⟩
      conv => whnf
      refine ⟨by decide +kernel, ?_⟩
      conv => whnf
      refine ⟨by omega, ?_⟩
      conv => whnf
      refine loop_intro (σ := Nat × Nat × List UInt8) (fun ⟨_, m, out⟩ => [(0, XV.s (.int .i64 m)), (1, XV.s (.int .i64 b)), (2, XV.s (.bool false)), (6, XV.s (SV.str ⟨#[]⟩)), (7, XV.s (SV.str (B (digL false)))), (8, XV.s (SV.str (B out))), (9, XV.s .none), (23, XV.s .none)]) (fun _ => [])
        (fun ⟨k, m, out⟩ => k ≤ 64 ∧ m < 2 ^ k ∧ m ≤ 4611686018427387904 ∧ out.length + k ≤ 65 ∧ basedL (digL false) b k m out = basedV false b n) (fun ⟨_, m, _⟩ => m) (64, n / b, [(digL false).getD (n % b) 0]) ?_ rfl ?_ fun ⟨k, m, out⟩ hI => ?_
      · refine LeL.eq (congrArg (fun x => XV.s (SV.int .i64 x)) (quo_nat n b hnn).symm) (LeL.same (LeL.same (LeL.same (LeL.same (LeL.eq (congrArg (fun x => XV.s (SV.str x)) (based_run (digL false) rfl n b hbn hbn2).symm) (LeL.drop (LeL.drop LeL.nil)))))))
      · exact ⟨Nat.le_refl _, Nat.lt_of_le_of_lt (Nat.le_trans (Nat.div_le_self n b) hnn) (by decide), Nat.le_trans (Nat.div_le_self n b) hnn, by simp, rfl⟩
      obtain ⟨hk, hpow, hmax, hlen, hgo⟩ := hI
      conv => whnf
      refine cond_intro (fun h => ?_) (fun h => ?_)
      · have hpos : 0 < m := by have : (0 : Int) < m := of_decide_eq_true h
                                omega
        obtain ⟨k', rfl⟩ : ∃ k', k = k' + 1 := ⟨k - 1, by cases k with | zero => simp at hpow; omega | succ k => rfl⟩
        simp only [basedL] at hgo
        rw [if_neg (by omega)] at hgo
        conv => whnf
        refine ⟨by omega, ?_⟩
        conv => whnf
        refine ⟨by omega, ?_⟩
        conv => whnf
        refine ⟨by unfold inI64; rw [hm]; have := hlt m; omega, ?_⟩
        conv => whnf
        refine ⟨⟨by rw [hm]; omega, by omega, by rw [hm]; have := hlt m; show ((m % b : Nat) : Int) + 1 ≤ 16; omega⟩, ?_⟩
        conv => whnf
        have hp := based_run (digL false) rfl m b hbn hbn2
        refine ⟨?_, ?_⟩
        · have : ((B (digL false)).extract ((m : Int).tmod b).toNat ((m : Int).tmod b + 1).toNat).size = 1 := by rw [hp]; rfl
          show (((((B (digL false)).extract ((m : Int).tmod b).toNat ((m : Int).tmod b + 1).toNat).size + out.length : Nat)) : Int) ≤ 9223372036854775807
          rw [this]
          omega
        conv => whnf
        refine ⟨by decide +kernel, ?_⟩
        conv => whnf
        refine ⟨by omega, ?_⟩
        conv => whnf
        refine head_intro (k', m / b, (digL false).getD (m % b) 0 :: out) ?_ rfl ?_ ?_
        · refine LeL.eq (congrArg (fun x => XV.s (SV.int .i64 x)) (quo_nat m b hmax).symm) (LeL.same (LeL.same (LeL.same (LeL.same (LeL.eq (congrArg (fun x => XV.s (SV.str x)) ?_) (LeL.drop (LeL.drop LeL.nil)))))))
          show B ([(digL false).getD (m % b) 0] ++ out) = (B (digL false)).extract ((m : Int).tmod b).toNat ((m : Int).tmod b + 1).toNat ++ B out
          rw [hp, B_append]
        · exact ⟨by omega, lt_pow_div hbn hpow, Nat.le_trans (Nat.div_le_self m b) hmax, by simp only [List.length_cons]; omega, hgo⟩
        · exact Nat.div_lt_self hpos hbn
      · have hz : m = 0 := by have : ¬ (0 : Int) < m := of_decide_eq_false h
                              omega
        conv => whnf
        refine ends_eq ⟨?_, rfl⟩
        have : basedV false b n = out := by
          rw [← hgo]
          cases k with
          | zero => rfl
          | succ k => simp only [basedL]; rw [if_pos hz]
        show SV.str (B out) = SV.str (B (basedV false b n))
        rw [this]
    · conv => whnf
      refine ⟨by omega, ?_⟩
      conv => whnf
      refine ⟨by omega, ?_⟩
      conv => whnf
      refine ⟨by unfold inI64; rw [hm]; have := hlt n; omega, ?_⟩
      conv => whnf
      refine ⟨⟨by rw [hm]; omega, by omega, by rw [hm]; have := hlt n; show ((n % b : Nat) : Int) + 1 ≤ 16; omega⟩, ?_⟩
      conv => whnf
      refine ⟨by decide +kernel, ?_⟩
      conv => whnf
      refine ⟨by omega, ?_⟩
      conv => whnf
      refine loop_intro (σ := Nat × Nat × List UInt8) (fun ⟨_, m, out⟩ => [(0, XV.s (.int .i64 m)), (1, XV.s (.int .i64 b)), (2, XV.s (.bool true)), (6, XV.s (SV.str ⟨#[]⟩)), (7, XV.s (SV.str (B (digL true)))), (8, XV.s (SV.str (B out))), (9, XV.s .none), (23, XV.s .none)]) (fun _ => [])
        (fun ⟨k, m, out⟩ => k ≤ 64 ∧ m < 2 ^ k ∧ m ≤ 4611686018427387904 ∧ out.length + k ≤ 65 ∧ basedL (digL true) b k m out = basedV true b n) (fun ⟨_, m, _⟩ => m) (64, n / b, [(digL true).getD (n % b) 0]) ?_ rfl ?_ fun ⟨k, m, out⟩ hI => ?_
      · refine LeL.eq (congrArg (fun x => XV.s (SV.int .i64 x)) (quo_nat n b hnn).symm) (LeL.same (LeL.same (LeL.same (LeL.same (LeL.eq (congrArg (fun x => XV.s (SV.str x)) (based_run (digL true) rfl n b hbn hbn2).symm) (LeL.drop (LeL.drop LeL.nil)))))))
      · exact ⟨Nat.le_refl _, Nat.lt_of_le_of_lt (Nat.le_trans (Nat.div_le_self n b) hnn) (by decide), Nat.le_trans (Nat.div_le_self n b) hnn, by simp, rfl⟩
      obtain ⟨hk, hpow, hmax, hlen, hgo⟩ := hI
      conv => whnf
      refine cond_intro (fun h => ?_) (fun h => ?_)
      · have hpos : 0 < m := by have : (0 : Int) < m := of_decide_eq_true h
                                omega
        obtain ⟨k', rfl⟩ : ∃ k', k = k' + 1 := ⟨k - 1, by cases k with | zero => simp at hpow; omega | succ k => rfl⟩
        simp only [basedL] at hgo
        rw [if_neg (by omega)] at hgo
        conv => whnf
        refine ⟨by omega, ?_⟩
        conv => whnf
        refine ⟨by omega, ?_⟩
        conv => whnf
        refine ⟨by unfold inI64; rw [hm]; have := hlt m; omega, ?_⟩
        conv => whnf
        refine ⟨⟨by rw [hm]; omega, by omega, by rw [hm]; have := hlt m; show ((m % b : Nat) : Int) + 1 ≤ 16; omega⟩, ?_⟩
        conv => whnf
        have hp := based_run (digL true) rfl m b hbn hbn2
        refine ⟨?_, ?_⟩
        · have : ((B (digL true)).extract ((m : Int).tmod b).toNat ((m : Int).tmod b + 1).toNat).size = 1 := by rw [hp]; rfl
          show (((((B (digL true)).extract ((m : Int).tmod b).toNat ((m : Int).tmod b + 1).toNat).size + out.length : Nat)) : Int) ≤ 9223372036854775807
          rw [this]
          omega
        conv => whnf
        refine ⟨by decide +kernel, ?_⟩
        conv => whnf
        refine ⟨by omega, ?_⟩
        conv => whnf
        refine head_intro (k', m / b, (digL true).getD (m % b) 0 :: out) ?_ rfl ?_ ?_
        · refine LeL.eq (congrArg (fun x => XV.s (SV.int .i64 x)) (quo_nat m b hmax).symm) (LeL.same (LeL.same (LeL.same (LeL.same (LeL.eq (congrArg (fun x => XV.s (SV.str x)) ?_) (LeL.drop (LeL.drop LeL.nil)))))))
          show B ([(digL true).getD (m % b) 0] ++ out) = (B (digL true)).extract ((m : Int).tmod b).toNat ((m : Int).tmod b + 1).toNat ++ B out
          rw [hp, B_append]
        · exact ⟨by omega, lt_pow_div hbn hpow, Nat.le_trans (Nat.div_le_self m b) hmax, by simp only [List.length_cons]; omega, hgo⟩
        · exact Nat.div_lt_self hpos hbn
      · have hz : m = 0 := by have : ¬ (0 : Int) < m := of_decide_eq_false h
                              omega
        conv => whnf
        refine ends_eq ⟨?_, rfl⟩
        have : basedV true b n = out := by
          rw [← hgo]
          cases k with
          | zero => rfl
          | succ k => simp only [basedL]; rw [if_pos hz]
        show SV.str (B out) = SV.str (B (basedV true b n))
        rw [this]
  · cases hs
end Go.Ab
