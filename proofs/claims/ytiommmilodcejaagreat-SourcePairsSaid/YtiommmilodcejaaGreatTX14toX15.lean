/- SourceDepth: the texts. -/
import Derived.Test.YtiommmilodcejaaGreatTX12toX13
import Derived.KernelRfl
namespace Go.Ab
open Go.Proofs
set_option linter.unusedSectionVars false
set_option maxRecDepth 100000
variable [Glob]

/-! The example of the chapter. -/
def awT : ByteArray := ⟨#[47, 32, 123, 32, 97, 58, 32, 98, 32, 123, 32, 120, 32, 61, 32, 60, 49, 32, 38, 97, 62, 44, 32, 34, 116, 34, 59, 32, 121, 59, 32, 125, 59, 32, 125, 59]⟩
def awD : List defC.den := [(1, ⟨#[]⟩, ⟨#[47]⟩, [], 0, 1, 1), (1, ⟨#[97]⟩, ⟨#[98]⟩, [], 0, 1, 5), (3, ⟨#[]⟩, ⟨#[120]⟩, [(1, [(1, ⟨#[]⟩), (0, ⟨#[97]⟩)], ⟨#[]⟩), (2, [], ⟨#[116]⟩)], 0, 1, 12), (3, ⟨#[]⟩, ⟨#[121]⟩, [], 0, 1, 29), (2, ⟨#[]⟩, ⟨#[]⟩, [], 0, 1, 32), (2, ⟨#[]⟩, ⟨#[]⟩, [], 0, 1, 35)]
theorem aw_ok : (readV awT 0).toks.all okT = true := by decide +kernel
theorem aw_src : srcV awT 0 = ⟨awD, 0, 0, 0, 0⟩ := by kernel_rfl

def Y64 : Table := ext Y62 7 (fun args H => match args, H with | [], [] => some (none, .bool true, []) | _, _ => none)

theorem y64 : TSound Tryz.prog Y64 := by
  refine ext_run y62 (f := 7) (fn := Tryz.f7) rfl rfl [0, 1, 3] fun args H p r H' hs hp => ?_
  split at hs
  · cases hs
    refine ⟨Nat.zero_le _, [], rfl, fun k hk => absurd hk (Nat.not_lt_zero k), ?_⟩
    refine runF_shut rfl fun K0 hK0 => ?_
    refine seq_shut fun K1 hK1 => ?_
    repeat ((conv => whnf); refine ⟨by first | (unfold inI64; omega) | omega | exact ⟨by omega, by omega⟩ | (intro hg; first | (unfold inI64; omega) | omega | exact ⟨by omega, by omega⟩ | (simp [lit] at hg; unfold inI64; omega) | (simp [lit] at hg; omega) | (simp [lit] at hg; exact ⟨by omega, by omega⟩)) | (show (_ : Nat) + 1 ≤ 1000000000000; omega) | exact rfl | (unfold inI64; dsimp only; omega) | (dsimp only; omega) | (intro hg; simp [lit] at hg; first | (unfold inI64; dsimp only; omega) | (dsimp only; omega)) | decide +kernel, ?_⟩)
    conv => whnf
    rw [hK1]
    show runC _ _ _ (.seq _ _) _ _ _
    refine seq_shut fun K2 hK2 => ?_
    repeat ((conv => whnf); refine ⟨by first | exact aw_ok | (unfold inI64; omega) | omega | exact ⟨by omega, by omega⟩ | (intro hg; first | (unfold inI64; omega) | omega | exact ⟨by omega, by omega⟩ | (simp [lit] at hg; unfold inI64; omega) | (simp [lit] at hg; omega) | (simp [lit] at hg; exact ⟨by omega, by omega⟩)) | (show (_ : Nat) + 1 ≤ 1000000000000; omega) | exact rfl | (unfold inI64; dsimp only; omega) | (dsimp only; omega) | (intro hg; simp [lit] at hg; first | (unfold inI64; dsimp only; omega) | (dsimp only; omega)) | decide +kernel, ?_⟩)
    conv => whnf
    rw [hK2]
    show runC _ _ _ (.seq _ _) [(0, .s (.a (.c (.bool false)))), (1, .s (.a (.c (.p (.l defC (srcV awT 0).defs))))), (3, .s (.a (.c (.int .i64 (srcV awT 0).err))))] _ _
    rw [aw_src]
    repeat ((conv => whnf); refine ⟨by first | (unfold inI64; omega) | omega | exact ⟨by omega, by omega⟩ | (intro hg; first | (unfold inI64; omega) | omega | exact ⟨by omega, by omega⟩ | (simp [lit] at hg; unfold inI64; omega) | (simp [lit] at hg; omega) | (simp [lit] at hg; exact ⟨by omega, by omega⟩)) | (show (_ : Nat) + 1 ≤ 1000000000000; omega) | exact rfl | (unfold inI64; dsimp only; omega) | (dsimp only; omega) | (intro hg; simp [lit] at hg; first | (unfold inI64; dsimp only; omega) | (dsimp only; omega)) | decide +kernel, ?_⟩)
    conv => whnf
    rw [hK0]
    conv => whnf
    refine ends_eq ⟨?_, rfl⟩
    kernel_rfl
  · cases hs

/-! The texts of the law. -/
def dpT : Nat → ByteArray
  | 0 => ⟨#[47, 32, 123]⟩
  | k + 1 => dpT k ++ ⟨#[97, 123]⟩
def clT (t : ByteArray) : Nat → ByteArray
  | 0 => t
  | k + 1 => clT t k ++ ⟨#[125, 59]⟩
def depT (k : Nat) : ByteArray := clT (dpT k) k ++ ⟨#[125, 59]⟩

theorem sz1 (a : Array UInt8) : (⟨a⟩ : ByteArray).size = a.size := rfl
theorem dpT_size (k : Nat) : (dpT k).size = 3 + 2 * k := by
  induction k with
  | zero => rfl
  | succ k ih => simp only [dpT, ByteArray.size_append, ih, sz1, List.size_toArray, List.length_cons, List.length_nil]; omega
theorem clT_size (t : ByteArray) (k : Nat) : (clT t k).size = t.size + 2 * k := by
  induction k with
  | zero => rfl
  | succ k ih => simp only [clT, ByteArray.size_append, ih, sz1, List.size_toArray, List.length_cons, List.length_nil]; omega

def depOk (k : Nat) : Bool := (readV (depT k) 4).toks.all okT && decide ((srcV (depT k) 4).err = if k ≤ 8 then 0 else 3) && decide ((srcV (depT k) 4).file = if k ≤ 8 then 0 else 4) && decide ((srcV (depT k) 4).line = if k ≤ 8 then 0 else 1) && decide ((srcV (depT k) 4).column = if k ≤ 8 then 0 else 21)
theorem dep_all : ∀ k : Fin 14, depOk k.val = true := by decide +kernel

theorem dep_fact {k : Nat} (h : k < 14) : (readV (depT k) 4).toks.all okT = true ∧ (srcV (depT k) 4).err = (if k ≤ 8 then 0 else 3) ∧ (srcV (depT k) 4).file = (if k ≤ 8 then 0 else 4) ∧ (srcV (depT k) 4).line = (if k ≤ 8 then 0 else 1) ∧ (srcV (depT k) 4).column = (if k ≤ 8 then 0 else 21) := by
  have h1 : depOk k = true := dep_all ⟨k, h⟩
  unfold depOk at h1
  obtain ⟨h2, e5⟩ := Bool.and_eq_true_iff.1 h1
  obtain ⟨h3, e4⟩ := Bool.and_eq_true_iff.1 h2
  obtain ⟨h4, e3⟩ := Bool.and_eq_true_iff.1 h3
  obtain ⟨e1, e2⟩ := Bool.and_eq_true_iff.1 h4
  exact ⟨e1, of_decide_eq_true e2, of_decide_eq_true e3, of_decide_eq_true e4, of_decide_eq_true e5⟩
end Go.Ab

/- SourceDepth: the law. -/
namespace Go.Ab
open Go.Proofs
set_option linter.unusedSectionVars false
set_option maxRecDepth 100000
variable [Glob]

def saysDepth : Says := fun args H => match args, H with
  | [.c (.p (.v (.int .u8 d)))], [] => some (some (0 ≤ d ∧ d ≤ 255), .bool true, [])
  | _, _ => none

def Y65 : Table := ext Y64 5 saysDepth

set_option maxHeartbeats 1000000 in
theorem y65 : TSound Tryz.prog Y65 := by
  refine ext_run y64 (f := 5) (fn := Tryz.f5) rfl rfl [0, 2, 3, 4, 5, 6, 8, 9, 15, 22, 35] fun args H p r H' hs hp => ?_
  unfold saysDepth at hs
  split at hs
  · rename_i d
    cases hs
    have hd : 0 ≤ d ∧ d ≤ 255 := hp
    refine ⟨Nat.le_of_ble_eq_true rfl, [], rfl, fun k hk => absurd hk (Nat.not_lt_zero k), ?_⟩
    obtain ⟨K, hK⟩ : ∃ K : Nat, d.tmod 14 = K := ⟨(d.tmod 14).toNat, by have := Int.tmod_nonneg 14 hd.1; omega⟩
    have hK2 : K < 14 := by have := Int.tmod_lt_of_pos d (b := 14) (by decide); omega
    obtain ⟨f1, f2, f3, f4, f5⟩ := dep_fact hK2
    repeat ((conv => whnf); refine ⟨by first | decide | (unfold inI64; omega) | omega | exact ⟨by omega, by omega⟩ | (intro hg; first | (unfold inI64; omega) | omega | exact ⟨by omega, by omega⟩ | (simp [lit] at hg; unfold inI64; omega) | (simp [lit] at hg; omega) | (simp [lit] at hg; exact ⟨by omega, by omega⟩)) | (show (_ : Nat) + 1 ≤ 1000000000000; omega) | exact rfl | (unfold inI64; dsimp only; omega) | (dsimp only; omega) | (intro hg; simp [lit] at hg; first | (unfold inI64; dsimp only; omega) | (dsimp only; omega)) | decide +kernel, ?_⟩)
    conv => whnf
    rw [hK]
    refine loop_intro (σ := Nat) (fun i => [(0, XV.s .none), (2, XV.s (.bool false)), (3, XV.s (.int .i64 K)), (4, XV.s (.a (.c (.p (.v (.string (dpT i))))))), (5, XV.s (.int .i64 i)), (6, XV.s .none), (8, XV.s .none), (9, XV.s .none), (15, XV.s .none), (22, XV.s .none), (35, XV.s .none)])
      (fun _ => []) (fun i => i ≤ K) (fun i => K - i) 0 ?_ ?_ ?_ ?_
    · repeat (first | exact LeL.nil | refine LeL.drop ?_ | refine LeL.same ?_)
    · rfl
    · exact Nat.zero_le _
    intro i hi
    have hsz := dpT_size i
    conv => whnf
    refine cond_intro (fun h => ?_) (fun h => ?_)
    · have h1 : i < K := by have := of_decide_eq_true h; omega
      repeat ((conv => whnf); refine ⟨by first | (simp only [sz1, List.size_toArray, List.length_cons, List.length_nil]; omega) | (unfold inI64; omega) | omega | exact ⟨by omega, by omega⟩ | (intro hg; first | (unfold inI64; omega) | omega | exact ⟨by omega, by omega⟩ | (simp [lit] at hg; unfold inI64; omega) | (simp [lit] at hg; omega) | (simp [lit] at hg; exact ⟨by omega, by omega⟩)) | (show (_ : Nat) + 1 ≤ 1000000000000; omega) | exact rfl | (unfold inI64; dsimp only; omega) | (dsimp only; omega) | (intro hg; simp [lit] at hg; first | (unfold inI64; dsimp only; omega) | (dsimp only; omega)) | decide +kernel, ?_⟩)
      conv => whnf
      refine head_intro (i + 1) ?_ ?_ ?_ ?_
      · repeat (first | exact LeL.nil | refine LeL.drop ?_ | refine LeL.same ?_)
      · rfl
      · exact h1
      · show K - (i + 1) < K - i
        omega
    have h1 : i = K := by have := of_decide_eq_false h; omega
    subst h1
    repeat ((conv => whnf); refine ⟨by first | (unfold inI64; omega) | omega | exact ⟨by omega, by omega⟩ | (intro hg; first | (unfold inI64; omega) | omega | exact ⟨by omega, by omega⟩ | (simp [lit] at hg; unfold inI64; omega) | (simp [lit] at hg; omega) | (simp [lit] at hg; exact ⟨by omega, by omega⟩)) | (show (_ : Nat) + 1 ≤ 1000000000000; omega) | exact rfl | (unfold inI64; dsimp only; omega) | (dsimp only; omega) | (intro hg; simp [lit] at hg; first | (unfold inI64; dsimp only; omega) | (dsimp only; omega)) | decide +kernel, ?_⟩)
    conv => whnf
    refine loop_intro (σ := Nat) (fun j => [(0, XV.s .none), (2, XV.s (.bool false)), (3, XV.s (.int .i64 i)), (4, XV.s (.a (.c (.p (.v (.string (clT (dpT i) j))))))), (5, XV.s .none), (6, XV.s (.int .i64 j)), (8, XV.s .none), (9, XV.s .none), (15, XV.s .none), (22, XV.s .none), (35, XV.s .none)])
      (fun _ => []) (fun j => j ≤ i) (fun j => i - j) 0 ?_ ?_ ?_ ?_
    · repeat (first | exact LeL.nil | refine LeL.drop ?_ | refine LeL.same ?_)
    · rfl
    · exact Nat.zero_le _
    intro j hj
    have hsz2 := clT_size (dpT i) j
    conv => whnf
    refine cond_intro (fun h2 => ?_) (fun h2 => ?_)
    · have h1 : j < i := by have := of_decide_eq_true h2; omega
      repeat ((conv => whnf); refine ⟨by first | (simp only [sz1, List.size_toArray, List.length_cons, List.length_nil]; omega) | (unfold inI64; omega) | omega | exact ⟨by omega, by omega⟩ | (intro hg; first | (unfold inI64; omega) | omega | exact ⟨by omega, by omega⟩ | (simp [lit] at hg; unfold inI64; omega) | (simp [lit] at hg; omega) | (simp [lit] at hg; exact ⟨by omega, by omega⟩)) | (show (_ : Nat) + 1 ≤ 1000000000000; omega) | exact rfl | (unfold inI64; dsimp only; omega) | (dsimp only; omega) | (intro hg; simp [lit] at hg; first | (unfold inI64; dsimp only; omega) | (dsimp only; omega)) | decide +kernel, ?_⟩)
      conv => whnf
      refine head_intro (j + 1) ?_ ?_ ?_ ?_
      · repeat (first | exact LeL.nil | refine LeL.drop ?_ | refine LeL.same ?_)
      · rfl
      · exact h1
      · show i - (j + 1) < i - j
        omega
    have h1 : j = i := by have := of_decide_eq_false h2; omega
    subst h1
    repeat ((conv => whnf); refine ⟨by first | exact f1 | (simp only [sz1, List.size_toArray, List.length_cons, List.length_nil]; omega) | (unfold inI64; omega) | omega | exact ⟨by omega, by omega⟩ | (intro hg; first | (unfold inI64; omega) | omega | exact ⟨by omega, by omega⟩ | (simp [lit] at hg; unfold inI64; omega) | (simp [lit] at hg; omega) | (simp [lit] at hg; exact ⟨by omega, by omega⟩)) | (show (_ : Nat) + 1 ≤ 1000000000000; omega) | exact rfl | (unfold inI64; dsimp only; omega) | (dsimp only; omega) | (intro hg; simp [lit] at hg; first | (unfold inI64; dsimp only; omega) | (dsimp only; omega)) | decide +kernel, ?_⟩)
    conv => whnf
    change (srcV (clT (dpT j) j ++ ⟨#[125, 59]⟩) 4).err = _ at f2
    change (srcV (clT (dpT j) j ++ ⟨#[125, 59]⟩) 4).file = _ at f3
    change (srcV (clT (dpT j) j ++ ⟨#[125, 59]⟩) 4).line = _ at f4
    change (srcV (clT (dpT j) j ++ ⟨#[125, 59]⟩) 4).column = _ at f5
    refine cond_intro (fun h3 => ?_) (fun h3 => ?_)
    · have h4 : j ≤ 8 := by have := of_decide_eq_true h3; omega
      rw [if_pos h4] at f2 f3 f4 f5
      repeat ((conv => whnf); refine ⟨by first | exact fun _ => ⟨by decide +kernel, by decide +kernel⟩ | exact ⟨by decide +kernel, by decide +kernel⟩ | (unfold inI64; omega) | omega | exact ⟨by omega, by omega⟩ | (intro hg; first | (unfold inI64; omega) | omega | exact ⟨by omega, by omega⟩ | (simp [lit] at hg; unfold inI64; omega) | (simp [lit] at hg; omega) | (simp [lit] at hg; exact ⟨by omega, by omega⟩)) | (show (_ : Nat) + 1 ≤ 1000000000000; omega) | exact rfl | (unfold inI64; dsimp only; omega) | (dsimp only; omega) | (intro hg; simp [lit] at hg; first | (unfold inI64; dsimp only; omega) | (dsimp only; omega)) | decide +kernel, ?_⟩)
      conv => whnf
      refine ends_eq ⟨?_, rfl⟩
      rw [f2, f3, f4, f5]
      rfl
    · have h4 : ¬ j ≤ 8 := by have := of_decide_eq_false h3; omega
      rw [if_neg h4] at f2 f3 f4 f5
      repeat ((conv => whnf); refine ⟨by first | exact fun _ => ⟨by decide +kernel, by decide +kernel⟩ | exact ⟨by decide +kernel, by decide +kernel⟩ | (unfold inI64; omega) | omega | exact ⟨by omega, by omega⟩ | (intro hg; first | (unfold inI64; omega) | omega | exact ⟨by omega, by omega⟩ | (simp [lit] at hg; unfold inI64; omega) | (simp [lit] at hg; omega) | (simp [lit] at hg; exact ⟨by omega, by omega⟩)) | (show (_ : Nat) + 1 ≤ 1000000000000; omega) | exact rfl | (unfold inI64; dsimp only; omega) | (dsimp only; omega) | (intro hg; simp [lit] at hg; first | (unfold inI64; dsimp only; omega) | (dsimp only; omega)) | decide +kernel, ?_⟩)
      conv => whnf
      refine ends_eq ⟨?_, rfl⟩
      rw [f2, f3, f4, f5]
      rfl
  · cases hs
end Go.Ab
