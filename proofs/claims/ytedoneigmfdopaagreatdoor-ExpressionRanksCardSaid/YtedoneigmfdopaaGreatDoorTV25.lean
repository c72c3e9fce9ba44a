/- ExpressionValues: the law. -/
import Derived.Test.YtedoneigmfdopaaGreatDoorTV24
namespace Go.Ab
open Go.Proofs
set_option linter.unusedSectionVars false
set_option maxRecDepth 100000
variable [GlobX]

/-- Laws over a tape alone. -/
def saysTapeLaw : Says := fun args H => match args, H with
  | [.c (.p (.l (.int .i64) _))], [] => some (none, .bool true, [])
  | _, _ => none

theorem tape_new (zs : List Int) : tapeOk (zs.take 500) 0 := by
  have := List.length_take_le 500 zs
  exact ⟨by decide, by decide, by omega⟩

def X70 : Table := ext X66 4 saysTapeLaw

theorem conv_i64 {x : Int} (h : In32 x) : IntKind.i64.wrap x = x := wrap_i64 (by unfold inI64; unfold In32 at h; omega)

set_option maxHeartbeats 4000000 in
theorem x70 : TSound Tryz.prog X70 := by
  refine ext_run x66 (f := 4) (fn := Tryz.f4) rfl rfl [0, 2, 3, 4, 5, 6, 7, 8, 12, 32] fun args H p r H' hs hp => ?_
  unfold saysTapeLaw at hs
  split at hs
  · rename_i zs
    cases hs
    refine ⟨Nat.le_of_ble_eq_true rfl, [], rfl, fun k hk => absurd hk (Nat.not_lt_zero k), ?_⟩
    have ht0 := tape_new zs
    generalize hz : (zs : List Int).take 500 = ys at ht0
    repeat ((conv => whnf); refine ⟨by first | (unfold inI64; omega) | omega | exact ⟨by omega, by omega⟩ | (intro hg; first | (unfold inI64; omega) | omega | exact ⟨by omega, by omega⟩ | (simp [lit] at hg; unfold inI64; omega) | (simp [lit] at hg; omega) | (simp [lit] at hg; exact ⟨by omega, by omega⟩)) | (show (_ : Nat) + 1 ≤ 1000000000000; omega) | exact rfl | (unfold inI64; dsimp only; omega) | (dsimp only; omega) | (intro hg; simp [lit] at hg; first | (unfold inI64; dsimp only; omega) | (dsimp only; omega)) | decide +kernel, ?_⟩)
    conv => whnf
    rw [hz]
    refine loop_intro (σ := Int × Nat) (fun ⟨_, i⟩ => [(0, XV.s .none), (2, XV.s (.bool false)), (3, XV.s (.a (.c (.ptr 0 0)))), (4, XV.s (.int .i64 i)), (5, XV.s .none), (6, XV.s .none), (7, XV.s .none), (8, XV.s .none), (12, XV.s .none), (32, XV.s .none)])
      (fun ⟨n, _⟩ => [tapeO ys n]) (fun ⟨n, i⟩ => tapeOk ys n ∧ i ≤ 3) (fun ⟨_, i⟩ => 3 - i) (0, 0) ?_ ?_ ?_ ?_
    · repeat (first | exact LeL.nil | refine LeL.drop ?_ | refine LeL.same ?_)
    · rfl
    · exact ⟨ht0, by decide⟩
    · rintro ⟨n, i⟩ ⟨ht, hi⟩
      conv => whnf
      refine cond_intro (fun h => ?_) (fun h => ?_)
      · have h1 : i < 3 := by have := of_decide_eq_true h; omega
        have hc := exprT_cmp ys 4 n (by decide)
        have hr := (exprT_size ys 4 n (by decide)).2
        have ht2 := exprT_tape (zs := ys) 4 ht
        have hi64 : inI64 (exprT ys 4 n).2.1 := by unfold inI64; unfold In32 at hr; omega
        repeat ((conv => whnf); refine ⟨by first | exact ⟨ht, by decide, by decide, by decide⟩ | exact fun _ => hi64 | (unfold inI64; omega) | omega | exact ⟨by omega, by omega⟩ | (intro hg; first | (unfold inI64; omega) | omega | exact ⟨by omega, by omega⟩ | (simp [lit] at hg; unfold inI64; omega) | (simp [lit] at hg; omega) | (simp [lit] at hg; exact ⟨by omega, by omega⟩)) | (show (_ : Nat) + 1 ≤ 1000000000000; omega) | exact rfl | (unfold inI64; dsimp only; omega) | (dsimp only; omega) | (intro hg; simp [lit] at hg; first | (unfold inI64; dsimp only; omega) | (dsimp only; omega)) | decide +kernel, ?_⟩)
        conv => whnf
        refine cond_intro (fun h2 => ?_) (fun h2 => ?_)
        · exfalso
          have h3 : (!decide ((cmpV (exprT ys 4 n).1).2 = 0) || !decide ((cmpV (exprT ys 4 n).1).1 = (exprT ys 4 n).2.1)) = true := h2
          rw [hc] at h3
          simp at h3
        · repeat ((conv => whnf); refine ⟨by first | (unfold inI64; omega) | omega | exact ⟨by omega, by omega⟩ | (intro hg; first | (unfold inI64; omega) | omega | exact ⟨by omega, by omega⟩ | (simp [lit] at hg; unfold inI64; omega) | (simp [lit] at hg; omega) | (simp [lit] at hg; exact ⟨by omega, by omega⟩)) | (show (_ : Nat) + 1 ≤ 1000000000000; omega) | exact rfl | (unfold inI64; dsimp only; omega) | (dsimp only; omega) | (intro hg; simp [lit] at hg; first | (unfold inI64; dsimp only; omega) | (dsimp only; omega)) | decide +kernel, ?_⟩)
          conv => whnf
          refine head_intro ((exprT ys 4 n).2.2, i + 1) ?_ ?_ ?_ ?_
          · repeat (first | exact LeL.nil | refine LeL.drop ?_ | refine LeL.same ?_)
          · rfl
          · exact ⟨ht2, h1⟩
          · show 3 - (i + 1) < 3 - i
            omega
      · repeat ((conv => whnf); refine ⟨by first | (unfold inI64; omega) | omega | exact ⟨by omega, by omega⟩ | (intro hg; first | (unfold inI64; omega) | omega | exact ⟨by omega, by omega⟩ | (simp [lit] at hg; unfold inI64; omega) | (simp [lit] at hg; omega) | (simp [lit] at hg; exact ⟨by omega, by omega⟩)) | (show (_ : Nat) + 1 ≤ 1000000000000; omega) | exact rfl | (unfold inI64; dsimp only; omega) | (dsimp only; omega) | (intro hg; simp [lit] at hg; first | (unfold inI64; dsimp only; omega) | (dsimp only; omega)) | decide +kernel, ?_⟩)
        conv => whnf
        exact ends_eq ⟨rfl, rfl⟩
  · cases hs
end Go.Ab
