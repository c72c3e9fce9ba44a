/- ExpressionTexts: the law. -/
import Derived.Test.YtedoneigmfdopaaGreatDoorTV25
namespace Go.Ab
open Go.Proofs
set_option linter.unusedSectionVars false
set_option maxRecDepth 100000
variable [GlobX]

theorem fmtL_ne (n : Nat) : fmtL n ≠ [] := by
  unfold fmtL
  split
  · exact basedV_ne _ _ _
  · simp

/-- A number as Format writes it. -/
theorem opFmt (D : Nat) {n : Nat} (h : n < 4294967296) : OpR D 67 (fmtL n) [tkNum n] n where
  len := fmtL_len n
  tok := List.length_pos_iff.2 (fmtL_ne n)
  rng := by unfold In32; omega
  lx r us hr hl := Lx.fmt (by omega) hr hl
  op us := oN D h us

theorem fmt_cmp {n : Int} (h : In32 n) : cmpV (fmtV n) = (n, 0) := by
  obtain ⟨m, rfl⟩ : ∃ k : Nat, n = k := ⟨n.toNat, by unfold In32 at h; omega⟩
  unfold In32 at h
  rw [fmtV_L h.1 h.2, Int.toNat_natCast]
  exact ((opFmt 0 (by omega)).ex (by decide)).cmp (by decide) (by decide)

theorem par_cmp (zs : List Int) (d : Nat) (n : Int) (hd : d ≤ 4) : cmpV (inB (exprT zs d n).1) = ((exprT zs d n).2.1, 0) := by
  obtain ⟨l, ts, h1, h2⟩ := exprT_ok zs d n (by omega)
  rw [h1]
  have e : inB (B l) = B (40 :: (l ++ [41])) := by
    show B [40] ++ B l ++ B [41] = _
    simp only [B_append, List.append_assoc]
    rfl
  rw [e]
  refine (h2.par.toOpR.ex (by omega)).cmp (by omega) ?_
  rcases (by omega : d = 0 ∨ d = 1 ∨ d = 2 ∨ d = 3 ∨ d = 4) with rfl | rfl | rfl | rfl | rfl <;> decide

def nest : Nat → ByteArray
  | 0 => ⟨#[49]⟩
  | k + 1 => ⟨#[40]⟩ ++ nest k ++ ⟨#[41]⟩

theorem nest_size (k : Nat) : (nest k).size = 2 * k + 1 := by
  induction k with
  | zero => rfl
  | succ k ih => simp only [nest, ByteArray.size_append, ih, bsz2, List.size_toArray, List.length_cons, List.length_nil]; omega

theorem nest_cmp : ∀ k : Fin 12, (cmpV (nest k.val)).2 = if k.val ≤ 8 then 0 else 3 := by decide +kernel

def saysTexts : Says := fun args H => match args, H with
  | [.c (.p (.l (.int .i64) _)), .c (.p (.v (.int .u32 n))), .c (.p (.v (.int .u8 d)))], [] => some (some ((0 ≤ n ∧ n ≤ 4294967295) ∧ (0 ≤ d ∧ d ≤ 255)), .bool true, [])
  | _, _ => none

def X71 : Table := ext X66 6 saysTexts

set_option maxHeartbeats 4000000 in
theorem x71 : TSound Tryz.prog X71 := by
  refine ext_run x66 (f := 6) (fn := Tryz.f6) rfl rfl [0, 1, 2, 6, 7, 8, 9, 10, 11, 12, 13, 14, 15, 16, 18, 45] fun args H p r H' hs hp => ?_
  unfold saysTexts at hs
  split at hs
  · rename_i zs n d
    cases hs
    obtain ⟨hn, hd⟩ := hp
    refine ⟨Nat.le_of_ble_eq_true rfl, [], rfl, fun k hk => absurd hk (Nat.not_lt_zero k), ?_⟩
    have ht0 := tape_new zs
    generalize hz : (zs : List Int).take 500 = ys at ht0
    have hr := (exprT_size ys 2 0 (by decide)).2
    have hsz : (exprT ys (Int.toNat 2) 0).1.size ≤ 400 := (exprT_size ys 2 0 (by decide)).1
    have hi64 : inI64 (exprT ys 2 0).2.1 := by unfold inI64; unfold In32 at hr; omega
    have hc1 : cmpV (fmtV n) = (n, 0) := fmt_cmp hn
    have hc2 := par_cmp ys 2 0 (by decide)
    obtain ⟨K, hK⟩ : ∃ K : Nat, d.tmod 12 = K := ⟨(d.tmod 12).toNat, by have := Int.tmod_nonneg 12 hd.1; omega⟩
    have hK2 : K < 12 := by have := Int.tmod_lt_of_pos d (b := 12) (by decide); omega
    repeat ((conv => whnf); (try rw [hz]); refine ⟨by first | exact ⟨ht0, by decide, by decide, by decide⟩ | (unfold inI64; omega) | decide | (simp only [ByteArray.size_append, bsz2, List.size_toArray, List.length_cons, List.length_nil]; omega), ?_⟩)
    conv => whnf
    rw [hK]
    refine loop_intro (σ := Nat) (fun i => [(0, XV.s .none), (1, XV.s (.a (.c (.p (.v (.int .u32 n)))))), (2, XV.s .none), (6, XV.s (.bool false)), (7, XV.s .none), (8, XV.s (.a (.c (.int .i64 (cmpV (fmtV n)).1)))), (9, XV.s (.a (.c (.int .i64 (cmpV (fmtV n)).2)))), (10, XV.s .none), (11, XV.s (.a (.c (.int .u32 (exprT ys 2 0).2.1)))),
        (12, XV.s (.a (.c (.int .i64 (cmpV (inB (exprT ys 2 0).1)).1)))), (13, XV.s (.a (.c (.int .i64 (cmpV (inB (exprT ys 2 0).1)).2)))), (14, XV.s (.a (.c (.p (.v (.string (nest i))))))), (15, XV.s (.int .i64 K)), (16, XV.s (.int .i64 i)), (18, XV.s .none), (45, XV.s .none)])
      (fun _ => [tapeO ys (exprT ys 2 0).2.2]) (fun i => i ≤ K) (fun i => K - i) 0 ?_ ?_ ?_ ?_
    · repeat (first | exact LeL.nil | refine LeL.drop ?_ | refine LeL.same ?_)
    · rfl
    · exact Nat.zero_le _
    · intro i hi
      have hns := nest_size i
      conv => whnf
      refine cond_intro (fun h => ?_) (fun h => ?_)
      · have h1 : i < K := by have := of_decide_eq_true h; omega
        repeat ((conv => whnf); refine ⟨by first | (simp only [ByteArray.size_append, bsz2, List.size_toArray, List.length_cons, List.length_nil]; omega) | (unfold inI64; omega) | omega | exact ⟨by omega, by omega⟩ | (intro hg; first | (unfold inI64; omega) | omega | exact ⟨by omega, by omega⟩ | (simp [lit] at hg; unfold inI64; omega) | (simp [lit] at hg; omega) | (simp [lit] at hg; exact ⟨by omega, by omega⟩)) | (show (_ : Nat) + 1 ≤ 1000000000000; omega) | exact rfl | (unfold inI64; dsimp only; omega) | (dsimp only; omega) | (intro hg; simp [lit] at hg; first | (unfold inI64; dsimp only; omega) | (dsimp only; omega)) | decide +kernel, ?_⟩)
        conv => whnf
        refine head_intro (i + 1) ?_ ?_ ?_ ?_
        · repeat (first | exact LeL.nil | refine LeL.drop ?_ | refine LeL.same ?_)
        · rfl
        · exact h1
        · show K - (i + 1) < K - i
          omega
      · have h1 : i = K := by have := of_decide_eq_false h; omega
        subst h1
        have hnc : (cmpV (nest i)).2 = if i ≤ 8 then 0 else 3 := nest_cmp ⟨i, hK2⟩
        repeat ((conv => whnf); refine ⟨by first | exact fun _ => hi64 | (unfold inI64; omega) | omega | exact ⟨by omega, by omega⟩ | (intro hg; first | (unfold inI64; omega) | omega | exact ⟨by omega, by omega⟩ | (simp [lit] at hg; unfold inI64; omega) | (simp [lit] at hg; omega) | (simp [lit] at hg; exact ⟨by omega, by omega⟩)) | (show (_ : Nat) + 1 ≤ 1000000000000; omega) | exact rfl | (unfold inI64; dsimp only; omega) | (dsimp only; omega) | (intro hg; simp [lit] at hg; first | (unfold inI64; dsimp only; omega) | (dsimp only; omega)) | decide +kernel, ?_⟩)
        conv => whnf
        refine ends_eq ⟨?_, rfl⟩
        rw [hc1, hc2, hnc]
        by_cases h8 : i ≤ 8
        · rw [if_pos h8, decide_eq_true (show (i : Int) ≤ 8 by omega)]
          simp
        · rw [if_neg h8, decide_eq_false (show ¬ (i : Int) ≤ 8 by omega)]
          simp
  · cases hs
end Go.Ab
