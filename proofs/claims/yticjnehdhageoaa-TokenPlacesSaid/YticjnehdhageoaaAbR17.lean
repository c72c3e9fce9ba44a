/- The law of places. -/
import Derived.Test.YticjnehdhageoaaAbR16
import Derived.Test.YticjnehdhageoaaAbS6
namespace Go.Ab
open Go.Proofs
set_option linter.unusedSectionVars false
set_option maxRecDepth 100000
variable [Glob]

def T58 : Table := ext T57 6 (fun args H => match args, H with | [.c (.p (.l (.int .i64) _))], [] => some (none, .bool true, []) | _, _ => none)

theorem t58 : TSound Try.prog T58 := by
  refine ext_run t57 (f := 6) (fn := Try.f6) rfl rfl [0,2,3,4,5,6,7,8,9,10,11,12,13,14,15,16,17,48,50,53,54,55,131,141,150,161] fun args H p r H' hs hp => ?_
  split at hs
  · rename_i zs
    cases hs
    refine ⟨by show 1 ≤ _; decide, [], rfl, fun k hk => absurd hk (Nat.not_lt_zero k), ?_⟩
    have hl : (zs.take 500).length ≤ 500 := by rw [List.length_take]; omega
    generalize hq : zs.take 500 = q at hl
    have k1 := srcV_le q 0 12 (by omega) (by omega)
    have k2 := srcV_le q (srcV q 0 12).2 12 k1.1 (by omega)
    conv => whnf
    rw [hq]
    refine ⟨⟨by omega, by omega, by omega, by omega, by omega⟩, ?_⟩
    conv => whnf
    refine ⟨⟨k1.1, ?_, by omega, by omega, by omega⟩, ?_⟩
    · show (srcV q 0 12).2 ≤ _
      omega
    conv => whnf
    obtain ⟨a, ha⟩ : ∃ a, (srcV q 0 12).1 = B a := ⟨(srcV q 0 12).1.data.toList, rfl⟩
    obtain ⟨b, hb⟩ : ∃ b, (srcV q (srcV q 0 12).2 12).1 = B b := ⟨(srcV q (srcV q 0 12).2 12).1.data.toList, rfl⟩
    have la : a.length ≤ 1000 := by have h := k1.2.2; rw [ha, B_size] at h; omega
    have lb : b.length ≤ 1000 := by have h := k2.2.2; rw [hb, B_size] at h; omega
    have h10 : (⟨#[10]⟩ : ByteArray) = B [10] := rfl
    have s10 : (⟨#[10]⟩ : ByteArray).size = 1 := rfl
    refine ⟨by rw [s10, ha, B_size]; omega, ?_⟩
    conv => whnf
    refine ⟨?_, ?_⟩
    · show ((((srcV q 0 12).1 ++ (⟨#[10]⟩ : ByteArray)).size + (srcV q (srcV q 0 12).2 12).1.size : Nat) : Int) ≤ _
      rw [ByteArray.size_append, s10, ha, hb, B_size, B_size]
      omega
    conv => whnf
    refine ⟨by rw [s10, ha, B_size]; omega, ?_⟩
    conv => whnf
    obtain ⟨hp1, hp2⟩ := read_places 1 a b (by omega) (by omega)
    have eM : (srcV q 0 12).1 ++ (⟨#[10]⟩ : ByteArray) ++ (srcV q (srcV q 0 12).2 12).1 = B (a ++ 10 :: b) := by rw [ha, hb, h10, B_append, B_append, List.append_assoc]; rfl
    have eN : (⟨#[10]⟩ : ByteArray) ++ (srcV q 0 12).1 = B (10 :: a) := by rw [ha, h10, B_append]; rfl
    have hlin := read_lines 1 a
    have hlL := readV_len a 1
    have hlM := readV_len (a ++ 10 :: b) 1
    rw [← ha] at hp1 hp2 hlin hlL
    rw [← eM] at hp2 hlM
    rw [← eN] at hp1 hp2
    generalize hL : readV (srcV q 0 12).1 1 = L at hp1 hp2 hlin hlL
    generalize hM : readV ((srcV q 0 12).1 ++ (⟨#[10]⟩ : ByteArray) ++ (srcV q (srcV q 0 12).2 12).1) 1 = M at hp2 hlM
    generalize hN : readV ((⟨#[10]⟩ : ByteArray) ++ (srcV q 0 12).1) 1 = N at hp1 hp2
    refine cond_intro (fun h1 => ?_) (fun h1 => ?_)
    · exfalso
      rw [hp1] at h1
      simp at h1
    conv => whnf
    refine cond_intro (fun h2 => ?_) (fun h2 => ?_)
    · conv => whnf
      exact ends_eq ⟨rfl, rfl⟩
    have h0 : L.err = 0 := by simpa using h2
    obtain ⟨hNt, hasc, hpre⟩ := hp2 h0
    conv => whnf
    have hNlen : N.toks.length = L.toks.length := by rw [hNt, List.length_map]
    refine loop_intro (σ := Nat) (fun j => [(0, XV.s .none), (2, XV.s (.bool false)), (3, XV.s .none), (4, XV.s .none), (5, XV.s .none), (6, XV.s (.a (.c (.p (.l tokC L.toks))))), (7, XV.s .none), (8, XV.s .none), (9, XV.s (.a (.c (.p (.l tokC M.toks))))), (10, XV.s .none), (11, XV.s (.int .i64 M.err)), (12, XV.s (.a (.c (.p (.l tokC N.toks))))), (13, XV.s .none), (14, XV.s .none), (15, XV.s .none), (16, XV.s .none), (17, XV.s .none), (48, XV.s .none), (50, XV.s .none), (53, XV.s (.int .i64 N.toks.length)), (54, XV.s (.int .i64 j)), (55, XV.s .none), (131, XV.s .none), (141, XV.s .none), (150, XV.s .none), (161, XV.s .none)])
      (fun _ => [tapeO q (srcV q (srcV q 0 12).2 12).2, .row [.int .i64 L.file, .int .i64 L.line, .int .i64 L.column], .row [.int .i64 M.file, .int .i64 M.line, .int .i64 M.column], .row [.int .i64 N.file, .int .i64 N.line, .int .i64 N.column]])
      (fun j => j ≤ L.toks.length) (fun j => L.toks.length - j) 0 ?_ rfl ?_ fun j hI => ?_
    · repeat (first | exact LeL.nil | refine LeL.drop ?_ | refine LeL.same ?_)
    · exact Nat.zero_le _
    have hj0 : j ≤ L.toks.length := hI
    conv => whnf
    refine cond_intro (fun h3 => ?_) (fun h3 => ?_)
    · have hlt : j < L.toks.length := by have : (j : Int) < N.toks.length := of_decide_eq_true h3
                                         omega
      have hgN : N.toks.getD ((j : Int)).toNat tokC.dflt = shiftT L.toks[j] := by
        rw [show ((j : Int)).toNat = j from rfl, hNt, getD_get (by rw [List.length_map]; exact hlt), List.getElem_map]
      have hgL : L.toks.getD ((j : Int)).toNat tokC.dflt = L.toks[j] := by
        rw [show ((j : Int)).toNat = j from rfl, getD_get hlt]
      have hbnd := hlin L.toks[j] (List.getElem_mem hlt)
      conv => whnf
      refine ⟨⟨by omega, by omega⟩, ?_⟩
      conv => whnf
      refine ⟨?_, ?_⟩
      · rw [hgN]
        show inI64 ((posT L.toks[j]).1 + 1 - 1)
        unfold inI64
        omega
      conv => whnf
      refine ⟨fun hg => ?_, ?_⟩
      · first | exact good43 | exact ⟨by omega, by omega⟩ | (unfold inI64; omega) | (simp only [lit, Bool.and_eq_true, decide_eq_true_eq] at hg; exact ⟨by omega, by omega⟩)
      conv => whnf
      refine ⟨fun hg => ?_, ?_⟩
      · first | exact good43 | exact ⟨by omega, by omega⟩ | (unfold inI64; omega) | (simp only [lit, Bool.and_eq_true, decide_eq_true_eq] at hg; exact ⟨by omega, by omega⟩)
      conv => whnf
      refine ⟨fun hg => ?_, ?_⟩
      · first | exact good43 | exact ⟨by omega, by omega⟩ | (unfold inI64; omega) | (simp only [lit, Bool.and_eq_true, decide_eq_true_eq] at hg; exact ⟨by omega, by omega⟩)
      conv => whnf
      refine ⟨fun hg => ?_, ?_⟩
      · first | exact good43 | exact ⟨by omega, by omega⟩ | (unfold inI64; omega) | (simp only [lit, Bool.and_eq_true, decide_eq_true_eq] at hg; exact ⟨by omega, by omega⟩)
      conv => whnf
      refine ⟨fun hg => ?_, ?_⟩
      · first | exact good43 | exact ⟨by omega, by omega⟩ | (unfold inI64; omega) | (simp only [lit, Bool.and_eq_true, decide_eq_true_eq] at hg; exact ⟨by omega, by omega⟩)
      conv => whnf
      refine ⟨fun hg => ?_, ?_⟩
      · first | exact good43 | exact ⟨by omega, by omega⟩ | (unfold inI64; omega) | (simp only [lit, Bool.and_eq_true, decide_eq_true_eq] at hg; exact ⟨by omega, by omega⟩)
      conv => whnf
      refine ⟨fun hg => ?_, ?_⟩
      · first | exact good43 | exact ⟨by omega, by omega⟩ | (unfold inI64; omega) | (simp only [lit, Bool.and_eq_true, decide_eq_true_eq] at hg; exact ⟨by omega, by omega⟩)
      conv => whnf
      refine ⟨fun hg => ?_, ?_⟩
      · first | exact good43 | exact ⟨by omega, by omega⟩ | (unfold inI64; omega) | (simp only [lit, Bool.and_eq_true, decide_eq_true_eq] at hg; exact ⟨by omega, by omega⟩)
      conv => whnf
      refine ⟨fun hg => ?_, ?_⟩
      · first | exact good43 | exact ⟨by omega, by omega⟩ | (unfold inI64; omega) | (simp only [lit, Bool.and_eq_true, decide_eq_true_eq] at hg; exact ⟨by omega, by omega⟩)
      conv => whnf
      refine ⟨fun hg => ?_, ?_⟩
      · first | exact good43 | exact ⟨by omega, by omega⟩ | (unfold inI64; omega) | (simp only [lit, Bool.and_eq_true, decide_eq_true_eq] at hg; exact ⟨by omega, by omega⟩)
      conv => whnf
      refine ⟨fun hg => ?_, ?_⟩
      · first | exact good43 | exact ⟨by omega, by omega⟩ | (unfold inI64; omega) | (simp only [lit, Bool.and_eq_true, decide_eq_true_eq] at hg; exact ⟨by omega, by omega⟩)
      have hord : 0 < j → ltP (posT (L.toks.getD ((j : Int) - 1).toNat tokC.dflt)) (posT (L.toks.getD ((j : Int)).toNat tokC.dflt)) := fun hpos => by
        have e1 : ((j : Int) - 1).toNat = j - 1 := by omega
        rw [e1, hgL, getD_get (show j - 1 < L.toks.length by omega)]
        refine hasc (j - 1) _ _ (List.getElem?_eq_getElem (show j - 1 < L.toks.length by omega)) ?_
        rw [show j - 1 + 1 = j by omega]
        exact List.getElem?_eq_getElem hlt
      conv => whnf
      refine ⟨by decide +kernel, ?_⟩
      conv => whnf
      refine cond_intro (fun h4 => ?_) (fun h4 => ?_)
      · exfalso
        rw [hgN, ← hgL] at h4
        generalize L.toks.getD ((j : Int) - 1).toNat tokC.dflt = x at h4 hord
        generalize L.toks.getD ((j : Int)).toNat tokC.dflt = y at h4 hord
        have e1 : decide ((L.toks.length : Int) ≤ (j : Int)) = false := decide_eq_false (by omega)
        rw [e1] at h4
        have e2 : (decide (0 < (j : Int)) && !(decide (x.2.2.2.2.1 < y.2.2.2.2.1) || decide (x.2.2.2.2.1 = y.2.2.2.2.1) && decide (x.2.2.2.2.2 < y.2.2.2.2.2))) = false := by
          by_cases hj : 0 < j
          · have h5 := hord hj
            rw [decide_eq_true (by omega : (0 : Int) < (j : Int)), Bool.true_and, Bool.not_eq_false', Bool.or_eq_true, Bool.and_eq_true, decide_eq_true_eq, decide_eq_true_eq, decide_eq_true_eq]
            exact h5
          · rw [decide_eq_false (by omega : ¬ (0 : Int) < (j : Int)), Bool.false_and]
        rw [e2] at h4
        simp [shiftT] at h4
      conv => whnf
      refine ⟨by unfold inI64; omega, ?_⟩
      conv => whnf
      refine head_keep (j + 1) [0, 1, 2, 3] rfl (fun k hk => ?_) rfl ?_ ?_ ?_
      · have hk' : k < 4 := hk
        have : k = 0 ∨ k = 1 ∨ k = 2 ∨ k = 3 := by omega
        rcases this with rfl | rfl | rfl | rfl <;> rfl
      · repeat (first | exact KeepL.nil | refine KeepL.drop ?_ | refine KeepL.ren rfl ?_)
      · exact hlt
      · show L.toks.length - (j + 1) < L.toks.length - j
        omega
    · have hjl : j = L.toks.length := by have : ¬ (j : Int) < N.toks.length := of_decide_eq_false h3
                                         omega
      conv => whnf
      refine cond_intro (fun h5 => ?_) (fun h5 => ?_)
      · exfalso
        simp only [Bool.and_eq_true, decide_eq_true_eq] at h5
        have := hpre h5.1
        omega
      conv => whnf
      refine loop_intro (σ := Nat) (fun i => [(0, XV.s .none), (2, XV.s (.bool false)), (3, XV.s .none), (4, XV.s .none), (5, XV.s .none), (6, XV.s (.a (.c (.p (.l tokC L.toks))))), (7, XV.s .none), (8, XV.s .none), (9, XV.s (.a (.c (.p (.l tokC M.toks))))), (10, XV.s .none), (11, XV.s (.int .i64 M.err)), (12, XV.s (.a (.c (.p (.l tokC N.toks))))), (13, XV.s .none), (14, XV.s .none), (15, XV.s .none), (16, XV.s .none), (17, XV.s (.int .i64 i)), (48, XV.s .none), (50, XV.s .none), (53, XV.s .none), (54, XV.s .none), (55, XV.s (.bool false)), (131, XV.s .none), (141, XV.s .none), (150, XV.s .none), (161, XV.s .none)])
        (fun _ => [tapeO q (srcV q (srcV q 0 12).2 12).2, .row [.int .i64 L.file, .int .i64 L.line, .int .i64 L.column], .row [.int .i64 M.file, .int .i64 M.line, .int .i64 M.column], .row [.int .i64 N.file, .int .i64 N.line, .int .i64 N.column]])
        (fun i => i ≤ L.toks.length) (fun i => L.toks.length - i) 0 ?_ rfl ?_ fun i hI2 => ?_
      · repeat (first | exact LeL.nil | refine LeL.drop ?_ | refine LeL.same ?_)
      · exact Nat.zero_le _
      have hi0 : i ≤ L.toks.length := hI2
      conv => whnf
      refine ⟨by unfold inI64; omega, ?_⟩
      conv => whnf
      refine cond_intro (fun h6 => ?_) (fun h6 => ?_)
      · simp only [Bool.and_eq_true, decide_eq_true_eq] at h6
        obtain ⟨h7, h8⟩ := h6
        have hlt2 : i + 1 < L.toks.length := by omega
        obtain ⟨hp1', hp2'⟩ := hpre h8
        have hgM : M.toks.getD ((i : Int)).toNat tokC.dflt = L.toks.getD ((i : Int)).toNat tokC.dflt := by
          rw [show ((i : Int)).toNat = i from rfl, List.getD_eq_getElem?_getD, List.getD_eq_getElem?_getD, hp2' i hlt2]
        conv => whnf
        refine ⟨⟨by omega, by omega⟩, ?_⟩
        conv => whnf
        refine ⟨⟨by omega, by omega⟩, ?_⟩
        conv => whnf
        refine ⟨⟨by decide +kernel, by decide +kernel⟩, ?_⟩
        conv => whnf
        refine ⟨by decide +kernel, ?_⟩
        conv => whnf
        refine cond_intro (fun h9 => ?_) (fun h9 => ?_)
        · exfalso
          rw [hgM] at h9
          generalize L.toks.getD ((i : Int)).toNat tokC.dflt = x at h9
          simp at h9
        conv => whnf
        refine ⟨by unfold inI64; omega, ?_⟩
        conv => whnf
        refine head_intro (i + 1) ?_ rfl ?_ ?_
        · repeat (first | exact LeL.nil | refine LeL.drop ?_ | refine LeL.same ?_)
        · show i + 1 ≤ L.toks.length
          omega
        · show L.toks.length - (i + 1) < L.toks.length - i
          omega
      · conv => whnf
        refine ends_eq ⟨?_, rfl⟩
        rw [decide_eq_true (by omega : (L.toks.length : Int) = (N.toks.length : Int))]
        rfl
  · cases hs
end Go.Ab
