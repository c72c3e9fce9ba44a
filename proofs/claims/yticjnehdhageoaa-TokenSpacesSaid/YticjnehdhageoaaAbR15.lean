/- The law of separators. -/
import Derived.Test.YticjnehdhageoaaAbS5
namespace Go.Ab
open Go.Proofs
set_option linter.unusedSectionVars false
set_option maxRecDepth 100000
variable [Glob]

theorem strip_getD {A B : List tokC.den} (h : A.map strip = B.map strip) (j : Nat) (d : tokC.den) : strip (A.getD j d) = strip (B.getD j d) := by
  have h1 := congrArg (fun l => l[j]?) h
  simp only [List.getElem?_map] at h1
  rw [List.getD_eq_getElem?_getD, List.getD_eq_getElem?_getD]
  cases hA : A[j]? <;> cases hB : B[j]? <;> rw [hA, hB] at h1 <;> simp at h1 ⊢
  exact h1

theorem pick_mem {l : List ByteArray} (h : 0 < l.length) (zs : List Int) (n : Int) : pickS l zs n ∈ l := by
  unfold pickS
  have h1 := modV_nonneg (rawV zs n) l.length
  have h2 := modV_lt (rawV zs n) l.length (by omega)
  have h3 : (modV (rawV zs n) l.length).toNat < l.length := by omega
  rw [getD_get h3]
  exact List.getElem_mem h3

theorem gapOk {g : ByteArray} (h : g ∈ gapL) : Gap g.data.toList ∧ g.size ≤ 20 := by
  obtain ⟨h1, w, r, h2, h3, h4⟩ := gap_ok g h
  exact ⟨⟨h1, w, r, h2, h3⟩, h4⟩

def T56 : Table := ext T52 5 (fun args H => match args, H with | [.c (.p (.l (.int .i64) _))], [] => some (none, .bool true, []) | _, _ => none)

theorem t56 : TSound Try.prog T56 := by
  refine ext_run t52 (f := 5) (fn := Try.f5) rfl rfl [0,2,3,4,5,6,7,8,9,10,11,12,13,14,15,22,70,72,73,74,112] fun args H p r H' hs hp => ?_
  split at hs
  · rename_i zs
    cases hs
    refine ⟨by show 1 ≤ _; decide, [], rfl, fun k hk => absurd hk (Nat.not_lt_zero k), ?_⟩
    have hl : (zs.take 500).length ≤ 500 := by rw [List.length_take]; omega
    generalize hq : zs.take 500 = q at hl
    have raw_le : ∀ n : Int, 0 ≤ n → 0 ≤ rawN q n ∧ rawN q n ≤ n + 1 := fun n h0 => by unfold rawN; split <;> omega
    conv => whnf
    rw [hq]
    refine ⟨⟨⟨by omega, by omega, by omega⟩, by decide⟩, ?_⟩
    conv => whnf
    have hm0 := modV_nonneg (rawV q 0) 20
    have hm1 := modV_lt (rawV q 0) 20 (by decide)
    refine loop_intro (σ := Nat × Int × List Tri) (fun ⟨i, n, tl⟩ => [(0, XV.s .none), (2, XV.s (.bool false)), (3, XV.s (.a (.c (.ptr 0 0)))), (4, XV.s (SV.str (B (catA tl)))), (5, XV.s (SV.str (B (catB tl)))), (6, XV.s (.a (.c (.own 1 .str gapL)))), (7, XV.s (.int .i64 i)), (8, XV.s .none), (9, XV.s .none), (10, XV.s .none), (11, XV.s .none), (12, XV.s .none), (13, XV.s .none), (14, XV.s .none), (15, XV.s .none), (22, XV.s .none), (70, XV.s .none), (72, XV.s .none), (73, XV.s .none), (74, XV.s .none), (112, XV.s .none)])
      (fun ⟨_, n, _⟩ => [tapeO q n, .tok 9 .str 7 false])
      (fun ⟨i, n, tl⟩ => tl.length + i ≤ 19 ∧ 0 ≤ n ∧ n ≤ 1 + 3 * tl.length ∧ (∀ x ∈ tl, TriOk x) ∧ (catA tl).length ≤ 60 * tl.length ∧ (catB tl).length ≤ 60 * tl.length) (fun ⟨i, _, _⟩ => i) ((modV (rawV q 0) 20).toNat, rawN q 0, []) ?_ rfl ?_ fun ⟨i, n, tl⟩ hI => ?_
    · repeat (first | exact LeL.nil | refine LeL.drop ?_ | refine LeL.same ?_ | refine LeL.eq (congrArg (fun x => XV.s (SV.int .i64 x)) (Int.toNat_of_nonneg hm0)) ?_)
    · have := raw_le 0 (by omega)
      refine ⟨?_, this.1, ?_, fun x hx => (by cases hx), Nat.le_refl _, Nat.le_refl _⟩
      · show 0 + _ ≤ _
        omega
      · show _ ≤ 1 + 3 * ((0 : Nat) : Int)
        omega
    obtain ⟨hi, hn0, hn1, hok, ha, hb⟩ := hI
    conv => whnf
    refine cond_intro (fun h1 => ?_) (fun h1 => ?_)
    · have hpos : 0 < i := by have : (0 : Int) < i := of_decide_eq_true h1
                              omega
      have r1 := raw_le n hn0
      have r2 := raw_le (rawN q n) r1.1
      conv => whnf
      refine ⟨⟨hn0, by omega, by omega⟩, ?_⟩
      conv => whnf
      refine ⟨⟨⟨r1.1, ?_, by omega⟩, by decide⟩, ?_⟩
      · show rawN q n ≤ _
        omega
      have hx := pick_mem (l := pieceL) (by decide) q n
      have hx1 := piece_ok _ hx
      have hx2 := piece_len _ hx
      have hx3 : (pickS pieceL q n).size ≤ 40 := hx2
      obtain ⟨hg1, hg2⟩ := gapOk (pick_mem (l := gapL) (by decide) q (rawN q n))
      obtain ⟨hk1, hk2⟩ := gapOk (pick_mem (l := gapL) (by decide) q (rawN q (rawN q n)))
      have s1 : (pickS pieceL q n ++ pickS gapL q (rawN q n)).size = (pickS pieceL q n).size + (pickS gapL q (rawN q n)).size := ByteArray.size_append ..
      have s2 : (pickS pieceL q n ++ pickS gapL q (rawN q (rawN q n))).size = (pickS pieceL q n).size + (pickS gapL q (rawN q (rawN q n))).size := ByteArray.size_append ..
      conv => whnf
      refine ⟨⟨modV_nonneg _ _, modV_lt _ _ (by decide)⟩, ?_⟩
      conv => whnf
      refine ⟨?_, ?_⟩
      · show (((pickS pieceL q n).size + (pickS gapL q (rawN q n)).size : Nat) : Int) ≤ _
        omega
      conv => whnf
      refine ⟨?_, ?_⟩
      · show (((catA tl).length + (pickS pieceL q n ++ pickS gapL q (rawN q n)).size : Nat) : Int) ≤ _
        rw [s1]
        omega
      conv => whnf
      refine ⟨⟨⟨r2.1, ?_, by omega⟩, by decide⟩, ?_⟩
      · show rawN q (rawN q n) ≤ _
        omega
      conv => whnf
      refine ⟨⟨modV_nonneg _ _, modV_lt _ _ (by decide)⟩, ?_⟩
      conv => whnf
      refine ⟨?_, ?_⟩
      · show (((pickS pieceL q n).size + (pickS gapL q (rawN q (rawN q n))).size : Nat) : Int) ≤ _
        omega
      conv => whnf
      refine ⟨?_, ?_⟩
      · show (((catB tl).length + (pickS pieceL q n ++ pickS gapL q (rawN q (rawN q n))).size : Nat) : Int) ≤ _
        rw [s2]
        omega
      conv => whnf
      refine ⟨by unfold inI64; omega, ?_⟩
      conv => whnf
      have r3 := raw_le _ r2.1
      have eA : B (catA (tl ++ [((pickS pieceL q n).data.toList, (pickS gapL q (rawN q n)).data.toList, (pickS gapL q (rawN q (rawN q n))).data.toList)])) = B (catA tl) ++ (pickS pieceL q n ++ pickS gapL q (rawN q n)) := by
        rw [catA_append, ← B_append]
        simp only [catA, List.append_nil]
        rw [← B_append]
      have eB : B (catB (tl ++ [((pickS pieceL q n).data.toList, (pickS gapL q (rawN q n)).data.toList, (pickS gapL q (rawN q (rawN q n))).data.toList)])) = B (catB tl) ++ (pickS pieceL q n ++ pickS gapL q (rawN q (rawN q n))) := by
        rw [catB_append, ← B_append]
        simp only [catB, List.append_nil]
        rw [← B_append]
      have lA := congrArg ByteArray.size eA
      have lB := congrArg ByteArray.size eB
      rw [ByteArray.size_append, B_size, B_size, s1] at lA
      rw [ByteArray.size_append, B_size, B_size, s2] at lB
      refine head_intro (i - 1, rawN q (rawN q (rawN q n)), tl ++ [((pickS pieceL q n).data.toList, (pickS gapL q (rawN q n)).data.toList, (pickS gapL q (rawN q (rawN q n))).data.toList)]) ?_ rfl ?_ ?_
      · repeat (first | exact LeL.nil | refine LeL.drop ?_ | refine LeL.same ?_ | refine LeL.eq (congrArg (fun x => XV.s (SV.int .i64 x)) (by omega : ((i - 1 : Nat) : Int) = (i : Int) - 1)) ?_ | refine LeL.eq (congrArg (fun x => XV.s (SV.str x)) eA) ?_ | refine LeL.eq (congrArg (fun x => XV.s (SV.str x)) eB) ?_)
      · refine ⟨by rw [List.length_append, List.length_singleton]; omega, r3.1, by rw [List.length_append, List.length_singleton]; omega, fun x hx => ?_, ?_, ?_⟩
        · rcases List.mem_append.1 hx with hx | hx
          · exact hok x hx
          · obtain rfl := List.mem_singleton.1 hx
            exact ⟨hx1, hg1, hk1⟩
        · rw [lA, List.length_append, List.length_singleton]; omega
        · rw [lB, List.length_append, List.length_singleton]; omega
      · show i - 1 < i
        omega
    · have hfa : (catA tl).length ≤ 16000 := by omega
      have hfb : (catB tl).length ≤ 16000 := by omega
      obtain ⟨e1, e2, e3⟩ := read_spaces 0 tl hok (by omega) hfa hfb
      have hlen : (readV (B (catA tl)) 0).toks.length = (readV (B (catB tl)) 0).toks.length := by
        have := congrArg List.length e3
        simpa using this
      have hsz : (readV (B (catA tl)) 0).toks.length ≤ 6001 := readV_len _ _
      generalize hA : readV (B (catA tl)) 0 = A at e1 e3 hlen hsz
      generalize hB : readV (B (catB tl)) 0 = C at e2 e3 hlen
      conv => whnf
      rw [hA, hB]
      refine cond_intro (fun h2 => ?_) (fun h2 => ?_)
      · exfalso
        rw [e1, e2, hlen] at h2
        simp at h2
      conv => whnf
      refine loop_intro (σ := Nat) (fun j => [(0, XV.s .none), (2, XV.s (.bool false)), (3, XV.s .none), (4, XV.s .none), (5, XV.s .none), (6, XV.s .none), (7, XV.s .none), (8, XV.s .none), (9, XV.s (.a (.c (.p (.l tokC A.toks))))), (10, XV.s .none), (11, XV.s .none), (12, XV.s (.a (.c (.p (.l tokC C.toks))))), (13, XV.s .none), (14, XV.s .none), (15, XV.s .none), (22, XV.s .none), (70, XV.s .none), (72, XV.s (.int .i64 A.toks.length)), (73, XV.s (.int .i64 j)), (74, XV.s .none), (112, XV.s .none)])
        (fun _ => [tapeO q n, .tok 9 .str 7 false, .row [.int .i64 A.file, .int .i64 A.line, .int .i64 A.column], .row [.int .i64 C.file, .int .i64 C.line, .int .i64 C.column]])
        (fun j => j ≤ A.toks.length) (fun j => A.toks.length - j) 0 ?_ rfl ?_ fun j hI => ?_
      · repeat (first | exact LeL.nil | refine LeL.drop ?_ | refine LeL.same ?_)
      · exact Nat.zero_le _
      have hj0 : j ≤ A.toks.length := hI
      conv => whnf
      refine cond_intro (fun h3 => ?_) (fun h3 => ?_)
      · have hlt : j < A.toks.length := by have : (j : Int) < A.toks.length := of_decide_eq_true h3
                                           omega
        have hst := strip_getD e3 j tokC.dflt
        conv => whnf
        refine ⟨⟨by omega, by omega⟩, ?_⟩
        conv => whnf
        refine ⟨⟨by omega, by omega⟩, ?_⟩
        conv => whnf
        refine ⟨fun _ => ⟨by omega, by omega⟩, ?_⟩
        conv => whnf
        refine ⟨fun _ => ⟨by omega, by omega⟩, ?_⟩
        conv => whnf
        refine ⟨fun _ => ⟨by omega, by omega⟩, ?_⟩
        conv => whnf
        refine ⟨fun _ => ⟨by omega, by omega⟩, ?_⟩
        conv => whnf
        refine ⟨by decide +kernel, ?_⟩
        conv => whnf
        refine cond_intro (fun h4 => ?_) (fun h4 => ?_)
        · exfalso
          have a1 : (A.toks.getD ((j : Int)).toNat tokC.dflt).1 = (C.toks.getD ((j : Int)).toNat tokC.dflt).1 := congrArg (fun x => x.1) hst
          have a2 : (A.toks.getD ((j : Int)).toNat tokC.dflt).2.1 = (C.toks.getD ((j : Int)).toNat tokC.dflt).2.1 := congrArg (fun x => x.2.1) hst
          have a3 : (A.toks.getD ((j : Int)).toNat tokC.dflt).2.2.1 = (C.toks.getD ((j : Int)).toNat tokC.dflt).2.2.1 := congrArg (fun x => x.2.2) hst
          rw [a1, a2, a3] at h4
          simp at h4
        conv => whnf
        refine ⟨by unfold inI64; omega, ?_⟩
        conv => whnf
        refine head_intro (j + 1) ?_ rfl ?_ ?_
        · repeat (first | exact LeL.nil | refine LeL.drop ?_ | refine LeL.same ?_)
        · show j + 1 ≤ A.toks.length
          omega
        · show A.toks.length - (j + 1) < A.toks.length - j
          omega
      · conv => whnf
        exact ends_eq ⟨rfl, rfl⟩
  · cases hs
end Go.Ab
