/- The law of names. -/
import Derived.Test.YticjnehdhageoaaAbR11
namespace Go.Ab
open Go.Proofs
set_option linter.unusedSectionVars false
set_option maxRecDepth 100000
variable [Glob]

theorem pick_fits {l : List ByteArray} (h : ∀ x ∈ l, x.size ≤ 100) (zs : List Int) (n : Int) : (pickS l zs n).size ≤ 100 := by
  unfold pickS
  generalize (modV (rawV zs n) l.length).toNat = i
  rw [List.getD_eq_getElem?_getD]
  cases hi : l[i]? with
  | none => decide
  | some x => exact h x (List.mem_of_getElem? hi)

def longS : ByteArray := ⟨#[97, 50, 51, 52, 53, 54, 55, 56, 57, 48, 49, 50, 51, 52, 53, 54, 55, 56, 57, 48, 49, 50, 51, 52, 53, 54, 55, 56, 57, 48, 49]⟩

def nameTexts (s : ByteArray) (q : List Int) (b : Int) : List ByteArray :=
  [s, pickS nameL q 0, pickS propL q (rawN q 0), pickS pieceL q (rawN q (rawN q 0)), pickS oddL q (rawN q (rawN q (rawN q 0))), bytesOf [b], ⟨#[97]⟩ ++ bytesOf [b], longS, longS ++ ⟨#[50]⟩, longS.extract (0 : Int).toNat (30 : Int).toNat ++ bytesOf [b]]

theorem nameTexts_fit (s : ByteArray) (q : List Int) (b : Int) (hs : s.size ≤ 200) : ∀ x ∈ nameTexts s q b, fits x := by
  have hb1 : (bytesOf [b]).size = 1 := rfl
  have h1 := pick_fits (l := nameL) (by decide +kernel) q 0
  have h2 := pick_fits (l := propL) (by decide +kernel) q (rawN q 0)
  have h3 := pick_fits (l := pieceL) (by decide +kernel) q (rawN q (rawN q 0))
  have h4 := pick_fits (l := oddL) (by decide +kernel) q (rawN q (rawN q (rawN q 0)))
  have h5 : longS.size = 31 := rfl
  have h6 : (longS.extract (0 : Int).toNat (30 : Int).toNat).size = 30 := by decide +kernel
  have h7 : (⟨#[97]⟩ : ByteArray).size = 1 := rfl
  have h8 : (⟨#[50]⟩ : ByteArray).size = 1 := rfl
  intro x hx
  simp only [nameTexts, List.mem_cons, List.not_mem_nil, or_false] at hx
  unfold fits
  rcases hx with rfl | rfl | rfl | rfl | rfl | rfl | rfl | rfl | rfl | rfl <;> first | omega | (rw [ByteArray.size_append]; omega)

def T55 : Table := ext T52 4 (fun args H => match args, H with | [.c (.p (.l (.int .i64) _)), .c (.p (.v (.string _))), .c (.p (.v (.int .u8 _)))], [] => some (none, .bool true, []) | _, _ => none)

theorem t55 : TSound Try.prog T55 := by
  refine ext_run t52 (f := 4) (fn := Try.f4) rfl rfl [0,1,2,6,7,8,10,13,42,43,44,45,59] fun args H p r H' hs hp => ?_
  split at hs
  · rename_i zs s b
    cases hs
    refine ⟨by show 3 ≤ _; decide, [], rfl, fun k hk => absurd hk (Nat.not_lt_zero k), ?_⟩
    conv => whnf
    refine cond_intro (fun h => ?_) (fun h => ?_)
    · conv => whnf
      exact ends_eq ⟨rfl, rfl⟩
    have hsz : s.size ≤ 200 := by
      have : ¬ ((200 : Int) < s.size) := of_decide_eq_false h
      omega
    have hl : (zs.take 500).length ≤ 500 := by rw [List.length_take]; omega
    generalize hq : zs.take 500 = q at hl
    have raw_le : ∀ n : Int, 0 ≤ n → 0 ≤ rawN q n ∧ rawN q n ≤ n + 1 := fun n h0 => by unfold rawN; split <;> omega
    have r1 := raw_le 0 (by omega)
    have r2 := raw_le (rawN q 0) r1.1
    have r3 := raw_le (rawN q (rawN q 0)) r2.1
    conv => whnf
    rw [hq]
    refine ⟨⟨by omega, by omega, by omega⟩, ?_⟩
    conv => whnf
    refine ⟨⟨r1.1, ?_, by omega⟩, ?_⟩
    · show rawN q 0 ≤ _
      omega
    conv => whnf
    refine ⟨⟨r2.1, ?_, by omega⟩, ?_⟩
    · show rawN q (rawN q 0) ≤ _
      omega
    conv => whnf
    refine ⟨⟨r3.1, ?_, by omega⟩, ?_⟩
    · show rawN q (rawN q (rawN q 0)) ≤ _
      omega
    conv => whnf
    have hb1 : (bytesOf [b]).size = 1 := rfl
    refine ⟨by rw [hb1]; decide, ?_⟩
    conv => whnf
    refine ⟨by decide, ?_⟩
    conv => whnf
    refine ⟨by decide, ?_⟩
    conv => whnf
    refine ⟨by rw [hb1]; decide, ?_⟩
    conv => whnf
    refine ⟨by decide +kernel, ?_⟩
    conv => whnf
    refine loop_intro (σ := Nat) (fun i => [(0, XV.s .none), (1, XV.s .none), (2, XV.s .none), (6, XV.s (.bool false)), (7, XV.s .none), (8, XV.s .none), (10, XV.s .none), (13, XV.s .none), (42, XV.s (.a (.c (.p (.l .str (nameTexts s q b)))))), (43, XV.s (.int .i64 10)), (44, XV.s (.int .i64 i)), (45, XV.s .none), (59, XV.s .none)]) (fun _ => [tapeO q (rawN q (rawN q (rawN q (rawN q 0))))])
      (fun i => i ≤ 10) (fun i => 10 - i) 0 ?_ rfl ?_ fun i hI => ?_
    · repeat (first | exact LeL.nil | refine LeL.drop ?_ | refine LeL.same ?_)
    · exact Nat.zero_le _
    conv => whnf
    refine cond_intro (fun h1 => ?_) (fun h1 => ?_)
    · have hlt : i < 10 := by have : (i : Int) < 10 := of_decide_eq_true h1
                              omega
      have hmem : (nameTexts s q b).getD ((i : Int)).toNat CT.str.dflt ∈ nameTexts s q b := by
        rw [show ((i : Int)).toNat = i from rfl, getD_get (show i < (nameTexts s q b).length from hlt)]
        exact List.getElem_mem _
      have hfit := nameTexts_fit s q b hsz _ hmem
      conv => whnf
      refine ⟨⟨by omega, by show (i : Int) < 10; omega⟩, ?_⟩
      conv => whnf
      refine ⟨hfit, ?_⟩
      conv => whnf
      refine ⟨hfit, ?_⟩
      conv => whnf
      refine ⟨fun _ => hfit, ?_⟩
      conv => whnf
      refine ⟨fun _ => hfit, ?_⟩
      conv => whnf
      refine cond_intro (fun h2 => ?_) (fun h2 => ?_)
      · exfalso
        rw [nameS_same, labelS_same] at h2
        simp at h2
      conv => whnf
      refine ⟨by unfold inI64; omega, ?_⟩
      conv => whnf
      refine head_intro (i + 1) ?_ rfl ?_ ?_
      · repeat (first | exact LeL.nil | refine LeL.drop ?_ | refine LeL.same ?_)
      · show i + 1 ≤ 10
        omega
      · show 10 - (i + 1) < 10 - i
        omega
    · conv => whnf
      exact ends_eq ⟨rfl, rfl⟩
  · cases hs
end Go.Ab
