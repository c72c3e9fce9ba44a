/- The law of numbers. -/
import Derived.Test.YticjnehdhageoaaAbS3
namespace Go.Ab
open Go.Proofs
set_option linter.unusedSectionVars false
set_option maxRecDepth 100000
variable [Glob]

def T53 : Table := ext T52 7 (fun args H => match args, H with | [.c (.p (.v (.int .u32 n))), .c (.p (.v (.int .u8 x)))], [] => some (some (0 ≤ n ∧ n ≤ 4294967295 ∧ 0 ≤ x ∧ x ≤ 255), .bool true, []) | _, _ => none)

theorem t53 : TSound Try.prog T53 := by
  refine ext_run t52 (f := 7) (fn := Try.f7) rfl rfl [0,1,4,5,6,7,8,9,10,11,12,13,14,29,30,31,32,47,76] fun args H p r H' hs hp => ?_
  split at hs
  · rename_i n x
    cases hs
    obtain ⟨h0, h1, h2, h3⟩ : 0 ≤ n ∧ n ≤ 4294967295 ∧ 0 ≤ x ∧ x ≤ 255 := hp
    refine ⟨by show 2 ≤ _; decide, [], rfl, fun k hk => absurd hk (Nat.not_lt_zero k), ?_⟩
    obtain ⟨v, rfl⟩ : ∃ v : Nat, n = v := ⟨n.toNat, by omega⟩
    obtain ⟨y, rfl⟩ : ∃ y : Nat, x = y := ⟨x.toNat, by omega⟩
    conv => whnf
    refine ⟨by unfold inI64; omega, ?_⟩
    conv => whnf
    refine ⟨⟨by omega, by omega, by omega, by omega⟩, ?_⟩
    conv => whnf
    refine ⟨⟨by omega, by omega, by omega, by omega⟩, ?_⟩
    have hb8 := basedV_len false 8 v
    have hb16 := fun c => basedV_len c 16 v
    conv => whnf
    refine ⟨?_, ?_⟩
    · show ((1 + (basedV false 8 v).length : Nat) : Int) ≤ _
      omega
    conv => whnf
    refine ⟨⟨by omega, by omega, by omega, by omega⟩, ?_⟩
    conv => whnf
    refine ⟨?_, ?_⟩
    · show ((2 + (basedV false 16 v).length : Nat) : Int) ≤ _
      have := hb16 false
      omega
    conv => whnf
    refine ⟨⟨by omega, by omega, by omega, by omega⟩, ?_⟩
    conv => whnf
    refine ⟨?_, ?_⟩
    · show ((2 + (basedV true 16 v).length : Nat) : Int) ≤ _
      have := hb16 true
      omega
    conv => whnf
    have htx : ([B (basedV false (Int.toNat 10) (v : Int).toNat), ⟨#[48]⟩ ++ B (basedV false (Int.toNat 8) (v : Int).toNat), ⟨#[48, 120]⟩ ++ B (basedV false (Int.toNat 16) (v : Int).toNat), ⟨#[48, 120]⟩ ++ B (basedV true (Int.toNat 16) (v : Int).toNat)] : List ByteArray) = numTexts v := by
      rw [show (⟨#[48]⟩ : ByteArray) = B [48] from rfl, show (⟨#[48, 120]⟩ : ByteArray) = B [48, 120] from rfl, B_append, B_append, B_append]
      rfl
    refine loop_intro (σ := Nat) (fun i => [(0, XV.s .none), (1, XV.s (.int .u8 y)), (4, XV.s (.bool false)), (5, XV.s (.int .i64 v)), (6, XV.s .none), (7, XV.s .none), (8, XV.s .none), (9, XV.s .none), (10, XV.s .none), (11, XV.s .none), (12, XV.s .none), (13, XV.s .none), (14, XV.s .none), (29, XV.s (.a (.c (.own 0 .str (numTexts v))))), (30, XV.s (.int .i64 4)), (31, XV.s (.int .i64 i)), (32, XV.s .none), (47, XV.s .none), (76, XV.s .none)]) (fun _ => [.tok 9 .str 4 false])
      (fun i => i ≤ 4) (fun i => 4 - i) 0 ?_ rfl ?_ fun i hI => ?_
    · repeat (first | exact LeL.nil | refine LeL.drop ?_ | refine LeL.same ?_ | refine LeL.eq (congrArg (fun x => XV.s (.a (.c (.own 0 .str x)))) htx.symm) ?_)
    · exact Nat.zero_le _
    conv => whnf
    refine cond_intro (fun h => ?_) (fun h => ?_)
    · have h' : i < 4 := by have : (i : Int) < 4 := of_decide_eq_true h
                            omega
      conv => whnf
      refine ⟨⟨by omega, by show (i : Int) < 4; omega⟩, ?_⟩
      have hmem : (numTexts v).getD ((i : Int)).toNat CT.str.dflt ∈ numTexts v := by
        rw [show ((i : Int)).toNat = i from rfl, getD_get (show i < (numTexts v).length from h')]
        exact List.getElem_mem _
      obtain ⟨e, he⟩ := numTexts_read v (by omega) 0 _ hmem
      have hlen : (readV ((numTexts v).getD ((i : Int)).toNat CT.str.dflt) 0).toks.length = 2 := by rw [he]; rfl
      conv => whnf
      refine cond_intro (fun hx => ?_) (fun hx => ?_)
      · skip
        conv => whnf
        refine ⟨fun _ => ⟨by omega, by rw [hlen]; decide⟩, ?_⟩
        conv => whnf
        refine ⟨fun _ => ⟨by omega, by rw [hlen]; decide⟩, ?_⟩
        conv => whnf
        refine ⟨fun _ => ⟨by omega, by rw [hlen]; decide⟩, ?_⟩
        conv => whnf
        refine cond_intro (fun hy => ?_) (fun hy => ?_)
        · exfalso
          rw [he] at hy
          simp at hy
        conv => whnf
        refine ⟨by unfold inI64; omega, ?_⟩
        conv => whnf
        refine head_keep (i + 1) [0] rfl (fun k hk => ?_) ?_ ?_ ?_ ?_
        · have hk' : k < 1 := hk
          have : k = 0 := by omega
          subst this; rfl
        · rfl
        · repeat (first | exact KeepL.nil | refine KeepL.drop ?_ | refine KeepL.ren rfl ?_)
        · show i + 1 ≤ 4
          omega
        · show 4 - (i + 1) < 4 - i
          omega
      · skip
        conv => whnf
        refine ⟨fun _ => ⟨by omega, by rw [hlen]; decide⟩, ?_⟩
        conv => whnf
        refine ⟨fun _ => ⟨by omega, by rw [hlen]; decide⟩, ?_⟩
        conv => whnf
        refine ⟨fun _ => ⟨by omega, by rw [hlen]; decide⟩, ?_⟩
        conv => whnf
        refine cond_intro (fun hy => ?_) (fun hy => ?_)
        · exfalso
          rw [he] at hy
          simp at hy
        conv => whnf
        refine ⟨by unfold inI64; omega, ?_⟩
        conv => whnf
        refine head_keep (i + 1) [0] rfl (fun k hk => ?_) ?_ ?_ ?_ ?_
        · have hk' : k < 1 := hk
          have : k = 0 := by omega
          subst this; rfl
        · rfl
        · repeat (first | exact KeepL.nil | refine KeepL.drop ?_ | refine KeepL.ren rfl ?_)
        · show i + 1 ≤ 4
          omega
        · show 4 - (i + 1) < 4 - i
          omega
    · conv => whnf
      refine ⟨by unfold inI64; omega, ?_⟩
      conv => whnf
      refine ⟨by unfold inI64; omega, ?_⟩
      conv => whnf
      refine ⟨⟨by omega, by omega, by omega, by omega⟩, ?_⟩
      conv => whnf
      have hb10 := basedV_len false 10 (4294967296 + (y : Int)).toNat
      refine ⟨?_, ?_⟩
      · show ((1 + (basedV false 10 (4294967296 + (y : Int)).toNat).length : Nat) : Int) ≤ _
        omega
      conv => whnf
      have hgr : readV ((⟨#[32]⟩ : ByteArray) ++ B (basedV false (Int.toNat 10) (4294967296 + (y : Int)).toNat)) 7 = ⟨[], 7, 1, 2, 2⟩ := by
        rw [show (⟨#[32]⟩ : ByteArray) = B [32] from rfl, B_append]
        exact beyond_read _ (by omega) (by omega) 7
      refine ⟨fun _ => good31, ?_⟩
      conv => whnf
      refine ends_eq ⟨?_, rfl⟩
      rw [hgr]
      rfl
  · cases hs
end Go.Ab
