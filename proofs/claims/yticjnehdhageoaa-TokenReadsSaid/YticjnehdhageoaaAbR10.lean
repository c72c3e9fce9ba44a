/- The examples of the chapter. -/
import Derived.Test.YticjnehdhageoaaAbR9
namespace Go.Ab
open Go.Proofs
set_option linter.unusedSectionVars false
set_option maxRecDepth 100000
variable [Glob]

def aw1S : ByteArray := ⟨#[97, 58, 32, 98, 64, 49, 32, 123, 32, 120, 32, 61, 32, 60, 38, 97, 32, 48, 120, 49, 48, 62, 59, 32, 125, 59]⟩
def aw2S : ByteArray := ⟨#[34, 97, 98]⟩
theorem aw2 : (readV aw2S 2).err = 21 ∧ (readV aw2S 2).file = 2 ∧ (readV aw2S 2).line = 1 ∧ (readV aw2S 2).column = 1 := by decide +kernel
theorem aw1 : (readV aw1S 3).err = 0 ∧ (readV aw1S 3).toks.length = 13 ∧ (readV aw1S 3).toks.getD 0 tokC.dflt = (5, ⟨#[97]⟩, 0, 3, 1, 1) ∧ ((readV aw1S 3).toks.getD 7 tokC.dflt).2.2.1 = 16 := by decide +kernel

theorem good43 : eqGood Try.prog 43 := by
  refine ⟨?_, ?_⟩ <;> decide +kernel

theorem good31 : eqGood Try.prog 31 := by
  refine ⟨?_, ?_⟩ <;> decide +kernel

def T51 : Table := ext T50 9 (fun args H => match args, H with | [], [] => some (none, .bool true, []) | _, _ => none)

theorem t51 : TSound Try.prog T51 := by
  refine ext_run t50 (f := 9) (fn := Try.f9) rfl rfl [0, 1, 2, 3, 4, 5, 6] fun args H p r H' hs hp => ?_
  split at hs
  · cases hs
    refine ⟨Nat.zero_le _, [], rfl, fun k hk => absurd hk (Nat.not_lt_zero k), ?_⟩
    have hl : (readV aw1S 3).toks.length = 13 := aw1.2.1
    conv => whnf
    refine ⟨fun _ => ⟨by omega, ?_⟩, ?_⟩
    · show (0 : Int) < ((readV aw1S 3).toks.length : Int)
      omega
    conv => whnf
    refine ⟨fun _ => good43, ?_⟩
    conv => whnf
    refine ⟨fun _ => ⟨by omega, ?_⟩, ?_⟩
    · show (7 : Int) < ((readV aw1S 3).toks.length : Int)
      omega
    conv => whnf
    refine ⟨fun _ => good31, ?_⟩
    conv => whnf
    refine ends_eq ⟨?_, rfl⟩
    refine congrArg SV.bool (?_ : _ = true)
    decide +kernel
  · cases hs
end Go.Ab
