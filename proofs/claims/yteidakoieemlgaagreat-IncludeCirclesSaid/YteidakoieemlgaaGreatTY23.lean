/- IncludeCircles: the files. -/
import Derived.Test.YteidakoieemlgaaGreatTY21toY22
import Derived.KernelRfl
namespace Go.Ab
open Go.Proofs
set_option linter.unusedSectionVars false
set_option maxRecDepth 100000
variable [Glob]

/-! The example of the chapter. -/
def awN5 : ByteArray := ⟨#[109, 97, 105, 110]⟩
def awF5 : List flC.den := [(⟨#[109, 97, 105, 110]⟩, ⟨#[47, 105, 110, 99, 108, 117, 100, 101, 47, 32, 34, 97, 34, 59, 32, 47, 32, 123, 32, 112, 59, 32, 125, 59]⟩), (⟨#[97]⟩, ⟨#[47, 32, 123, 32, 113, 59, 32, 125, 59]⟩)]
def awD5 : List defC.den := [(1, ⟨#[]⟩, ⟨#[47]⟩, [], 1, 1, 1), (3, ⟨#[]⟩, ⟨#[113]⟩, [], 1, 1, 5), (2, ⟨#[]⟩, ⟨#[]⟩, [], 1, 1, 8), (1, ⟨#[]⟩, ⟨#[47]⟩, [], 0, 1, 16), (3, ⟨#[]⟩, ⟨#[112]⟩, [], 0, 1, 20), (2, ⟨#[]⟩, ⟨#[]⟩, [], 0, 1, 23)]
theorem aw5_some : (ldO 9 awF5 awN5).isSome = true := by decide +kernel
theorem aw5_lo : loV 9 awF5 awN5 = ⟨[⟨#[109, 97, 105, 110]⟩, ⟨#[97]⟩], awD5, (0, 0, 0), 0⟩ := by kernel_rfl

abbrev J4 : Table := ext (J3 9) 17 (fun args H => match args, H with | [], [] => some (none, .bool true, []) | _, _ => none)
theorem j4 : TSound Tryz.prog J4 := by
  refine ext_run (j3 9) (f := 17) (fn := Tryz.f17) rfl rfl [0, 1, 3] fun args H p r H' hs hp => ?_
  split at hs
  · cases hs
    refine ⟨Nat.zero_le _, [], rfl, fun k hk => absurd hk (Nat.not_lt_zero k), ?_⟩
    have c1 : awF5.length ≤ 1000000000 := by decide
    refine runF_shut rfl fun K0 hK0 => ?_
    refine seq_shut fun K1 hK1 => ?_
    repeat ((conv => whnf); refine ⟨by first | (unfold inI64; omega) | omega | exact ⟨by omega, by omega⟩ | exact rfl | decide +kernel, ?_⟩)
    conv => whnf
    rw [hK1]
    show runC _ _ _ (.seq _ _) _ _ _
    refine seq_shut fun K2 hK2 => ?_
    repeat ((conv => whnf); refine ⟨by first | exact ⟨rfl, c1, aw5_some⟩ | (unfold inI64; omega) | omega | exact ⟨by omega, by omega⟩ | exact rfl | decide +kernel, ?_⟩)
    conv => whnf
    rw [hK2]
    show runC _ _ _ (.seq _ _) [(0, .s (.a (.c (.bool false)))), (1, .s (.a (.c (.p (.l defC (loV 9 awF5 awN5).defs))))), (3, .s (.a (.c (.int .i64 (loV 9 awF5 awN5).err))))] _ _
    rw [aw5_lo]
    repeat ((conv => whnf); refine ⟨by first | (unfold inI64; omega) | omega | exact ⟨by omega, by omega⟩ | exact rfl | decide +kernel, ?_⟩)
    conv => whnf
    rw [hK0]
    conv => whnf
    refine ends_eq ⟨?_, rfl⟩
    kernel_rfl
  · cases hs

/-! The files of the law. -/
def nmC (i : Int) : ByteArray := bytesOf [IntKind.u8.wrap (97 + i)]
def txC (j : Int) : ByteArray := ⟨#[47, 32, 123, 32, 112, 59, 32, 125, 59, 10, 47, 105, 110, 99, 108, 117, 100, 101, 47, 32, 34]⟩ ++ nmC j ++ ⟨#[34, 59]⟩
def nxC (k to i : Nat) : Int := if i + 1 = k then (to : Int) else ((i + 1 : Nat) : Int)
def flsC (k to : Nat) : Nat → List flC.den
  | 0 => []
  | i + 1 => flsC k to i ++ [(nmC (i : Nat), txC (nxC k to i))]
def circOk (k to : Nat) : Bool := (ldO 9 (flsC k to k) ⟨#[97]⟩).isSome && decide ((loV 9 (flsC k to k) ⟨#[97]⟩).err = 10) && decide ((loV 9 (flsC k to k) ⟨#[97]⟩).pos = ((k : Int) - 1, 2, 1))
theorem circ_all : ∀ k : Fin 5, ∀ to : Fin 5, to.val < k.val + 1 → circOk (k.val + 1) to.val = true := by decide +kernel
theorem flsC_len (k to i : Nat) : (flsC k to i).length = i := by
  induction i with
  | zero => rfl
  | succ i ih => simp only [flsC, List.length_append, ih, List.length_cons, List.length_nil]
theorem circ_ok {k to : Nat} (h1 : 1 ≤ k) (h2 : k ≤ 5) (h3 : to < k) : circOk k to = true := by
  obtain ⟨j, rfl⟩ : ∃ j, k = j + 1 := ⟨k - 1, by omega⟩
  exact circ_all ⟨j, by omega⟩ ⟨to, by omega⟩ h3
end Go.Ab
