/- The tape. -/
import Derived.Test.YticjnehdhageoaaAbR2
namespace Go.Ab
open Go.Proofs
set_option linter.unusedSectionVars false
set_option maxRecDepth 100000
variable [Base]

def modV (x n : Int) : Int := if n < 1 then 0 else if x.tmod n < 0 then x.tmod n + n else x.tmod n

theorem modV_nonneg (x n : Int) : 0 ≤ modV x n := by
  unfold modV
  split
  · omega
  · have h1 := Int.tmod_lt_of_pos x (b := n) (by omega)
    have h2 := Int.lt_tmod_of_pos x (b := n) (by omega)
    split <;> omega

theorem modV_lt (x n : Int) (h : 1 ≤ n) : modV x n < n := by
  unfold modV
  rw [if_neg (by omega)]
  have h1 := Int.tmod_lt_of_pos x (b := n) (by omega)
  split <;> omega

def rawV (zs : List Int) (n : Int) : Int := if (zs.length : Int) ≤ n then 0 else zs.getD n.toNat 0
def rawN (zs : List Int) (n : Int) : Int := if (zs.length : Int) ≤ n then n else n + 1

abbrev tapeO (zs : List Int) (n : Int) : AO := .row [.p (.l (.int .i64) zs), .p (.v (.int .i64 n))]
abbrev tapeOk (zs : List Int) (n : Int) : Prop := 0 ≤ n ∧ n ≤ 4611686018427387904 ∧ zs.length ≤ 4611686018427387904

def saysTape (g : List Int → Int → Option Prop × SV × Int) : Says := fun args H => match args, H with
  | [.c (.ptr 0 0)], [.row [.p (.l (.int .i64) zs), .p (.v (.int .i64 n))]] => some ((g zs n).1, (g zs n).2.1, [tapeO zs (g zs n).2.2])
  | _, _ => none

def saysTapeI (g : List Int → Int → Int → Option Prop × SV × Int) : Says := fun args H => match args, H with
  | [.c (.ptr 0 0), .c (.p (.v (.int .i64 k)))], [.row [.p (.l (.int .i64) zs), .p (.v (.int .i64 n))]] => some ((g zs n k).1, (g zs n k).2.1, [tapeO zs (g zs n k).2.2])
  | _, _ => none

def saysTapeS (g : List Int → Int → ByteArray → Option Prop × SV × Int) : Says := fun args H => match args, H with
  | [.c (.ptr 0 0), .c (.p (.v (.string k)))], [.row [.p (.l (.int .i64) zs), .p (.v (.int .i64 n))]] => some ((g zs n k).1, (g zs n k).2.1, [tapeO zs (g zs n k).2.2])
  | _, _ => none

theorem id0 : ∀ k, k < 1 → [0][k]? = some k := fun k hk => by
  have : k = 0 := by omega
  subst this; rfl

theorem extTape {P : Program} {T : Table} (hT : TSound P T) (f : FuncId) {fn : Func} (hf : P.funcs[f]? = some fn) (hname : (fn.name == "runtime.NumGoroutine") = false) (hn : 1 ≤ fn.ntmps) (g : List Int → Int → Option Prop × SV × Int) (ks : List Nat)
    (h : ∀ zs n, holdsO (g zs n).1 → runF ⟨P, T⟩ fn ks [0] [.c (.ptr 0 0)] [tapeO zs n] fun r' H'' => Ends r' H'' (g zs n).2.1 [tapeO zs (g zs n).2.2]) : TSound P (ext T f (saysTape g)) :=
  ext_run hT hf hname ks fun args H p r H' hs hp => by
    unfold saysTape at hs
    split at hs
    · cases hs
      exact ⟨hn, [0], rfl, id0, h _ _ hp⟩
    · cases hs

theorem extTapeI {P : Program} {T : Table} (hT : TSound P T) (f : FuncId) {fn : Func} (hf : P.funcs[f]? = some fn) (hname : (fn.name == "runtime.NumGoroutine") = false) (hn : 2 ≤ fn.ntmps) (g : List Int → Int → Int → Option Prop × SV × Int) (ks : List Nat)
    (h : ∀ zs n k, holdsO (g zs n k).1 → runF ⟨P, T⟩ fn ks [0] [.c (.ptr 0 0), .c (.p (.v (.int .i64 k)))] [tapeO zs n] fun r' H'' => Ends r' H'' (g zs n k).2.1 [tapeO zs (g zs n k).2.2]) : TSound P (ext T f (saysTapeI g)) :=
  ext_run hT hf hname ks fun args H p r H' hs hp => by
    unfold saysTapeI at hs
    split at hs
    · cases hs
      exact ⟨hn, [0], rfl, id0, h _ _ _ hp⟩
    · cases hs

theorem extTapeS {P : Program} {T : Table} (hT : TSound P T) (f : FuncId) {fn : Func} (hf : P.funcs[f]? = some fn) (hname : (fn.name == "runtime.NumGoroutine") = false) (hn : 2 ≤ fn.ntmps) (g : List Int → Int → ByteArray → Option Prop × SV × Int) (ks : List Nat)
    (h : ∀ zs n k, holdsO (g zs n k).1 → runF ⟨P, T⟩ fn ks [0] [.c (.ptr 0 0), .c (.p (.v (.string k)))] [tapeO zs n] fun r' H'' => Ends r' H'' (g zs n k).2.1 [tapeO zs (g zs n k).2.2]) : TSound P (ext T f (saysTapeS g)) :=
  ext_run hT hf hname ks fun args H p r H' hs hp => by
    unfold saysTapeS at hs
    split at hs
    · cases hs
      exact ⟨hn, [0], rfl, id0, h _ _ _ hp⟩
    · cases hs

def nameL : List ByteArray := [⟨#[97]⟩, ⟨#[98]⟩, ⟨#[99]⟩, ⟨#[99, 112, 117]⟩, ⟨#[99, 108, 107]⟩, ⟨#[98, 117, 115, 64, 49, 48]⟩, ⟨#[100, 101, 118, 64, 50]⟩, ⟨#[120, 95, 49]⟩, ⟨#[122]⟩]
def propL : List ByteArray := [⟨#[114, 101, 103]⟩, ⟨#[99, 111, 109, 112, 97, 116, 105, 98, 108, 101]⟩, ⟨#[115, 116, 97, 116, 117, 115]⟩, ⟨#[99, 108, 111, 99, 107, 115]⟩, ⟨#[35, 99, 101, 108, 108, 115]⟩, ⟨#[112]⟩, ⟨#[113]⟩, ⟨#[108, 97, 98, 101, 108]⟩, ⟨#[118, 97, 108, 117, 101]⟩]
def pieceL : List ByteArray := [⟨#[97]⟩, ⟨#[110, 111, 100, 101, 64, 49]⟩, ⟨#[35, 99, 101, 108, 108, 115]⟩, ⟨#[99, 111, 109, 112, 97, 116, 105, 98, 108, 101]⟩, ⟨#[120, 58]⟩, ⟨#[108, 97, 98, 95, 49, 58]⟩, ⟨#[38, 97]⟩, ⟨#[38, 108, 97, 98, 95, 49]⟩, ⟨#[48]⟩, ⟨#[55]⟩, ⟨#[48, 49, 48]⟩, ⟨#[48, 120, 49, 102]⟩, ⟨#[48, 120, 70, 70, 70, 70, 70, 70, 70, 70]⟩, ⟨#[52, 50, 57, 52, 57, 54, 55, 50, 57, 53]⟩, ⟨#[34, 116, 101, 120, 116, 34]⟩, ⟨#[34, 97, 92, 110, 92, 120, 52, 49, 92, 34, 34]⟩, ⟨#[47, 105, 110, 99, 108, 117, 100, 101, 47]⟩, ⟨#[47, 100, 101, 108, 101, 116, 101, 45, 110, 111, 100, 101, 47]⟩, ⟨#[47]⟩, ⟨#[123]⟩, ⟨#[125]⟩, ⟨#[40]⟩, ⟨#[41]⟩, ⟨#[60]⟩, ⟨#[62]⟩, ⟨#[91]⟩, ⟨#[93]⟩, ⟨#[59]⟩, ⟨#[61]⟩, ⟨#[44]⟩, ⟨#[43]⟩, ⟨#[45]⟩, ⟨#[42]⟩, ⟨#[37]⟩, ⟨#[60, 60]⟩, ⟨#[62, 62]⟩, ⟨#[60, 61]⟩, ⟨#[62, 61]⟩, ⟨#[61, 61]⟩, ⟨#[33, 61]⟩, ⟨#[38, 38]⟩, ⟨#[124, 124]⟩, ⟨#[94]⟩, ⟨#[126]⟩, ⟨#[33]⟩, ⟨#[63]⟩, ⟨#[58]⟩, ⟨#[124]⟩, ⟨#[38]⟩, ⟨#[32]⟩, ⟨#[10]⟩, ⟨#[9]⟩, ⟨#[47, 47, 32, 110, 111, 116, 101, 10]⟩, ⟨#[47, 42, 32, 97, 10, 42, 32, 98, 32, 42, 47]⟩, ⟨#[13, 10]⟩]
def oddL : List ByteArray := [⟨#[48, 57]⟩, ⟨#[48, 120]⟩, ⟨#[48, 120, 103]⟩, ⟨#[49, 50, 97, 98]⟩, ⟨#[52, 50, 57, 52, 57, 54, 55, 50, 57, 54]⟩, ⟨#[57, 57, 57, 57, 57, 57, 57, 57, 57, 57, 57, 57, 57, 57, 57, 57, 57, 57, 57, 57]⟩, ⟨#[34]⟩, ⟨#[34, 97, 98, 10, 34]⟩, ⟨#[34, 92, 113, 34]⟩, ⟨#[34, 92, 120, 52]⟩, ⟨#[34, 92]⟩, ⟨#[47, 42]⟩, ⟨#[47, 42, 32, 120]⟩, ⟨#[47, 42, 47]⟩, ⟨#[36]⟩, ⟨#[64]⟩, ⟨#[46]⟩, ⟨#[0]⟩, ⟨#[255]⟩, ⟨#[97, 45, 98, 58]⟩, ⟨#[35, 120, 58]⟩, ⟨#[47, 97]⟩, ⟨#[47, 45, 47]⟩, ⟨#[47, 47]⟩, ⟨#[56]⟩, ⟨#[48, 56]⟩, ⟨#[39]⟩]

def pickS (l : List ByteArray) (zs : List Int) (n : Int) : ByteArray := l.getD (modV (rawV zs n) l.length).toNat ByteArray.empty

def saysNew : Says := fun args H => match args, H with
  | [.c (.p (.l (.int .i64) zs))], [] => some (none, .a (.c (.ptr 0 0)), [tapeO (zs.take 500) 0])
  | _, _ => none

def T21 : Table := ext T20 37 (saysII fun x n => (some (n ≤ 4611686018427387904), .int .i64 (modV x n)))
def T22 : Table := ext T21 38 (saysTape fun zs n => (some (tapeOk zs n), .int .i64 (rawV zs n), rawN zs n))
def T23 : Table := ext T22 24 (saysTapeI fun zs n k => (some (tapeOk zs n ∧ k ≤ 4611686018427387904), .int .i64 (modV (rawV zs n) k), rawN zs n))
def T24 : Table := ext T23 16 (saysTape fun zs n => (some (tapeOk zs n), .str (pickS nameL zs n), rawN zs n))
def T25 : Table := ext T24 17 (saysTape fun zs n => (some (tapeOk zs n), .str (pickS propL zs n), rawN zs n))
def T26 : Table := ext T25 18 (saysTape fun zs n => (some (tapeOk zs n), .str (pickS pieceL zs n), rawN zs n))
def T27 : Table := ext T26 19 (saysTape fun zs n => (some (tapeOk zs n), .str (pickS oddL zs n), rawN zs n))
def T28 : Table := ext T27 10 saysNew

theorem t21 : TSound Try.prog T21 := by
  refine extII t20 37 (fn := Try.f37) rfl rfl (by decide) _ [0, 1, 4, 6, 11] fun x n hn => ?_
  have hn' : n ≤ 4611686018427387904 := hn
  conv => whnf
  refine cond_intro (fun h => ?_) (fun h => ?_)
  · have h' : n < 1 := by simpa using h
    conv => whnf
    refine ends_eq ⟨?_, rfl⟩
    simp only [modV, if_pos h']
  · have h' : ¬ n < 1 := by simpa using h
    conv => whnf
    refine ⟨by omega, ?_⟩
    conv => whnf
    have h1 := Int.tmod_lt_of_pos x (b := n) (by omega)
    have h2 := Int.lt_tmod_of_pos x (b := n) (by omega)
    refine cond_intro (fun h2 => ?_) (fun h2 => ?_)
    · have h3 : x.tmod n < 0 := by simpa using h2
      conv => whnf
      refine ⟨by unfold inI64; omega, ?_⟩
      conv => whnf
      refine ends_eq ⟨?_, rfl⟩
      simp only [modV, if_neg h', if_pos h3]
    · have h3 : ¬ x.tmod n < 0 := by simpa using h2
      conv => whnf
      refine ends_eq ⟨?_, rfl⟩
      simp only [modV, if_neg h', if_neg h3]

theorem t22 : TSound Try.prog T22 := by
  refine extTape t21 38 (fn := Try.f38) rfl rfl (by decide) _ [0, 2, 12] fun zs n hn => ?_
  obtain ⟨h0, h1, h2⟩ : tapeOk zs n := hn
  conv => whnf
  refine ⟨by decide +kernel, ?_⟩
  conv => whnf
  refine cond_intro (fun h => ?_) (fun h => ?_)
  · have h' : (zs.length : Int) ≤ n := by simpa using h
    conv => whnf
    refine ends_eq ⟨?_, ?_⟩ <;> simp only [rawV, rawN, if_pos h']
  · have h' : ¬ (zs.length : Int) ≤ n := by simpa using h
    conv => whnf
    refine ⟨by unfold inI64; omega, ?_⟩
    conv => whnf
    refine ⟨by unfold inI64; omega, ?_⟩
    conv => whnf
    refine ⟨by omega, ?_⟩
    conv => whnf
    refine ⟨by decide +kernel, ?_⟩
    conv => whnf
    refine ends_eq ⟨?_, ?_⟩ <;> simp only [rawV, rawN, if_neg h']
    rw [show n + 1 - 1 = n from by omega]
    rfl

theorem t23 : TSound Try.prog T23 := by
  refine extTapeI t22 24 (fn := Try.f24) rfl rfl (by decide) _ [0, 1, 4] fun zs n k hn => ?_
  obtain ⟨h0, h1⟩ : tapeOk zs n ∧ k ≤ 4611686018427387904 := hn
  conv => whnf
  refine ⟨h0, ?_⟩
  conv => whnf
  refine ⟨h1, ?_⟩
  conv => whnf
  exact ends_eq ⟨rfl, rfl⟩

theorem t24 : TSound Try.prog T24 := by
  refine extTape t23 16 (fn := Try.f16) rfl rfl (by decide) _ [0, 2, 3] fun zs n hn => ?_
  conv => whnf
  refine ⟨⟨hn, by decide⟩, ?_⟩
  conv => whnf
  refine ⟨⟨modV_nonneg _ _, modV_lt _ _ (by decide)⟩, ?_⟩
  conv => whnf
  exact ends_eq ⟨rfl, rfl⟩

theorem t25 : TSound Try.prog T25 := by
  refine extTape t24 17 (fn := Try.f17) rfl rfl (by decide) _ [0, 2, 3] fun zs n hn => ?_
  conv => whnf
  refine ⟨⟨hn, by decide⟩, ?_⟩
  conv => whnf
  refine ⟨⟨modV_nonneg _ _, modV_lt _ _ (by decide)⟩, ?_⟩
  conv => whnf
  exact ends_eq ⟨rfl, rfl⟩

theorem t26 : TSound Try.prog T26 := by
  refine extTape t25 18 (fn := Try.f18) rfl rfl (by decide) _ [0, 2, 3] fun zs n hn => ?_
  conv => whnf
  refine ⟨⟨hn, by decide⟩, ?_⟩
  conv => whnf
  refine ⟨⟨modV_nonneg _ _, modV_lt _ _ (by decide)⟩, ?_⟩
  conv => whnf
  exact ends_eq ⟨rfl, rfl⟩

theorem t27 : TSound Try.prog T27 := by
  refine extTape t26 19 (fn := Try.f19) rfl rfl (by decide) _ [0, 2, 3] fun zs n hn => ?_
  conv => whnf
  refine ⟨⟨hn, by decide⟩, ?_⟩
  conv => whnf
  refine ⟨⟨modV_nonneg _ _, modV_lt _ _ (by decide)⟩, ?_⟩
  conv => whnf
  exact ends_eq ⟨rfl, rfl⟩

theorem new_take (zs : List Int) : List.drop (Int.toNat 0) (List.take (if 500 < (zs.length : Int) then 500 else (zs.length : Int)).toNat zs) = zs.take 500 := by
  show List.take _ zs = _
  split
  · rfl
  · rw [List.take_of_length_le (by omega), List.take_of_length_le (by omega)]

theorem t28 : TSound Try.prog T28 := by
  refine ext_run t27 (f := 10) (fn := Try.f10) rfl rfl [0, 2] fun args H p r H' hs hp => ?_
  unfold saysNew at hs
  split at hs
  · cases hs
    refine ⟨by show 1 ≤ _; decide, [0], rfl, fun k hk => absurd hk (Nat.not_lt_zero k), ?_⟩
    conv => whnf
    rename_i zs
    refine ⟨⟨by omega, by split <;> omega, by split <;> omega⟩, ?_⟩
    conv => whnf
    refine ends_eq ⟨rfl, ?_⟩
    rw [new_take zs]
  · cases hs
end Go.Ab
