/- The tape. -/
import Derived.Test.YtpeeeiaihjilnaaGreatTR1toR2
namespace Go.Ab
open Go.Proofs
set_option linter.unusedSectionVars false
set_option maxRecDepth 100000
variable [Base]
def modV (x n : Int) : Int := if n < 1 then 0 else if x.tmod n < 0 then x.tmod n + n else x.tmod n
theorem mN9 (x n : Int) : 0 ≤ modV x n := by
 unfold modV
 split
 ·omega
 ·have h1 := Int.tmod_lt_of_pos x (b := n) (by omega)
  have h2 := Int.lt_tmod_of_pos x (b := n) (by omega)
  split <;> omega
theorem modV_lt (x n : Int) (h : 1 ≤ n) : modV x n < n := by
 unfold modV
 rw [if_neg (by omega)]
 have h1 := Int.tmod_lt_of_pos x (b := n) (by omega)
 split <;> omega
def rawV (zs : List Int) (n : Int) : Int := if (zs.length : Int) ≤ n then 0 else zs.getD n.toNat 0
def rawN (zs : List Int) (n : Int) : Int := if (zs.length : Int) ≤ n then n else n + 1
abbrev tapeO (zs : List Int) (n : Int) : AO := .row [.p (.l (.int .i64) zs), .p (.v (.int .i64 n))]
abbrev tapeOk (zs : List Int) (n : Int) : Prop := 0 ≤ n ∧ n ≤ 4611686018427387904 ∧ zs.length ≤ 4611686018427387904
def saysTape (g : List Int → Int → Option Prop × SV × Int) : Says := fun args H => match args, H with
 | [.c (.ptr 0 0)], [.row [.p (.l (.int .i64) zs), .p (.v (.int .i64 n))]] => some ((g zs n).1, (g zs n).2.1, [tapeO zs (g zs n).2.2])
 | _, _ => none
def saysTapeI (g : List Int → Int → Int → Option Prop × SV × Int) : Says := fun args H => match args, H with
 | [.c (.ptr 0 0), .c (.p (.v (.int .i64 k)))], [.row [.p (.l (.int .i64) zs), .p (.v (.int .i64 n))]] => some ((g zs n k).1, (g zs n k).2.1, [tapeO zs (g zs n k).2.2])
 | _, _ => none
def saysTapeS (g : List Int → Int → ByteArray → Option Prop × SV × Int) : Says := fun args H => match args, H with
 | [.c (.ptr 0 0), .c (.p (.v (.string k)))], [.row [.p (.l (.int .i64) zs), .p (.v (.int .i64 n))]] => some ((g zs n k).1, (g zs n k).2.1, [tapeO zs (g zs n k).2.2])
 | _, _ => none
theorem id0 : ∀ k, k < 1 → [0][k]? = some k := fun k hk => by
 have : k = 0 := by omega
 subst this; rfl
theorem extTape {P : Program} {T : Table} (hT : TSound P T) (f : FuncId) {fn : Func} (hf : P.funcs[f]? = some fn) (hname : (fn.name == "runtime.NumGoroutine") = false) (hn : 1 ≤ fn.ntmps) (g : List Int → Int → Option Prop × SV × Int) (ks : List Nat)
  (h : ∀ zs n, holdsO (g zs n).1 → runF ⟨P, T⟩ fn ks [0] [.c (.ptr 0 0)] [tapeO zs n] fun r' H'' => Ends r' H'' (g zs n).2.1 [tapeO zs (g zs n).2.2]) : TSound P (ext T f (saysTape g)) :=
 ext_run hT hf hname ks fun args H p r H' hs hp => by
  unfold saysTape at hs
  split at hs
  ·cases hs
   exact ⟨hn, [0], rfl, id0, h _ _ hp⟩
  ·cases hs
theorem extTapeI {P : Program} {T : Table} (hT : TSound P T) (f : FuncId) {fn : Func} (hf : P.funcs[f]? = some fn) (hname : (fn.name == "runtime.NumGoroutine") = false) (hn : 2 ≤ fn.ntmps) (g : List Int → Int → Int → Option Prop × SV × Int) (ks : List Nat)
  (h : ∀ zs n k, holdsO (g zs n k).1 → runF ⟨P, T⟩ fn ks [0] [.c (.ptr 0 0), .c (.p (.v (.int .i64 k)))] [tapeO zs n] fun r' H'' => Ends r' H'' (g zs n k).2.1 [tapeO zs (g zs n k).2.2]) : TSound P (ext T f (saysTapeI g)) :=
 ext_run hT hf hname ks fun args H p r H' hs hp => by
  unfold saysTapeI at hs
  split at hs
  ·cases hs
   exact ⟨hn, [0], rfl, id0, h _ _ _ hp⟩
  ·cases hs
theorem extTapeS {P : Program} {T : Table} (hT : TSound P T) (f : FuncId) {fn : Func} (hf : P.funcs[f]? = some fn) (hname : (fn.name == "runtime.NumGoroutine") = false) (hn : 2 ≤ fn.ntmps) (g : List Int → Int → ByteArray → Option Prop × SV × Int) (ks : List Nat)
  (h : ∀ zs n k, holdsO (g zs n k).1 → runF ⟨P, T⟩ fn ks [0] [.c (.ptr 0 0), .c (.p (.v (.string k)))] [tapeO zs n] fun r' H'' => Ends r' H'' (g zs n k).2.1 [tapeO zs (g zs n k).2.2]) : TSound P (ext T f (saysTapeS g)) :=
 ext_run hT hf hname ks fun args H p r H' hs hp => by
  unfold saysTapeS at hs
  split at hs
  ·cases hs
   exact ⟨hn, [0], rfl, id0, h _ _ _ hp⟩
  ·cases hs
def nameL : List ByteArray := [⟨#[97]⟩, ⟨#[98]⟩, ⟨#[99]⟩, ⟨#[99, 112, 117]⟩, ⟨#[99, 108, 107]⟩, ⟨#[98, 117, 115, 64, 49, 48]⟩, ⟨#[100, 101, 118, 64, 50]⟩, ⟨#[120, 95, 49]⟩, ⟨#[122]⟩]
def propL : List ByteArray := [⟨#[114, 101, 103]⟩, ⟨#[99, 111, 109, 112, 97, 116, 105, 98, 108, 101]⟩, ⟨#[115, 116, 97, 116, 117, 115]⟩, ⟨#[99, 108, 111, 99, 107, 115]⟩, ⟨#[35, 99, 101, 108, 108, 115]⟩, ⟨#[112]⟩, ⟨#[113]⟩, ⟨#[108, 97, 98, 101, 108]⟩, ⟨#[118, 97, 108, 117, 101]⟩]
def pieceL : List ByteArray := [⟨#[97]⟩, ⟨#[110, 111, 100, 101, 64, 49]⟩, ⟨#[35, 99, 101, 108, 108, 115]⟩, ⟨#[99, 111, 109, 112, 97, 116, 105, 98, 108, 101]⟩, ⟨#[120, 58]⟩, ⟨#[108, 97, 98, 95, 49, 58]⟩, ⟨#[38, 97]⟩, ⟨#[38, 108, 97, 98, 95, 49]⟩, ⟨#[48]⟩, ⟨#[55]⟩, ⟨#[48, 49, 48]⟩, ⟨#[48, 120, 49, 102]⟩, ⟨#[48, 120, 70, 70, 70, 70, 70, 70, 70, 70]⟩, ⟨#[52, 50, 57, 52, 57, 54, 55, 50, 57, 53]⟩, ⟨#[34, 116, 101, 120, 116, 34]⟩, ⟨#[34, 97, 92, 110, 92, 120, 52, 49, 92, 34, 34]⟩, ⟨#[47, 105, 110, 99, 108, 117, 100, 101, 47]⟩, ⟨#[47, 100, 101, 108, 101, 116, 101, 45, 110, 111, 100, 101, 47]⟩, ⟨#[47]⟩, ⟨#[123]⟩, ⟨#[125]⟩, ⟨#[40]⟩, ⟨#[41]⟩, ⟨#[60]⟩, ⟨#[62]⟩, ⟨#[91]⟩, ⟨#[93]⟩, ⟨#[59]⟩, ⟨#[61]⟩, ⟨#[44]⟩, ⟨#[43]⟩, ⟨#[45]⟩, ⟨#[42]⟩, ⟨#[37]⟩, ⟨#[60, 60]⟩, ⟨#[62, 62]⟩, ⟨#[60, 61]⟩, ⟨#[62, 61]⟩, ⟨#[61, 61]⟩, ⟨#[33, 61]⟩, ⟨#[38, 38]⟩, ⟨#[124, 124]⟩, ⟨#[94]⟩, ⟨#[126]⟩, ⟨#[33]⟩, ⟨#[63]⟩, ⟨#[58]⟩, ⟨#[124]⟩, ⟨#[38]⟩, ⟨#[32]⟩, ⟨#[10]⟩, ⟨#[9]⟩, ⟨#[47, 47, 32, 110, 111, 116, 101, 10]⟩, ⟨#[47, 42, 32, 97, 10, 42, 32, 98, 32, 42, 47]⟩, ⟨#[13, 10]⟩]
def oddL : List ByteArray := [⟨#[48, 57]⟩, ⟨#[48, 120]⟩, ⟨#[48, 120, 103]⟩, ⟨#[49, 50, 97, 98]⟩, ⟨#[52, 50, 57, 52, 57, 54, 55, 50, 57, 54]⟩, ⟨#[57, 57, 57, 57, 57, 57, 57, 57, 57, 57, 57, 57, 57, 57, 57, 57, 57, 57, 57, 57]⟩, ⟨#[34]⟩, ⟨#[34, 97, 98, 10, 34]⟩, ⟨#[34, 92, 113, 34]⟩, ⟨#[34, 92, 120, 52]⟩, ⟨#[34, 92]⟩, ⟨#[47, 42]⟩, ⟨#[47, 42, 32, 120]⟩, ⟨#[47, 42, 47]⟩, ⟨#[36]⟩, ⟨#[64]⟩, ⟨#[46]⟩, ⟨#[0]⟩, ⟨#[255]⟩, ⟨#[97, 45, 98, 58]⟩, ⟨#[35, 120, 58]⟩, ⟨#[47, 97]⟩, ⟨#[47, 45, 47]⟩, ⟨#[47, 47]⟩, ⟨#[56]⟩, ⟨#[48, 56]⟩, ⟨#[39]⟩]
def pickS (l : List ByteArray) (zs : List Int) (n : Int) : ByteArray := l.getD (modV (rawV zs n) l.length).toNat ByteArray.empty
def saysNew : Says := fun args H => match args, H with
 | [.c (.p (.l (.int .i64) zs))], [] => some (none, .a (.c (.ptr 0 0)), [tapeO (zs.take 500) 0])
 | _, _ => none
def T21 : Table := ext T20 39 (saysII fun x n => (some (n ≤ 4611686018427387904), .int .i64 (modV x n)))
def T22 : Table := ext T21 40 (saysTape fun zs n => (some (tapeOk zs n), .int .i64 (rawV zs n), rawN zs n))
def T23 : Table := ext T22 18 (saysTapeI fun zs n k => (some (tapeOk zs n ∧ k ≤ 4611686018427387904), .int .i64 (modV (rawV zs n) k), rawN zs n))
def T24 : Table := ext T23 45 (saysTape fun zs n => (some (tapeOk zs n), .str (pickS nameL zs n), rawN zs n))
def T25 : Table := ext T24 43 (saysTape fun zs n => (some (tapeOk zs n), .str (pickS propL zs n), rawN zs n))
def T26 : Table := ext T25 28 (saysTape fun zs n => (some (tapeOk zs n), .str (pickS pieceL zs n), rawN zs n))
def T27 : Table := ext T26 24 (saysTape fun zs n => (some (tapeOk zs n), .str (pickS oddL zs n), rawN zs n))
def T28 : Table := ext T27 8 saysNew
theorem t21 : TSound Tryz.prog T21 := by
 refine extII t20 39 (fn := Tryz.f39) rfl rfl (by decide) _ [0, 1, 4, 6, 11] fun x n hn => ?_
 have hn' : n ≤ 4611686018427387904 := hn
 conv => whnf
 refine cI9 (fun h => ?_) (fun h => ?_)
 ·have h' : n < 1 := by simpa using h
  conv => whnf
  refine eE9 ⟨?_, rfl⟩
  simp only [modV, if_pos h']
 ·have h' : ¬ n < 1 := by simpa using h
  conv => whnf
  refine ⟨by omega, ?_⟩
  conv => whnf
  have h1 := Int.tmod_lt_of_pos x (b := n) (by omega)
  have h2 := Int.lt_tmod_of_pos x (b := n) (by omega)
  refine cI9 (fun h2 => ?_) (fun h2 => ?_)
  ·have h3 : x.tmod n < 0 := by simpa using h2
   conv => whnf
   refine ⟨by unfold inI64; omega, ?_⟩
   conv => whnf
   refine eE9 ⟨?_, rfl⟩
   simp only [modV, if_neg h', if_pos h3]
  ·have h3 : ¬ x.tmod n < 0 := by simpa using h2
   conv => whnf
   refine eE9 ⟨?_, rfl⟩
   simp only [modV, if_neg h', if_neg h3]
theorem t22 : TSound Tryz.prog T22 := by
 refine extTape t21 40 (fn := Tryz.f40) rfl rfl (by decide) _ [0, 2, 12] fun zs n hn => ?_
 obtain ⟨h0, h1, h2⟩ : tapeOk zs n := hn
 conv => whnf
 refine ⟨by decide +kernel, ?_⟩
 conv => whnf
 refine cI9 (fun h => ?_) (fun h => ?_)
 ·have h' : (zs.length : Int) ≤ n := by simpa using h
  conv => whnf
  refine eE9 ⟨?_, ?_⟩ <;> simp only [rawV, rawN, if_pos h']
 ·have h' : ¬ (zs.length : Int) ≤ n := by simpa using h
  conv => whnf
  refine ⟨by unfold inI64; omega, ?_⟩
  conv => whnf
  refine ⟨by unfold inI64; omega, ?_⟩
  conv => whnf
  refine ⟨by omega, ?_⟩
  conv => whnf
  refine ⟨by decide +kernel, ?_⟩
  conv => whnf
  refine eE9 ⟨?_, ?_⟩ <;> simp only [rawV, rawN, if_neg h']
  rw [show n + 1 - 1 = n from by omega]
  rfl
theorem t23 : TSound Tryz.prog T23 := by
 refine extTapeI t22 18 (fn := Tryz.f18) rfl rfl (by decide) _ [0, 1, 4] fun zs n k hn => ?_
 obtain ⟨h0, h1⟩ : tapeOk zs n ∧ k ≤ 4611686018427387904 := hn
 conv => whnf
 refine ⟨h0, ?_⟩
 conv => whnf
 refine ⟨h1, ?_⟩
 conv => whnf
 exact eE9 ⟨rfl, rfl⟩
theorem t24 : TSound Tryz.prog T24 := by
 refine extTape t23 45 (fn := Tryz.f45) rfl rfl (by decide) _ [0, 2, 3] fun zs n hn => ?_
 conv => whnf
 refine ⟨⟨hn, by decide⟩, ?_⟩
 conv => whnf
 refine ⟨⟨mN9 _ _, modV_lt _ _ (by decide)⟩, ?_⟩
 conv => whnf
 exact eE9 ⟨rfl, rfl⟩
theorem t25 : TSound Tryz.prog T25 := by
 refine extTape t24 43 (fn := Tryz.f43) rfl rfl (by decide) _ [0, 2, 3] fun zs n hn => ?_
 conv => whnf
 refine ⟨⟨hn, by decide⟩, ?_⟩
 conv => whnf
 refine ⟨⟨mN9 _ _, modV_lt _ _ (by decide)⟩, ?_⟩
 conv => whnf
 exact eE9 ⟨rfl, rfl⟩
theorem t26 : TSound Tryz.prog T26 := by
 refine extTape t25 28 (fn := Tryz.f28) rfl rfl (by decide) _ [0, 2, 3] fun zs n hn => ?_
 conv => whnf
 refine ⟨⟨hn, by decide⟩, ?_⟩
 conv => whnf
 refine ⟨⟨mN9 _ _, modV_lt _ _ (by decide)⟩, ?_⟩
 conv => whnf
 exact eE9 ⟨rfl, rfl⟩
theorem t27 : TSound Tryz.prog T27 := by
 refine extTape t26 24 (fn := Tryz.f24) rfl rfl (by decide) _ [0, 2, 3] fun zs n hn => ?_
 conv => whnf
 refine ⟨⟨hn, by decide⟩, ?_⟩
 conv => whnf
 refine ⟨⟨mN9 _ _, modV_lt _ _ (by decide)⟩, ?_⟩
 conv => whnf
 exact eE9 ⟨rfl, rfl⟩
theorem new_take (zs : List Int) : List.drop (Int.toNat 0) (List.take (if 500 < (zs.length : Int) then 500 else (zs.length : Int)).toNat zs) = zs.take 500 := by
 show List.take _ zs = _
 split
 ·rfl
 ·rw [List.take_of_length_le (by omega), List.take_of_length_le (by omega)]
theorem t28 : TSound Tryz.prog T28 := by
 refine ext_run t27 (f := 8) (fn := Tryz.f8) rfl rfl [0, 2] fun args H p r H' hs hp => ?_
 unfold saysNew at hs
 split at hs
 ·cases hs
  refine ⟨by show 1 ≤ _; decide, [0], rfl, fun k hk => absurd hk (Nat.not_lt_zero k), ?_⟩
  conv => whnf
  rename_i zs
  refine ⟨⟨by omega, by split <;> omega, by split <;> omega⟩, ?_⟩
  conv => whnf
  refine eE9 ⟨rfl, ?_⟩
  rw [new_take zs]
 ·cases hs
theorem wrap_u8 {n : Int} (h0 : 0 ≤ n) (h1 : n < 256) : IntKind.u8.wrap n = n := by
 simp only [IntKind.wrap, IntKind.bits, IntKind.signed, Bool.false_and]
 simp
 omega
def digitV (c : Int) : Int := if digitB c then c - 48 else if decide (97 ≤ c) && decide (c ≤ 102) then c - 97 + 10 else if decide (65 ≤ c) && decide (c ≤ 70) then c - 65 + 10 else 16
def endB (s : ByteArray) (i : Int) : Bool := decide ((s.size : Int) ≤ i) || decide (byteAt s i = 10)
theorem digitV_range (c : Int) : 0 ≤ digitV c ∧ digitV c ≤ 16 := by
 unfold digitV digitB
 split
 ·rename_i h; simp at h; omega
 ·split
  ·rename_i h; simp at h; omega
  ·split
   ·rename_i h; simp at h; omega
   ·omega
structure TokV where
 kind : Int := 0
 text : ByteArray := ⟨#[]⟩
 value : Int := 0
 file : Int := 0
 line : Int := 0
 column : Int := 0
def TokV.av (t : TokV) : AV := .agg [.int .i64 t.kind, .str t.text, .int .i64 t.value, .int .i64 t.file, .int .i64 t.line, .int .i64 t.column]
def escGo (s : ByteArray) : Nat → Nat → Int → Int × Int × Int
 | 0, _, v => (IntKind.u8.wrap v, 4, 0)
 | k + 1, i, v => if endB s (2 + i) then (0, 0, 21) else if digitV (byteAt s (2 + i)) = 16 then (0, 0, 6) else escGo s k (i + 1) (v * 16 + digitV (byteAt s (2 + i)))
def escNum (s : ByteArray) : Int × Int × Int := escGo s 2 0 0
def escV (s : ByteArray) : Int × Int × Int :=
 if endB s 1 then (0, 0, 21) else if byteAt s 1 = 110 then (10, 2, 0) else if byteAt s 1 = 116 then (9, 2, 0) else if byteAt s 1 = 34 then (byteAt s 1, 2, 0) else if byteAt s 1 = 92 then (byteAt s 1, 2, 0)
 else if byteAt s 1 = 120 then escNum s else (0, 0, 6)
def escSV (x : Int × Int × Int) : SV := .tup [.c (.int .u8 x.1), .c (.int .i64 x.2.1), .c (.int .i64 x.2.2)]
def T29 : Table := ext T28 144 (saysU fun c => (none, .int .i64 (digitV c)))
def T30 : Table := ext T29 130 (saysSI fun s i => (some (0 ≤ i), .bool (endB s i)))
def T31 : Table := ext T30 145 (saysS fun s => (none, escSV (escNum s)))
def T32 : Table := ext T31 131 (saysS fun s => (none, escSV (escV s)))
theorem t29 : TSound Tryz.prog T29 := by
 refine extU t28 144 (fn := Tryz.f144) rfl rfl (by decide) _ [0, 2, 3, 9, 20] fun c _ => ?_
 conv => whnf
 refine cI9 (fun h => ?_) (fun h => ?_)
 ·have h' : 48 ≤ c ∧ c ≤ 57 := by simpa [digitB] using h
  have hw : IntKind.u8.wrap (c - 48) = c - 48 := wrap_u8 (by omega) (by omega)
  conv => whnf
  refine ⟨by unfold inI64; omega, ?_⟩
  conv => whnf
  refine eE9 ⟨?_, rfl⟩
  rw [hw]
  simp only [digitV, h, if_true]
 ·conv => whnf
  refine cI9 (fun h2 => ?_) (fun h2 => ?_)
  ·have h' : 97 ≤ c ∧ c ≤ 102 := by simpa using h2
   have hw : IntKind.u8.wrap (c - 97) = c - 97 := wrap_u8 (by omega) (by omega)
   conv => whnf
   refine ⟨by unfold inI64; omega, ?_⟩
   conv => whnf
   refine ⟨by unfold inI64; omega, ?_⟩
   conv => whnf
   refine eE9 ⟨?_, rfl⟩
   rw [hw]
   simp only [digitV, h, h2, if_true, Bool.false_eq_true, if_false]
  ·conv => whnf
   refine cI9 (fun h3 => ?_) (fun h3 => ?_)
   ·have h' : 65 ≤ c ∧ c ≤ 70 := by simpa using h3
    have hw : IntKind.u8.wrap (c - 65) = c - 65 := wrap_u8 (by omega) (by omega)
    conv => whnf
    refine ⟨by unfold inI64; omega, ?_⟩
    conv => whnf
    refine ⟨by unfold inI64; omega, ?_⟩
    conv => whnf
    refine eE9 ⟨?_, rfl⟩
    rw [hw]
    simp only [digitV, h, h2, h3, if_true, Bool.false_eq_true, if_false]
   ·conv => whnf
    refine eE9 ⟨?_, rfl⟩
    simp only [digitV, h, h2, h3, Bool.false_eq_true, if_false]
theorem t30 : TSound Tryz.prog T30 := by
 refine extSI t29 130 (fn := Tryz.f130) rfl rfl (by decide) _ [0, 1, 4] fun s i hi => ?_
 have hi' : 0 ≤ i := hi
 conv => whnf
 refine ⟨fun h => ?_, ?_⟩
 ·simp [lit] at h; omega
 conv => whnf
 exact eE9 ⟨rfl, rfl⟩
theorem end_lt {s : ByteArray} {i : Int} (h : endB s i = false) : i < s.size ∧ byteAt s i ≠ 10 := by
 unfold endB at h; simp at h; omega
theorem t31 : TSound Tryz.prog T31 := by
 refine extS t30 145 (fn := Tryz.f145) rfl rfl (by decide) _ [0, 2, 3, 4, 5, 6, 7, 8, 9, 14, 21] fun s hs => ?_
 conv => whnf
 refine lI9 (σ := Nat × Int) (fun ⟨i, v⟩ => [(0, XV.s (SV.str s)), (2, XV.s (.int .u8 0)), (3, XV.s (.int .i64 0)), (4, XV.s (.int .i64 0)), (5, XV.s (.int .i64 v)), (6, XV.s .none), (7, XV.s .none), (8, XV.s (.int .i64 i)), (9, XV.s .none), (14, XV.s .none), (21, XV.s .none)]) (fun _ => [])
  (fun ⟨i, v⟩ => i ≤ 2 ∧ 0 ≤ v ∧ ((i ≤ 1 → v ≤ 16 * i) ∧ v ≤ 1000) ∧ escGo s (2 - i) i v = escNum s) (fun ⟨i, _⟩ => 2 - i) (0, 0) ?_ rfl ?_ fun ⟨i, v⟩ hI => ?_
 ·repeat (first | exact LeL.nil | refine LeL.drop ?_ | refine LeL.same ?_)
 ·exact ⟨by omega, by omega, ⟨fun _ => by omega, by omega⟩, rfl⟩
 obtain ⟨hi, hv0, ⟨hv1, hv3⟩, hgo⟩ := hI
 have hd := digitV_range (byteAt s (2 + i))
 conv => whnf
 refine cI9 (fun h => ?_) (fun h => ?_)
 ·have h' : i < 2 := by have : (i : Int) < 2 := by simpa using h
                        omega
  have hk : 2 - i = (1 - i) + 1 := by omega
  rw [hk] at hgo
  simp only [escGo] at hgo
  have hv2 : v ≤ 16 := by
   have := hv1 (by omega)
   omega
  conv => whnf
  refine ⟨by unfold inI64; omega, ?_⟩
  conv => whnf
  refine ⟨by omega, ?_⟩
  conv => whnf
  refine cI9 (fun h2 => ?_) (fun h2 => ?_)
  ·have h2' : endB s (2 + i) = true := h2
   conv => whnf
   refine eE9 ⟨?_, rfl⟩
   rw [if_pos h2'] at hgo
   rw [← hgo]
   rfl
  ·have h2' : endB s (2 + i) = false := h2
   have := end_lt h2'
   rw [if_neg (by rw [h2']; decide)] at hgo
   conv => whnf
   refine ⟨by unfold inI64; omega, ?_⟩
   conv => whnf
   refine ⟨by omega, ?_⟩
   conv => whnf
   refine cI9 (fun h3 => ?_) (fun h3 => ?_)
   ·have h3' : digitV (byteAt s (2 + i)) = 16 := by simpa using h3
    conv => whnf
    refine eE9 ⟨?_, rfl⟩
    rw [if_pos h3'] at hgo
    rw [← hgo]
    rfl
   ·have h3' : ¬ digitV (byteAt s (2 + i)) = 16 := by simpa using h3
    rw [if_neg h3'] at hgo
    conv => whnf
    refine ⟨by unfold inI64; omega, ?_⟩
    conv => whnf
    refine ⟨by unfold inI64; omega, ?_⟩
    conv => whnf
    refine ⟨by unfold inI64; omega, ?_⟩
    conv => whnf
    refine hI9 (i + 1, v * 16 + digitV (byteAt s (2 + i))) ?_ rfl ?_ ?_
    ·repeat (first | exact LeL.nil | refine LeL.drop ?_ | refine LeL.same ?_)
    ·refine ⟨by omega, by omega, ⟨fun h => ?_, by omega⟩, ?_⟩
     ·have := hv1 (by omega)
      have h0 : i = 0 := by omega
      subst h0
      omega
     ·rw [← hgo, show 2 - (i + 1) = 1 - i from by omega]
    ·show 2 - (i + 1) < 2 - i
     omega
 ·have h' : i = 2 := by have : ¬ (i : Int) < 2 := by simpa using h
                        omega
  subst h'
  conv => whnf
  refine eE9 ⟨?_, rfl⟩
  show _ = escSV (escNum s)
  rw [← hgo]
  rfl
theorem t32 : TSound Tryz.prog T32 := by
 refine extS t31 131 (fn := Tryz.f131) rfl rfl (by decide) _ [0, 2, 3, 4, 5, 7, 10, 11, 13, 15, 19] fun s hs => ?_
 conv => whnf
 refine ⟨by omega, ?_⟩
 conv => whnf
 refine cI9 (fun h => ?_) (fun h => ?_)
 ·have h' : endB s 1 = true := h
  conv => whnf
  refine eE9 ⟨?_, rfl⟩
  simp only [escV, h', if_true]
  rfl
 have h' : endB s 1 = false := h
 have := end_lt h'
 conv => whnf
 refine ⟨by omega, ?_⟩
 conv => whnf
 refine cI9 (fun h1 => ?_) (fun h1 => ?_)
 ·have h1' : byteAt s 1 = 110 := by simpa using h1
  conv => whnf
  refine eE9 ⟨?_, rfl⟩
  simp only [escV, h', h1', if_true, Bool.false_eq_true, if_false]
  rfl
 have h1' : ¬ byteAt s 1 = 110 := by simpa using h1
 conv => whnf
 refine cI9 (fun h2 => ?_) (fun h2 => ?_)
 ·have h2' : byteAt s 1 = 116 := by simpa using h2
  conv => whnf
  refine eE9 ⟨?_, rfl⟩
  simp only [escV, h', if_neg h1', if_pos h2', Bool.false_eq_true, if_false]
  rfl
 have h2' : ¬ byteAt s 1 = 116 := by simpa using h2
 conv => whnf
 refine cI9 (fun h3 => ?_) (fun h3 => ?_)
 ·have h3' : byteAt s 1 = 34 := by simpa using h3
  conv => whnf
  refine eE9 ⟨?_, rfl⟩
  simp only [escV, h', if_neg h1', if_neg h2', if_pos h3', Bool.false_eq_true, if_false]
  rfl
 have h3' : ¬ byteAt s 1 = 34 := by simpa using h3
 conv => whnf
 refine cI9 (fun h4 => ?_) (fun h4 => ?_)
 ·have h4' : byteAt s 1 = 92 := by simpa using h4
  conv => whnf
  refine eE9 ⟨?_, rfl⟩
  simp only [escV, h', if_neg h1', if_neg h2', if_neg h3', if_pos h4', Bool.false_eq_true, if_false]
  rfl
 have h4' : ¬ byteAt s 1 = 92 := by simpa using h4
 conv => whnf
 refine cI9 (fun h5 => ?_) (fun h5 => ?_)
 ·have h5' : byteAt s 1 = 120 := by simpa using h5
  conv => whnf
  refine eE9 ⟨?_, rfl⟩
  simp only [escV, h', if_neg h1', if_neg h2', if_neg h3', if_neg h4', if_pos h5', Bool.false_eq_true, if_false]
  rfl
 have h5' : ¬ byteAt s 1 = 120 := by simpa using h5
 conv => whnf
 refine eE9 ⟨?_, rfl⟩
 simp only [escV, h', if_neg h1', if_neg h2', if_neg h3', if_neg h4', if_neg h5', Bool.false_eq_true, if_false]
 rfl
def strGo (s : ByteArray) : Nat → Int → List Int → TokV × Int × Int
 | 0, _, _ => ({}, 0, 21)
 | k + 1, at', out =>
  if endB s at' then ({}, 0, 21)
  else if byteAt s at' = 34 then ({ kind := 3, text := bytesOf out }, at' + 1, 0)
  else if byteAt s at' = 92 then
   if (escV (s.extract at'.toNat s.size)).2.2 = 0 then strGo s k (at' + (escV (s.extract at'.toNat s.size)).2.1) (out ++ [(escV (s.extract at'.toNat s.size)).1])
   else ({}, 0, (escV (s.extract at'.toNat s.size)).2.2)
  else strGo s k (at' + 1) (out ++ [byteAt s at'])
def cutStr (s : ByteArray) : TokV × Int × Int := strGo s s.size 1 []
def cutSV (x : TokV × Int × Int) : SV := .tup [x.1.av, .c (.int .i64 x.2.1), .c (.int .i64 x.2.2)]
def T33 : Table := ext T32 100 (saysS fun s => (some (fits s), cutSV (cutStr s)))
theorem escNum_n (s : ByteArray) : (escNum s).2.2 = 0 → (escNum s).2.1 = 4 := by
 unfold escNum escGo
 repeat' split
 all_goals simp [escGo]
 repeat' split
 all_goals simp
theorem escV_n (s : ByteArray) (h : (escV s).2.2 = 0) : (escV s).2.1 = 2 ∨ (escV s).2.1 = 4 := by
 revert h
 unfold escV
 repeat' split
 all_goals first | (intro h; exact .inr (escNum_n s h)) | simp
theorem t33 : TSound Tryz.prog T33 := by
 refine extS t32 100 (fn := Tryz.f100) rfl rfl (by decide) _ [0, 2, 3, 4, 5, 6, 7, 8, 9, 13, 16, 25, 32, 34, 43] fun s hs => ?_
 have hs' : s.size ≤ 1000000000 := hs
 conv => whnf
 refine loop_weak (σ := Int × List Int × Nat) (fun ⟨i, zs, _⟩ => [(0, XV.s (SV.str s)), (2, XV.s (.a (.c (.ptr 0 0)))), (3, XV.s (.int .i64 0)), (4, XV.s (.int .i64 0)), (5, XV.s (.a (.c (.own 1 (.int .u8) zs)))), (6, XV.s (.int .i64 i)), (7, XV.s .none), (8, XV.s .none), (9, XV.s .none), (13, XV.s .none), (16, XV.s .none), (25, XV.s .none), (32, XV.s .none), (34, XV.s .none), (43, XV.s .none)])
  (fun ⟨_, zs, _⟩ => [.row [.int .i64 0, .str ⟨#[]⟩, .int .i64 0, .int .i64 0, .int .i64 0, .int .i64 0], .tok 5 (.int .u8) zs.length true])
  (fun ⟨i, zs, k⟩ => 1 ≤ i ∧ i ≤ s.size + 4 ∧ zs.length < i ∧ s.size ≤ i + k ∧ strGo s k i zs = cutStr s) (fun ⟨i, _, _⟩ => (s.size + 10 - i).toNat) (1, [], s.size) ?_ ?_ fun ⟨i, zs, k⟩ hI => ?_
 ·refine Weak.own 5 ?_
  repeat (first | exact OwnL.nil | refine OwnL.drop ?_ | refine OwnL.same ?_ | refine OwnL.own ?_)
 ·exact ⟨by omega, by omega, by simp, by omega, rfl⟩
 obtain ⟨hi, hi2, hz, hk, hgo⟩ := hI
 conv => whnf
 refine ⟨by omega, ?_⟩
 conv => whnf
 refine cI9 (fun h => ?_) (fun h => ?_)
 ·have h' : endB s i = false := by simpa using h
  have hlt := end_lt h'
  obtain ⟨k', rfl⟩ : ∃ k', k = k' + 1 := ⟨k - 1, by omega⟩
  simp only [strGo] at hgo
  rw [if_neg (by rw [h']; decide)] at hgo
  conv => whnf
  refine ⟨by omega, ?_⟩
  conv => whnf
  refine cI9 (fun h2 => ?_) (fun h2 => ?_)
  ·have h2' : byteAt s i = 34 := by simpa using h2
   rw [if_pos h2'] at hgo
   conv => whnf
   refine ⟨by unfold inI64; omega, ?_⟩
   conv => whnf
   refine eE9 ⟨?_, rfl⟩
   show _ = cutSV (cutStr s)
   rw [← hgo]
   rfl
  have h2' : ¬ byteAt s i = 34 := by simpa using h2
  rw [if_neg h2'] at hgo
  conv => whnf
  refine cI9 (fun h3 => ?_) (fun h3 => ?_)
  ·have h3' : byteAt s i = 92 := by simpa using h3
   rw [if_pos h3'] at hgo
   conv => whnf
   refine ⟨by omega, ?_⟩
   conv => whnf
   refine cI9 (fun h4 => ?_) (fun h4 => ?_)
   ·have h4' : ¬ (escV (s.extract i.toNat s.size)).2.2 = 0 := by simpa using h4
    rw [if_neg h4'] at hgo
    conv => whnf
    refine eE9 ⟨?_, rfl⟩
    show _ = cutSV (cutStr s)
    rw [← hgo]
    rfl
   ·have h4' : (escV (s.extract i.toNat s.size)).2.2 = 0 := by simpa using h4
    rw [if_pos h4'] at hgo
    have hn := escV_n _ h4'
    conv => whnf
    refine ⟨rfl, (by show zs.length + 1 ≤ 1000000000000; omega), ?_⟩
    conv => whnf
    have e : ((s.size : Int)).toNat = s.size := rfl
    refine ⟨by rw [e]; unfold inI64; omega, ?_⟩
    conv => whnf
    refine kI9 (i + (escV (s.extract i.toNat s.size)).2.1, zs ++ [(escV (s.extract i.toNat s.size)).1], k') [0, 1] rfl (fun k hk => ?_) ?_ ?_ ?_ ?_
    ·have hk' : k < 1 := hk
     have : k = 0 := by omega
     subst this; rfl
    ·show _ = some [AO.row _, AO.tok 5 (.int .u8) (zs ++ [(escV (s.extract i.toNat s.size)).1]).length true]
     rw [List.length_append]
     rfl
    ·repeat (first | exact KeepL.nil | refine KeepL.drop ?_ | refine KeepL.ren rfl ?_)
    ·refine ⟨by omega, by omega, ?_, by omega, hgo⟩
     rw [List.length_append]
     simp only [List.length_cons, List.length_nil]
     omega
    ·show (_ : Int).toNat < (_ : Int).toNat
     omega
  ·have h3' : ¬ byteAt s i = 92 := by simpa using h3
   rw [if_neg h3'] at hgo
   conv => whnf
   refine ⟨by omega, ?_⟩
   conv => whnf
   refine ⟨rfl, (by show zs.length + 1 ≤ 1000000000000; omega), ?_⟩
   conv => whnf
   refine ⟨by unfold inI64; omega, ?_⟩
   conv => whnf
   refine kI9 (i + 1, zs ++ [byteAt s i], k') [0, 1] rfl (fun k hk => ?_) ?_ ?_ ?_ ?_
   ·have hk' : k < 1 := hk
    have : k = 0 := by omega
    subst this; rfl
   ·show _ = some [AO.row _, AO.tok 5 (.int .u8) (zs ++ [byteAt s i]).length true]
    rw [List.length_append]
    rfl
   ·repeat (first | exact KeepL.nil | refine KeepL.drop ?_ | refine KeepL.ren rfl ?_)
   ·refine ⟨by omega, by omega, ?_, by omega, hgo⟩
    rw [List.length_append]
    simp only [List.length_cons, List.length_nil]
    omega
   ·show (_ : Int).toNat < (_ : Int).toNat
    omega
 ·have h' : endB s i = true := by simpa using h
  conv => whnf
  refine eE9 ⟨?_, rfl⟩
  show _ = cutSV (cutStr s)
  rw [← hgo]
  cases k with
  | zero => rfl
  | succ k => simp only [strGo, if_pos h']; rfl
end Go.Ab
