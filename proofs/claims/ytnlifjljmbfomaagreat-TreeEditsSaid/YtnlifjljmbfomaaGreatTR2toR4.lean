/- Names and labels: the program's and the reference's. -/
import Derived.Test.YtnlifjljmbfomaaGreatTOtoR1
namespace Go.Ab
open Go.Proofs
set_option linter.unusedSectionVars false
set_option maxRecDepth 100000
variable [Base]
def consB (p : Int → Bool) (s : ByteArray) : Bool := !decide (s = ⟨#[]⟩) && decide ((s.size : Int) ≤ 31) && firstB (byteAt s 0) && decide ((leadN p s : Int) = s.size)
def saysCons : Says := fun args H => match args, H with
 | [.c (.p (.v (.string s))), .c (.p (.v (.func (.func f) a b)))], [] => match cls f, a.toList, b.toList with
  | some p, [], [] => some (some (fits s), .bool (consB p s), [])
  | _, _, _ => none
 | _, _ => none
def T11 : Table := ext T10 122 saysCons
def T12 : Table := ext T11 78 (saysS fun s => (some (fits s), .bool (consB nameB s)))
def T13 : Table := T12
def rwordB (c : Int) : Bool := letterB c || (decide (48 ≤ c) && decide (c ≤ 57)) || decide (c = 95)
def amongB (c : Int) (s : ByteArray) : Bool := s.data.toList.any fun u : UInt8 => decide (((u.toNat : Nat) : Int) = c)
def rnameB (c : Int) : Bool := rwordB c || amongB c ⟨#[44, 46, 43, 45, 63, 35, 64]⟩
def allB (p : Int → Bool) (s : ByteArray) : Bool := s.data.toList.all fun u : UInt8 => p ((u.toNat : Nat) : Int)
def rNameS (s : ByteArray) : Bool := !(decide ((s.size : Int) < 1) || decide (31 < (s.size : Int)) || (!letterB (byteAt s 0) && !decide (byteAt s 0 = 95))) && allB rnameB s
def T14 : Table := ext T13 124 (saysU fun c => (none, .bool (letterB c)))
def T15 : Table := ext T14 154 (saysU fun c => (none, .bool (rwordB c)))
def T16 : Table := ext T15 155 (saysUS fun c s => (some (fits s), .bool (amongB c s)))
def T17 : Table := ext T16 125 (saysU fun c => (none, .bool (rnameB c)))
def T18 : Table := T17
def T19 : Table := ext T18 79 (saysS fun s => (some (fits s), .bool (rNameS s)))
def T20 : Table := T19
theorem getD_get {α : Type} {l : List α} {i : Nat} {d : α} (h : i < l.length) : l.getD i d = l[i] := by
 simp [List.getD, h]
theorem any_true {p : UInt8 → Bool} {s : ByteArray} (i : Nat) (h : i < s.size) (hi : p (s.data.toList.getD i 0) = true) : s.data.toList.any p = true := by
 rw [List.any_eq_true]
 have h' : i < s.data.toList.length := h
 refine ⟨s.data.toList[i], List.getElem_mem h', ?_⟩
 rwa [getD_get h'] at hi
theorem any_false {p : UInt8 → Bool} {s : ByteArray} (h : ∀ j, j < s.size → p (s.data.toList.getD j 0) = false) : s.data.toList.any p = false := by
 rw [List.any_eq_false]
 intro x hx
 obtain ⟨i, hi, rfl⟩ := List.getElem_of_mem hx
 have := h i hi
 rw [getD_get hi] at this
 rw [this]; decide
theorem allB_true {p : Int → Bool} {s : ByteArray} (h : ∀ j : Nat, j < s.size → p (byteAt s j) = true) : allB p s = true := by
 unfold allB
 rw [List.all_eq_true]
 intro x hx
 obtain ⟨i, hi, rfl⟩ := List.getElem_of_mem hx
 have := h i hi
 unfold byteAt at this
 rw [show ((i : Int).toNat) = i from rfl, getD_get hi] at this
 exact this
theorem allB_false {p : Int → Bool} {s : ByteArray} (i : Nat) (h : i < s.size) (hi : p (byteAt s i) = false) : allB p s = false := by
 unfold allB
 have h' : i < s.data.toList.length := h
 unfold byteAt at hi
 rw [show ((i : Int).toNat) = i from rfl, getD_get h'] at hi
 rw [List.all_eq_false]
 exact ⟨_, List.getElem_mem h', by rw [hi]; decide⟩
theorem size_pos {s : ByteArray} (h : ¬ s = ⟨#[]⟩) : 0 < s.size := by
 rcases Nat.eq_zero_or_pos s.size with h0 | h0
 ·refine absurd ?_ h
  obtain ⟨d⟩ := s
  have : d = #[] := Array.eq_empty_of_size_eq_zero h0
  rw [this]
 ·exact h0
theorem cons32 (s : ByteArray) (hs : fits s) :
  runF ⟨Tryz.prog, T10⟩ Tryz.f122 [0, 1, 4] [] [.c (.p (.v (.string s))), .c (.p (.v (.func (.func 123) #[] #[])))] [] fun r' H'' => Ends r' H'' (.bool (consB nameB s)) [] := by
 conv => whnf
 refine ⟨fun h => ?_, ?_⟩
 ·simp [lit] at h
  have := size_pos h.1
  omega
 conv => whnf
 refine ⟨fun _ => hs, ?_⟩
 conv => whnf
 exact eR9
theorem cons35 (s : ByteArray) (hs : fits s) :
  runF ⟨Tryz.prog, T10⟩ Tryz.f122 [0, 1, 4] [] [.c (.p (.v (.string s))), .c (.p (.v (.func (.func 152) #[] #[])))] [] fun r' H'' => Ends r' H'' (.bool (consB wordB s)) [] := by
 conv => whnf
 refine ⟨fun h => ?_, ?_⟩
 ·simp [lit] at h
  have := size_pos h.1
  omega
 conv => whnf
 refine ⟨fun _ => hs, ?_⟩
 conv => whnf
 exact eR9
theorem t11 : TS9 T11 := by
 refine ext_run t10 (f := 122) (fn := Tryz.f122) rfl rfl [0, 1, 4] fun args H p r H' hs hp => ?_
 unfold saysCons at hs
 split at hs
 ·rename_i s f a b
  split at hs
  ·rename_i q hc ha hb
   cases hs
   have ha' : a = #[] := by simpa using ha
   have hb' : b = #[] := by simpa using hb
   subst ha' hb'
   refine ⟨by show 2 ≤ _; decide, [], rfl, nK9, ?_⟩
   rcases cls_cases hc with ⟨rfl, rfl⟩ | ⟨rfl, rfl⟩
   ·exact cons32 s hp
   ·exact cons35 s hp
  ·cases hs
 ·cases hs
theorem t12 : TS9 T12 := by
 refine extS t11 78 (fn := Tryz.f78) rfl rfl (by decide) _ [0, 2] fun s hs => ?_
 conv => whnf
 refine ⟨hs, ?_⟩
 conv => whnf
 exact eR9
theorem t13 : TS9 T13 := t12
theorem t14 : TS9 T14 := by
 refine extU t13 124 (fn := Tryz.f124) rfl rfl (by decide) _ [0, 2] fun c _ => ?_
 conv => whnf
 exact eR9
theorem t15 : TS9 T15 := by
 refine extU t14 154 (fn := Tryz.f154) rfl rfl (by decide) _ [0, 2] fun c _ => ?_
 conv => whnf
 exact eR9
theorem t16 : TS9 T16 := by
 refine extUS t15 155 (fn := Tryz.f155) rfl rfl (by decide) _ [0, 1, 4, 5, 9, 16] fun c s hs => ?_
 conv => whnf
 refine lI9 (σ := Nat) (fun i => [(0, XV.s (.int .u8 c)), (1, XV.s (SV.str s)), (4, XV.s (.bool false)), (5, XV.s (.int .i64 i)), (9, nX9), (16, nX9)]) (fun _ => [])
  (fun i => i ≤ s.size ∧ ∀ j : Nat, j < i → byteAt s j ≠ c) (fun i => s.size - i) 0 ?_ rfl ?_ fun i hI => ?_
 ·repeat first|exact lN9|refine lD9 ?_|refine lS9 ?_
 ·exact ⟨nZ9 _, fun j hj => absurd hj (nN9 j)⟩
 have hs' : s.size ≤ 1000000000 := hs
 conv => whnf
 refine cI9 ?_ ?_<;>intro h
 ·have h' : i < s.size := by simpa using h
  conv => whnf
  refine ⟨by omega, ?_⟩
  conv => whnf
  refine cI9 ?_ ?_<;>intro h2
  ·have h3 : byteAt s i = c := by simpa using h2
   conv => whnf
   refine eT9 ?_
   unfold amongB
   rw [any_true i h' (by simpa [byteAt] using h3)]
  ·have h3 : ¬ byteAt s i = c := by simpa using h2
   conv => whnf
   refine ⟨by unfold inI64; omega, ?_⟩
   conv => whnf
   refine hI9 (i + 1) ?_ rfl ?_ ?_
   ·repeat first|exact lN9|refine lD9 ?_|refine lS9 ?_
   ·refine ⟨h', fun j hj => ?_⟩
    rcases Nat.lt_succ_iff_lt_or_eq.1 hj with h4 | rfl
    ·exact hI.2 j h4
    ·exact h3
   ·omega
 ·have h' : ¬ i < s.size := by simpa using h
  conv => whnf
  refine eT9 ?_
  unfold amongB
  rw [any_false fun j hj => by simpa [byteAt] using hI.2 j (by omega)]
theorem t17 : TS9 T17 := by
 refine extU t16 125 (fn := Tryz.f125) rfl rfl (by decide) _ [0, 2] fun c _ => ?_
 conv => whnf
 refine ⟨fun _ => by decide, ?_⟩
 conv => whnf
 exact eR9
theorem t18 : TS9 T18 := t17
theorem t19 : TS9 T19 := by
 refine extS t18 79 (fn := Tryz.f79) rfl rfl (by decide) _ [0, 2, 3, 22, 26, 33] fun s hs => ?_
 have hs' : s.size ≤ 1000000000 := hs
 conv => whnf
 refine ⟨fun h => ?_, ?_⟩
 ·simp [lit] at h; omega
 conv => whnf
 refine ⟨fun h => ?_, ?_⟩
 ·simp [lit] at h; omega
 conv => whnf
 refine cI9 ?_ ?_<;>intro h0
 ·conv => whnf
  refine eT9 ?_
  have : rNameS s = false := by
   unfold rNameS
   simp only [h0]
   rfl
  rw [this]
 conv => whnf
 refine lI9 (σ := Nat) (fun i => [(0, XV.s (SV.str s)), (2, XV.s (.bool false)), (3, XV.s (.int .i64 i)), (22, nX9), (26, nX9), (33, nX9)]) (fun _ => [])
  (fun i => i ≤ s.size ∧ ∀ j : Nat, j < i → rnameB (byteAt s j) = true) (fun i => s.size - i) 0 ?_ rfl ?_ fun i hI => ?_
 ·repeat first|exact lN9|refine lD9 ?_|refine lS9 ?_
 ·exact ⟨nZ9 _, fun j hj => absurd hj (nN9 j)⟩
 conv => whnf
 refine cI9 ?_ ?_<;>intro h
 ·have h' : i < s.size := by simpa using h
  conv => whnf
  refine ⟨by omega, ?_⟩
  conv => whnf
  refine cI9 ?_ ?_<;>intro h2
  ·have h3 : rnameB (byteAt s i) = false := by simpa using h2
   conv => whnf
   refine eT9 ?_
   have : rNameS s = false := by
    unfold rNameS
    rw [allB_false i h' h3, Bool.and_false]
   rw [this]
  ·have h3 : rnameB (byteAt s i) = true := by simpa using h2
   conv => whnf
   refine ⟨by unfold inI64; omega, ?_⟩
   conv => whnf
   refine hI9 (i + 1) ?_ rfl ?_ ?_
   ·repeat first|exact lN9|refine lD9 ?_|refine lS9 ?_
   ·refine ⟨h', fun j hj => ?_⟩
    rcases Nat.lt_succ_iff_lt_or_eq.1 hj with h4 | rfl
    ·exact hI.2 j h4
    ·exact h3
   ·omega
 ·have h' : ¬ i < s.size := by simpa using h
  conv => whnf
  refine eT9 ?_
  have : rNameS s = true := by
   unfold rNameS
   rw [allB_true fun j hj => hI.2 j (by omega)]
   simp only [h0]
   rfl
  rw [this]
theorem t20 : TS9 T20 := t19
theorem bytes_all {P : Int → Prop} (h : ∀ n : Fin 256, P (n.val : Int)) (u : UInt8) : P ((u.toNat : Nat) : Int) := h ⟨u.toNat, u.toNat_lt⟩
theorem name_same (u : UInt8) : rnameB ((u.toNat : Nat) : Int) = nameB ((u.toNat : Nat) : Int) := bytes_all (P := fun c => rnameB c = nameB c) (by decide +kernel) u
theorem lead_all {p : Int → Bool} (s : ByteArray) : decide ((leadN p s : Int) = s.size) = allB p s := by
 have : ∀ l : List UInt8, decide (((l.takeWhile fun u : UInt8 => p ((u.toNat : Nat) : Int)).length : Int) = l.length) = l.all fun u : UInt8 => p ((u.toNat : Nat) : Int) := by
  intro l
  induction l with
  | nil => rfl
  | cons x l ih =>
   cases h : p ((x.toNat : Nat) : Int) with
   | true => simp [h, ← ih]; 
   | false => simp [h]; omega
 exact this s.data.toList
theorem allB_congr {p q : Int → Bool} (h : ∀ u : UInt8, p ((u.toNat : Nat) : Int) = q ((u.toNat : Nat) : Int)) (s : ByteArray) : allB p s = allB q s := by
 unfold allB
 congr 1
 funext u
 exact h u
theorem byteAt_byte (s : ByteArray) (i : Int) : ∃ u : UInt8, byteAt s i = ((u.toNat : Nat) : Int) := ⟨_, rfl⟩
theorem empty_size (s : ByteArray) : decide (s = ⟨#[]⟩) = decide ((s.size : Int) < 1) := by
 by_cases h : s = ⟨#[]⟩
 ·subst h; rfl
 ·have := size_pos h
  simp [h]; omega
theorem nameS_same (s : ByteArray) : rNameS s = consB nameB s := by
 unfold rNameS consB
 rw [lead_all, allB_congr name_same, empty_size]
 obtain ⟨u, hu⟩ := byteAt_byte s 0
 rw [hu]
 unfold firstB
 cases letterB (u.toNat : Int) <;> cases decide ((u.toNat : Int) = 95) <;> cases allB nameB s <;> by_cases h1 : (s.size : Int) < 1 <;> by_cases h2 : (s.size : Int) ≤ 31 <;> simp [h1, h2] <;> omega
def modV (x n : Int) : Int := if n < 1 then 0 else if x.tmod n < 0 then x.tmod n + n else x.tmod n
theorem mN9 (x n : Int) : 0 ≤ modV x n := by
 unfold modV
 split
 ·omega
 ·have h1 := Int.tmod_lt_of_pos x (b := n) (by omega)
  have h2 := Int.lt_tmod_of_pos x (b := n) (by omega)
  split <;> omega
theorem modV_lt (x n : Int) (h : 1 ≤ n) : modV x n < n := by
 unfold modV
 rw [if_neg (by omega)]
 have h1 := Int.tmod_lt_of_pos x (b := n) (by omega)
 split <;> omega
def rawV (zs : List Int) (n : Int) : Int := if (zs.length : Int) ≤ n then 0 else zs.getD n.toNat 0
def rawN (zs : List Int) (n : Int) : Int := if (zs.length : Int) ≤ n then n else n + 1
abbrev tapeO (zs : List Int) (n : Int) : AO := .row [.p (.l (.int .i64) zs), .p (.v (.int .i64 n))]
abbrev tapeOk (zs : List Int) (n : Int) : Prop := 0 ≤ n ∧ n ≤ 4611686018427387904 ∧ zs.length ≤ 4611686018427387904
def saysTape (g : List Int → Int → Option Prop × SV × Int) : Says := fun args H => match args, H with
 | [.c (.ptr 0 0)], [.row [.p (.l (.int .i64) zs), .p (.v (.int .i64 n))]] => some ((g zs n).1, (g zs n).2.1, [tapeO zs (g zs n).2.2])
 | _, _ => none
def saysTapeI (g : List Int → Int → Int → Option Prop × SV × Int) : Says := fun args H => match args, H with
 | [.c (.ptr 0 0), .c (.p (.v (.int .i64 k)))], [.row [.p (.l (.int .i64) zs), .p (.v (.int .i64 n))]] => some ((g zs n k).1, (g zs n k).2.1, [tapeO zs (g zs n k).2.2])
 | _, _ => none
theorem id0 : ∀ k, k < 1 → [0][k]? = some k := fun k hk => by
 have : k = 0 := by omega
 subst this; rfl
theorem extTape {P : Program} {T : Table} (hT : TSound P T) (f : FuncId) {fn : Func} (hf : P.funcs[f]? = some fn) (hname : NG9 fn) (hn : 1 ≤ fn.ntmps) (g : List Int → Int → Option Prop × SV × Int) (ks : List Nat)
  (h : ∀ zs n, holdsO (g zs n).1 → runF ⟨P, T⟩ fn ks [0] [.c (.ptr 0 0)] [tapeO zs n] fun r' H'' => Ends r' H'' (g zs n).2.1 [tapeO zs (g zs n).2.2]) : TSound P (ext T f (saysTape g)) :=
 ext_run hT hf hname ks fun args H p r H' hs hp => by
  unfold saysTape at hs
  split at hs
  ·cases hs
   exact ⟨hn, [0], rfl, id0, h _ _ hp⟩
  ·cases hs
theorem extTapeI {P : Program} {T : Table} (hT : TSound P T) (f : FuncId) {fn : Func} (hf : P.funcs[f]? = some fn) (hname : NG9 fn) (hn : 2 ≤ fn.ntmps) (g : List Int → Int → Int → Option Prop × SV × Int) (ks : List Nat)
  (h : ∀ zs n k, holdsO (g zs n k).1 → runF ⟨P, T⟩ fn ks [0] [.c (.ptr 0 0), .c (.p (.v (.int .i64 k)))] [tapeO zs n] fun r' H'' => Ends r' H'' (g zs n k).2.1 [tapeO zs (g zs n k).2.2]) : TSound P (ext T f (saysTapeI g)) :=
 ext_run hT hf hname ks fun args H p r H' hs hp => by
  unfold saysTapeI at hs
  split at hs
  ·cases hs
   exact ⟨hn, [0], rfl, id0, h _ _ _ hp⟩
  ·cases hs
def nameL : List ByteArray := [⟨#[97]⟩, ⟨#[98]⟩, ⟨#[99]⟩, ⟨#[99, 112, 117]⟩, ⟨#[99, 108, 107]⟩, ⟨#[98, 117, 115, 64, 49, 48]⟩, ⟨#[100, 101, 118, 64, 50]⟩, ⟨#[120, 95, 49]⟩, ⟨#[122]⟩]
def propL : List ByteArray := [⟨#[114, 101, 103]⟩, ⟨#[99, 111, 109, 112, 97, 116, 105, 98, 108, 101]⟩, ⟨#[115, 116, 97, 116, 117, 115]⟩, ⟨#[99, 108, 111, 99, 107, 115]⟩, ⟨#[35, 99, 101, 108, 108, 115]⟩, ⟨#[112]⟩, ⟨#[113]⟩, ⟨#[108, 97, 98, 101, 108]⟩, ⟨#[118, 97, 108, 117, 101]⟩]
def pieceL : List ByteArray := [⟨#[97]⟩, ⟨#[110, 111, 100, 101, 64, 49]⟩, ⟨#[35, 99, 101, 108, 108, 115]⟩, ⟨#[99, 111, 109, 112, 97, 116, 105, 98, 108, 101]⟩, ⟨#[120, 58]⟩, ⟨#[108, 97, 98, 95, 49, 58]⟩, ⟨#[38, 97]⟩, ⟨#[38, 108, 97, 98, 95, 49]⟩, ⟨#[48]⟩, ⟨#[55]⟩, ⟨#[48, 49, 48]⟩, ⟨#[48, 120, 49, 102]⟩, ⟨#[48, 120, 70, 70, 70, 70, 70, 70, 70, 70]⟩, ⟨#[52, 50, 57, 52, 57, 54, 55, 50, 57, 53]⟩, ⟨#[34, 116, 101, 120, 116, 34]⟩, ⟨#[34, 97, 92, 110, 92, 120, 52, 49, 92, 34, 34]⟩, ⟨#[47, 105, 110, 99, 108, 117, 100, 101, 47]⟩, ⟨#[47, 100, 101, 108, 101, 116, 101, 45, 110, 111, 100, 101, 47]⟩, ⟨#[47]⟩, ⟨#[123]⟩, ⟨#[125]⟩, ⟨#[40]⟩, ⟨#[41]⟩, ⟨#[60]⟩, ⟨#[62]⟩, ⟨#[91]⟩, ⟨#[93]⟩, ⟨#[59]⟩, ⟨#[61]⟩, ⟨#[44]⟩, ⟨#[43]⟩, ⟨#[45]⟩, ⟨#[42]⟩, ⟨#[37]⟩, ⟨#[60, 60]⟩, ⟨#[62, 62]⟩, ⟨#[60, 61]⟩, ⟨#[62, 61]⟩, ⟨#[61, 61]⟩, ⟨#[33, 61]⟩, ⟨#[38, 38]⟩, ⟨#[124, 124]⟩, ⟨#[94]⟩, ⟨#[126]⟩, ⟨#[33]⟩, ⟨#[63]⟩, ⟨#[58]⟩, ⟨#[124]⟩, ⟨#[38]⟩, ⟨#[32]⟩, ⟨#[10]⟩, ⟨#[9]⟩, ⟨#[47, 47, 32, 110, 111, 116, 101, 10]⟩, ⟨#[47, 42, 32, 97, 10, 42, 32, 98, 32, 42, 47]⟩, ⟨#[13, 10]⟩]
def oddL : List ByteArray := [⟨#[48, 57]⟩, ⟨#[48, 120]⟩, ⟨#[48, 120, 103]⟩, ⟨#[49, 50, 97, 98]⟩, ⟨#[52, 50, 57, 52, 57, 54, 55, 50, 57, 54]⟩, ⟨#[57, 57, 57, 57, 57, 57, 57, 57, 57, 57, 57, 57, 57, 57, 57, 57, 57, 57, 57, 57]⟩, ⟨#[34]⟩, ⟨#[34, 97, 98, 10, 34]⟩, ⟨#[34, 92, 113, 34]⟩, ⟨#[34, 92, 120, 52]⟩, ⟨#[34, 92]⟩, ⟨#[47, 42]⟩, ⟨#[47, 42, 32, 120]⟩, ⟨#[47, 42, 47]⟩, ⟨#[36]⟩, ⟨#[64]⟩, ⟨#[46]⟩, ⟨#[0]⟩, ⟨#[255]⟩, ⟨#[97, 45, 98, 58]⟩, ⟨#[35, 120, 58]⟩, ⟨#[47, 97]⟩, ⟨#[47, 45, 47]⟩, ⟨#[47, 47]⟩, ⟨#[56]⟩, ⟨#[48, 56]⟩, ⟨#[39]⟩]
def pickS (l : List ByteArray) (zs : List Int) (n : Int) : ByteArray := l.getD (modV (rawV zs n) l.length).toNat ByteArray.empty
def saysNew : Says := fun args H => match args, H with
 | [.c (.p (.l (.int .i64) zs))], [] => some (none, .a (.c (.ptr 0 0)), [tapeO (zs.take 500) 0])
 | _, _ => none
def T21 : Table := ext T20 98 (saysII fun x n => (some (n ≤ 4611686018427387904), .int .i64 (modV x n)))
def T22 : Table := ext T21 99 (saysTape fun zs n => (some (tapeOk zs n), .int .i64 (rawV zs n), rawN zs n))
def T23 : Table := ext T22 46 (saysTapeI fun zs n k => (some (tapeOk zs n ∧ k ≤ 4611686018427387904), .int .i64 (modV (rawV zs n) k), rawN zs n))
def T24 : Table := ext T23 31 (saysTape fun zs n => (some (tapeOk zs n), .str (pickS nameL zs n), rawN zs n))
def T25 : Table := ext T24 23 (saysTape fun zs n => (some (tapeOk zs n), .str (pickS propL zs n), rawN zs n))
def T26 : Table := ext T25 29 (saysTape fun zs n => (some (tapeOk zs n), .str (pickS pieceL zs n), rawN zs n))
def T27 : Table := ext T26 30 (saysTape fun zs n => (some (tapeOk zs n), .str (pickS oddL zs n), rawN zs n))
def T28 : Table := ext T27 10 saysNew
theorem t21 : TS9 T21 := by
 refine extII t20 98 (fn := Tryz.f98) rfl rfl (by decide) _ [0, 1, 4, 6, 11] fun x n hn => ?_
 have hn' : n ≤ 4611686018427387904 := hn
 conv => whnf
 refine cI9 ?_ ?_<;>intro h
 ·have h' : n < 1 := by simpa using h
  conv => whnf
  refine eT9 ?_
  simp only [modV, if_pos h']
 ·have h' : ¬ n < 1 := by simpa using h
  conv => whnf
  refine ⟨by omega, ?_⟩
  conv => whnf
  have h1 := Int.tmod_lt_of_pos x (b := n) (by omega)
  have h2 := Int.lt_tmod_of_pos x (b := n) (by omega)
  refine cI9 ?_ ?_<;>intro h2
  ·have h3 : x.tmod n < 0 := by simpa using h2
   conv => whnf
   refine ⟨by unfold inI64; omega, ?_⟩
   conv => whnf
   refine eT9 ?_
   simp only [modV, if_neg h', if_pos h3]
  ·have h3 : ¬ x.tmod n < 0 := by simpa using h2
   conv => whnf
   refine eT9 ?_
   simp only [modV, if_neg h', if_neg h3]
theorem t22 : TS9 T22 := by
 refine extTape t21 99 (fn := Tryz.f99) rfl rfl (by decide) _ [0, 2, 12] fun zs n hn => ?_
 obtain ⟨h0, h1, h2⟩ : tapeOk zs n := hn
 conv => whnf
 refine ⟨by decide +kernel, ?_⟩
 conv => whnf
 refine cI9 ?_ ?_<;>intro h
 ·have h' : (zs.length : Int) ≤ n := by simpa using h
  conv => whnf
  refine eE9 ⟨?_, ?_⟩ <;> simp only [rawV, rawN, if_pos h']
 ·have h' : ¬ (zs.length : Int) ≤ n := by simpa using h
  conv => whnf
  refine ⟨by unfold inI64; omega, ?_⟩
  conv => whnf
  refine ⟨by unfold inI64; omega, ?_⟩
  conv => whnf
  refine ⟨by omega, ?_⟩
  conv => whnf
  refine ⟨by decide +kernel, ?_⟩
  conv => whnf
  refine eE9 ⟨?_, ?_⟩ <;> simp only [rawV, rawN, if_neg h']
  rw [show n + 1 - 1 = n from by omega]
  rfl
theorem t23 : TS9 T23 := by
 refine extTapeI t22 46 (fn := Tryz.f46) rfl rfl (by decide) _ [0, 1, 4] fun zs n k hn => ?_
 obtain ⟨h0, h1⟩ : tapeOk zs n ∧ k ≤ 4611686018427387904 := hn
 conv => whnf
 refine ⟨h0, ?_⟩
 conv => whnf
 refine ⟨h1, ?_⟩
 conv => whnf
 exact eR9
theorem t24 : TS9 T24 := by
 refine extTape t23 31 (fn := Tryz.f31) rfl rfl (by decide) _ [0, 2, 3] fun zs n hn => ?_
 conv => whnf
 refine ⟨⟨hn, by decide⟩, ?_⟩
 conv => whnf
 refine ⟨⟨mN9 _ _, modV_lt _ _ (by decide)⟩, ?_⟩
 conv => whnf
 exact eR9
theorem t25 : TS9 T25 := by
 refine extTape t24 23 (fn := Tryz.f23) rfl rfl (by decide) _ [0, 2, 3] fun zs n hn => ?_
 conv => whnf
 refine ⟨⟨hn, by decide⟩, ?_⟩
 conv => whnf
 refine ⟨⟨mN9 _ _, modV_lt _ _ (by decide)⟩, ?_⟩
 conv => whnf
 exact eR9
theorem t26 : TS9 T26 := by
 refine extTape t25 29 (fn := Tryz.f29) rfl rfl (by decide) _ [0, 2, 3] fun zs n hn => ?_
 conv => whnf
 refine ⟨⟨hn, by decide⟩, ?_⟩
 conv => whnf
 refine ⟨⟨mN9 _ _, modV_lt _ _ (by decide)⟩, ?_⟩
 conv => whnf
 exact eR9
theorem t27 : TS9 T27 := by
 refine extTape t26 30 (fn := Tryz.f30) rfl rfl (by decide) _ [0, 2, 3] fun zs n hn => ?_
 conv => whnf
 refine ⟨⟨hn, by decide⟩, ?_⟩
 conv => whnf
 refine ⟨⟨mN9 _ _, modV_lt _ _ (by decide)⟩, ?_⟩
 conv => whnf
 exact eR9
theorem new_take (zs : List Int) : List.drop (Int.toNat 0) (List.take (if 500 < (zs.length : Int) then 500 else (zs.length : Int)).toNat zs) = zs.take 500 := by
 show List.take _ zs = _
 split
 ·rfl
 ·rw [List.take_of_length_le (by omega), List.take_of_length_le (by omega)]
theorem t28 : TS9 T28 := by
 refine ext_run t27 (f := 10) (fn := Tryz.f10) rfl rfl [0, 2] fun args H p r H' hs hp => ?_
 unfold saysNew at hs
 split at hs
 ·cases hs
  refine ⟨by show 1 ≤ _; decide, [0], rfl, nK9, ?_⟩
  conv => whnf
  rename_i zs
  refine ⟨⟨by omega, by split <;> omega, by split <;> omega⟩, ?_⟩
  conv => whnf
  refine eE9 ⟨rfl, ?_⟩
  rw [new_take zs]
 ·cases hs
structure TokV where
 kind : Int := 0
 text : ByteArray := ⟨#[]⟩
 value : Int := 0
 file : Int := 0
 line : Int := 0
 column : Int := 0
def T29 : Table := T28
def T30 : Table := T29
def T31 : Table := T30
def T32 : Table := T31
theorem t29 : TS9 T29 := t28
theorem t30 : TS9 T30 := t29
theorem t31 : TS9 T31 := t30
theorem t32 : TS9 T32 := t31
def T33 : Table := T32
theorem t33 : TS9 T33 := t32
end Go.Ab
