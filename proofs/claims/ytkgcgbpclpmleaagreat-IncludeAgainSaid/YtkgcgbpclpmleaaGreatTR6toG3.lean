/- Package token: what separates, the reader. -/
import Derived.Test.YtkgcgbpclpmleaaGreatTR5
import Derived.Lib.IndexMore
import Derived.Test.YtkgcgbpclpmleaaGreatTOtoP
namespace Go.Ab
open Go.Proofs
set_option linter.unusedSectionVars false
set_option maxRecDepth 100000
class Glob extends Base where
 hm : ∃ m : Int, (Var.mk 0 0 (.int .i64) m) ∈ vars
variable [Glob]
def indexV (s t : ByteArray) : Int := Lib.index s.data.toList t.data.toList
theorem indexV_ge (s t : ByteArray) : -1 ≤ indexV s t := Lib.index_ge _ _
theorem indexV_room (s t : ByteArray) (h : 0 ≤ indexV s t) : indexV s t + t.size ≤ s.size := Lib.index_room _ _ h
def T44 : Table := ext T43 108 (saysSS fun s t => (some (fits s), .int .i64 (indexV s t)))
theorem t44 : TS9 T44 := by
 refine ext_calls t43 108 (fn := Tryz.f108) rfl rfl rfl fun args H p r H' hs hp => ?_
 unfold saysSS at hs
 split at hs
 ·rename_i s t
  cases hs
  refine ⟨rfl, fun G hS hH cargs ha => ?_⟩
  have hp' : s.size ≤ 1000000000 := hp
  cases ha with
  | cons h1 t1 =>
   cases t1 with
   | cons h2 t2 =>
    cases t2
    obtain ⟨_, rfl⟩ := h1
    obtain ⟨_, rfl⟩ := h2
    obtain ⟨m, hm⟩ := Glob.hm
    obtain ⟨us, hu, hc⟩ := hS.vars _ hm
    have hu' : us = [.int .i64 m] := hu
    subst hu'
    have := (hc 0 _ rfl).2
    exact ⟨_, ⟨rfl, rfl⟩, Tryz.strings_Index s t m _ (by omega) this⟩
 ·cases hs
theorem prefB_size {s t : ByteArray} (h : prefB s t = true) : t.size ≤ s.size := by
 unfold prefB at h
 have := oT9 (bA9.1 h).1
 omega
def sepV (s : ByteArray) : Int × Int :=
 if prefB s ⟨#[47, 47]⟩ then (leadN lineB s, 0)
 else if prefB s ⟨#[47, 42]⟩ then (if indexV (s.extract 2 s.size) ⟨#[42, 47]⟩ < 0 then (0, 21) else (indexV (s.extract 2 s.size) ⟨#[42, 47]⟩ + 4, 0))
 else (leadN spaceB s, 0)
def T45 : Table := ext T44 90 (saysS fun s => (some (fits s), numSV (sepV s)))
theorem t45 : TS9 T45 := by
 refine extS t44 90 (fn := Tryz.f90) rfl rfl (by decide) _ [0, 2, 3, 4, 5, 10, 17] fun s hs => ?_
 have hs' : s.size ≤ 1000000000 := hs
 conv => whnf
 refine cI9 ?_ ?_<;>intro h
 ·have h' : prefB s ⟨#[47, 47]⟩ = true := h
  conv => whnf
  refine ⟨hs, ?_⟩
  conv => whnf
  refine eT9 ?_
  simp only [sepV, h', if_true]
  rfl
 have h' : prefB s ⟨#[47, 47]⟩ = false := h
 conv => whnf
 refine cI9 ?_ ?_<;>intro h2
 ·have h2' : prefB s ⟨#[47, 42]⟩ = true := h2
  have hsz : 2 ≤ s.size := prefB_size h2'
  have hsz2 : (s.extract 2 s.size).size = s.size - 2 := by rw [ByteArray.size_extract]; omega
  have hge := indexV_ge (s.extract 2 s.size) ⟨#[42, 47]⟩
  have hroom := indexV_room (s.extract 2 s.size) ⟨#[42, 47]⟩
  conv => whnf
  refine ⟨by omega, ?_⟩
  conv => whnf
  refine ⟨?_, ?_⟩
  ·show (s.extract 2 s.size).size ≤ 1000000000
   omega
  conv => whnf
  refine cI9 ?_ ?_<;>intro h3
  ·have h3' : indexV (s.extract 2 s.size) ⟨#[42, 47]⟩ < 0 := oT9 h3
   conv => whnf
   refine eT9 ?_
   simp only [sepV, h', h2', if_pos h3', if_true, Bool.false_eq_true, if_false]
   rfl
  ·have h3' : ¬ indexV (s.extract 2 s.size) ⟨#[42, 47]⟩ < 0 := oF9 h3
   conv => whnf
   refine ⟨?_, ?_⟩
   ·show inI64 (indexV (s.extract 2 s.size) ⟨#[42, 47]⟩ + 4)
    unfold inI64
    have := hroom (by omega)
    omega
   conv => whnf
   refine eT9 ?_
   simp only [sepV, h', h2', if_neg h3', if_true, Bool.false_eq_true, if_false]
   rfl
 ·have h2' : prefB s ⟨#[47, 42]⟩ = false := h2
  conv => whnf
  refine ⟨hs, ?_⟩
  conv => whnf
  refine eT9 ?_
  simp only [sepV, h', h2', Bool.false_eq_true, if_false]
  rfl
end Go.Ab
namespace Go.Ab
open Go.Proofs
set_option linter.unusedSectionVars false
set_option maxRecDepth 100000
variable [Glob]
structure RdV where
 rest : ByteArray
 file : Int
 line : Int
 column : Int
abbrev rdO (r : RdV) : AO := .row [.str r.rest, .int .i64 r.file, .int .i64 r.line, .int .i64 r.column]
def RdV.ok (r : RdV) : Prop := r.rest.size ≤ 1000000000 ∧ 0 ≤ r.line ∧ r.line + r.rest.size ≤ 1000000000000 ∧ 1 ≤ r.column ∧ r.column + r.rest.size ≤ 1000000000000
def passGo (s : ByteArray) : Nat → Nat → Int → Int → Int × Int
 | 0, _, l, c => (l, c)
 | k + 1, i, l, c => if byteAt s i = 10 then passGo s k (i + 1) (l + 1) 1 else passGo s k (i + 1) l (c + 1)
def passV (r : RdV) (n : Int) : RdV := ⟨r.rest.extract n.toNat r.rest.size, r.file, (passGo r.rest n.toNat 0 r.line r.column).1, (passGo r.rest n.toNat 0 r.line r.column).2⟩
def saysRd (g : RdV → Option Prop × SV × RdV) : Says := fun args H => match args, H with
 | [.c (.ptr 0 0)], [.row [.p (.v (.string s)), .p (.v (.int .i64 f)), .p (.v (.int .i64 l)), .p (.v (.int .i64 c))]] => some ((g ⟨s, f, l, c⟩).1, (g ⟨s, f, l, c⟩).2.1, [rdO (g ⟨s, f, l, c⟩).2.2])
 | _, _ => none
def saysRdI (g : RdV → Int → Option Prop × SV × RdV) : Says := fun args H => match args, H with
 | [.c (.ptr 0 0), .c (.p (.v (.int .i64 n)))], [.row [.p (.v (.string s)), .p (.v (.int .i64 f)), .p (.v (.int .i64 l)), .p (.v (.int .i64 c))]] => some ((g ⟨s, f, l, c⟩ n).1, (g ⟨s, f, l, c⟩ n).2.1, [rdO (g ⟨s, f, l, c⟩ n).2.2])
 | _, _ => none
theorem extRd {P : Program} {T : Table} (hT : TSound P T) (f : FuncId) {fn : Func} (hf : P.funcs[f]? = some fn) (hname : NG9 fn) (hn : 1 ≤ fn.ntmps) (g : RdV → Option Prop × SV × RdV) (ks : List Nat)
  (h : ∀ r, holdsO (g r).1 → runF ⟨P, T⟩ fn ks [0] [.c (.ptr 0 0)] [rdO r] fun r' H'' => Ends r' H'' (g r).2.1 [rdO (g r).2.2]) : TSound P (ext T f (saysRd g)) :=
 ext_run hT hf hname ks fun args H p r H' hs hp => by
  unfold saysRd at hs
  split at hs
  ·cases hs
   exact ⟨hn, [0], rfl, id0, h _ hp⟩
  ·cases hs
theorem extRdI {P : Program} {T : Table} (hT : TSound P T) (f : FuncId) {fn : Func} (hf : P.funcs[f]? = some fn) (hname : NG9 fn) (hn : 2 ≤ fn.ntmps) (g : RdV → Int → Option Prop × SV × RdV) (ks : List Nat)
  (h : ∀ r n, holdsO (g r n).1 → runF ⟨P, T⟩ fn ks [0] [.c (.ptr 0 0), .c (.p (.v (.int .i64 n)))] [rdO r] fun r' H'' => Ends r' H'' (g r n).2.1 [rdO (g r n).2.2]) : TSound P (ext T f (saysRdI g)) :=
 ext_run hT hf hname ks fun args H p r H' hs hp => by
  unfold saysRdI at hs
  split at hs
  ·cases hs
   exact ⟨hn, [0], rfl, id0, h _ _ hp⟩
  ·cases hs
def T46 : Table := ext T45 89 (saysRdI fun r n => (some (r.ok ∧ 0 ≤ n ∧ n ≤ r.rest.size), .tup [], passV r n))
theorem t46 : TS9 T46 := by
 refine extRdI t45 89 (fn := Tryz.f89) rfl rfl (by decide) _ [0, 1, 4, 5, 6, 7, 24] fun r n hs => ?_
 obtain ⟨⟨h1, h2, h3, h4, h5⟩, hn0, hn1⟩ : r.ok ∧ 0 ≤ n ∧ n ≤ r.rest.size := hs
 obtain ⟨s, f, l0, c0⟩ := r
 simp only at h1 h2 h3 h4 h5 hn1
 obtain ⟨m, rfl⟩ : ∃ m : Nat, n = m := ⟨n.toNat, by omega⟩
 conv => whnf
 refine lI9 (σ := Nat × Int × Int) (fun ⟨i, _, _⟩ => [(0, XV.s (.a (.c (.ptr 0 0)))), (1, XV.s (.int .i64 m)), (4, nX9), (5, XV.s (.int .i64 m)), (6, XV.s (.int .i64 i)), (7, nX9), (24, nX9)])
  (fun ⟨_, l, c⟩ => [.row [.str s, .int .i64 f, .int .i64 l, .int .i64 c]])
  (fun ⟨i, l, c⟩ => i ≤ m ∧ 0 ≤ l ∧ l ≤ l0 + i ∧ 0 ≤ c ∧ c ≤ c0 + 1 + i ∧ passGo s (m - i) i l c = passGo s m 0 l0 c0) (fun ⟨i, _, _⟩ => m - i) (0, l0, c0) ?_ rfl ?_ fun ⟨i, l, c⟩ hI => ?_
 ·repeat first|exact lN9|refine lD9 ?_|refine lS9 ?_
 ·exact ⟨by omega, by omega, by omega, by omega, by omega, rfl⟩
 obtain ⟨hi, hl0, hl1, hc0, hc1, hgo⟩ := hI
 conv => whnf
 refine cI9 ?_ ?_<;>intro h
 ·have hlt : i < m := by have : (i : Int) < m := oT9 h
                         omega
  rw [show m - i = (m - (i + 1)) + 1 from by omega] at hgo
  simp only [passGo] at hgo
  conv => whnf
  refine ⟨by unfold inI64; omega, ?_⟩
  conv => whnf
  refine ⟨by omega, ?_⟩
  conv => whnf
  refine cI9 ?_ ?_<;>intro h6
  ·have h6' : byteAt s i = 10 := oT9 h6
   rw [if_pos h6'] at hgo
   conv => whnf
   refine ⟨by unfold inI64; omega, ?_⟩
   conv => whnf
   refine ⟨by unfold inI64; omega, ?_⟩
   conv => whnf
   refine hI9 (i + 1, l + 1, 1) ?_ rfl ?_ ?_
   ·repeat first|exact lN9|refine lD9 ?_|refine lS9 ?_
   ·exact ⟨by omega, by omega, by omega, by omega, by omega, hgo⟩
   ·show m - (i + 1) < m - i
    omega
  ·have h6' : ¬ byteAt s i = 10 := oF9 h6
   rw [if_neg h6'] at hgo
   conv => whnf
   refine ⟨by unfold inI64; omega, ?_⟩
   conv => whnf
   refine hI9 (i + 1, l, c + 1) ?_ rfl ?_ ?_
   ·repeat first|exact lN9|refine lD9 ?_|refine lS9 ?_
   ·exact ⟨by omega, by omega, by omega, by omega, by omega, hgo⟩
   ·show m - (i + 1) < m - i
    omega
 ·have hlt : i = m := by have : ¬ (i : Int) < m := oF9 h
                         omega
  subst hlt
  rw [Nat.sub_self] at hgo
  simp only [passGo] at hgo
  conv => whnf
  refine ⟨by omega, ?_⟩
  conv => whnf
  refine eE9 ⟨rfl, ?_⟩
  show _ = [rdO (passV ⟨s, f, l0, c0⟩ i)]
  simp only [passV, rdO]
  rw [show ((i : Int)).toNat = i from rfl, ← hgo]
  rfl
theorem passGo_range (s : ByteArray) : ∀ (k i : Nat) (l c : Int), 0 ≤ l → 0 ≤ c → 0 ≤ (passGo s k i l c).1 ∧ (passGo s k i l c).1 ≤ l + k ∧ 0 ≤ (passGo s k i l c).2 ∧ (passGo s k i l c).2 ≤ c + 1 + k ∧ (0 < c → (passGo s k i l c).2 ≤ c + k)
 | 0, _, l, c, hl, hc => by simp only [passGo]; omega
 | k + 1, i, l, c, hl, hc => by
  simp only [passGo]
  split
  ·have := passGo_range s k (i + 1) (l + 1) 1 (by omega) (by omega); omega
  ·have := passGo_range s k (i + 1) l (c + 1) hl (by omega); omega
theorem passV_size {r : RdV} {n : Int} (h0 : 0 ≤ n) (h1 : n ≤ r.rest.size) : ((passV r n).rest.size : Int) = r.rest.size - n := by
 simp only [passV]
 rw [ByteArray.size_extract]
 omega
theorem passV_ok {r : RdV} {n : Int} (hr : r.ok) (h0 : 0 ≤ n) (h1 : n ≤ r.rest.size) : (passV r n).ok := by
 obtain ⟨a, b, c, d, e⟩ := hr
 have hs := passV_size h0 h1
 have hp := passGo_range r.rest n.toNat 0 r.line r.column b (by omega)
 have hpos : ∀ (k i : Nat) (l c : Int), 1 ≤ c → 1 ≤ (passGo r.rest k i l c).2 := by
  intro k
  induction k with
  | zero => intro i l c hc; exact hc
  | succ k ih =>
   intro i l c hc
   simp only [passGo]
   split
   ·exact ih _ _ _ (by omega)
   ·exact ih _ _ _ (by omega)
 have hq := hpos n.toNat 0 r.line r.column d
 have h3 := hp.2.2.2.2 (by omega)
 refine ⟨by omega, hp.1, ?_, hq, ?_⟩
 ·show (passGo r.rest n.toNat 0 r.line r.column).1 + ((passV r n).rest.size : Int) ≤ _
  omega
 ·show (passGo r.rest n.toNat 0 r.line r.column).2 + ((passV r n).rest.size : Int) ≤ _
  omega
theorem sepV_range (s : ByteArray) : 0 ≤ (sepV s).1 ∧ (sepV s).1 ≤ s.size := by
 unfold sepV
 split
 ·have := leadN_le lineB s; simp only; omega
 ·split
  ·rename_i h2
   have hsz : 2 ≤ s.size := prefB_size h2
   have hsz2 : (s.extract 2 s.size).size = s.size - 2 := by rw [ByteArray.size_extract]; omega
   have hroom := indexV_room (s.extract 2 s.size) ⟨#[42, 47]⟩
   split
   ·simp only; omega
   ·have h3 := hroom (by omega)
    have h4 : (ByteArray.mk #[42, 47]).size = 2 := rfl
    rw [h4] at h3
    simp only
    omega
  ·have := leadN_le spaceB s; simp only; omega
def sepGo : Nat → RdV → Int × RdV
 | 0, r => (0, r)
 | k + 1, r => if decide ((sepV r.rest).1 = 0) || !decide ((sepV r.rest).2 = 0) then ((sepV r.rest).2, r) else sepGo k (passV r (sepV r.rest).1)
def sepAll (r : RdV) : Int × RdV := sepGo (r.rest.size + 1) r
def T47 : Table := ext T46 78 (saysRd fun r => (some r.ok, .int .i64 (sepAll r).1, (sepAll r).2))
theorem t47 : TS9 T47 := by
 refine extRd t46 78 (fn := Tryz.f78) rfl rfl (by decide) _ [0, 2, 3, 4, 5, 18] fun r hr => ?_
 conv => whnf
 refine lI9 (σ := Nat × RdV) (fun _ => [(0, XV.s (.a (.c (.ptr 0 0)))), (2, XV.s (.int .i64 0)), (3, nX9), (4, nX9), (5, nX9), (18, nX9)])
  (fun ⟨_, q⟩ => [rdO q])
  (fun ⟨k, q⟩ => q.ok ∧ q.rest.size < k ∧ sepGo k q = sepAll r) (fun ⟨_, q⟩ => q.rest.size) (r.rest.size + 1, r) ?_ rfl ?_ fun ⟨k, q⟩ hI => ?_
 ·repeat first|exact lN9|refine lD9 ?_|refine lS9 ?_
 ·exact ⟨hr, nS9 _, rfl⟩
 obtain ⟨hq, hk, hgo⟩ := hI
 obtain ⟨k', rfl⟩ : ∃ k', k = k' + 1 := ⟨k - 1, by omega⟩
 simp only [sepGo] at hgo
 have hrg := sepV_range q.rest
 conv => whnf
 refine ⟨hq.1, ?_⟩
 conv => whnf
 refine cI9 ?_ ?_<;>intro h
 ·rw [if_pos h] at hgo
  conv => whnf
  refine eE9 ⟨?_, ?_⟩
  ·show _ = SV.int .i64 (sepAll r).1
   rw [← hgo]
  ·show _ = [rdO (sepAll r).2]
   rw [← hgo]
 ·rw [if_neg (by rw [h]; decide)] at hgo
  have hn : ¬ (sepV q.rest).1 = 0 := by
   intro h0
   simp [h0] at h
  conv => whnf
  refine ⟨⟨hq, hrg.1, hrg.2⟩, ?_⟩
  conv => whnf
  have hsz := passV_size hrg.1 hrg.2
  refine hI9 (k', passV q (sepV q.rest).1) ?_ rfl ?_ ?_
  ·repeat first|exact lN9|refine lD9 ?_|refine lS9 ?_
  ·exact ⟨passV_ok hq hrg.1 hrg.2, by omega, hgo⟩
  ·show (passV q (sepV q.rest).1).rest.size < q.rest.size
   omega
def cutV (s : ByteArray) : TokV × Int × Int :=
 if s = ⟨#[]⟩ then ({ kind := 8 }, 0, 0)
 else if firstB (byteAt s 0) || decide (byteAt s 0 = 35) then nameV s
 else if digitB (byteAt s 0) then numV s
 else if byteAt s 0 = 34 then cutStr s
 else if decide (byteAt s 0 = 38) && decide (1 < (s.size : Int)) && firstB (byteAt s 1) then
  ({ kind := 6, text := s.extract 1 (1 + (leadN wordB (s.extract 1 s.size) : Int)).toNat }, 1 + (leadN wordB (s.extract 1 s.size) : Int), 0)
 else if 0 < wordV s then ({ kind := 7, text := s.extract 1 (wordV s - 1).toNat }, wordV s, 0)
 else if 0 < signV s then ({ kind := 4, text := s.extract 0 (signV s).toNat }, signV s, 0)
 else ({}, 0, 20)
def T48 : Table := ext T47 88 (saysS fun s => (some (fits s), cutSV (cutV s)))
theorem wordV_range (s : ByteArray) (hs : 0 < s.size) : 0 ≤ wordV s ∧ wordV s ≤ s.size ∧ (0 < wordV s → 3 ≤ wordV s) := by
 have hle := leadN_le slashB (s.extract 1 s.size)
 have hsz : (s.extract 1 s.size).size = s.size - 1 := by rw [ByteArray.size_extract]; omega
 unfold wordV
 split
 ·omega
 ·split
  ·omega
  ·rename_i h
   simp at h
   omega
theorem signV_range (s : ByteArray) (hs : 0 < s.size) : 0 ≤ signV s ∧ signV s ≤ s.size := by
 unfold signV
 split
 ·rename_i h
  have := oT9 (bA9.1 h).1
  omega
 ·split <;> omega
theorem lead_pos {p : Int → Bool} {s : ByteArray} (hs : 0 < s.size) (h : p (byteAt s 0) = true) : 0 < leadN p s := by
 have h' : 0 < s.data.toList.length := hs
 unfold leadN
 unfold byteAt at h
 rw [show ((0 : Int).toNat) = 0 from rfl] at h
 revert h h'
 generalize s.data.toList = l
 cases l with
 | nil => intro _ h; simp at h
 | cons x l =>
  intro h _
  have h2 : p ((x.toNat : Nat) : Int) = true := h
  rw [List.takeWhile_cons_of_pos (p := fun u : UInt8 => p ((u.toNat : Nat) : Int)) h2]
  simp
theorem t48 : TS9 T48 := by
 refine extS t47 88 (fn := Tryz.f88) rfl rfl (by decide) _ [0, 2, 3, 4, 5, 6, 7, 8, 10, 14, 26, 34, 42, 67, 77] fun s hs => ?_
 have hs' : s.size ≤ 1000000000 := hs
 conv => whnf
 refine cI9 ?_ ?_<;>intro h
 ·have h' : s = ⟨#[]⟩ := oT9 h
  conv => whnf
  refine eT9 ?_
  simp only [cutV, if_pos h']
  rfl
 have h' : ¬ s = ⟨#[]⟩ := oF9 h
 have hpos := size_pos h'
 conv => whnf
 refine ⟨by omega, ?_⟩
 conv => whnf
 refine cI9 ?_ ?_<;>intro h1
 ·conv => whnf
  refine ⟨hs, ?_⟩
  conv => whnf
  refine eT9 ?_
  simp only [cutV, if_neg h']
  rw [if_pos h1]
  rfl
 conv => whnf
 refine cI9 ?_ ?_<;>intro h2
 ·conv => whnf
  refine ⟨⟨hs, lead_pos hpos ?_⟩, ?_⟩
  ·unfold wordB
   have : digitB (byteAt s 0) = true := h2
   rw [this, Bool.or_true]
  conv => whnf
  refine eT9 ?_
  simp only [cutV, if_neg h']
  rw [if_neg (by rw [h1]; decide), if_pos h2]
  rfl
 conv => whnf
 refine cI9 ?_ ?_<;>intro h3
 ·have h3' : byteAt s 0 = 34 := oT9 h3
  conv => whnf
  refine ⟨hs, ?_⟩
  conv => whnf
  refine eT9 ?_
  simp only [cutV, if_neg h']
  rw [if_neg (by rw [h1]; decide), if_neg (by rw [h2]; decide), if_pos h3']
  rfl
 have h3' : ¬ byteAt s 0 = 34 := oF9 h3
 have hle := leadN_le wordB (s.extract 1 s.size)
 have hsz : (s.extract 1 s.size).size = s.size - 1 := by rw [ByteArray.size_extract]; omega
 have e : (leadN wordB (s.extract (1 : Int).toNat (s.size : Int).toNat) : Int) = leadN wordB (s.extract 1 s.size) := rfl
 conv => whnf
 refine ⟨fun h => ?_, ?_⟩
 ·simp [lit] at h; omega
 conv => whnf
 refine cI9 ?_ ?_<;>intro h4
 ·conv => whnf
  refine ⟨by omega, ?_⟩
  conv => whnf
  refine ⟨?_, ?_⟩
  ·show (s.extract 1 s.size).size ≤ 1000000000
   omega
  conv => whnf
  refine ⟨by rw [e]; unfold inI64; omega, ?_⟩
  conv => whnf
  refine ⟨by rw [e]; omega, ?_⟩
  conv => whnf
  refine eT9 ?_
  simp only [cutV, if_neg h']
  rw [if_neg (by rw [h1]; decide), if_neg (by rw [h2]; decide), if_neg h3', if_pos h4]
  rfl
 have hw := wordV_range s hpos
 conv => whnf
 refine ⟨⟨hs, hpos⟩, ?_⟩
 conv => whnf
 refine cI9 ?_ ?_<;>intro h5
 ·have h5' : 0 < wordV s := oT9 h5
  conv => whnf
  refine ⟨by unfold inI64; omega, ?_⟩
  conv => whnf
  refine ⟨by omega, ?_⟩
  conv => whnf
  refine eT9 ?_
  simp only [cutV, if_neg h']
  rw [if_neg (by rw [h1]; decide), if_neg (by rw [h2]; decide), if_neg h3', if_neg (by rw [h4]; decide), if_pos h5']
  rfl
 have h5' : ¬ 0 < wordV s := oF9 h5
 have hg := signV_range s hpos
 conv => whnf
 refine ⟨⟨hs, hpos⟩, ?_⟩
 conv => whnf
 refine cI9 ?_ ?_<;>intro h6
 ·have h6' : 0 < signV s := oT9 h6
  conv => whnf
  refine ⟨by omega, ?_⟩
  conv => whnf
  refine eT9 ?_
  simp only [cutV, if_neg h']
  rw [if_neg (by rw [h1]; decide), if_neg (by rw [h2]; decide), if_neg h3', if_neg (by rw [h4]; decide), if_neg h5', if_pos h6']
  rfl
 ·have h6' : ¬ 0 < signV s := oF9 h6
  conv => whnf
  refine eT9 ?_
  simp only [cutV, if_neg h']
  rw [if_neg (by rw [h1]; decide), if_neg (by rw [h2]; decide), if_neg h3', if_neg (by rw [h4]; decide), if_neg h5', if_neg h6']
  rfl
theorem strGo_range (s : ByteArray) : ∀ (k : Nat) (i : Int) (zs : List Int), 0 ≤ i → (strGo s k i zs).2.2 = 0 → 0 ≤ (strGo s k i zs).2.1 ∧ (strGo s k i zs).2.1 ≤ s.size
 | 0, i, zs, _, h => by simp [strGo] at h
 | k + 1, i, zs, hi, h => by
  simp only [strGo] at h ⊢
  split
  ·rename_i h1; rw [if_pos h1] at h; simp at h
  ·rename_i h1
   rw [if_neg h1] at h
   have hlt := end_lt (by simpa using h1)
   split
   ·simp only; omega
   ·rename_i h2
    rw [if_neg h2] at h
    split
    ·rename_i h3
     rw [if_pos h3] at h
     split
     ·rename_i h4
      rw [if_pos h4] at h
      have hn := escV_n _ h4
      exact strGo_range s k _ _ (by omega) h
     ·rename_i h4
      rw [if_neg h4] at h
      exact (h4 h).elim
    ·rename_i h3
     rw [if_neg h3] at h
     exact strGo_range s k _ _ (by omega) h
theorem cutV_range (s : ByteArray) (h : (cutV s).2.2 = 0) : 0 ≤ (cutV s).2.1 ∧ (cutV s).2.1 ≤ s.size := by
 revert h
 unfold cutV
 split
 ·intro _; simp only; omega
 rename_i h0
 have hpos := size_pos h0
 split
 ·unfold nameV
  have := leadN_le nameB s
  split
  ·intro _; simp only; omega
  ·rename_i h1
   split
   ·intro h; simp at h
   ·intro _
    simp at h1
    simp only
    omega
 split
 ·unfold numV
  have := leadN_le wordB s
  split
  ·intro _; simp only; omega
  ·rename_i h1
   intro h
   exact (h1 h).elim
 split
 ·intro h
  unfold cutStr at h ⊢
  exact strGo_range s _ _ _ (by omega) h
 split
 ·rename_i h1
  have hle := leadN_le wordB (s.extract 1 s.size)
  have hsz : (s.extract 1 s.size).size = s.size - 1 := by rw [ByteArray.size_extract]; omega
  intro _
  simp only
  omega
 split
 ·have := wordV_range s hpos
  intro _; simp only; omega
 split
 ·have := signV_range s hpos
  intro _; simp only; omega
 ·intro h; simp at h
def nextV (r : RdV) : TokV × Int × RdV :=
 if (sepAll r).1 = 0 then
  if (cutV (sepAll r).2.rest).2.2 = 0 then
   ({ (cutV (sepAll r).2.rest).1 with file := (sepAll r).2.file, line := (sepAll r).2.line, column := (sepAll r).2.column }, 0, passV (sepAll r).2 (cutV (sepAll r).2.rest).2.1)
  else ({}, (cutV (sepAll r).2.rest).2.2, (sepAll r).2)
 else ({}, (sepAll r).1, (sepAll r).2)
theorem sepGo_ok : ∀ (k : Nat) (r : RdV), r.ok → (sepGo k r).2.ok ∧ (sepGo k r).2.rest.size ≤ r.rest.size
 | 0, r, h => ⟨h, nR9 _⟩
 | k + 1, r, h => by
  simp only [sepGo]
  split
  ·exact ⟨h, nR9 _⟩
  ·have hr := sepV_range r.rest
   have := sepGo_ok k _ (passV_ok h hr.1 hr.2)
   have hs := passV_size hr.1 hr.2
   exact ⟨this.1, by omega⟩
theorem sepAll_ok {r : RdV} (h : r.ok) : (sepAll r).2.ok ∧ (sepAll r).2.rest.size ≤ r.rest.size := sepGo_ok _ r h
def T49 : Table := ext T48 77 (saysRd fun r => (some r.ok, .tup [(nextV r).1.av, .c (.int .i64 (nextV r).2.1)], (nextV r).2.2))
theorem t49 : TS9 T49 := by
 refine extRd t48 77 (fn := Tryz.f77) rfl rfl (by decide) _ [0, 2, 3, 4, 5, 6, 7, 11, 24] fun r hr => ?_
 have hso := sepAll_ok hr
 conv => whnf
 refine ⟨hr, ?_⟩
 conv => whnf
 refine cI9 ?_ ?_<;>intro h
 ·have h' : ¬ (sepAll r).1 = 0 := by simpa using h
  conv => whnf
  refine eE9 ⟨?_, ?_⟩
  ·show _ = SV.tup [(nextV r).1.av, .c (.int .i64 (nextV r).2.1)]
   simp only [nextV, if_neg h']
   rfl
  ·show _ = [rdO (nextV r).2.2]
   simp only [nextV, if_neg h']
 have h' : (sepAll r).1 = 0 := by simpa using h
 conv => whnf
 refine ⟨hso.1.1, ?_⟩
 conv => whnf
 refine cI9 ?_ ?_<;>intro h2
 ·have h2' : ¬ (cutV (sepAll r).2.rest).2.2 = 0 := by simpa using h2
  conv => whnf
  refine eE9 ⟨?_, ?_⟩
  ·show _ = SV.tup [(nextV r).1.av, .c (.int .i64 (nextV r).2.1)]
   simp only [nextV, if_pos h', if_neg h2']
   rfl
  ·show _ = [rdO (nextV r).2.2]
   simp only [nextV, if_pos h', if_neg h2']
 have h2' : (cutV (sepAll r).2.rest).2.2 = 0 := by simpa using h2
 have hrg := cutV_range _ h2'
 conv => whnf
 refine ⟨⟨hso.1, hrg.1, hrg.2⟩, ?_⟩
 conv => whnf
 refine eE9 ⟨?_, ?_⟩
 ·show _ = SV.tup [(nextV r).1.av, .c (.int .i64 (nextV r).2.1)]
  simp only [nextV, if_pos h', if_pos h2']
  rfl
 ·show _ = [rdO (nextV r).2.2]
  simp only [nextV, if_pos h', if_pos h2']
abbrev tokC : CT := .pair (.int .i64) (.pair .str (.pair (.int .i64) (.pair (.int .i64) (.pair (.int .i64) (.int .i64)))))
def TokV.den (t : TokV) : tokC.den := (t.kind, t.text, t.value, t.file, t.line, t.column)
theorem nextV_ok {r : RdV} (h : r.ok) : (nextV r).2.2.ok := by
 have hs := sepAll_ok h
 unfold nextV
 split
 ·split
  ·rename_i h2
   have hr := cutV_range _ h2
   exact passV_ok hs.1 hr.1 hr.2
  ·exact hs.1
 ·exact hs.1
structure ReadV where
 toks : List tokC.den
 file : Int
 line : Int
 column : Int
 err : Int
def ReadV.sv (x : ReadV) : SV := .tup [.c (.p (.l tokC x.toks)), .agg [.int .i64 x.file, .int .i64 x.line, .int .i64 x.column], .c (.int .i64 x.err)]
def readGo : Nat → RdV → List tokC.den → ReadV
 | 0, r, _ => ⟨[], (sepAll r).2.file, (sepAll r).2.line, (sepAll r).2.column, if (sepAll r).1 = 0 then 3 else (sepAll r).1⟩
 | k + 1, r, zs =>
  if (nextV r).2.1 = 0 then
   if (nextV r).1.kind = 8 then ⟨zs ++ [(nextV r).1.den], 0, 0, 0, 0⟩ else readGo k (nextV r).2.2 (zs ++ [(nextV r).1.den])
  else ⟨[], (nextV r).2.2.file, (nextV r).2.2.line, (nextV r).2.2.column, (nextV r).2.1⟩
def readV (s : ByteArray) (f : Int) : ReadV := if 16000 < (s.size : Int) then ⟨[], 0, 0, 0, 3⟩ else readGo 6000 ⟨s, f, 1, 1⟩ []
theorem nil_sle (c : CT) {rest : List AV} (G : View) (v : Value) (h : RepS G (.tup (.c (.p (.v (.slice none 0 0))) :: rest)) v) : RepS G (.tup (.c (.p (.l c [])) :: rest)) v := by
 obtain ⟨vs, rfl, hv⟩ := h
 cases hv with
 | cons h1 t =>
  refine ⟨_, rfl, .cons ?_ t⟩
  obtain ⟨_, rfl⟩ := h1
  exact .inl ⟨rfl, rfl⟩
def T50 : Table := ext T49 72 (saysSI fun s f => (none, (readV s f).sv))
theorem t50 : TS9 T50 := by
 refine extSI t49 72 (fn := Tryz.f72) rfl rfl (by decide) _ [0, 1, 4, 5, 6, 7, 8, 9, 10, 11, 14, 20, 21, 22, 27, 37, 43] fun s f _ => ?_
 conv => whnf
 refine cI9 ?_ ?_<;>intro h
 ·have h' : 16000 < (s.size : Int) := oT9 h
  conv => whnf
  refine eO9 (fun G v hv => ?_) rfl
  have := nil_sle tokC G v hv
  show RepS G (readV s f).sv v
  rw [readV, if_pos h']
  exact this
 have h' : ¬ 16000 < (s.size : Int) := oF9 h
 conv => whnf
 refine loop_weak (σ := Nat × RdV × List tokC.den) (fun ⟨i, _, zs⟩ => [(0, XV.s (SV.str s)), (1, XV.s (.int .i64 f)), (4, XV.s (.v (.slice none 0 0))), (5, XV.s (.a (.c (.ptr 0 0)))), (6, XV.s (.int .i64 0)), (7, XV.s (.a (.c (.ptr 1 0)))), (8, XV.s (.a (.c (.own 2 tokC zs)))), (9, nX9), (10, nX9), (11, nX9), (14, nX9), (20, XV.s (.int .i64 i)), (21, nX9), (22, nX9), (27, nX9), (37, nX9), (43, nX9)])
  (fun ⟨_, q, zs⟩ => [.row [.int .i64 0, .int .i64 0, .int .i64 0], rdO q, .tok 69 tokC zs.length true])
  (fun ⟨i, q, zs⟩ => i ≤ 6000 ∧ q.ok ∧ zs.length ≤ i ∧ readGo (6000 - i) q zs = readV s f) (fun ⟨i, _, _⟩ => 6000 - i) (0, ⟨s, f, 1, 1⟩, []) ?_ ?_ fun ⟨i, q, zs⟩ hI => ?_
 ·refine Weak.own 69 ?_
  repeat first|exact wN9|refine wD9 ?_|refine wS9 ?_|refine wO9 ?_
 ·refine ⟨by omega, ⟨by show s.size ≤ _; omega, by show (0 : Int) ≤ 1; omega, by show (1 : Int) + s.size ≤ _; omega, by show (1 : Int) ≤ 1; omega, by show (1 : Int) + s.size ≤ _; omega⟩, by simp, ?_⟩
  rw [readV, if_neg h']
 obtain ⟨hi, hq, hz, hgo⟩ := hI
 have hqn := nextV_ok hq
 conv => whnf
 refine cI9 ?_ ?_<;>intro h
 ·have hlt : i < 6000 := by have : (i : Int) < 6000 := oT9 h
                            omega
  rw [show 6000 - i = (6000 - (i + 1)) + 1 from by omega] at hgo
  simp only [readGo] at hgo
  conv => whnf
  refine ⟨hq, ?_⟩
  conv => whnf
  refine cI9 ?_ ?_<;>intro h2
  ·have h2' : ¬ (nextV q).2.1 = 0 := by simpa using h2
   rw [if_neg h2'] at hgo
   conv => whnf
   refine ⟨by decide +kernel, ?_⟩
   conv => whnf
   refine eO9 (fun G v hv => ?_) rfl
   have := nil_sle tokC G v hv
   show RepS G (readV s f).sv v
   rw [← hgo]
   exact this
  have h2' : (nextV q).2.1 = 0 := by simpa using h2
  rw [if_pos h2'] at hgo
  conv => whnf
  refine ⟨rfl, (by show zs.length + 1 ≤ 1000000000000; omega), ?_⟩
  conv => whnf
  refine cI9 ?_ ?_<;>intro h3
  ·have h3' : (nextV q).1.kind = 8 := oT9 h3
   rw [if_pos h3'] at hgo
   conv => whnf
   refine eT9 ?_
   show _ = (readV s f).sv
   rw [← hgo]
   rfl
  have h3' : ¬ (nextV q).1.kind = 8 := oF9 h3
  rw [if_neg h3'] at hgo
  conv => whnf
  refine ⟨by unfold inI64; omega, ?_⟩
  conv => whnf
  refine kI9 (i + 1, (nextV q).2.2, zs ++ [(nextV q).1.den]) [0, 1, 2] rfl (fun k hk => ?_) ?_ ?_ ?_ ?_
  ·have hk' : k < 2 := hk
   have : k = 0 ∨ k = 1 := by omega
   rcases this with rfl | rfl <;> rfl
  ·show _ = some [AO.row _, _, AO.tok 69 tokC (zs ++ [(nextV q).1.den]).length true]
   rw [zP9]
   rfl
  ·repeat first|exact kN9|refine kD9 ?_|refine kR9 rfl ?_
  ·refine ⟨by omega, hqn, ?_, hgo⟩
   rw [zP9]
   simp only [zC9, zN9]
   omega
  ·show 6000 - (i + 1) < 6000 - i
   omega
 ·have hlt : i = 6000 := by have : ¬ (i : Int) < 6000 := oF9 h
                            omega
  subst hlt
  rw [Nat.sub_self] at hgo
  simp only [readGo] at hgo
  conv => whnf
  refine ⟨hq, ?_⟩
  conv => whnf
  refine cI9 ?_ ?_<;>intro h2
  ·have h2' : ¬ (sepAll q).1 = 0 := by simpa using h2
   rw [if_neg h2'] at hgo
   conv => whnf
   refine ⟨by decide +kernel, ?_⟩
   conv => whnf
   refine eO9 (fun G v hv => ?_) rfl
   have := nil_sle tokC G v hv
   show RepS G (readV s f).sv v
   rw [← hgo]
   exact this
  ·have h2' : (sepAll q).1 = 0 := by simpa using h2
   rw [if_pos h2'] at hgo
   conv => whnf
   refine ⟨by decide +kernel, ?_⟩
   conv => whnf
   refine eO9 (fun G v hv => ?_) rfl
   have := nil_sle tokC G v hv
   show RepS G (readV s f).sv v
   rw [← hgo]
   exact this
end Go.Ab
namespace Go.Ab
set_option linter.unusedSectionVars false
variable [Base]
theorem all2_set {α β : Type} {R : α → β → Prop} : ∀ {l : List α} {m : List β}, All2 R l m → ∀ (k : Nat) (x : α), (∀ y, m[k]? = some y → R x y) → All2 R (l.set k x) m := by
 intro l m h
 induction h with
 | nil => intro k x _; exact .nil
 | cons h1 h2 ih =>
  intro k x hx
  cases k with
  | zero => exact .cons (hx _ rfl) h2
  | succ k => exact .cons h1 (ih k x fun y hy => hx y hy)
theorem all2_get' {α β : Type} {R : α → β → Prop} : ∀ {l : List α} {m : List β}, All2 R l m → ∀ {k : Nat} {x : α} {y : β}, l[k]? = some x → m[k]? = some y → R x y := by
 intro l m h
 induction h with
 | nil => intro k x y h; simp at h
 | cons h1 h2 ih =>
  intro k x y hx hy
  cases k with
  | zero => cases hx; cases hy; exact h1
  | succ k => exact ih hx hy
theorem weak_sl {G : View} (hS : Sim G) {id : Nat} {cs : List AC} (ho : G.H[id]? = some (.row cs)) (k : Nat) (hk : cs[k]? = some (.p (.v (.slice none 0 0)))) (t : TypeId) (e : CT) :
  ∃ G' : View, G'.w = G.w ∧ Ext G G' ∧ Sim G' ∧ G'.H = (G.H ++ [AO.arr t e [] 0]).set id (.row (cs.set k (.sl G.H.length e 0 0))) := by
 have hnb : ¬ (AO.arr t e [] 0).blocked := by intro hb; exact absurd hb (Nat.lt_irrefl 0)
 have hx1 : Ext G (G.obj G.w.heap.size (.arr t e [] 0)) := Ext.obj_self G fun hb => absurd hb hnb
 have hS1 : Sim (G.obj G.w.heap.size (.arr t e [] 0)) := hS.obj (fun id hid => absurd (hS.lt hid) (Nat.lt_irrefl _)) fun hb => absurd hb hnb
 obtain ⟨ho1, hρ1⟩ := View.obj_get (b := G.w.heap.size) (o := AO.arr t e [] 0) ho
 have hok := hS1.objs id _ ho1 trivial
 have hh : (G.obj G.w.heap.size (.arr t e [] 0)).holds id ((G.obj G.w.heap.size (.arr t e [] 0)).ρ id) := ⟨_, ho1, trivial, rfl⟩
 have hid : id < G.H.length := (List.getElem?_eq_some_iff.1 ho).1
 obtain ⟨vs, T, hheap, hno, hall⟩ := hok
 have g : Upd (G.obj G.w.heap.size (.arr t e [] 0)) id ((G.obj G.w.heap.size (.arr t e [] 0)).ρ id) (.row cs) (.row (cs.set k (.sl G.H.length e 0 0))) (fun _ => False) G.w :=
  ⟨ho1, ⟨by rw [View.upd_ρ, if_pos rfl], by simp⟩, nR9 _, rfl, rfl, rfl, fun _ _ _ => rfl, .inr hh, hS1.lt hh, hno⟩
 have hx2 := Ext.upd hS1 g
 refine ⟨(G.obj G.w.heap.size (AO.arr t e [] 0)).upd id ((G.obj G.w.heap.size (AO.arr t e [] 0)).ρ id) (.row (cs.set k (.sl G.H.length e 0 0))) (fun _ => False) G.w, rfl, hx1.trans hx2, Sim.upd hS1 g fun _ => ?_, rfl⟩
 have hρ2 : ((G.obj G.w.heap.size (.arr t e [] 0)).upd id ((G.obj G.w.heap.size (.arr t e [] 0)).ρ id) (.row (cs.set k (.sl G.H.length e 0 0))) (fun _ => False) G.w).ρ id = (G.obj G.w.heap.size (.arr t e [] 0)).ρ id := by
  rw [View.upd_ρ, if_pos rfl]
 refine ⟨vs, T, by rw [hρ2]; exact hheap, fun o ho => ?_, ?_⟩
 ·rw [hρ2] at ho
  rcases ho with ho | ⟨_, ho⟩
  ·exact hno o ho
  ·exact ho
 ·refine all2_set (hall.mono fun _ _ h => h.mono hx2) k _ fun y hy => ?_
  have hy0 := all2_get' hall hk hy
  obtain ⟨_, hy0⟩ := hy0
  subst hy0
  refine ⟨rfl, .inr ⟨t, [], 0, ?_, nR9 _, fun _ => ⟨nR9 _, .inl ⟨rfl, rfl⟩⟩⟩⟩
  show ((G.H ++ [AO.arr t e [] 0]).set id _)[G.H.length]? = _
  rw [List.getElem?_set_ne (by omega)]
  simp
theorem set_cell {G : View} (hS : Sim G) {id : Nat} {cs : List AC} (ho : G.H[id]? = some (.row cs)) (k : Nat) (y : AC)
  (hy : ∀ (vs : Array Value) T v, G.w.heap[G.ρ id]? = some (.cells vs T (0, 0)) → vs.toList[k]? = some v → RepC G y v) :
  ∃ G' : View, G'.w = G.w ∧ Ext G G' ∧ Sim G' ∧ G'.H = G.H.set id (.row (cs.set k y)) := by
 have hh : G.holds id (G.ρ id) := ⟨_, ho, trivial, rfl⟩
 obtain ⟨vs, T, hheap, hno, hall⟩ := hS.objs id _ ho trivial
 have g : Upd G id (G.ρ id) (.row cs) (.row (cs.set k y)) (fun _ => False) G.w :=
  ⟨ho, ⟨by rw [View.upd_ρ, if_pos rfl], by simp⟩, nR9 _, rfl, rfl, rfl, fun _ _ _ => rfl, .inr hh, hS.lt hh, hno⟩
 have hx2 := Ext.upd hS g
 refine ⟨G.upd id (G.ρ id) (.row (cs.set k y)) (fun _ => False) G.w, rfl, hx2, Sim.upd hS g fun _ => ?_, rfl⟩
 have hρ2 : (G.upd id (G.ρ id) (.row (cs.set k y)) (fun _ => False) G.w).ρ id = G.ρ id := by
  rw [View.upd_ρ, if_pos rfl]
 refine ⟨vs, T, by rw [hρ2]; exact hheap, fun o ho => ?_, ?_⟩
 ·rw [hρ2] at ho
  rcases ho with ho | ⟨_, ho⟩
  ·exact hno o ho
  ·exact ho
 ·exact all2_set (hall.mono fun _ _ h => h.mono hx2) k _ fun v hv => (hy vs T v hheap hv).mono hx2
theorem all2_at {α β : Type} {R : α → β → Prop} : ∀ {l : List α} {m : List β}, All2 R l m → ∀ {k : Nat} {x : α}, l[k]? = some x → ∃ y, m[k]? = some y ∧ R x y := by
 intro l m h
 induction h with
 | nil => intro k x h; simp at h
 | cons h1 h2 ih =>
  intro k x hx
  cases k with
  | zero => cases hx; exact ⟨_, rfl, h1⟩
  | succ k => exact ih hx
theorem may_split {G : View} (hS : Sim G) {id : Nat} {cs : List AC} (ho : G.H[id]? = some (.row cs)) (k : Nat) (x : PV) (hk : cs[k]? = some (.may x)) :
  ∃ y, (y = .p (.v (.slice none 0 0)) ∨ y = .p x) ∧ ∃ G' : View, G'.w = G.w ∧ Ext G G' ∧ Sim G' ∧ G'.H = G.H.set id (.row (cs.set k y)) := by
 obtain ⟨vs, T, hheap, hno, hall⟩ := hS.objs id _ ho trivial
 obtain ⟨v, hv, hr⟩ := all2_at hall hk
 have same : ∀ (vs' : Array Value) T' v', G.w.heap[G.ρ id]? = some (.cells vs' T' (0, 0)) → vs'.toList[k]? = some v' → v' = v := by
  intro vs' T' v' h1 h2
  rw [hheap] at h1
  cases h1
  rw [hv] at h2
  cases h2
  rfl
 rcases hr with hr | hr
 ·exact ⟨_, .inl rfl, set_cell hS ho k _ fun vs' T' v' h1 h2 => by rw [same vs' T' v' h1 h2]; exact hr⟩
 ·exact ⟨_, .inr rfl, set_cell hS ho k _ fun vs' T' v' h1 h2 => by rw [same vs' T' v' h1 h2]; exact hr⟩
theorem may_join {G : View} (hS : Sim G) {id : Nat} {cs : List AC} (ho : G.H[id]? = some (.row cs)) (k : Nat) (x : PV) (hk : cs[k]? = some (.p x) ∨ cs[k]? = some (.p (.v (.slice none 0 0)))) :
  ∃ G' : View, G'.w = G.w ∧ Ext G G' ∧ Sim G' ∧ G'.H = G.H.set id (.row (cs.set k (.may x))) := by
 refine set_cell hS ho k _ fun vs' T' v' h1 h2 => ?_
 obtain ⟨vs, T, hheap, hno, hall⟩ := hS.objs id _ ho trivial
 rw [hheap] at h1
 cases h1
 rcases hk with hk | hk
 ·exact .inr (all2_get' hall hk h2)
 ·exact .inl (all2_get' hall hk h2)
theorem CallOk.trans {P : Program} {f : FuncId} {cargs : List Value} {G G1 : View} {R : Value → View → Prop} (hw : G1.w = G.w) (hx : Ext G G1) (h : CallOk P f cargs G1 R) : CallOk P f cargs G R := by
 rcases h with ⟨v, G', h1, h2, h3, h4⟩ | ⟨h1, h2⟩
 ·exact .inl ⟨v, G', hw ▸ h1, hx.trans h2, h3, h4⟩
 ·exact .inr ⟨hw ▸ h1, (hw ▸ h2).mono fun e w' ⟨v, G', he, hw', hx', hS', hr⟩ => ⟨v, G', he, hw', hx.trans hx', hS', hr⟩⟩
theorem CallOk.mono' {P : Program} {f : FuncId} {cargs : List Value} {G : View} {R R' : Value → View → Prop} (h : CallOk P f cargs G R) (hR : ∀ v G', Sim G' → R v G' → ∃ G'', G''.w = G'.w ∧ Ext G' G'' ∧ Sim G'' ∧ R' v G'') : CallOk P f cargs G R' := by
 rcases h with ⟨v, G', h1, h2, h3, h4⟩ | ⟨h1, h2⟩
 ·obtain ⟨G'', hw, hx, hs, hr⟩ := hR v G' h3 h4
  exact .inl ⟨v, G'', hw ▸ h1, h2.trans hx, hs, hr⟩
 ·refine .inr ⟨h1, h2.mono fun e w' ⟨v, G', he, hw', hx', hS', hr⟩ => ?_⟩
  obtain ⟨G'', hw, hx, hs, hr'⟩ := hR v G' hS' hr
  exact ⟨v, G'', he, hw.trans hw', hx'.trans hx, hs, hr'⟩
theorem ext_may {P : Program} {T : Table} (hT : TSound P T) (f : FuncId) (k : Nat) (x : PV) (s : Says)
  (h : ∀ args H p r H', s args H = some (p, r, H') → holdsO p → H' = [] ∧ ∃ cs Hr, H = .row cs :: Hr ∧ cs[k]? = some (.may x) ∧
   ∀ y, (y = .p (.v (.slice none 0 0)) ∨ y = .p x) → ∃ p' H1, T f args (.row (cs.set k y) :: Hr) = some (p', r, H1) ∧ holdsO p' ∧ norm (.row (cs.set k y) :: Hr) H1 = .row (cs.set k (.p x)) :: Hr) : TSound P (ext T f s) := by
 intro g args H p r H' hg hp G hS hH cargs ha
 unfold ext at hg
 split at hg
 ·rename_i hb
  have : g = f := by simpa using hb
  subst this
  obtain ⟨rfl, cs, Hr, rfl, hk, hall⟩ := h args H p r H' hg hp
  have ho : G.H[0]? = some (.row cs) := by rw [hH]; rfl
  obtain ⟨y, hy, G1, hw1, hx1, hS1, hH1⟩ := may_split hS ho k x hk
  obtain ⟨p', H1, ht, hp', hn⟩ := hall y hy
  have hH1' : G1.H = .row (cs.set k y) :: Hr := by rw [hH1, hH]; rfl
  have := hT g args _ p' r H1 ht hp' G1 hS1 hH1' cargs (ha.mono fun _ _ h => h.mono hx1)
  rw [hn] at this
  refine (this.mono' fun v G' hS' ⟨hH', hr⟩ => ?_).trans hw1 hx1
  have ho' : G'.H[0]? = some (.row (cs.set k (.p x))) := by rw [hH']; rfl
  have hlt : k < cs.length := (List.getElem?_eq_some_iff.1 hk).1
  obtain ⟨G2, hw2, hx2, hS2, hH2⟩ := may_join hS' ho' k x (.inl (by rw [List.getElem?_set_self hlt]))
  refine ⟨G2, hw2, hx2, hS2, ?_, hr.mono hx2⟩
  rw [hH2, hH', List.set_cons_zero, List.set_set]
  have : cs.set k (.may x) = cs := by
   apply List.ext_getElem?
   intro i
   by_cases hi : k = i
   ·subst hi; rw [List.getElem?_set_self hlt, hk]
   ·rw [List.getElem?_set_ne hi]
  rw [this]
  rfl
 ·exact hT g args H p r H' hg hp G hS hH cargs ha
theorem ext_weak {P : Program} {T : Table} (hT : TSound P T) (f : FuncId) (s : Says)
  (h : ∀ args H p r H', s args H = some (p, r, H') → holdsO p → ∃ p' H2, T f args H2 = some (p', r, H') ∧ holdsO p' ∧ norm H2 H' = H' ∧ ∀ G : View, Sim G → G.H = H → ∃ G' : View, G'.w = G.w ∧ Ext G G' ∧ Sim G' ∧ G'.H = H2) : TSound P (ext T f s) :=
 ext_sound hT fun args H p r H' hs hp G hS hH cargs ha => by
  obtain ⟨p', H2, ht, hp', hn, hw⟩ := h args H p r H' hs hp
  obtain ⟨G1, hw1, hx, hS1, hH1⟩ := hw G hS hH
  have := hT f args H2 p' r H' ht hp' G1 hS1 hH1 cargs (ha.mono fun _ _ h => h.mono hx)
  rw [hn] at this
  exact this.trans hw1 hx
end Go.Ab
