/- Package token: the reader. -/
import Derived.Test.YticjnehdhageoaaAbR6
namespace Go.Ab
open Go.Proofs
set_option linter.unusedSectionVars false
set_option maxRecDepth 100000
variable [Glob]

/-- What is left of a text, and the place at which it begins. -/
structure RdV where
  rest : ByteArray
  file : Int
  line : Int
  column : Int

abbrev rdO (r : RdV) : AO := .row [.str r.rest, .int .i64 r.file, .int .i64 r.line, .int .i64 r.column]

def RdV.ok (r : RdV) : Prop := r.rest.size ≤ 1000000000 ∧ 0 ≤ r.line ∧ r.line + r.rest.size ≤ 1000000000000 ∧ 1 ≤ r.column ∧ r.column + r.rest.size ≤ 1000000000000

def passGo (s : ByteArray) : Nat → Nat → Int → Int → Int × Int
  | 0, _, l, c => (l, c)
  | k + 1, i, l, c => if byteAt s i = 10 then passGo s k (i + 1) (l + 1) 1 else passGo s k (i + 1) l (c + 1)

def passV (r : RdV) (n : Int) : RdV := ⟨r.rest.extract n.toNat r.rest.size, r.file, (passGo r.rest n.toNat 0 r.line r.column).1, (passGo r.rest n.toNat 0 r.line r.column).2⟩

def saysRd (g : RdV → Option Prop × SV × RdV) : Says := fun args H => match args, H with
  | [.c (.ptr 0 0)], [.row [.p (.v (.string s)), .p (.v (.int .i64 f)), .p (.v (.int .i64 l)), .p (.v (.int .i64 c))]] => some ((g ⟨s, f, l, c⟩).1, (g ⟨s, f, l, c⟩).2.1, [rdO (g ⟨s, f, l, c⟩).2.2])
  | _, _ => none

def saysRdI (g : RdV → Int → Option Prop × SV × RdV) : Says := fun args H => match args, H with
  | [.c (.ptr 0 0), .c (.p (.v (.int .i64 n)))], [.row [.p (.v (.string s)), .p (.v (.int .i64 f)), .p (.v (.int .i64 l)), .p (.v (.int .i64 c))]] => some ((g ⟨s, f, l, c⟩ n).1, (g ⟨s, f, l, c⟩ n).2.1, [rdO (g ⟨s, f, l, c⟩ n).2.2])
  | _, _ => none

theorem extRd {P : Program} {T : Table} (hT : TSound P T) (f : FuncId) {fn : Func} (hf : P.funcs[f]? = some fn) (hname : (fn.name == "runtime.NumGoroutine") = false) (hn : 1 ≤ fn.ntmps) (g : RdV → Option Prop × SV × RdV) (ks : List Nat)
    (h : ∀ r, holdsO (g r).1 → runF ⟨P, T⟩ fn ks [0] [.c (.ptr 0 0)] [rdO r] fun r' H'' => Ends r' H'' (g r).2.1 [rdO (g r).2.2]) : TSound P (ext T f (saysRd g)) :=
  ext_run hT hf hname ks fun args H p r H' hs hp => by
    unfold saysRd at hs
    split at hs
    · cases hs
      exact ⟨hn, [0], rfl, id0, h _ hp⟩
    · cases hs

theorem extRdI {P : Program} {T : Table} (hT : TSound P T) (f : FuncId) {fn : Func} (hf : P.funcs[f]? = some fn) (hname : (fn.name == "runtime.NumGoroutine") = false) (hn : 2 ≤ fn.ntmps) (g : RdV → Int → Option Prop × SV × RdV) (ks : List Nat)
    (h : ∀ r n, holdsO (g r n).1 → runF ⟨P, T⟩ fn ks [0] [.c (.ptr 0 0), .c (.p (.v (.int .i64 n)))] [rdO r] fun r' H'' => Ends r' H'' (g r n).2.1 [rdO (g r n).2.2]) : TSound P (ext T f (saysRdI g)) :=
  ext_run hT hf hname ks fun args H p r H' hs hp => by
    unfold saysRdI at hs
    split at hs
    · cases hs
      exact ⟨hn, [0], rfl, id0, h _ _ hp⟩
    · cases hs

def T46 : Table := ext T45 40 (saysRdI fun r n => (some (r.ok ∧ 0 ≤ n ∧ n ≤ r.rest.size), .tup [], passV r n))

theorem t46 : TSound Try.prog T46 := by
  refine extRdI t45 40 (fn := Try.f40) rfl rfl (by decide) _ [0, 1, 4, 5, 6, 7, 24] fun r n hs => ?_
  obtain ⟨⟨h1, h2, h3, h4, h5⟩, hn0, hn1⟩ : r.ok ∧ 0 ≤ n ∧ n ≤ r.rest.size := hs
  obtain ⟨s, f, l0, c0⟩ := r
  simp only at h1 h2 h3 h4 h5 hn1
  obtain ⟨m, rfl⟩ : ∃ m : Nat, n = m := ⟨n.toNat, by omega⟩
  conv => whnf
  refine loop_intro (σ := Nat × Int × Int) (fun ⟨i, _, _⟩ => [(0, XV.s (.a (.c (.ptr 0 0)))), (1, XV.s (.int .i64 m)), (4, XV.s .none), (5, XV.s (.int .i64 m)), (6, XV.s (.int .i64 i)), (7, XV.s .none), (24, XV.s .none)])
    (fun ⟨_, l, c⟩ => [.row [.str s, .int .i64 f, .int .i64 l, .int .i64 c]])
    (fun ⟨i, l, c⟩ => i ≤ m ∧ 0 ≤ l ∧ l ≤ l0 + i ∧ 0 ≤ c ∧ c ≤ c0 + 1 + i ∧ passGo s (m - i) i l c = passGo s m 0 l0 c0) (fun ⟨i, _, _⟩ => m - i) (0, l0, c0) ?_ rfl ?_ fun ⟨i, l, c⟩ hI => ?_
  · repeat (first | exact LeL.nil | refine LeL.drop ?_ | refine LeL.same ?_)
  · exact ⟨by omega, by omega, by omega, by omega, by omega, rfl⟩
  obtain ⟨hi, hl0, hl1, hc0, hc1, hgo⟩ := hI
  conv => whnf
  refine cond_intro (fun h => ?_) (fun h => ?_)
  · have hlt : i < m := by have : (i : Int) < m := of_decide_eq_true h
                           omega
    rw [show m - i = (m - (i + 1)) + 1 from by omega] at hgo
    simp only [passGo] at hgo
    conv => whnf
    refine ⟨by unfold inI64; omega, ?_⟩
    conv => whnf
    refine ⟨by omega, ?_⟩
    conv => whnf
    refine cond_intro (fun h6 => ?_) (fun h6 => ?_)
    · have h6' : byteAt s i = 10 := of_decide_eq_true h6
      rw [if_pos h6'] at hgo
      conv => whnf
      refine ⟨by unfold inI64; omega, ?_⟩
      conv => whnf
      refine ⟨by unfold inI64; omega, ?_⟩
      conv => whnf
      refine head_intro (i + 1, l + 1, 1) ?_ rfl ?_ ?_
      · repeat (first | exact LeL.nil | refine LeL.drop ?_ | refine LeL.same ?_)
      · exact ⟨by omega, by omega, by omega, by omega, by omega, hgo⟩
      · show m - (i + 1) < m - i
        omega
    · have h6' : ¬ byteAt s i = 10 := of_decide_eq_false h6
      rw [if_neg h6'] at hgo
      conv => whnf
      refine ⟨by unfold inI64; omega, ?_⟩
      conv => whnf
      refine head_intro (i + 1, l, c + 1) ?_ rfl ?_ ?_
      · repeat (first | exact LeL.nil | refine LeL.drop ?_ | refine LeL.same ?_)
      · exact ⟨by omega, by omega, by omega, by omega, by omega, hgo⟩
      · show m - (i + 1) < m - i
        omega
  · have hlt : i = m := by have : ¬ (i : Int) < m := of_decide_eq_false h
                           omega
    subst hlt
    rw [Nat.sub_self] at hgo
    simp only [passGo] at hgo
    conv => whnf
    refine ⟨by omega, ?_⟩
    conv => whnf
    refine ends_eq ⟨rfl, ?_⟩
    show _ = [rdO (passV ⟨s, f, l0, c0⟩ i)]
    simp only [passV, rdO]
    rw [show ((i : Int)).toNat = i from rfl, ← hgo]
    rfl

theorem passGo_range (s : ByteArray) : ∀ (k i : Nat) (l c : Int), 0 ≤ l → 0 ≤ c → 0 ≤ (passGo s k i l c).1 ∧ (passGo s k i l c).1 ≤ l + k ∧ 0 ≤ (passGo s k i l c).2 ∧ (passGo s k i l c).2 ≤ c + 1 + k ∧ (0 < c → (passGo s k i l c).2 ≤ c + k)
  | 0, _, l, c, hl, hc => by simp only [passGo]; omega
  | k + 1, i, l, c, hl, hc => by
    simp only [passGo]
    split
    · have := passGo_range s k (i + 1) (l + 1) 1 (by omega) (by omega); omega
    · have := passGo_range s k (i + 1) l (c + 1) hl (by omega); omega


theorem passV_size {r : RdV} {n : Int} (h0 : 0 ≤ n) (h1 : n ≤ r.rest.size) : ((passV r n).rest.size : Int) = r.rest.size - n := by
  simp only [passV]
  rw [ByteArray.size_extract]
  omega

theorem passV_ok {r : RdV} {n : Int} (hr : r.ok) (h0 : 0 ≤ n) (h1 : n ≤ r.rest.size) : (passV r n).ok := by
  obtain ⟨a, b, c, d, e⟩ := hr
  have hs := passV_size h0 h1
  have hp := passGo_range r.rest n.toNat 0 r.line r.column b (by omega)
  have hpos : ∀ (k i : Nat) (l c : Int), 1 ≤ c → 1 ≤ (passGo r.rest k i l c).2 := by
    intro k
    induction k with
    | zero => intro i l c hc; exact hc
    | succ k ih =>
      intro i l c hc
      simp only [passGo]
      split
      · exact ih _ _ _ (by omega)
      · exact ih _ _ _ (by omega)
  have hq := hpos n.toNat 0 r.line r.column d
  have h3 := hp.2.2.2.2 (by omega)
  refine ⟨by omega, hp.1, ?_, hq, ?_⟩
  · show (passGo r.rest n.toNat 0 r.line r.column).1 + ((passV r n).rest.size : Int) ≤ _
    omega
  · show (passGo r.rest n.toNat 0 r.line r.column).2 + ((passV r n).rest.size : Int) ≤ _
    omega

theorem sepV_range (s : ByteArray) : 0 ≤ (sepV s).1 ∧ (sepV s).1 ≤ s.size := by
  unfold sepV
  split
  · have := leadN_le lineB s; simp only; omega
  · split
    · rename_i h2
      have hsz : 2 ≤ s.size := prefB_size h2
      have hsz2 : (s.extract 2 s.size).size = s.size - 2 := by rw [ByteArray.size_extract]; omega
      have hroom := indexV_room (s.extract 2 s.size) ⟨#[42, 47]⟩
      split
      · simp only; omega
      · have h3 := hroom (by omega)
        have h4 : (ByteArray.mk #[42, 47]).size = 2 := rfl
        rw [h4] at h3
        simp only
        omega
    · have := leadN_le spaceB s; simp only; omega

def sepGo : Nat → RdV → Int × RdV
  | 0, r => (0, r)
  | k + 1, r => if decide ((sepV r.rest).1 = 0) || !decide ((sepV r.rest).2 = 0) then ((sepV r.rest).2, r) else sepGo k (passV r (sepV r.rest).1)

def sepAll (r : RdV) : Int × RdV := sepGo (r.rest.size + 1) r

def T47 : Table := ext T46 27 (saysRd fun r => (some r.ok, .int .i64 (sepAll r).1, (sepAll r).2))

theorem t47 : TSound Try.prog T47 := by
  refine extRd t46 27 (fn := Try.f27) rfl rfl (by decide) _ [0, 2, 3, 4, 5, 18] fun r hr => ?_
  conv => whnf
  refine loop_intro (σ := Nat × RdV) (fun _ => [(0, XV.s (.a (.c (.ptr 0 0)))), (2, XV.s (.int .i64 0)), (3, XV.s .none), (4, XV.s .none), (5, XV.s .none), (18, XV.s .none)])
    (fun ⟨_, q⟩ => [rdO q])
    (fun ⟨k, q⟩ => q.ok ∧ q.rest.size < k ∧ sepGo k q = sepAll r) (fun ⟨_, q⟩ => q.rest.size) (r.rest.size + 1, r) ?_ rfl ?_ fun ⟨k, q⟩ hI => ?_
  · repeat (first | exact LeL.nil | refine LeL.drop ?_ | refine LeL.same ?_)
  · exact ⟨hr, Nat.lt_succ_self _, rfl⟩
  obtain ⟨hq, hk, hgo⟩ := hI
  obtain ⟨k', rfl⟩ : ∃ k', k = k' + 1 := ⟨k - 1, by omega⟩
  simp only [sepGo] at hgo
  have hrg := sepV_range q.rest
  conv => whnf
  refine ⟨hq.1, ?_⟩
  conv => whnf
  refine cond_intro (fun h => ?_) (fun h => ?_)
  · rw [if_pos h] at hgo
    conv => whnf
    refine ends_eq ⟨?_, ?_⟩
    · show _ = SV.int .i64 (sepAll r).1
      rw [← hgo]
    · show _ = [rdO (sepAll r).2]
      rw [← hgo]
  · rw [if_neg (by rw [h]; decide)] at hgo
    have hn : ¬ (sepV q.rest).1 = 0 := by
      intro h0
      simp [h0] at h
    conv => whnf
    refine ⟨⟨hq, hrg.1, hrg.2⟩, ?_⟩
    conv => whnf
    have hsz := passV_size hrg.1 hrg.2
    refine head_intro (k', passV q (sepV q.rest).1) ?_ rfl ?_ ?_
    · repeat (first | exact LeL.nil | refine LeL.drop ?_ | refine LeL.same ?_)
    · exact ⟨passV_ok hq hrg.1 hrg.2, by omega, hgo⟩
    · show (passV q (sepV q.rest).1).rest.size < q.rest.size
      omega

/-! One token. -/
def cutV (s : ByteArray) : TokV × Int × Int :=
  if s = ⟨#[]⟩ then ({ kind := 8 }, 0, 0)
  else if firstB (byteAt s 0) || decide (byteAt s 0 = 35) then nameV s
  else if digitB (byteAt s 0) then numV s
  else if byteAt s 0 = 34 then cutStr s
  else if decide (byteAt s 0 = 38) && decide (1 < (s.size : Int)) && firstB (byteAt s 1) then
    ({ kind := 6, text := s.extract 1 (1 + (leadN wordB (s.extract 1 s.size) : Int)).toNat }, 1 + (leadN wordB (s.extract 1 s.size) : Int), 0)
  else if 0 < wordV s then ({ kind := 7, text := s.extract 1 (wordV s - 1).toNat }, wordV s, 0)
  else if 0 < signV s then ({ kind := 4, text := s.extract 0 (signV s).toNat }, signV s, 0)
  else ({}, 0, 20)

def T48 : Table := ext T47 39 (saysS fun s => (some (fits s), cutSV (cutV s)))

theorem wordV_range (s : ByteArray) (hs : 0 < s.size) : 0 ≤ wordV s ∧ wordV s ≤ s.size ∧ (0 < wordV s → 3 ≤ wordV s) := by
  have hle := leadN_le slashB (s.extract 1 s.size)
  have hsz : (s.extract 1 s.size).size = s.size - 1 := by rw [ByteArray.size_extract]; omega
  unfold wordV
  split
  · omega
  · split
    · omega
    · rename_i h
      simp at h
      omega

theorem signV_range (s : ByteArray) (hs : 0 < s.size) : 0 ≤ signV s ∧ signV s ≤ s.size := by
  unfold signV
  split
  · rename_i h
    have := of_decide_eq_true (Bool.and_eq_true_iff.1 h).1
    omega
  · split <;> omega

theorem lead_pos {p : Int → Bool} {s : ByteArray} (hs : 0 < s.size) (h : p (byteAt s 0) = true) : 0 < leadN p s := by
  have h' : 0 < s.data.toList.length := hs
  unfold leadN
  unfold byteAt at h
  rw [show ((0 : Int).toNat) = 0 from rfl] at h
  revert h h'
  generalize s.data.toList = l
  cases l with
  | nil => intro _ h; simp at h
  | cons x l =>
    intro h _
    have h2 : p ((x.toNat : Nat) : Int) = true := h
    rw [List.takeWhile_cons_of_pos (p := fun u : UInt8 => p ((u.toNat : Nat) : Int)) h2]
    simp

theorem t48 : TSound Try.prog T48 := by
  refine extS t47 39 (fn := Try.f39) rfl rfl (by decide) _ [0, 2, 3, 4, 5, 6, 7, 8, 10, 14, 26, 34, 42, 67, 77] fun s hs => ?_
  have hs' : s.size ≤ 1000000000 := hs
  conv => whnf
  refine cond_intro (fun h => ?_) (fun h => ?_)
  · have h' : s = ⟨#[]⟩ := of_decide_eq_true h
    conv => whnf
    refine ends_eq ⟨?_, rfl⟩
    simp only [cutV, if_pos h']
    rfl
  have h' : ¬ s = ⟨#[]⟩ := of_decide_eq_false h
  have hpos := size_pos h'
  conv => whnf
  refine ⟨by omega, ?_⟩
  conv => whnf
  refine cond_intro (fun h1 => ?_) (fun h1 => ?_)
  · conv => whnf
    refine ⟨hs, ?_⟩
    conv => whnf
    refine ends_eq ⟨?_, rfl⟩
    simp only [cutV, if_neg h']
    rw [if_pos h1]
    rfl
  conv => whnf
  refine cond_intro (fun h2 => ?_) (fun h2 => ?_)
  · conv => whnf
    refine ⟨⟨hs, lead_pos hpos ?_⟩, ?_⟩
    · unfold wordB
      have : digitB (byteAt s 0) = true := h2
      rw [this, Bool.or_true]
    conv => whnf
    refine ends_eq ⟨?_, rfl⟩
    simp only [cutV, if_neg h']
    rw [if_neg (by rw [h1]; decide), if_pos h2]
    rfl
  conv => whnf
  refine cond_intro (fun h3 => ?_) (fun h3 => ?_)
  · have h3' : byteAt s 0 = 34 := of_decide_eq_true h3
    conv => whnf
    refine ⟨hs, ?_⟩
    conv => whnf
    refine ends_eq ⟨?_, rfl⟩
    simp only [cutV, if_neg h']
    rw [if_neg (by rw [h1]; decide), if_neg (by rw [h2]; decide), if_pos h3']
    rfl
  have h3' : ¬ byteAt s 0 = 34 := of_decide_eq_false h3
  have hle := leadN_le wordB (s.extract 1 s.size)
  have hsz : (s.extract 1 s.size).size = s.size - 1 := by rw [ByteArray.size_extract]; omega
  have e : (leadN wordB (s.extract (1 : Int).toNat (s.size : Int).toNat) : Int) = leadN wordB (s.extract 1 s.size) := rfl
  conv => whnf
  refine ⟨fun h => ?_, ?_⟩
  · simp [lit] at h; omega
  conv => whnf
  refine cond_intro (fun h4 => ?_) (fun h4 => ?_)
  · conv => whnf
    refine ⟨by omega, ?_⟩
    conv => whnf
    refine ⟨?_, ?_⟩
    · show (s.extract 1 s.size).size ≤ 1000000000
      omega
    conv => whnf
    refine ⟨by rw [e]; unfold inI64; omega, ?_⟩
    conv => whnf
    refine ⟨by rw [e]; omega, ?_⟩
    conv => whnf
    refine ends_eq ⟨?_, rfl⟩
    simp only [cutV, if_neg h']
    rw [if_neg (by rw [h1]; decide), if_neg (by rw [h2]; decide), if_neg h3', if_pos h4]
    rfl
  have hw := wordV_range s hpos
  conv => whnf
  refine ⟨⟨hs, hpos⟩, ?_⟩
  conv => whnf
  refine cond_intro (fun h5 => ?_) (fun h5 => ?_)
  · have h5' : 0 < wordV s := of_decide_eq_true h5
    conv => whnf
    refine ⟨by unfold inI64; omega, ?_⟩
    conv => whnf
    refine ⟨by omega, ?_⟩
    conv => whnf
    refine ends_eq ⟨?_, rfl⟩
    simp only [cutV, if_neg h']
    rw [if_neg (by rw [h1]; decide), if_neg (by rw [h2]; decide), if_neg h3', if_neg (by rw [h4]; decide), if_pos h5']
    rfl
  have h5' : ¬ 0 < wordV s := of_decide_eq_false h5
  have hg := signV_range s hpos
  conv => whnf
  refine ⟨⟨hs, hpos⟩, ?_⟩
  conv => whnf
  refine cond_intro (fun h6 => ?_) (fun h6 => ?_)
  · have h6' : 0 < signV s := of_decide_eq_true h6
    conv => whnf
    refine ⟨by omega, ?_⟩
    conv => whnf
    refine ends_eq ⟨?_, rfl⟩
    simp only [cutV, if_neg h']
    rw [if_neg (by rw [h1]; decide), if_neg (by rw [h2]; decide), if_neg h3', if_neg (by rw [h4]; decide), if_neg h5', if_pos h6']
    rfl
  · have h6' : ¬ 0 < signV s := of_decide_eq_false h6
    conv => whnf
    refine ends_eq ⟨?_, rfl⟩
    simp only [cutV, if_neg h']
    rw [if_neg (by rw [h1]; decide), if_neg (by rw [h2]; decide), if_neg h3', if_neg (by rw [h4]; decide), if_neg h5', if_neg h6']
    rfl
end Go.Ab
