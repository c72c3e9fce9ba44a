/- Package token: Read. -/
import Derived.Test.YticjnehdhageoaaAbR8
namespace Go.Ab
open Go.Proofs
set_option linter.unusedSectionVars false
set_option maxRecDepth 100000
variable [Glob]

abbrev tokC : CT := .pair (.int .i64) (.pair .str (.pair (.int .i64) (.pair (.int .i64) (.pair (.int .i64) (.int .i64)))))

def TokV.den (t : TokV) : tokC.den := (t.kind, t.text, t.value, t.file, t.line, t.column)

theorem nextV_ok {r : RdV} (h : r.ok) : (nextV r).2.2.ok := by
  have hs := sepAll_ok h
  unfold nextV
  split
  · split
    · rename_i h2
      have hr := cutV_range _ h2
      exact passV_ok hs.1 hr.1 hr.2
    · exact hs.1
  · exact hs.1

structure ReadV where
  toks : List tokC.den
  file : Int
  line : Int
  column : Int
  err : Int

def ReadV.sv (x : ReadV) : SV := .tup [.c (.p (.l tokC x.toks)), .agg [.int .i64 x.file, .int .i64 x.line, .int .i64 x.column], .c (.int .i64 x.err)]

def readGo : Nat → RdV → List tokC.den → ReadV
  | 0, r, _ => ⟨[], (sepAll r).2.file, (sepAll r).2.line, (sepAll r).2.column, if (sepAll r).1 = 0 then 3 else (sepAll r).1⟩
  | k + 1, r, zs =>
    if (nextV r).2.1 = 0 then
      if (nextV r).1.kind = 8 then ⟨zs ++ [(nextV r).1.den], 0, 0, 0, 0⟩ else readGo k (nextV r).2.2 (zs ++ [(nextV r).1.den])
    else ⟨[], (nextV r).2.2.file, (nextV r).2.2.line, (nextV r).2.2.column, (nextV r).2.1⟩

def readV (s : ByteArray) (f : Int) : ReadV := if 16000 < (s.size : Int) then ⟨[], 0, 0, 0, 3⟩ else readGo 6000 ⟨s, f, 1, 1⟩ []

theorem nil_sle (c : CT) {rest : List AV} (G : View) (v : Value) (h : RepS G (.tup (.c (.p (.v (.slice none 0 0))) :: rest)) v) : RepS G (.tup (.c (.p (.l c [])) :: rest)) v := by
  obtain ⟨vs, rfl, hv⟩ := h
  cases hv with
  | cons h1 t =>
    refine ⟨_, rfl, .cons ?_ t⟩
    obtain ⟨_, rfl⟩ := h1
    exact .inl ⟨rfl, rfl⟩

def T50 : Table := ext T49 13 (saysSI fun s f => (none, (readV s f).sv))

theorem t50 : TSound Try.prog T50 := by
  refine extSI t49 13 (fn := Try.f13) rfl rfl (by decide) _ [0, 1, 4, 5, 6, 7, 8, 9, 10, 11, 14, 20, 21, 22, 27, 37, 43] fun s f _ => ?_
  conv => whnf
  refine cond_intro (fun h => ?_) (fun h => ?_)
  · have h' : 16000 < (s.size : Int) := of_decide_eq_true h
    conv => whnf
    refine ends_of (fun G v hv => ?_) rfl
    have := nil_sle tokC G v hv
    show RepS G (readV s f).sv v
    rw [readV, if_pos h']
    exact this
  have h' : ¬ 16000 < (s.size : Int) := of_decide_eq_false h
  conv => whnf
  refine loop_weak (σ := Nat × RdV × List tokC.den) (fun ⟨i, _, zs⟩ => [(0, XV.s (SV.str s)), (1, XV.s (.int .i64 f)), (4, XV.s (.v (.slice none 0 0))), (5, XV.s (.a (.c (.ptr 0 0)))), (6, XV.s (.int .i64 0)), (7, XV.s (.a (.c (.ptr 1 0)))), (8, XV.s (.a (.c (.own 2 tokC zs)))), (9, XV.s .none), (10, XV.s .none), (11, XV.s .none), (14, XV.s .none), (20, XV.s (.int .i64 i)), (21, XV.s .none), (22, XV.s .none), (27, XV.s .none), (37, XV.s .none), (43, XV.s .none)])
    (fun ⟨_, q, zs⟩ => [.row [.int .i64 0, .int .i64 0, .int .i64 0], rdO q, .tok 43 tokC zs.length true])
    (fun ⟨i, q, zs⟩ => i ≤ 6000 ∧ q.ok ∧ zs.length ≤ i ∧ readGo (6000 - i) q zs = readV s f) (fun ⟨i, _, _⟩ => 6000 - i) (0, ⟨s, f, 1, 1⟩, []) ?_ ?_ fun ⟨i, q, zs⟩ hI => ?_
  · refine Weak.own 43 ?_
    repeat (first | exact OwnL.nil | refine OwnL.drop ?_ | refine OwnL.same ?_ | refine OwnL.own ?_)
  · refine ⟨by omega, ⟨by show s.size ≤ _; omega, by show (0 : Int) ≤ 1; omega, by show (1 : Int) + s.size ≤ _; omega, by show (1 : Int) ≤ 1; omega, by show (1 : Int) + s.size ≤ _; omega⟩, by simp, ?_⟩
    rw [readV, if_neg h']
  obtain ⟨hi, hq, hz, hgo⟩ := hI
  have hqn := nextV_ok hq
  conv => whnf
  refine cond_intro (fun h => ?_) (fun h => ?_)
  · have hlt : i < 6000 := by have : (i : Int) < 6000 := of_decide_eq_true h
                              omega
    rw [show 6000 - i = (6000 - (i + 1)) + 1 from by omega] at hgo
    simp only [readGo] at hgo
    conv => whnf
    refine ⟨hq, ?_⟩
    conv => whnf
    refine cond_intro (fun h2 => ?_) (fun h2 => ?_)
    · have h2' : ¬ (nextV q).2.1 = 0 := by simpa using h2
      rw [if_neg h2'] at hgo
      conv => whnf
      refine ⟨by decide +kernel, ?_⟩
      conv => whnf
      refine ends_of (fun G v hv => ?_) rfl
      have := nil_sle tokC G v hv
      show RepS G (readV s f).sv v
      rw [← hgo]
      exact this
    have h2' : (nextV q).2.1 = 0 := by simpa using h2
    rw [if_pos h2'] at hgo
    conv => whnf
    refine ⟨rfl, (by show zs.length + 1 ≤ 1000000000000; omega), ?_⟩
    conv => whnf
    refine cond_intro (fun h3 => ?_) (fun h3 => ?_)
    · have h3' : (nextV q).1.kind = 8 := of_decide_eq_true h3
      rw [if_pos h3'] at hgo
      conv => whnf
      refine ends_eq ⟨?_, rfl⟩
      show _ = (readV s f).sv
      rw [← hgo]
      rfl
    have h3' : ¬ (nextV q).1.kind = 8 := of_decide_eq_false h3
    rw [if_neg h3'] at hgo
    conv => whnf
    refine ⟨by unfold inI64; omega, ?_⟩
    conv => whnf
    refine head_keep (i + 1, (nextV q).2.2, zs ++ [(nextV q).1.den]) [0, 1, 2] rfl (fun k hk => ?_) ?_ ?_ ?_ ?_
    · have hk' : k < 2 := hk
      have : k = 0 ∨ k = 1 := by omega
      rcases this with rfl | rfl <;> rfl
    · show _ = some [AO.row _, _, AO.tok 43 tokC (zs ++ [(nextV q).1.den]).length true]
      rw [List.length_append]
      rfl
    · repeat (first | exact KeepL.nil | refine KeepL.drop ?_ | refine KeepL.ren rfl ?_)
    · refine ⟨by omega, hqn, ?_, hgo⟩
      rw [List.length_append]
      simp only [List.length_cons, List.length_nil]
      omega
    · show 6000 - (i + 1) < 6000 - i
      omega
  · have hlt : i = 6000 := by have : ¬ (i : Int) < 6000 := of_decide_eq_false h
                              omega
    subst hlt
    rw [Nat.sub_self] at hgo
    simp only [readGo] at hgo
    conv => whnf
    refine ⟨hq, ?_⟩
    conv => whnf
    refine cond_intro (fun h2 => ?_) (fun h2 => ?_)
    · have h2' : ¬ (sepAll q).1 = 0 := by simpa using h2
      rw [if_neg h2'] at hgo
      conv => whnf
      refine ⟨by decide +kernel, ?_⟩
      conv => whnf
      refine ends_of (fun G v hv => ?_) rfl
      have := nil_sle tokC G v hv
      show RepS G (readV s f).sv v
      rw [← hgo]
      exact this
    · have h2' : (sepAll q).1 = 0 := by simpa using h2
      rw [if_pos h2'] at hgo
      conv => whnf
      refine ⟨by decide +kernel, ?_⟩
      conv => whnf
      refine ends_of (fun G v hv => ?_) rfl
      have := nil_sle tokC G v hv
      show RepS G (readV s f).sv v
      rw [← hgo]
      exact this
end Go.Ab
