/- The reference of package token: Read, Same. -/
import Derived.Test.YticjnehdhageoaaAbR22
namespace Go.Ab
open Go.Proofs
set_option linter.unusedSectionVars false
set_option maxRecDepth 100000
variable [Glob]

theorem readL_err (f : Int) (k : Nat) (l : List UInt8) (p : Int × Int) (zs : List tokC.den) (h : ¬ (skipA l p).1 = 0) : readL f k l p zs = ⟨[], f, (skipA l p).2.2.1, (skipA l p).2.2.2, (skipA l p).1⟩ := by
  cases k with
  | zero => simp only [readL]; rw [if_neg h]
  | succ k => simp only [readL]; rw [if_neg h]
theorem readL_many (f : Int) (l : List UInt8) (p : Int × Int) (zs : List tokC.den) (h : (skipA l p).1 = 0) : readL f 0 l p zs = ⟨[], f, (skipA l p).2.2.1, (skipA l p).2.2.2, 3⟩ := by
  simp only [readL]; rw [if_pos h]
theorem readL_next (f : Int) (k : Nat) (l : List UInt8) (p : Int × Int) (zs : List tokC.den) (h : (skipA l p).1 = 0) : readL f (k + 1) l p zs = if (cutL (skipA l p).2.1).2.2 = 0 then
        if (cutL (skipA l p).2.1).1.kind = 8 then ⟨zs ++ [tokD (cutL (skipA l p).2.1).1 f (skipA l p).2.2], 0, 0, 0, 0⟩
        else readL f k ((skipA l p).2.1.drop (cutL (skipA l p).2.1).2.1) (posL ((skipA l p).2.1.take (cutL (skipA l p).2.1).2.1) (skipA l p).2.2) (zs ++ [tokD (cutL (skipA l p).2.1).1 f (skipA l p).2.2])
      else ⟨[], f, (skipA l p).2.2.1, (skipA l p).2.2.2, (cutL (skipA l p).2.1).2.2⟩ := by
  simp only [readL]; rw [if_pos h]

theorem opaqueC {M : Mach} {n : Nat} {ks : List Nat} {c : Code} {e : Env} {H : List AO} {K : Exit → Env → List AO → Prop} (h : ∀ KK, KK = K → runC M n ks c e H KK) : runC M n ks c e H K := h K rfl

def T71 : Table := ext T70 14 (saysSI fun s f => (none, (readV s f).sv))

set_option maxHeartbeats 2000000 in
theorem t71 : TSound Try.prog T71 := by
  refine extSI t70 14 (fn := Try.f14) rfl rfl (by decide) _ [0, 1, 4, 5, 6, 7, 8, 9, 10, 11, 12, 15, 27, 32, 39, 53] fun s f _ => ?_
  obtain ⟨l, rfl⟩ : ∃ l, s = B l := ⟨s.data.toList, rfl⟩
  have hB : (B l).size = l.length := rfl
  refine runF_opaque rfl fun K0 hK0 => ?_
  repeat ((conv => whnf); refine ⟨by first | (unfold inI64; omega) | omega | exact ⟨by omega, by omega⟩ | (intro hg; first | (unfold inI64; omega) | omega | exact ⟨by omega, by omega⟩ | (simp [lit] at hg; unfold inI64; omega) | (simp [lit] at hg; omega) | (simp [lit] at hg; exact ⟨by omega, by omega⟩)) | (show (_ : Nat) + 1 ≤ 1000000000000; omega) | exact rfl | (unfold inI64; dsimp only; omega) | (dsimp only; omega) | (intro hg; simp [lit] at hg; first | (unfold inI64; dsimp only; omega) | (dsimp only; omega)) | decide +kernel, ?_⟩)
  conv => whnf
  refine cond_intro (fun h => ?_) (fun h => ?_)
  · have h' : 16000 < ((B l).size : Int) := of_decide_eq_true h
    repeat ((conv => whnf); refine ⟨by first | (unfold inI64; omega) | omega | exact ⟨by omega, by omega⟩ | (intro hg; first | (unfold inI64; omega) | omega | exact ⟨by omega, by omega⟩ | (simp [lit] at hg; unfold inI64; omega) | (simp [lit] at hg; omega) | (simp [lit] at hg; exact ⟨by omega, by omega⟩)) | (show (_ : Nat) + 1 ≤ 1000000000000; omega) | exact rfl | (unfold inI64; dsimp only; omega) | (dsimp only; omega) | (intro hg; simp [lit] at hg; first | (unfold inI64; dsimp only; omega) | (dsimp only; omega)) | decide +kernel, ?_⟩)
    conv => whnf
    rw [hK0]
    conv => whnf
    refine ends_of (fun G v hv => ?_) rfl
    have := nil_sle tokC G v hv
    show RepS G (readV (B l) f).sv v
    rw [readV, if_pos h']
    exact this
  have h' : ¬ 16000 < ((B l).size : Int) := of_decide_eq_false h
  have hV : readV (B l) f = readL f 6000 l (1, 1) [] := readV_L l f (by omega)
  repeat ((conv => whnf); refine ⟨by first | (unfold inI64; omega) | omega | exact ⟨by omega, by omega⟩ | (intro hg; first | (unfold inI64; omega) | omega | exact ⟨by omega, by omega⟩ | (simp [lit] at hg; unfold inI64; omega) | (simp [lit] at hg; omega) | (simp [lit] at hg; exact ⟨by omega, by omega⟩)) | (show (_ : Nat) + 1 ≤ 1000000000000; omega) | exact rfl | (unfold inI64; dsimp only; omega) | (dsimp only; omega) | (intro hg; simp [lit] at hg; first | (unfold inI64; dsimp only; omega) | (dsimp only; omega)) | decide +kernel, ?_⟩)
  conv => whnf
  refine loop_weak (σ := Nat × Nat × Int × Int × List tokC.den) (fun ⟨_, _, _, _, zs⟩ => [(0, XV.s (SV.str (B l))), (1, XV.s (.int .i64 f)), (4, XV.s .none), (5, XV.s (.a (.c (.ptr 0 0)))), (6, XV.s .none), (7, XV.s (.a (.c (.ptr 1 0)))), (8, XV.s (.a (.c (.own 2 tokC zs)))), (9, XV.s .none), (10, XV.s .none), (11, XV.s .none), (12, XV.s .none), (15, XV.s .none), (27, XV.s .none), (32, XV.s .none), (39, XV.s .none), (53, XV.s .none)])
    (fun ⟨_, i, x, y, zs⟩ => [.row [.int .i64 0, .int .i64 0, .int .i64 0], .row [.str (B l), .int .i64 (i : Int), .int .i64 x, .int .i64 y], .tok 43 tokC zs.length true])
    (fun ⟨k, i, x, y, zs⟩ => RrOk ⟨B l, (i : Int), x, y⟩ ∧ zs.length + k = 6000 ∧ readL f k (l.drop i) (x, y) zs = readL f 6000 l (1, 1) []) (fun ⟨k, _, _, _, _⟩ => k) (6000, 0, 1, 1, []) ?_ ?_ fun ⟨k, i, x, y, zs⟩ hI => ?_
  · refine Weak.own 43 ?_
    repeat (first | exact OwnL.nil | refine OwnL.drop ?_ | refine OwnL.same ?_ | refine OwnL.own ?_)
  · exact ⟨⟨by show (B l).size ≤ _; omega, Int.le_refl _, by show (0 : Int) ≤ ((B l).size : Nat); omega, by show (0 : Int) ≤ 1; decide, by show (1 : Int) + ((B l).size : Nat) ≤ 1000000000000 + 0; omega, by show (0 : Int) ≤ 1; decide, by show (1 : Int) + ((B l).size : Nat) ≤ 1000000000000 + 0; omega⟩, rfl, rfl⟩
  obtain ⟨hq, hk, hgo⟩ := hI
  have hil : i ≤ l.length := by have := hq.2.2.1; simp only at this; omega
  obtain ⟨m, hm1, hm2, hm3, hsk⟩ := skipR_eq l i x y hil
  have hqm := stepR_ok m hq hm1
  generalize hpx : (posL ((l.drop i).take m) (x, y)).1 = px at hsk hqm
  generalize hpy : (posL ((l.drop i).take m) (x, y)).2 = py at hsk hqm
  have hm3' : (skipA (l.drop i) (x, y)).2.2 = (px, py) := by rw [hm3, ← hpx, ← hpy]
  generalize hse : (skipA (l.drop i) (x, y)).1 = se at hsk
  generalize hj : i + m = j at hm1 hm2 hsk hqm
  show runC _ _ _ _ _ _ _
  refine opaqueC fun KL hKL => ?_
  repeat ((conv => whnf); refine ⟨by first | exact hq | (unfold inI64; omega) | omega | exact ⟨by omega, by omega⟩ | (intro hg; first | (unfold inI64; omega) | omega | exact ⟨by omega, by omega⟩ | (simp [lit] at hg; unfold inI64; omega) | (simp [lit] at hg; omega) | (simp [lit] at hg; exact ⟨by omega, by omega⟩)) | (show (_ : Nat) + 1 ≤ 1000000000000; omega) | exact rfl | (unfold inI64; dsimp only; omega) | (dsimp only; omega) | (intro hg; simp [lit] at hg; first | (unfold inI64; dsimp only; omega) | (dsimp only; omega)) | decide +kernel, ?_⟩)
  conv => whnf
  dsimp only
  rw [hsk]
  refine cond_intro (fun g1 => ?_) (fun g1 => ?_)
  · have g1' : ¬ se = 0 := by simpa using g1
    rw [readL_err f k _ _ zs (by rw [hse]; exact g1'), hm3', hse] at hgo
    repeat ((conv => whnf); refine ⟨by first | (unfold inI64; omega) | omega | exact ⟨by omega, by omega⟩ | (intro hg; first | (unfold inI64; omega) | omega | exact ⟨by omega, by omega⟩ | (simp [lit] at hg; unfold inI64; omega) | (simp [lit] at hg; omega) | (simp [lit] at hg; exact ⟨by omega, by omega⟩)) | (show (_ : Nat) + 1 ≤ 1000000000000; omega) | exact rfl | (unfold inI64; dsimp only; omega) | (dsimp only; omega) | (intro hg; simp [lit] at hg; first | (unfold inI64; dsimp only; omega) | (dsimp only; omega)) | decide +kernel, ?_⟩)
    conv => whnf
    rw [hKL]
    conv => whnf
    rw [hK0]
    conv => whnf
    refine ends_of (fun G v hv => ?_) rfl
    have := nil_sle tokC G v hv
    show RepS G (readV (B l) f).sv v
    rw [hV, ← hgo]
    exact this
  have g1' : se = 0 := by simpa using g1
  subst g1'
  repeat ((conv => whnf); refine ⟨by first | (unfold inI64; omega) | omega | exact ⟨by omega, by omega⟩ | (intro hg; first | (unfold inI64; omega) | omega | exact ⟨by omega, by omega⟩ | (simp [lit] at hg; unfold inI64; omega) | (simp [lit] at hg; omega) | (simp [lit] at hg; exact ⟨by omega, by omega⟩)) | (show (_ : Nat) + 1 ≤ 1000000000000; omega) | exact rfl | (unfold inI64; dsimp only; omega) | (dsimp only; omega) | (intro hg; simp [lit] at hg; first | (unfold inI64; dsimp only; omega) | (dsimp only; omega)) | decide +kernel, ?_⟩)
  conv => whnf
  refine cond_intro (fun g2 => ?_) (fun g2 => ?_)
  · have g2' : zs.length = 6000 := by have : (zs.length : Int) = 6000 := of_decide_eq_true g2
                                      omega
    have hk0 : k = 0 := by omega
    subst hk0
    rw [readL_many f _ _ zs hse, hm3'] at hgo
    repeat ((conv => whnf); refine ⟨by first | (unfold inI64; omega) | omega | exact ⟨by omega, by omega⟩ | (intro hg; first | (unfold inI64; omega) | omega | exact ⟨by omega, by omega⟩ | (simp [lit] at hg; unfold inI64; omega) | (simp [lit] at hg; omega) | (simp [lit] at hg; exact ⟨by omega, by omega⟩)) | (show (_ : Nat) + 1 ≤ 1000000000000; omega) | exact rfl | (unfold inI64; dsimp only; omega) | (dsimp only; omega) | (intro hg; simp [lit] at hg; first | (unfold inI64; dsimp only; omega) | (dsimp only; omega)) | decide +kernel, ?_⟩)
    conv => whnf
    rw [hKL]
    conv => whnf
    rw [hK0]
    conv => whnf
    refine ends_of (fun G v hv => ?_) rfl
    have := nil_sle tokC G v hv
    show RepS G (readV (B l) f).sv v
    rw [hV, ← hgo]
    exact this
  have g2' : ¬ zs.length = 6000 := fun h => of_decide_eq_false g2 (by rw [h]; rfl)
  obtain ⟨k, rfl⟩ : ∃ k', k = k' + 1 := ⟨k - 1, by omega⟩
  rw [readL_next f k _ _ zs hse, hm2, hm3'] at hgo
  repeat ((conv => whnf); refine ⟨by first | (unfold inI64; omega) | omega | exact ⟨by omega, by omega⟩ | (intro hg; first | (unfold inI64; omega) | omega | exact ⟨by omega, by omega⟩ | (simp [lit] at hg; unfold inI64; omega) | (simp [lit] at hg; omega) | (simp [lit] at hg; exact ⟨by omega, by omega⟩)) | (show (_ : Nat) + 1 ≤ 1000000000000; omega) | exact rfl | (unfold inI64; dsimp only; omega) | (dsimp only; omega) | (intro hg; simp [lit] at hg; first | (unfold inI64; dsimp only; omega) | (dsimp only; omega)) | decide +kernel, ?_⟩)
  conv => whnf
  refine cond_intro (fun g3 => ?_) (fun g3 => ?_)
  · have g3' : j = l.length := by have : (j : Int) = ((B l).size : Nat) := of_decide_eq_true g3
                                  omega
    have hnil : l.drop j = [] := List.drop_eq_nil_of_le (by omega)
    rw [hnil] at hgo
    rw [if_pos (show (cutL []).2.2 = 0 from rfl), if_pos (show (cutL []).1.kind = 8 from rfl)] at hgo
    repeat ((conv => whnf); refine ⟨by first | (show zs.length + 1 ≤ 1000000000000; omega) | (unfold inI64; omega) | omega | exact ⟨by omega, by omega⟩ | (intro hg; first | (unfold inI64; omega) | omega | exact ⟨by omega, by omega⟩ | (simp [lit] at hg; unfold inI64; omega) | (simp [lit] at hg; omega) | (simp [lit] at hg; exact ⟨by omega, by omega⟩)) | (show (_ : Nat) + 1 ≤ 1000000000000; omega) | exact rfl | (unfold inI64; dsimp only; omega) | (dsimp only; omega) | (intro hg; simp [lit] at hg; first | (unfold inI64; dsimp only; omega) | (dsimp only; omega)) | decide +kernel, ?_⟩)
    conv => whnf
    rw [hKL]
    conv => whnf
    rw [hK0]
    conv => whnf
    refine ends_eq ⟨?_, rfl⟩
    show _ = (readV (B l) f).sv
    rw [hV, ← hgo]
    rfl
  have g3' : ¬ j = l.length := fun h => of_decide_eq_false g3 (by rw [h]; rfl)
  have hjl : j < l.length := by omega
  have hdj := drop_get hjl
  generalize hbe : l.getD j 0 = b at hdj
  generalize hre : l.drop (j + 1) = q at hdj
  rw [hdj] at hgo
  obtain ⟨hn1, hn2⟩ := next_cut b q
  have hcl : cutL (b :: q) = cutC b q := rfl
  rw [hcl] at hgo
  have hnx : nextRl ((B l).data.toList.drop (((j : Nat) : Int)).toNat) = nextR b q := by
    show nextRl (l.drop j) = _
    rw [hdj]; rfl
  repeat ((conv => whnf); refine ⟨by first | exact ⟨by show (B l).size ≤ _; omega, by omega, by show (j : Int) < ((B l).size : Nat); omega⟩ | (unfold inI64; omega) | omega | exact ⟨by omega, by omega⟩ | (intro hg; first | (unfold inI64; omega) | omega | exact ⟨by omega, by omega⟩ | (simp [lit] at hg; unfold inI64; omega) | (simp [lit] at hg; omega) | (simp [lit] at hg; exact ⟨by omega, by omega⟩)) | (show (_ : Nat) + 1 ≤ 1000000000000; omega) | exact rfl | (unfold inI64; dsimp only; omega) | (dsimp only; omega) | (intro hg; simp [lit] at hg; first | (unfold inI64; dsimp only; omega) | (dsimp only; omega)) | decide +kernel, ?_⟩)
  conv => whnf
  dsimp only
  rw [hnx]
  refine cond_intro (fun g4 => ?_) (fun g4 => ?_)
  · have g4' : ¬ (cutC b q).2.2 = 0 := by
      rw [← hn1]
      have : (!decide ((nextR b q).2.2 = 0)) = true := g4
      simpa using this
    rw [if_neg g4', ← hn1] at hgo
    repeat ((conv => whnf); refine ⟨by first | (unfold inI64; omega) | omega | exact ⟨by omega, by omega⟩ | (intro hg; first | (unfold inI64; omega) | omega | exact ⟨by omega, by omega⟩ | (simp [lit] at hg; unfold inI64; omega) | (simp [lit] at hg; omega) | (simp [lit] at hg; exact ⟨by omega, by omega⟩)) | (show (_ : Nat) + 1 ≤ 1000000000000; omega) | exact rfl | (unfold inI64; dsimp only; omega) | (dsimp only; omega) | (intro hg; simp [lit] at hg; first | (unfold inI64; dsimp only; omega) | (dsimp only; omega)) | decide +kernel, ?_⟩)
    conv => whnf
    rw [hKL]
    conv => whnf
    rw [hK0]
    conv => whnf
    refine ends_of (fun G v hv => ?_) rfl
    have := nil_sle tokC G v hv
    show RepS G (readV (B l) f).sv v
    rw [hV, ← hgo]
    exact this
  have g4' : (cutC b q).2.2 = 0 := by
    rw [← hn1]
    have : (!decide ((nextR b q).2.2 = 0)) = false := g4
    simpa using this
  have hcp := cutC_pos b q g4'
  rw [if_pos g4', if_neg hcp.2] at hgo
  have hle : (cutC b q).2.1 ≤ (b :: q).length := cutL_le (b :: q) g4'
  have hbq : (b :: q).length = l.length - j := by rw [← hdj, List.length_drop]
  rw [hn2 g4']
  generalize hcc : cutC b q = c at hgo hle
  obtain ⟨c1, c2, c3⟩ := c
  dsimp only
  have hle' : c2 ≤ (b :: q).length := hle
  have hjc : j + c2 ≤ l.length := by omega
  repeat ((conv => whnf); refine ⟨by first | exact ⟨hqm, by show (0 : Int) ≤ (c2 : Int); omega, by show (j : Int) + (c2 : Int) ≤ ((B l).size : Nat); omega⟩ | (show zs.length + 1 ≤ 1000000000000; omega) | (unfold inI64; omega) | omega | exact ⟨by omega, by omega⟩ | (intro hg; first | (unfold inI64; omega) | omega | exact ⟨by omega, by omega⟩ | (simp [lit] at hg; unfold inI64; omega) | (simp [lit] at hg; omega) | (simp [lit] at hg; exact ⟨by omega, by omega⟩)) | (show (_ : Nat) + 1 ≤ 1000000000000; omega) | exact rfl | (unfold inI64; dsimp only; omega) | (dsimp only; omega) | (intro hg; simp [lit] at hg; first | (unfold inI64; dsimp only; omega) | (dsimp only; omega)) | decide +kernel, ?_⟩)
  conv => whnf
  rw [hKL]
  refine head_keep (k, j + c2, (posL ((l.drop j).take c2) (px, py)).1, (posL ((l.drop j).take c2) (px, py)).2, zs ++ [tokD c1 f (px, py)]) [0, 1, 2] rfl (fun k hk => ?_) ?_ ?_ ⟨?_, ?_, ?_⟩ ?_
  · have hk' : k < 2 := hk
    have : k = 0 ∨ k = 1 := by omega
    rcases this with rfl | rfl <;> rfl
  · show _ = some [AO.row _, rdO ⟨B l, ((j + c2 : Nat) : Int), (posL ((l.drop j).take c2) (px, py)).1, (posL ((l.drop j).take c2) (px, py)).2⟩, AO.tok 43 tokC (zs ++ [tokD c1 f (px, py)]).length true]
    rw [← stepR_eq, List.length_append]
    rfl
  · repeat (first | exact KeepL.nil | refine KeepL.drop ?_ | refine KeepL.ren rfl ?_)
  · exact stepR_ok c2 hqm hjc
  · rw [List.length_append, List.length_singleton]; omega
  · rw [← hgo, hdj]
    rw [← hdj, ← List.drop_drop]
  · exact Nat.lt_succ_self k

/-! Equality of two lists of tokens. -/
def sameB (a b : List tokC.den) : Bool := decide (a = b)

/-- Two lists of tokens; objects are not looked at. -/
def saysTT (g : List tokC.den → List tokC.den → Option Prop × SV) : Says := fun args H => match args, H with
  | [.c (.p (.l (.pair (.int .i64) (.pair .str (.pair (.int .i64) (.pair (.int .i64) (.pair (.int .i64) (.int .i64)))))) a)), .c (.p (.l (.pair (.int .i64) (.pair .str (.pair (.int .i64) (.pair (.int .i64) (.pair (.int .i64) (.int .i64)))))) b))], [] => some ((g a b).1, (g a b).2, [])
  | _, _ => none

theorem extTT {P : Program} {T : Table} (hT : TSound P T) (f : FuncId) {fn : Func} (hf : P.funcs[f]? = some fn) (hname : (fn.name == "runtime.NumGoroutine") = false) (hn : 2 ≤ fn.ntmps) (g : List tokC.den → List tokC.den → Option Prop × SV) (ks : List Nat)
    (h : ∀ a b, holdsO (g a b).1 → runF ⟨P, T⟩ fn ks [] [.c (.p (.l tokC a)), .c (.p (.l tokC b))] [] fun r' H'' => Ends r' H'' (g a b).2 []) : TSound P (ext T f (saysTT g)) :=
  ext_run hT hf hname ks fun args H p r H' hs hp => by
    unfold saysTT at hs
    split at hs
    · cases hs
      exact ⟨hn, [], rfl, fun k hk => absurd hk (Nat.not_lt_zero k), h _ _ hp⟩
    · cases hs

def T72 : Table := ext T71 15 (saysTT fun a b => (some (a.length ≤ 1000000000 ∧ b.length ≤ 1000000000), .bool (sameB a b)))

theorem t72 : TSound Try.prog T72 := by
  refine extTT t71 15 (fn := Try.f15) rfl rfl (by decide) _ [0, 1, 4, 5, 10, 12, 13, 14, 24] fun a b hs => ?_
  obtain ⟨ha, hb⟩ : a.length ≤ 1000000000 ∧ b.length ≤ 1000000000 := hs
  repeat ((conv => whnf); refine ⟨by first | (unfold inI64; omega) | omega | exact ⟨by omega, by omega⟩ | (intro hg; first | (unfold inI64; omega) | omega | exact ⟨by omega, by omega⟩ | (simp [lit] at hg; unfold inI64; omega) | (simp [lit] at hg; omega) | (simp [lit] at hg; exact ⟨by omega, by omega⟩)) | (show (_ : Nat) + 1 ≤ 1000000000000; omega) | exact rfl | (unfold inI64; dsimp only; omega) | (dsimp only; omega) | (intro hg; simp [lit] at hg; first | (unfold inI64; dsimp only; omega) | (dsimp only; omega)) | decide +kernel, ?_⟩)
  conv => whnf
  refine cond_intro (fun h => ?_) (fun h => ?_)
  · have h' : ¬ a.length = b.length := by
      have : ¬ (a.length : Int) = (b.length : Int) := by simpa using h
      omega
    repeat ((conv => whnf); refine ⟨by first | (unfold inI64; omega) | omega | exact ⟨by omega, by omega⟩ | (intro hg; first | (unfold inI64; omega) | omega | exact ⟨by omega, by omega⟩ | (simp [lit] at hg; unfold inI64; omega) | (simp [lit] at hg; omega) | (simp [lit] at hg; exact ⟨by omega, by omega⟩)) | (show (_ : Nat) + 1 ≤ 1000000000000; omega) | exact rfl | (unfold inI64; dsimp only; omega) | (dsimp only; omega) | (intro hg; simp [lit] at hg; first | (unfold inI64; dsimp only; omega) | (dsimp only; omega)) | decide +kernel, ?_⟩)
    conv => whnf
    refine ends_eq ⟨?_, rfl⟩
    rw [sameB, decide_eq_false (fun h => h' (by rw [h]))]
  have h' : a.length = b.length := by
    have : (a.length : Int) = (b.length : Int) := by simpa using h
    omega
  repeat ((conv => whnf); refine ⟨by first | (unfold inI64; omega) | omega | exact ⟨by omega, by omega⟩ | (intro hg; first | (unfold inI64; omega) | omega | exact ⟨by omega, by omega⟩ | (simp [lit] at hg; unfold inI64; omega) | (simp [lit] at hg; omega) | (simp [lit] at hg; exact ⟨by omega, by omega⟩)) | (show (_ : Nat) + 1 ≤ 1000000000000; omega) | exact rfl | (unfold inI64; dsimp only; omega) | (dsimp only; omega) | (intro hg; simp [lit] at hg; first | (unfold inI64; dsimp only; omega) | (dsimp only; omega)) | decide +kernel, ?_⟩)
  conv => whnf
  refine loop_intro (σ := Nat) (fun j => [(0, XV.s (.a (.c (.p (.l tokC a))))), (1, XV.s (.a (.c (.p (.l tokC b))))), (4, XV.s .none), (5, XV.s .none), (10, XV.s .none), (12, XV.s (.int .i64 a.length)), (13, XV.s (.int .i64 j)), (14, XV.s .none), (24, XV.s .none)]) (fun _ => [])
    (fun j => j ≤ a.length ∧ ∀ i : Nat, i < j → a[i]? = b[i]?) (fun j => a.length - j) 0 ?_ rfl ⟨Nat.zero_le _, fun i hi => absurd hi (Nat.not_lt_zero i)⟩ fun j hI => ?_
  · repeat (first | exact LeL.nil | refine LeL.drop ?_ | refine LeL.same ?_)
  obtain ⟨hj, hsame⟩ := hI
  repeat ((conv => whnf); refine ⟨by first | (unfold inI64; omega) | omega | exact ⟨by omega, by omega⟩ | (intro hg; first | (unfold inI64; omega) | omega | exact ⟨by omega, by omega⟩ | (simp [lit] at hg; unfold inI64; omega) | (simp [lit] at hg; omega) | (simp [lit] at hg; exact ⟨by omega, by omega⟩)) | (show (_ : Nat) + 1 ≤ 1000000000000; omega) | exact rfl | (unfold inI64; dsimp only; omega) | (dsimp only; omega) | (intro hg; simp [lit] at hg; first | (unfold inI64; dsimp only; omega) | (dsimp only; omega)) | decide +kernel, ?_⟩)
  conv => whnf
  refine cond_intro (fun g1 => ?_) (fun g1 => ?_)
  · have hlt : j < a.length := by have : (j : Int) < a.length := of_decide_eq_true g1
                                  omega
    repeat ((conv => whnf); refine ⟨by first | exact ⟨by decide +kernel, by decide +kernel⟩ | (unfold inI64; omega) | omega | exact ⟨by omega, by omega⟩ | (intro hg; first | (unfold inI64; omega) | omega | exact ⟨by omega, by omega⟩ | (simp [lit] at hg; unfold inI64; omega) | (simp [lit] at hg; omega) | (simp [lit] at hg; exact ⟨by omega, by omega⟩)) | (show (_ : Nat) + 1 ≤ 1000000000000; omega) | exact rfl | (unfold inI64; dsimp only; omega) | (dsimp only; omega) | (intro hg; simp [lit] at hg; first | (unfold inI64; dsimp only; omega) | (dsimp only; omega)) | decide +kernel, ?_⟩)
    conv => whnf
    have ex : a.getD ((j : Int)).toNat tokC.dflt = a[j] := getD_get hlt
    have ey : b.getD ((j : Int)).toNat tokC.dflt = b[j] := getD_get (by omega)
    refine cond_intro (fun g2 => ?_) (fun g2 => ?_)
    · have hne : ¬ a = b := fun hab => by
        subst hab
        simp at g2
      repeat ((conv => whnf); refine ⟨by first | (unfold inI64; omega) | omega | exact ⟨by omega, by omega⟩ | (intro hg; first | (unfold inI64; omega) | omega | exact ⟨by omega, by omega⟩ | (simp [lit] at hg; unfold inI64; omega) | (simp [lit] at hg; omega) | (simp [lit] at hg; exact ⟨by omega, by omega⟩)) | (show (_ : Nat) + 1 ≤ 1000000000000; omega) | exact rfl | (unfold inI64; dsimp only; omega) | (dsimp only; omega) | (intro hg; simp [lit] at hg; first | (unfold inI64; dsimp only; omega) | (dsimp only; omega)) | decide +kernel, ?_⟩)
      conv => whnf
      refine ends_eq ⟨?_, rfl⟩
      rw [sameB, decide_eq_false hne]
    · have heq : a[j] = b[j]'(by omega) := by
        rw [ex, ey] at g2
        generalize a[j] = x at g2
        generalize b[j]'(by omega) = y at g2
        obtain ⟨x1, x2, x3, x4, x5, x6⟩ := x
        obtain ⟨y1, y2, y3, y4, y5, y6⟩ := y
        simp only [Bool.not_eq_false', Bool.and_eq_true, decide_eq_true_eq] at g2
        obtain ⟨e1, e2, e3, e4, e5, e6⟩ := g2
        rw [e1, e2, e3, e4, e5, e6]
      repeat ((conv => whnf); refine ⟨by first | (unfold inI64; omega) | omega | exact ⟨by omega, by omega⟩ | (intro hg; first | (unfold inI64; omega) | omega | exact ⟨by omega, by omega⟩ | (simp [lit] at hg; unfold inI64; omega) | (simp [lit] at hg; omega) | (simp [lit] at hg; exact ⟨by omega, by omega⟩)) | (show (_ : Nat) + 1 ≤ 1000000000000; omega) | exact rfl | (unfold inI64; dsimp only; omega) | (dsimp only; omega) | (intro hg; simp [lit] at hg; first | (unfold inI64; dsimp only; omega) | (dsimp only; omega)) | decide +kernel, ?_⟩)
      conv => whnf
      refine head_intro (j + 1) ?_ rfl ⟨hlt, fun i hi => ?_⟩ ?_
      · repeat (first | exact LeL.nil | refine LeL.drop ?_ | refine LeL.same ?_)
      · rcases Nat.lt_succ_iff_lt_or_eq.1 hi with h4 | rfl
        · exact hsame i h4
        · rw [List.getElem?_eq_getElem hlt, List.getElem?_eq_getElem (by omega), heq]
      · show a.length - (j + 1) < a.length - j
        omega
  · have hja : j = a.length := by have : ¬ (j : Int) < a.length := of_decide_eq_false g1
                                  omega
    repeat ((conv => whnf); refine ⟨by first | (unfold inI64; omega) | omega | exact ⟨by omega, by omega⟩ | (intro hg; first | (unfold inI64; omega) | omega | exact ⟨by omega, by omega⟩ | (simp [lit] at hg; unfold inI64; omega) | (simp [lit] at hg; omega) | (simp [lit] at hg; exact ⟨by omega, by omega⟩)) | (show (_ : Nat) + 1 ≤ 1000000000000; omega) | exact rfl | (unfold inI64; dsimp only; omega) | (dsimp only; omega) | (intro hg; simp [lit] at hg; first | (unfold inI64; dsimp only; omega) | (dsimp only; omega)) | decide +kernel, ?_⟩)
    conv => whnf
    refine ends_eq ⟨?_, rfl⟩
    have : a = b := by
      apply List.ext_getElem? 
      intro i
      rcases Nat.lt_or_ge i j with h1 | h1
      · exact hsame i h1
      · rw [List.getElem?_eq_none (by omega), List.getElem?_eq_none (by omega)]
    rw [sameB, decide_eq_true this]
end Go.Ab
