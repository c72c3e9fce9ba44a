/- The reference's parser of expressions: operands, rows and whole expressions. -/
import Derived.Test.YteidakoieemlgaaGreatDoorTY1toY3
import Derived.Test.YteidakoieemlgaaGreatDoorTV10toS1
import Derived.Test.YteidakoieemlgaaGreatDoorTS2toR11
namespace Go.Ab
open Go.Proofs
set_option linter.unusedSectionVars false
set_option maxRecDepth 100000
variable [Glob]

def daN : List AV → Option Nat
  | [.c (.p (.v (.int .i64 n)))] => some n.toNat
  | _ => none
def eaN (n : Nat) : List AV := [.c (.int .i64 (n : Int))]
def daNN : List AV → Option (Nat × Nat)
  | [.c (.p (.v (.int .i64 n))), .c (.p (.v (.int .i64 k)))] => some (n.toNat, k.toNat)
  | _ => none
def eaNN (x : Nat × Nat) : List AV := [.c (.int .i64 (x.1 : Int)), .c (.int .i64 (x.2 : Int))]

/-- What holds of the parser where something is read within 'd' brackets; 'k' is how deep the calls may go. -/
structure RdP (k d c : Nat) (p : Pr) : Prop where
  sy : p.sy = false
  le : p.at_ ≤ p.toks.length
  len : p.toks.length ≤ 6001
  dep : d + p.toks.length ≤ 20000 + p.at_
  fuel : 3 * (p.toks.length - p.at_) + c ≤ k

def sO (k : Nat) : Says := saysP daN eaN (fun r d => RdP k d 1 r) fun r d => (.int .u32 (prO k d r).1, (prO k d r).2)
def sR (k : Nat) : Says := saysP daNN eaNN (fun r x => RdP k x.2 2 r ∧ 1 ≤ x.1 ∧ x.1 ≤ 11) fun r x => (.int .u32 (prR k x.1 x.2 r).1, (prR k x.1 x.2 r).2)
def sW (k : Nat) : Says := saysP daN eaN (fun r d => RdP k d 3 r) fun r d => (.int .u32 (prW k d r).1, (prW k d r).2)

section
variable {T : Table} (hT : TSound Tryz.prog T)

abbrev tO (T : Table) (k : Nat) : Table := ext (P5 T) 38 (sO k)
abbrev tR (T : Table) (k : Nat) : Table := ext (tO T k) 59 (sR k)
abbrev tW (T : Table) (k : Nat) : Table := ext (tR T k) 35 (sW k)

theorem oO (k : Nat) (hk : TSound Tryz.prog (tW T k)) : TSound Tryz.prog (ext (tW T k) 38 (sO (k + 1))) := by
  refine extP hk 38 (fn := Tryz.f38) rfl rfl daN eaN _ _ (fun _ => Nat.le_of_ble_eq_true rfl) [0, 1, 4, 5, 6, 7, 8, 11, 12, 27, 31, 37, 76] fun r d hs => ?_
  have hp : RdP (k + 1) d 1 r := hs
  obtain ⟨h1, h2, h3, h4, h5⟩ := hp
  have nn := r_nn k
  show runF _ _ _ _ _ _ fun r' H'' => Ends r' H'' (.int .u32 (prO (k + 1) d r).1) (prH (prO (k + 1) d r).2)
  rw [prO_succ]
  unfold rOF
  repeat ((conv => whnf); refine ⟨by first | exact ⟨rfl, rfl, trivial⟩ | (unfold inI64; omega) | omega | exact ⟨by omega, by omega⟩ | exact rfl | decide +kernel, ?_⟩)
  conv => whnf
  have hadv : ∀ c e, c ≤ 3 → r.at_ < r.toks.length → e ≤ d + 1 → RdP k e c r.adv := fun c e hc hl he => ⟨h1, hl, h3, by show e + r.toks.length ≤ 20000 + (r.at_ + 1); omega, by show 3 * (r.toks.length - (r.at_ + 1)) + c ≤ k; omega⟩
  refine cond_intro (fun h => ?_) (fun h => ?_)
  · have e : r.sg = ⟨#[45]⟩ := of_decide_eq_true h
    have hlt := psg_lt (p := r) (by rw [e]; decide)
    rw [if_pos (by rw [e]; decide), e]
    repeat ((conv => whnf); refine ⟨by first | exact ⟨rfl, rfl, hadv 1 d (by omega) hlt (by omega)⟩ | (unfold inI64; omega) | omega | exact ⟨by omega, by omega⟩ | exact rfl | decide +kernel, ?_⟩)
    conv => whnf
    refine cond_intro (fun g => ?_) (fun g => absurd e (of_decide_eq_false g))
    repeat ((conv => whnf); refine ⟨by first | (unfold inI64; omega) | omega | exact ⟨by omega, by omega⟩ | exact rfl | decide +kernel, ?_⟩)
    conv => whnf
    refine ends_eq ⟨congrArg (SV.int .u32) ?_, rfl⟩
    show w32 (0 - (prO k d r.adv).1) = w32 (0 - (prO k d r.adv).1)
    rfl
  have n1 : ¬ r.sg = ⟨#[45]⟩ := of_decide_eq_false h
  repeat ((conv => whnf); refine ⟨by first | (unfold inI64; omega) | omega | exact ⟨by omega, by omega⟩ | exact rfl | decide +kernel, ?_⟩)
  conv => whnf
  refine cond_intro (fun h => ?_) (fun h => ?_)
  · have e : r.sg = ⟨#[126]⟩ := of_decide_eq_true h
    have hlt := psg_lt (p := r) (by rw [e]; decide)
    rw [if_pos (by rw [e]; decide), e]
    repeat ((conv => whnf); refine ⟨by first | exact ⟨rfl, rfl, hadv 1 d (by omega) hlt (by omega)⟩ | (unfold inI64; omega) | omega | exact ⟨by omega, by omega⟩ | exact rfl | decide +kernel, ?_⟩)
    conv => whnf
    refine cond_intro (fun g => absurd (of_decide_eq_true g) n1) (fun g => ?_)
    repeat ((conv => whnf); refine ⟨by first | (unfold inI64; omega) | omega | exact ⟨by omega, by omega⟩ | exact rfl | decide +kernel, ?_⟩)
    conv => whnf
    refine cond_intro (fun g => ?_) (fun g => absurd e (of_decide_eq_false g))
    repeat ((conv => whnf); refine ⟨by first | (unfold inI64; omega) | omega | exact ⟨by omega, by omega⟩ | exact rfl | decide +kernel, ?_⟩)
    conv => whnf
    exact ends_eq ⟨rfl, rfl⟩
  have n2 : ¬ r.sg = ⟨#[126]⟩ := of_decide_eq_false h
  repeat ((conv => whnf); refine ⟨by first | (unfold inI64; omega) | omega | exact ⟨by omega, by omega⟩ | exact rfl | decide +kernel, ?_⟩)
  conv => whnf
  refine cond_intro (fun h => ?_) (fun h => ?_)
  · have e : r.sg = ⟨#[33]⟩ := of_decide_eq_true h
    have hlt := psg_lt (p := r) (by rw [e]; decide)
    rw [if_pos (by rw [e]; decide), e]
    repeat ((conv => whnf); refine ⟨by first | exact ⟨rfl, rfl, hadv 1 d (by omega) hlt (by omega)⟩ | (unfold inI64; omega) | omega | exact ⟨by omega, by omega⟩ | exact rfl | decide +kernel, ?_⟩)
    conv => whnf
    refine cond_intro (fun g => absurd (of_decide_eq_true g) n1) (fun g => ?_)
    repeat ((conv => whnf); refine ⟨by first | (unfold inI64; omega) | omega | exact ⟨by omega, by omega⟩ | exact rfl | decide +kernel, ?_⟩)
    conv => whnf
    refine cond_intro (fun g => absurd (of_decide_eq_true g) n2) (fun g => ?_)
    repeat ((conv => whnf); refine ⟨by first | (unfold inI64; omega) | omega | exact ⟨by omega, by omega⟩ | exact rfl | decide +kernel, ?_⟩)
    conv => whnf
    refine ends_eq ⟨congrArg (SV.int .u32) ?_, rfl⟩
    show tr (decide ((prO k d r.adv).1 = 0)) = tr (decide ((0 : Int) = (prO k d r.adv).1))
    rw [decide_eq_decide.2 (eq_comm (a := (prO k d r.adv).1) (b := 0))]
  have n3 : ¬ r.sg = ⟨#[33]⟩ := of_decide_eq_false h
  clear h
  have nf : ¬ frontV r.sg = true := by
    intro hf
    have : r.sg ∈ [sMin, sTil, sBang] := ba_has _ _ hf
    simp only [List.mem_cons, List.not_mem_nil, or_false] at this
    rcases this with e | e | e
    · exact n1 e
    · exact n2 e
    · exact n3 e
  rw [if_neg nf]
  repeat ((conv => whnf); refine ⟨by first | (unfold inI64; omega) | omega | exact ⟨by omega, by omega⟩ | exact rfl | decide +kernel, ?_⟩)
  conv => whnf
  refine cond_intro (fun h => ?_) (fun h => ?_)
  · have e : r.sg = sLp := of_decide_eq_true h
    have hlt := psg_lt (p := r) (by rw [e]; decide)
    rw [if_pos e]
    have ha := hadv 3 (d + 1) (by omega) hlt (by omega)
    have hd : inI64 ((d : Int) + 1) := by unfold inI64; omega
    have hq := ((rok k).w1 (d + 1) r.adv ha.sy ha.le ha.fuel).lt
    have hq2 : (prW k (d + 1) r.adv).2.at_ ≤ 1000000 := by
      have : (prW k (d + 1) r.adv).2.at_ ≤ r.toks.length := hq
      omega
    repeat ((conv => whnf); refine ⟨by first | exact ⟨rfl, rfl, ha⟩ | exact hd | exact ⟨rfl, rfl, hq2⟩ | (unfold inI64; omega) | omega | exact ⟨by omega, by omega⟩ | exact rfl | decide +kernel, ?_⟩)
    conv => whnf
    exact ends_eq ⟨rfl, rfl⟩
  have np : ¬ r.sg = sLp := of_decide_eq_false h
  clear h
  rw [if_neg np]
  repeat ((conv => whnf); refine ⟨by first | (unfold inI64; omega) | omega | exact ⟨by omega, by omega⟩ | (intro hg; first | (unfold inI64; omega) | omega | exact ⟨by omega, by omega⟩ | (simp [lit] at hg; unfold inI64; omega) | (simp [lit] at hg; omega) | (simp [lit] at hg; exact ⟨by omega, by omega⟩)) | (show (_ : Nat) + 1 ≤ 1000000000000; omega) | exact rfl | (unfold inI64; dsimp only; omega) | (dsimp only; omega) | (intro hg; simp [lit] at hg; first | (unfold inI64; dsimp only; omega) | (dsimp only; omega)) | decide +kernel, ?_⟩)
  conv => whnf
  refine cond_intro (fun h => ?_) (fun h => ?_)
  · have h6 : ¬ (r.at_ < r.toks.length ∧ r.tok.1 = 2) := by
      have h7 : (decide ((r.toks.length : Int) ≤ (r.at_ : Int)) || !decide (r.tok.1 = 2)) = true := h
      rintro ⟨a1, a2⟩
      rw [decide_eq_false (show ¬ (r.toks.length : Int) ≤ (r.at_ : Int) by omega), decide_eq_true a2] at h7
      cases h7
    rw [if_neg h6]
    repeat ((conv => whnf); refine ⟨by first | (unfold inI64; omega) | omega | exact ⟨by omega, by omega⟩ | exact rfl | decide +kernel, ?_⟩)
    conv => whnf
    exact ends_eq ⟨rfl, rfl⟩
  · have h6 : r.at_ < r.toks.length ∧ r.tok.1 = 2 := by
      have h7 : (decide ((r.toks.length : Int) ≤ (r.at_ : Int)) || !decide (r.tok.1 = 2)) = false := h
      obtain ⟨a1, a2⟩ := Bool.or_eq_false_iff.1 h7
      exact ⟨by have := of_decide_eq_false a1; omega, by simpa using a2⟩
    rw [if_pos h6]
    have h8 : 0 ≤ (r.at_ : Int) ∧ (r.at_ : Int) < (r.toks.length : Nat) := by omega
    repeat ((conv => whnf); refine ⟨by first | exact h8 | (unfold inI64; omega) | omega | exact ⟨by omega, by omega⟩ | exact rfl | decide +kernel, ?_⟩)
    conv => whnf
    refine ends_eq ⟨rfl, ?_⟩
    show [AO.row [.p (.l tkC r.toks), .int .i64 ((r.at_ : Int) + 1), .bool r.sy, .bool (r.f.deep || decide (8 < (d : Int))), .bool (r.f.oor || decide (r.tok.2.2.1 < 0) || decide (4294967295 < r.tok.2.2.1)), .bool r.f.div]] =
      [AO.row [.p (.l tkC r.toks), .int .i64 ((r.at_ + 1 : Nat) : Int), .bool r.sy, .bool (r.f.deep || decide (8 < d)), .bool (r.f.oor || (decide (r.tok.2.2.1 < 0) || decide (4294967295 < r.tok.2.2.1))), .bool r.f.div]]
    rw [Bool.or_assoc, show decide (8 < (d : Int)) = decide (8 < d) from decide_eq_decide.2 (by omega)]
    rfl

theorem rLoop_succ (row : Nat → Pr → Int × Pr) (least m : Nat) (x : Int) (p : Pr) : rLoopF row least (m + 1) x p = if p.sy = true then (x, p) else if rankV p.sg = 0 ∨ rankV p.sg < least then (x, p) else
      rLoopF row least m (applyV p.sg x (row (rankV p.sg + 1) p.adv).1) ((row (rankV p.sg + 1) p.adv).2.dv p.sg (row (rankV p.sg + 1) p.adv).1) := rfl

set_option maxHeartbeats 1000000 in
theorem oR (k : Nat) (hk : TSound Tryz.prog (tW T k)) : TSound Tryz.prog (ext (tW T k) 59 (sR (k + 1))) := by
  refine extP hk 59 (fn := Tryz.f59) rfl rfl daNN eaNN _ _ (fun _ => Nat.le_of_ble_eq_true rfl) [0, 1, 2, 6, 7, 8, 9, 17, 28] fun r x hs => ?_
  obtain ⟨l, d⟩ := x
  have hp : RdP (k + 1) d 2 r ∧ 1 ≤ l ∧ l ≤ 11 := hs
  obtain ⟨⟨h1, h2, h3, h4, h5⟩, hl, hl2⟩ := hp
  have nn := r_nn k
  have hO : RdP k d 1 r := ⟨h1, h2, h3, h4, by omega⟩
  obtain ⟨po, pa⟩ := (rok k).o1 d r h1 h2 hO.fuel
  have hRow := (rok k).r d r.toks.length
  show runF _ _ _ _ _ _ fun r' H'' => Ends r' H'' (.int .u32 (prR (k + 1) l d r).1) (prH (prR (k + 1) l d r).2)
  rw [prR_succ]
  repeat ((conv => whnf); refine ⟨by first | exact ⟨rfl, rfl, hO⟩ | (unfold inI64; omega) | omega | exact ⟨by omega, by omega⟩ | exact rfl | decide +kernel, ?_⟩)
  conv => whnf
  refine loop_intro (σ := Int × Pr × Nat) (fun ⟨x, _, _⟩ => [(0, XV.s (.a (.c (.ptr 0 0)))), (1, XV.s (.int .i64 (l : Int))), (2, XV.s (.int .i64 (d : Int))), (6, XV.s .none), (7, XV.s (.int .u32 x)), (8, XV.s .none), (9, XV.s .none), (17, XV.s .none), (28, XV.s .none)])
    (fun ⟨_, q, _⟩ => prH q) (fun ⟨x, q, m⟩ => u32r x ∧ Pres r q ∧ (q.sy = false → 3 * (r.toks.length - q.at_) ≤ k) ∧ r.toks.length ≤ m + q.at_ ∧ rLoopF (fun j q => prR k j d q) l m x q = rLoopF (fun j q => prR k j d q) l r.toks.length (prO k d r).1 (prO k d r).2) (fun ⟨_, _, m⟩ => m)
    ((prO k d r).1, (prO k d r).2, r.toks.length) ?_ ?_ ?_ ?_
  · repeat (first | exact LeL.nil | refine LeL.drop ?_ | refine LeL.same ?_)
  · rfl
  · refine ⟨nn.1 _ _, po, fun h => ?_, Nat.le_add_right _ _, rfl⟩
    have := pa h
    omega
  rintro ⟨x, q, m⟩ ⟨hx, hq, hf, hm, hgo⟩
  have hqt := hq.toks
  have hqn : q.toks.length = r.toks.length := by rw [hqt]
  have hql := hq.lt
  repeat ((conv => whnf); refine ⟨by first | (unfold inI64; omega) | omega | exact ⟨by omega, by omega⟩ | exact rfl | decide +kernel, ?_⟩)
  conv => whnf
  refine cond_intro (fun h => ?_) (fun h => ?_)
  · have hs0 : q.sy = false := by
      have h6 : (!q.sy) = true := h
      simpa using h6
    have hf := hf hs0
    repeat ((conv => whnf); refine ⟨by first | exact ⟨rfl, rfl, trivial⟩ | (unfold inI64; omega) | omega | exact ⟨by omega, by omega⟩ | exact rfl | decide +kernel, ?_⟩)
    conv => whnf
    have hstop : rankV q.sg = 0 ∨ rankV q.sg < l → rLoopF (fun j q => prR k j d q) l m x q = (x, q) := fun h7 => by
      cases m with
      | zero => rfl
      | succ m =>
        unfold rLoopF
        rw [if_neg (by rw [hs0]; decide), if_pos h7]
    refine cond_intro (fun h6 => ?_) (fun h6 => ?_)
    · have h7 : rankV q.sg = 0 ∨ rankV q.sg < l := by
        have h8 : (decide ((rankV q.sg : Int) = 0) || decide ((rankV q.sg : Int) < (l : Int))) = true := h6
        simp at h8
        omega
      rw [hstop h7] at hgo
      rw [← hgo]
      repeat ((conv => whnf); refine ⟨by first | (unfold inI64; omega) | omega | exact ⟨by omega, by omega⟩ | exact rfl | decide +kernel, ?_⟩)
      conv => whnf
      exact ends_eq ⟨rfl, rfl⟩
    · have h7 : ¬ (rankV q.sg = 0 ∨ rankV q.sg < l) := by
        have h8 : (decide ((rankV q.sg : Int) = 0) || decide ((rankV q.sg : Int) < (l : Int))) = false := h6
        simp at h8
        omega
      have hk0 : rankV q.sg ≠ 0 := fun h => h7 (.inl h)
      obtain ⟨_, k10, kr⟩ := rank_ne hk0
      have hlt := psg_lt (betw_ne (rank_ne hk0).1)
      have hle := hq.le
      rw [hqt] at hlt
      obtain ⟨m, rfl⟩ : ∃ j, m = j + 1 := ⟨m - 1, by omega⟩
      rw [rLoop_succ, if_neg (by rw [hs0]; decide), if_neg h7] at hgo
      have ha : RdP k d 2 q.adv := ⟨hs0, by show q.at_ + 1 ≤ q.toks.length; omega, by show q.toks.length ≤ 6001; omega, by show d + q.toks.length ≤ 20000 + (q.at_ + 1); rw [hqt]; omega, by show 3 * (q.toks.length - (q.at_ + 1)) + 2 ≤ k; rw [hqt]; omega⟩
      have hr2 := hRow.pres (rankV q.sg + 1) q.adv (by omega) (by show q.toks.length = _; rw [hqt]) hs0 (by show q.at_ + 1 ≤ _; omega) (by show 3 * (r.toks.length - (q.at_ + 1)) + 2 ≤ k; omega)
      have hr2 : Pres q.adv (prR k (rankV q.sg + 1) d q.adv).2 := hr2
      have hnn := nn.2.1 (rankV q.sg + 1) d q.adv
      have hri : inI64 ((rankV q.sg : Int) + 1) := by unfold inI64; omega
      repeat ((conv => whnf); refine ⟨by first | exact hri | exact ⟨rfl, rfl, ha, (by show 1 ≤ rankV q.sg + 1; omega), (by show rankV q.sg + 1 ≤ 11; omega)⟩ | exact ⟨rfl, rfl, hk0, hx, hnn⟩ | (unfold inI64; omega) | omega | exact ⟨by omega, by omega⟩ | exact rfl | decide +kernel, ?_⟩)
      conv => whnf
      refine head_intro (applyV q.sg x (prR k (rankV q.sg + 1) d q.adv).1, (prR k (rankV q.sg + 1) d q.adv).2.dv q.sg (prR k (rankV q.sg + 1) d q.adv).1, m) ?_ ?_ ?_ ?_
      · repeat (first | exact LeL.nil | refine LeL.drop ?_ | refine LeL.same ?_)
      · rfl
      · have hq1 : Pres q q.adv := ⟨rfl, Nat.le_succ _, by show q.at_ + 1 ≤ q.toks.length; omega, id⟩
        have hat : q.at_ + 1 ≤ (prR k (rankV q.sg + 1) d q.adv).2.at_ := hr2.le
        have hle2 : (prR k (rankV q.sg + 1) d q.adv).2.at_ ≤ q.toks.length := hr2.lt
        have htk : (prR k (rankV q.sg + 1) d q.adv).2.toks = q.toks := hr2.toks
        refine ⟨apply_nn _ hx hnn, hq.trans (hq1.trans (hr2.trans ⟨rfl, Nat.le_refl _, ?_, fun h => ?_⟩)), fun _ => ?_, ?_, hgo⟩
        · show (prR k (rankV q.sg + 1) d q.adv).2.at_ ≤ (prR k (rankV q.sg + 1) d q.adv).2.toks.length
          rw [htk]; exact hle2
        · show ((prR k (rankV q.sg + 1) d q.adv).2.f.dv _ _).div = true
          rw [dv_div, h]; rfl
        · show 3 * (r.toks.length - (prR k (rankV q.sg + 1) d q.adv).2.at_) ≤ k
          omega
        · show r.toks.length ≤ m + (prR k (rankV q.sg + 1) d q.adv).2.at_
          omega
      · exact Nat.lt_succ_self m
  · have hs0 : q.sy = true := by
      have h6 : (!q.sy) = false := h
      simpa using h6
    have e : rLoopF (fun j q => prR k j d q) l m x q = (x, q) := by
      cases m with
      | zero => rfl
      | succ m =>
        unfold rLoopF
        rw [if_pos hs0]
    rw [e] at hgo
    rw [← hgo]
    repeat ((conv => whnf); refine ⟨by first | (unfold inI64; omega) | omega | exact ⟨by omega, by omega⟩ | exact rfl | decide +kernel, ?_⟩)
    conv => whnf
    exact ends_eq ⟨rfl, rfl⟩
set_option maxHeartbeats 1000000 in
theorem oW (k : Nat) (hk : TSound Tryz.prog (tW T k)) : TSound Tryz.prog (ext (tW T k) 35 (sW (k + 1))) := by
  refine extP hk 35 (fn := Tryz.f35) rfl rfl daN eaN _ _ (fun _ => Nat.le_of_ble_eq_true rfl) [0, 1, 4, 5, 6, 7, 19, 34, 40, 45] fun r d hs => ?_
  have hp : RdP (k + 1) d 3 r := hs
  obtain ⟨h1, h2, h3, h4, h5⟩ := hp
  have hR : RdP k d 2 r := ⟨h1, h2, h3, h4, by omega⟩
  have p1 : Pres r (prR k 1 d r).2 := ((rok k).r d r.toks.length).pres 1 r (Nat.le_refl _) rfl h1 h2 hR.fuel
  have p1t : (prR k 1 d r).2.toks.length = r.toks.length := by rw [p1.toks]
  have p1l := p1.lt
  have p1g := p1.le
  show runF _ _ _ _ _ _ fun r' H'' => Ends r' H'' (.int .u32 (prW (k + 1) d r).1) (prH (prW (k + 1) d r).2)
  rw [prW_succ]
  repeat ((conv => whnf); refine ⟨by first | exact ⟨rfl, rfl, hR, Nat.le_refl 1, (by decide : 1 ≤ 11)⟩ | (unfold inI64; omega) | omega | exact ⟨by omega, by omega⟩ | exact rfl | decide +kernel, ?_⟩)
  conv => whnf
  refine cond_intro (fun h0 => ?_) (fun h0 => ?_)
  rotate_left
  · have hs0 : (prR k 1 d r).2.sy = true := by
      have h7 : lit false (prR k 1 d r).2.sy = false := h0
      simpa [lit] using h7
    rw [rWF_stop (row := fun q => prR k 1 d q) (.inl hs0)]
    repeat ((conv => whnf); refine ⟨by first | (unfold inI64; omega) | omega | exact ⟨by omega, by omega⟩ | exact rfl | decide +kernel, ?_⟩)
    conv => whnf
    refine cond_intro (fun g => by rw [h0] at g; cases g) (fun g => ?_)
    repeat ((conv => whnf); refine ⟨by first | (unfold inI64; omega) | omega | exact ⟨by omega, by omega⟩ | exact rfl | decide +kernel, ?_⟩)
    conv => whnf
    refine cond_intro (fun h => ?_) (fun h => ?_)
    rotate_left
    · have h7 : ((prR k 1 d r).2.sy || false) = false := h
      rw [hs0] at h7
      cases h7
    repeat ((conv => whnf); refine ⟨by first | (unfold inI64; omega) | omega | exact ⟨by omega, by omega⟩ | exact rfl | decide +kernel, ?_⟩)
    conv => whnf
    exact ends_eq ⟨rfl, rfl⟩
  have hs0 : (prR k 1 d r).2.sy = false := by
    have h7 : lit false (prR k 1 d r).2.sy = true := h0
    simpa [lit] using h7
  repeat ((conv => whnf); refine ⟨by first | exact ⟨rfl, rfl, trivial⟩ | (unfold inI64; omega) | omega | exact ⟨by omega, by omega⟩ | exact rfl | decide +kernel, ?_⟩)
  conv => whnf
  refine cond_intro (fun h => ?_) (fun h => ?_)
  · have h6 : (prR k 1 d r).2.sg ≠ sQ := by
      have h7 : ((prR k 1 d r).2.sy || !decide ((prR k 1 d r).2.sg = sQ)) = true := h
      rw [hs0] at h7
      simpa using h7
    rw [rWF_stop (row := fun q => prR k 1 d q) (.inr h6)]
    repeat ((conv => whnf); refine ⟨by first | (unfold inI64; omega) | omega | exact ⟨by omega, by omega⟩ | exact rfl | decide +kernel, ?_⟩)
    conv => whnf
    exact ends_eq ⟨rfl, rfl⟩
  have hq : (prR k 1 d r).2.sg = sQ := by
    have h7 : ((prR k 1 d r).2.sy || !decide ((prR k 1 d r).2.sg = sQ)) = false := h
    rw [hs0] at h7
    simpa using h7
  have hlt := psg_lt (p := (prR k 1 d r).2) (by rw [hq]; decide)
  have ha : RdP k d 3 (prR k 1 d r).2.adv := ⟨hs0, by show (prR k 1 d r).2.at_ + 1 ≤ (prR k 1 d r).2.toks.length; omega, by show (prR k 1 d r).2.toks.length ≤ 6001; omega, by show d + (prR k 1 d r).2.toks.length ≤ 20000 + ((prR k 1 d r).2.at_ + 1); omega, by show 3 * ((prR k 1 d r).2.toks.length - ((prR k 1 d r).2.at_ + 1)) + 3 ≤ k; omega⟩
  have p2 := (rok k).w1 d (prR k 1 d r).2.adv ha.sy ha.le ha.fuel
  have hi : inI64 (((prR k 1 d r).2.at_ : Int) + 1) := by unfold inI64; omega
  obtain ⟨A, hA⟩ : ∃ A, prW k d (prR k 1 d r).2.adv = A := ⟨_, rfl⟩
  rw [hA] at p2
  have p2t : A.2.toks.length = r.toks.length := by rw [p2.toks]; exact p1t
  have p2l : A.2.at_ ≤ (prR k 1 d r).2.toks.length := p2.lt
  have p2g : (prR k 1 d r).2.at_ + 1 ≤ A.2.at_ := p2.le
  repeat ((conv => whnf); refine ⟨by first | exact hi | exact ⟨rfl, rfl, ha⟩ | (unfold inI64; omega) | omega | exact ⟨by omega, by omega⟩ | exact rfl | decide +kernel, ?_⟩)
  conv => whnf
  refine cond_intro (fun h8 => ?_) (fun h8 => ?_)
  · have h9 : A.2.sy = true := by rw [← hA]; exact h8
    rw [rWF_a (row := fun q => prR k 1 d q) (w := fun q => prW k d q) hs0 hq hA h9]
    repeat ((conv => whnf); refine ⟨by first | (unfold inI64; omega) | omega | exact ⟨by omega, by omega⟩ | exact rfl | decide +kernel, ?_⟩)
    conv => whnf
    refine ends_eq ⟨rfl, ?_⟩
    rw [← hA]
    rfl
  have h9 : A.2.sy = false := by rw [← hA]; exact h8
  obtain ⟨B, hB⟩ : ∃ B, takeP sCol A.2 = B := ⟨_, rfl⟩
  have p3 := take_pres (p := A.2) (s := sCol) (by omega) (by decide)
  rw [hB] at p3
  have p3t : B.toks.length = r.toks.length := by rw [p3.toks]; exact p2t
  have p3l := p3.lt
  have p3g := p3.le
  have hB' : takeP sCol (prW k d (prR k 1 d r).2.adv).2 = B := by rw [hA]; exact hB
  have hAt : (prW k d (prR k 1 d r).2.adv).2.at_ ≤ 1000000 := by rw [hA]; omega
  repeat ((conv => whnf); refine ⟨by first | exact ⟨rfl, rfl, hAt⟩ | (unfold inI64; omega) | omega | exact ⟨by omega, by omega⟩ | exact rfl | decide +kernel, ?_⟩)
  conv => whnf
  refine cond_intro (fun h10 => ?_) (fun h10 => ?_)
  · have h11 : B.sy = true := by rw [← hB']; exact h10
    rw [rWF_c (row := fun q => prR k 1 d q) (w := fun q => prW k d q) hs0 hq hA h9 hB h11]
    repeat ((conv => whnf); refine ⟨by first | (unfold inI64; omega) | omega | exact ⟨by omega, by omega⟩ | exact rfl | decide +kernel, ?_⟩)
    conv => whnf
    refine ends_eq ⟨rfl, ?_⟩
    rw [← hB']
    rfl
  have h11 : B.sy = false := by rw [← hB']; exact h10
  have hb : RdP k d 3 (takeP sCol (prW k d (prR k 1 d r).2.adv).2) := by
    rw [hB']
    exact ⟨h11, by omega, by omega, by omega, by omega⟩
  repeat ((conv => whnf); refine ⟨by first | exact ⟨rfl, rfl, hb⟩ | (unfold inI64; omega) | omega | exact ⟨by omega, by omega⟩ | exact rfl | decide +kernel, ?_⟩)
  conv => whnf
  rw [rWF_ok (row := fun q => prR k 1 d q) (w := fun q => prW k d q) hs0 hq hA h9 hB h11, ← hA, ← hB']
  refine cond_intro (fun h12 => ?_) (fun h12 => ?_)
  · have h13 : (prR k 1 d r).1 ≠ 0 := by
      have h14 : (!decide ((prR k 1 d r).1 = 0)) = true := h12
      simpa using h14
    rw [if_pos h13]
    repeat ((conv => whnf); refine ⟨by first | (unfold inI64; omega) | omega | exact ⟨by omega, by omega⟩ | exact rfl | decide +kernel, ?_⟩)
    conv => whnf
    exact ends_eq ⟨rfl, rfl⟩
  · have h13 : ¬ (prR k 1 d r).1 ≠ 0 := by
      have h14 : (!decide ((prR k 1 d r).1 = 0)) = false := h12
      simpa using h14
    rw [if_neg h13]
    repeat ((conv => whnf); refine ⟨by first | (unfold inI64; omega) | omega | exact ⟨by omega, by omega⟩ | exact rfl | decide +kernel, ?_⟩)
    conv => whnf
    exact ends_eq ⟨rfl, rfl⟩

include hT in
theorem tWk : ∀ k, TSound Tryz.prog (tW T k) := by
  intro k
  induction k with
  | zero =>
    refine extP (extP (extP (p5 hT) 38 (fn := Tryz.f38) rfl rfl daN eaN _ _ (fun _ => Nat.le_of_ble_eq_true rfl) [] fun r d hs => ?_) 59 (fn := Tryz.f59) rfl rfl daNN eaNN _ _ (fun _ => Nat.le_of_ble_eq_true rfl) [] fun r d hs => ?_) 35 (fn := Tryz.f35) rfl rfl daN eaN _ _ (fun _ => Nat.le_of_ble_eq_true rfl) [] fun r d hs => ?_
    · have h : RdP 0 d 1 r := hs
      exact absurd h.fuel (by omega)
    · have h : RdP 0 d.2 2 r := hs.1
      exact absurd h.fuel (by omega)
    · have h : RdP 0 d 3 r := hs
      exact absurd h.fuel (by omega)
  | succ k ih => exact ext_only (oW k ih) (ext_only (oR k ih) (ext_only (oO k ih) (p5 hT)))
end
end Go.Ab

/- The reference's Value and Primary. -/
namespace Go.Ab
open Go.Proofs
set_option linter.unusedSectionVars false
set_option maxRecDepth 100000
variable [Glob]

def daU : List AV → Option Int
  | [.c (.p (.v (.int .u32 n)))] => some n
  | _ => none
def eaU (n : Int) : List AV := [.c (.int .u32 n)]
def saysRV (pm : Bool) : Says := fun args H => match H with
  | [] => match daVal args with
    | some (toks, a) => some (some (args = [.c (.p (.l tkC toks)), .c (.int .i64 a)] ∧ toks.length ≤ 6001), resSV (exprV pm toks a), [])
    | none => none
  | _ => none

section
variable {T : Table} (hT : TSound Tryz.prog T)

abbrev P6 (N : Nat) (T : Table) : Table := ext (tW T N) 34 (looks (looksP daU eaU (fun _ x => u32r x) fun r x => resSV (doneP (x, r))))
include hT in
theorem p6 (N : Nat) : TSound Tryz.prog (P6 N T) := by
  refine extLP (tWk hT N) 34 (fn := Tryz.f34) rfl rfl daU eaU _ _ (fun _ => Nat.le_of_ble_eq_true rfl) [0, 1, 4, 5, 6, 7, 12, 17, 22] fun r x hs => ?_
  have hx : u32r x := hs
  unfold u32r at hx
  obtain ⟨toks, at_, sy, ⟨d, o, z⟩⟩ := r
  cases sy <;> cases d <;> cases o <;> cases z
  all_goals
    repeat ((conv => whnf); refine ⟨by first | (unfold inI64; omega) | omega | exact ⟨by omega, by omega⟩ | exact rfl | decide +kernel, ?_⟩)
    conv => whnf
    exact ends_eq ⟨rfl, rfl⟩

theorem rdp0 {N : Nat} (hN : 20000 ≤ N) {toks : List tkC.den} {a : Nat} (hl : toks.length ≤ 6001) (ha : a ≤ toks.length) {c : Nat} (hc : c ≤ 3) : RdP N 0 c (pr0 toks a) :=
  ⟨rfl, ha, hl, by show 0 + toks.length ≤ 20000 + a; omega, by show 3 * (toks.length - a) + c ≤ N; omega⟩

abbrev P7 (N : Nat) (T : Table) : Table := ext (P6 N T) 17 (saysRV true)
include hT in
theorem p7 {N : Nat} (hN : 20000 ≤ N) : TSound Tryz.prog (P7 N T) := by
  refine ext_run (p6 hT N) (f := 17) (fn := Tryz.f17) rfl rfl [0, 1, 4, 5, 6, 7, 15, 28] fun args H p r' H' hs hp => ?_
  unfold saysRV at hs
  split at hs
  · split at hs
    · rename_i toks a _
      cases hs
      obtain ⟨rfl, hl⟩ := hp
      refine ⟨Nat.le_of_ble_eq_true rfl, [], rfl, fun k hk => absurd hk (Nat.not_lt_zero k), ?_⟩
      rw [← ref_expr hN true toks a hl]
      unfold refV
      repeat ((conv => whnf); refine ⟨by first | (unfold inI64; omega) | omega | exact ⟨by omega, by omega⟩ | exact rfl | decide +kernel, ?_⟩)
      conv => whnf
      refine cond_intro (fun h => ?_) (fun h => ?_)
      · have h' : a < 0 ∨ (toks.length : Int) ≤ a := by simpa using h
        rw [if_pos h']
        repeat ((conv => whnf); refine ⟨by first | (unfold inI64; omega) | omega | exact ⟨by omega, by omega⟩ | exact rfl | decide +kernel, ?_⟩)
        conv => whnf
        exact ends_eq ⟨rfl, rfl⟩
      have h' : ¬ (a < 0 ∨ (toks.length : Int) ≤ a) := by
        have : (decide (a < 0) || decide ((toks.length : Int) ≤ a)) = false := h
        simp at this
        omega
      rw [if_neg h']
      obtain ⟨a, rfl⟩ : ∃ n : Nat, a = n := ⟨a.toNat, by omega⟩
      have ha : a ≤ toks.length := by omega
      have hin : 0 ≤ (a : Int) ∧ (a : Int) < (toks.length : Nat) := by omega
      rw [Int.toNat_natCast]
      have hO := rdp0 hN hl ha (show 1 ≤ 3 by decide)
      have hnn := (r_nn N).1 0 (pr0 toks a)
      show runC _ _ _ _ _ _ _
      dsimp only
      repeat ((conv => whnf); refine ⟨by first | exact hin | (unfold inI64; omega) | omega | exact ⟨by omega, by omega⟩ | exact rfl | decide +kernel, ?_⟩)
      conv => whnf
      refine cond_intro (fun h2 => ?_) (fun h2 => ?_)
      · have h3 : (pr0 toks a).tok.1 ≠ 2 := by
          have h4 : lit true (!decide ((pr0 toks a).tok.1 = 2)) = true := h2
          simpa [lit] using h4
        repeat ((conv => whnf); refine ⟨by first | exact ⟨rfl, rfl, trivial⟩ | (unfold inI64; omega) | omega | exact ⟨by omega, by omega⟩ | exact rfl | decide +kernel, ?_⟩)
        conv => whnf
        refine cond_intro (fun h5 => ?_) (fun h5 => ?_)
        · have h6 : (pr0 toks a).sg ≠ sLp := by
            have h7 : ((!decide ((pr0 toks a).tok.1 = 2)) && !decide ((pr0 toks a).sg = sLp)) = true := h5
            simpa using (Bool.and_eq_true_iff.1 h7).2
          rw [if_pos ⟨h3, h6⟩]
          repeat ((conv => whnf); refine ⟨by first | (unfold inI64; omega) | omega | exact ⟨by omega, by omega⟩ | exact rfl | decide +kernel, ?_⟩)
          conv => whnf
          exact ends_eq ⟨rfl, rfl⟩
        · have h6 : ¬ ((pr0 toks a).tok.1 ≠ 2 ∧ (pr0 toks a).sg ≠ sLp) := by
            have h7 : ((!decide ((pr0 toks a).tok.1 = 2)) && !decide ((pr0 toks a).sg = sLp)) = false := h5
            rintro ⟨h8, h9⟩
            rw [decide_eq_false h8, decide_eq_false h9] at h7
            cases h7
          rw [if_neg h6]
          repeat ((conv => whnf); refine ⟨by first | exact ⟨rfl, rfl, hO⟩ | exact ⟨rfl, rfl, hnn⟩ | (unfold inI64; omega) | omega | exact ⟨by omega, by omega⟩ | exact rfl | decide +kernel, ?_⟩)
          conv => whnf
          exact ends_eq ⟨rfl, rfl⟩
      · have h3 : (pr0 toks a).tok.1 = 2 := by
          have h4 : lit true (!decide ((pr0 toks a).tok.1 = 2)) = false := h2
          simpa [lit] using h4
        rw [if_neg (fun h => h.1 h3)]
        repeat ((conv => whnf); refine ⟨by first | (unfold inI64; omega) | omega | exact ⟨by omega, by omega⟩ | exact rfl | decide +kernel, ?_⟩)
        conv => whnf
        refine cond_intro (fun g => by rw [h2] at g; cases g) (fun g => ?_)
        repeat ((conv => whnf); refine ⟨by first | (unfold inI64; omega) | omega | exact ⟨by omega, by omega⟩ | exact rfl | decide +kernel, ?_⟩)
        conv => whnf
        refine cond_intro (fun h5 => ?_) (fun h5 => ?_)
        · have h7 : ((!decide ((pr0 toks a).tok.1 = 2)) && false) = true := h5
          rw [h3] at h7
          cases h7
        · repeat ((conv => whnf); refine ⟨by first | exact ⟨rfl, rfl, hO⟩ | exact ⟨rfl, rfl, hnn⟩ | (unfold inI64; omega) | omega | exact ⟨by omega, by omega⟩ | exact rfl | decide +kernel, ?_⟩)
          conv => whnf
          exact ends_eq ⟨rfl, rfl⟩
    · cases hs
  · cases hs
end
end Go.Ab

/- Made texts. -/
namespace Go.Ab
open Go.Proofs
set_option linter.unusedSectionVars false
set_option maxRecDepth 100000
variable [Glob]

theorem pick_mem {l : List ByteArray} (h : 0 < l.length) (zs : List Int) (n : Int) : pickS l zs n ∈ l := by
  unfold pickS
  have h1 := modV_nonneg (rawV zs n) l.length
  have h2 := modV_lt (rawV zs n) l.length (by omega)
  have h3 : (modV (rawV zs n) l.length).toNat < l.length := by omega
  rw [getD_get h3]
  exact List.getElem_mem h3

theorem pick_len {l : List ByteArray} {b : Nat} (h : ∀ x ∈ l, x.size ≤ b) (zs : List Int) (n : Int) : (pickS l zs n).size ≤ b := by
  unfold pickS
  generalize (modV (rawV zs n) l.length).toNat = i
  rw [List.getD_eq_getElem?_getD]
  cases hi : l[i]? with
  | none => exact Nat.zero_le _
  | some x => exact h x (List.mem_of_getElem? hi)

/-- A made text: so many rounds, from a place of the tape on; the place behind it. -/
def srcGo (zs : List Int) : Nat → Int → ByteArray → ByteArray × Int
  | 0, n, out => (out, n)
  | k + 1, n, out =>
    let o := modV (rawV zs n) 40 = 39
    let out1 := if o then out ++ pickS oddL zs (rawN zs n) else out
    let n1 := if o then rawN zs (rawN zs n) else rawN zs n
    let out2 := out1 ++ pickS pieceL zs n1
    let n2 := rawN zs n1
    let out3 := if 0 < modV (rawV zs n2) 3 then out2 ++ ⟨#[32]⟩ else out2
    srcGo zs k (rawN zs n2) out3

def srcV (zs : List Int) (n k : Int) : ByteArray × Int := srcGo zs (modV (rawV zs n) (k + 1)).toNat (rawN zs n) ⟨#[]⟩

theorem rawN_le (zs : List Int) (n : Int) (h : 0 ≤ n) : 0 ≤ rawN zs n ∧ rawN zs n ≤ n + 1 := by unfold rawN; split <;> omega

theorem srcGo_le (zs : List Int) : ∀ (k : Nat) (n : Int) (out : ByteArray), 0 ≤ n → 0 ≤ (srcGo zs k n out).2 ∧ (srcGo zs k n out).2 ≤ n + 4 * k ∧ (srcGo zs k n out).1.size ≤ out.size + 81 * k
  | 0, n, out, h => by simp only [srcGo]; omega
  | k + 1, n, out, h => by
    have h1 := rawN_le zs n h
    have h2 := rawN_le zs _ h1.1
    have h3 := rawN_le zs _ h2.1
    have h4 := rawN_le zs _ h3.1
    have h5 := pick_len (l := oddL) (b := 40) (by decide +kernel) zs (rawN zs n)
    have h6 := pick_len (l := pieceL) (b := 40) (by decide +kernel) zs (rawN zs n)
    have h7 := pick_len (l := pieceL) (b := 40) (by decide +kernel) zs (rawN zs (rawN zs n))
    have h8 : (⟨#[32]⟩ : ByteArray).size = 1 := rfl
    simp only [srcGo]
    by_cases ho : modV (rawV zs n) 40 = 39
    · simp only [if_pos ho]
      by_cases hb : 0 < modV (rawV zs (rawN zs (rawN zs (rawN zs n)))) 3
      · simp only [if_pos hb]
        have := srcGo_le zs k (rawN zs (rawN zs (rawN zs (rawN zs n)))) (out ++ pickS oddL zs (rawN zs n) ++ pickS pieceL zs (rawN zs (rawN zs n)) ++ ⟨#[32]⟩) h4.1
        simp only [ByteArray.size_append] at this
        omega
      · simp only [if_neg hb]
        have := srcGo_le zs k (rawN zs (rawN zs (rawN zs (rawN zs n)))) (out ++ pickS oddL zs (rawN zs n) ++ pickS pieceL zs (rawN zs (rawN zs n))) h4.1
        simp only [ByteArray.size_append] at this
        omega
    · simp only [if_neg ho]
      by_cases hb : 0 < modV (rawV zs (rawN zs (rawN zs n))) 3
      · simp only [if_pos hb]
        have := srcGo_le zs k (rawN zs (rawN zs (rawN zs n))) (out ++ pickS pieceL zs (rawN zs n) ++ ⟨#[32]⟩) h3.1
        simp only [ByteArray.size_append] at this
        omega
      · simp only [if_neg hb]
        have := srcGo_le zs k (rawN zs (rawN zs (rawN zs n))) (out ++ pickS pieceL zs (rawN zs n)) h3.1
        simp only [ByteArray.size_append] at this
        omega

theorem srcV_le (zs : List Int) (n k : Int) (hn : 0 ≤ n) (hk0 : 0 ≤ k) : 0 ≤ (srcV zs n k).2 ∧ (srcV zs n k).2 ≤ n + 1 + 4 * k ∧ ((srcV zs n k).1.size : Int) ≤ 81 * k := by
  have h1 := rawN_le zs n hn
  have h2 := modV_nonneg (rawV zs n) (k + 1)
  have h3 := modV_lt (rawV zs n) (k + 1) (by omega)
  have h4 := srcGo_le zs (modV (rawV zs n) (k + 1)).toNat (rawN zs n) ⟨#[]⟩ h1.1
  have h5 : (⟨#[]⟩ : ByteArray).size = 0 := rfl
  unfold srcV
  omega

def T57 : Table := ext T52 9 (saysTapeI fun zs n k => (some (0 ≤ n ∧ n ≤ 1000000000 ∧ zs.length ≤ 1000000 ∧ 0 ≤ k ∧ k ≤ 1000), .str (srcV zs n k).1, (srcV zs n k).2))

theorem t57 : TSound Tryz.prog T57 := by
  refine extTapeI t52 9 (fn := Tryz.f9) rfl rfl (by decide) _ [0, 1, 4, 5, 6, 12, 17, 28] fun zs n k hn => ?_
  obtain ⟨h0, h1, h2, h3, h4⟩ : 0 ≤ n ∧ n ≤ 1000000000 ∧ zs.length ≤ 1000000 ∧ 0 ≤ k ∧ k ≤ 1000 := hn
  conv => whnf
  refine ⟨by unfold inI64; omega, ?_⟩
  conv => whnf
  refine ⟨⟨⟨h0, by omega, by omega⟩, by omega⟩, ?_⟩
  conv => whnf
  have hm0 := modV_nonneg (rawV zs n) (k + 1)
  have hm1 := modV_lt (rawV zs n) (k + 1) (by omega)
  have hr := rawN_le zs n h0
  refine loop_intro (σ := Nat × Int × ByteArray) (fun ⟨i, _, out⟩ => [(0, XV.s (.a (.c (.ptr 0 0)))), (1, XV.s .none), (4, XV.s (SV.str ⟨#[]⟩)), (5, XV.s (SV.str out)), (6, XV.s (.int .i64 i)), (12, XV.s .none), (17, XV.s .none), (28, XV.s .none)])
    (fun ⟨_, n, _⟩ => [tapeO zs n])
    (fun ⟨i, m, out⟩ => i ≤ 1000 ∧ 0 ≤ m ∧ m + 4 * i ≤ 1000005000 ∧ out.size + 81 * i ≤ 100000 ∧ srcGo zs i m out = srcV zs n k) (fun ⟨i, _, _⟩ => i) ((modV (rawV zs n) (k + 1)).toNat, rawN zs n, ⟨#[]⟩) ?_ rfl ?_ fun ⟨i, m, out⟩ hI => ?_
  · repeat (first | exact LeL.nil | refine LeL.drop ?_ | refine LeL.same ?_ | refine LeL.eq (congrArg (fun x => XV.s (SV.int .i64 x)) (Int.toNat_of_nonneg hm0)) ?_)
  · have h5 : (⟨#[]⟩ : ByteArray).size = 0 := rfl
    exact ⟨by omega, hr.1, by omega, by omega, rfl⟩
  obtain ⟨hi, hm, hm2, ho, hgo⟩ := hI
  conv => whnf
  refine cond_intro (fun h => ?_) (fun h => ?_)
  · obtain ⟨i', rfl⟩ : ∃ i', i = i' + 1 := ⟨i - 1, by have : (0 : Int) < i := of_decide_eq_true h
                                                      omega⟩
    simp only [srcGo] at hgo
    have q1 := rawN_le zs m hm
    have q2 := rawN_le zs _ q1.1
    have q3 := rawN_le zs _ q2.1
    have q4 := rawN_le zs _ q3.1
    have z1 := pick_len (l := oddL) (b := 40) (by decide +kernel) zs (rawN zs m)
    have z2 := pick_len (l := pieceL) (b := 40) (by decide +kernel) zs (rawN zs m)
    have z3 := pick_len (l := pieceL) (b := 40) (by decide +kernel) zs (rawN zs (rawN zs m))
    have z4 : (⟨#[32]⟩ : ByteArray).size = 1 := rfl
    conv => whnf
    refine ⟨⟨⟨hm, by omega, by omega⟩, by decide⟩, ?_⟩
    conv => whnf
    refine cond_intro (fun h5 => ?_) (fun h5 => ?_)
    · have h5' : modV (rawV zs m) 40 = 39 := of_decide_eq_true h5
      simp only [if_pos h5'] at hgo
      conv => whnf
      refine ⟨⟨q1.1, by show rawN zs m ≤ _; omega, by omega⟩, ?_⟩
      conv => whnf
      refine ⟨by show ((out.size + (pickS oddL zs (rawN zs m)).size : Nat) : Int) ≤ _; omega, ?_⟩
      conv => whnf
      refine ⟨⟨q2.1, by show rawN zs (rawN zs m) ≤ _; omega, by omega⟩, ?_⟩
      conv => whnf
      refine ⟨by show (((out ++ pickS oddL zs (rawN zs m)).size + (pickS pieceL zs (rawN zs (rawN zs m))).size : Nat) : Int) ≤ _; rw [ByteArray.size_append]; omega, ?_⟩
      conv => whnf
      refine ⟨⟨⟨q3.1, by show rawN zs (rawN zs (rawN zs m)) ≤ _; omega, by omega⟩, by decide⟩, ?_⟩
      conv => whnf
      refine cond_intro (fun h6 => ?_) (fun h6 => ?_)
      · have h6' : 0 < modV (rawV zs (rawN zs (rawN zs (rawN zs m)))) 3 := of_decide_eq_true h6
        simp only [if_pos h6'] at hgo
        conv => whnf
        refine ⟨by show (((out ++ pickS oddL zs (rawN zs m) ++ pickS pieceL zs (rawN zs (rawN zs m))).size + 1 : Nat) : Int) ≤ _; simp only [ByteArray.size_append]; omega, ?_⟩
        conv => whnf
        refine ⟨by unfold inI64; omega, ?_⟩
        conv => whnf
        refine head_intro (i', rawN zs (rawN zs (rawN zs (rawN zs m))), out ++ pickS oddL zs (rawN zs m) ++ pickS pieceL zs (rawN zs (rawN zs m)) ++ ⟨#[32]⟩) ?_ rfl ?_ ?_
        · repeat (first | exact LeL.nil | refine LeL.drop ?_ | refine LeL.same ?_ | refine LeL.eq (congrArg (fun x => XV.s (SV.int .i64 x)) (by omega : (i' : Int) = ((i' + 1 : Nat) : Int) - 1)) ?_)
        · exact ⟨by omega, q4.1, by omega, by simp only [ByteArray.size_append]; omega, hgo⟩
        · exact Nat.lt_succ_self i'
      · have h6' : ¬ 0 < modV (rawV zs (rawN zs (rawN zs (rawN zs m)))) 3 := of_decide_eq_false h6
        simp only [if_neg h6'] at hgo
        conv => whnf
        refine ⟨by unfold inI64; omega, ?_⟩
        conv => whnf
        refine head_intro (i', rawN zs (rawN zs (rawN zs (rawN zs m))), out ++ pickS oddL zs (rawN zs m) ++ pickS pieceL zs (rawN zs (rawN zs m))) ?_ rfl ?_ ?_
        · repeat (first | exact LeL.nil | refine LeL.drop ?_ | refine LeL.same ?_ | refine LeL.eq (congrArg (fun x => XV.s (SV.int .i64 x)) (by omega : (i' : Int) = ((i' + 1 : Nat) : Int) - 1)) ?_)
        · exact ⟨by omega, q4.1, by omega, by simp only [ByteArray.size_append]; omega, hgo⟩
        · exact Nat.lt_succ_self i'
    · have h5' : ¬ modV (rawV zs m) 40 = 39 := of_decide_eq_false h5
      simp only [if_neg h5'] at hgo
      conv => whnf
      refine ⟨⟨q1.1, by show rawN zs m ≤ _; omega, by omega⟩, ?_⟩
      conv => whnf
      refine ⟨by show ((out.size + (pickS pieceL zs (rawN zs m)).size : Nat) : Int) ≤ _; omega, ?_⟩
      conv => whnf
      refine ⟨⟨⟨q2.1, by show rawN zs (rawN zs m) ≤ _; omega, by omega⟩, by decide⟩, ?_⟩
      conv => whnf
      refine cond_intro (fun h6 => ?_) (fun h6 => ?_)
      · have h6' : 0 < modV (rawV zs (rawN zs (rawN zs m))) 3 := of_decide_eq_true h6
        simp only [if_pos h6'] at hgo
        conv => whnf
        refine ⟨by show (((out ++ pickS pieceL zs (rawN zs m)).size + 1 : Nat) : Int) ≤ _; simp only [ByteArray.size_append]; omega, ?_⟩
        conv => whnf
        refine ⟨by unfold inI64; omega, ?_⟩
        conv => whnf
        refine head_intro (i', rawN zs (rawN zs (rawN zs m)), out ++ pickS pieceL zs (rawN zs m) ++ ⟨#[32]⟩) ?_ rfl ?_ ?_
        · repeat (first | exact LeL.nil | refine LeL.drop ?_ | refine LeL.same ?_ | refine LeL.eq (congrArg (fun x => XV.s (SV.int .i64 x)) (by omega : (i' : Int) = ((i' + 1 : Nat) : Int) - 1)) ?_)
        · exact ⟨by omega, q3.1, by omega, by simp only [ByteArray.size_append]; omega, hgo⟩
        · exact Nat.lt_succ_self i'
      · have h6' : ¬ 0 < modV (rawV zs (rawN zs (rawN zs m))) 3 := of_decide_eq_false h6
        simp only [if_neg h6'] at hgo
        conv => whnf
        refine ⟨by unfold inI64; omega, ?_⟩
        conv => whnf
        refine head_intro (i', rawN zs (rawN zs (rawN zs m)), out ++ pickS pieceL zs (rawN zs m)) ?_ rfl ?_ ?_
        · repeat (first | exact LeL.nil | refine LeL.drop ?_ | refine LeL.same ?_ | refine LeL.eq (congrArg (fun x => XV.s (SV.int .i64 x)) (by omega : (i' : Int) = ((i' + 1 : Nat) : Int) - 1)) ?_)
        · exact ⟨by omega, q3.1, by omega, by simp only [ByteArray.size_append]; omega, hgo⟩
        · exact Nat.lt_succ_self i'
  · have hz : i = 0 := by have : ¬ (0 : Int) < i := of_decide_eq_false h
                          omega
    subst hz
    simp only [srcGo] at hgo
    conv => whnf
    refine ends_eq ⟨?_, ?_⟩
    · show SV.str out = SV.str (srcV zs n k).1
      rw [← hgo]
    · show [tapeO zs m] = [tapeO zs (srcV zs n k).2]
      rw [← hgo]
end Go.Ab
