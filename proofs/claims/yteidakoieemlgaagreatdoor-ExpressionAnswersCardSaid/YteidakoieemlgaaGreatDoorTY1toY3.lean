/- The reference's parser of expressions: its small steps. -/
import Derived.Test.YteidakoieemlgaaGreatDoorTV4
import Derived.Test.YteidakoieemlgaaGreatDoorTV14toG4
import Derived.Test.YteidakoieemlgaaGreatDoorTU1toU2
namespace Go.Ab
open Go.Proofs
set_option linter.unusedSectionVars false
set_option maxRecDepth 100000
variable [Glob]

abbrev prC (p : Pr) : List AC := [.p (.l tkC p.toks), .int .i64 p.at_, .bool p.sy, .bool p.f.deep, .bool p.f.oor, .bool p.f.div]
abbrev prH (p : Pr) : List AO := [.row (prC p)]
def prOf (H : List AO) : Option Pr :=
  match H with
  | [.row [.p (.l c0 toks), .p (.v (.int .i64 a)), .p (.v (.bool s)), .p (.v (.bool d)), .p (.v (.bool o)), .p (.v (.bool z))]] =>
    match castD (e := tkC) (e' := c0) toks with | some toks => some ⟨toks, a.toNat, s, ⟨d, o, z⟩⟩ | none => none
  | _ => none

def saysP {α : Type} (da : List AV → Option α) (ea : α → List AV) (pre : Pr → α → Prop) (g : Pr → α → SV × Pr) : Says := fun args H => match args with
  | .c (.ptr 0 0) :: al => match da al, prOf H with
    | some a, some r => some (some (al = ea a ∧ H = prH r ∧ pre r a), (g r a).1, prH (g r a).2)
    | _, _ => none
  | _ => none

def looksP {α : Type} (da : List AV → Option α) (ea : α → List AV) (pre : Pr → α → Prop) (g : Pr → α → SV) : List AV → List AO → Option (Option Prop × SV) := fun args H => match args with
  | .c (.ptr 0 0) :: al => match da al, prOf H with
    | some a, some r => some (some (al = ea a ∧ H = prH r ∧ pre r a), g r a)
    | _, _ => none
  | _ => none

theorem id1p : ∀ k, k < 1 → [0][k]? = some k := fun k hk => by
  have : k = 0 := by omega
  subst this; rfl

theorem extP {α : Type} {P : Program} {T : Table} (hT : TSound P T) (f : FuncId) {fn : Func} (hf : P.funcs[f]? = some fn) (hname : (fn.name == "runtime.NumGoroutine") = false) (da : List AV → Option α) (ea : α → List AV) (pre : Pr → α → Prop) (g : Pr → α → SV × Pr) (hn : ∀ a, (ea a).length + 1 ≤ fn.ntmps) (ks : List Nat)
    (h : ∀ r a, pre r a → runF ⟨P, T⟩ fn ks [0] (.c (.ptr 0 0) :: ea a) (prH r) fun r' H'' => Ends r' H'' (g r a).1 (prH (g r a).2)) : TSound P (ext T f (saysP da ea pre g)) :=
  ext_run hT hf hname ks fun args H p r H' hs hp => by
    unfold saysP at hs
    split at hs
    · split at hs
      · cases hs
        obtain ⟨rfl, rfl, hpre⟩ := hp
        exact ⟨hn _, [0], rfl, id1p, h _ _ hpre⟩
      · cases hs
    · cases hs

theorem extLP {α : Type} {P : Program} {T : Table} (hT : TSound P T) (f : FuncId) {fn : Func} (hf : P.funcs[f]? = some fn) (hname : (fn.name == "runtime.NumGoroutine") = false) (da : List AV → Option α) (ea : α → List AV) (pre : Pr → α → Prop) (g : Pr → α → SV) (hn : ∀ a, (ea a).length + 1 ≤ fn.ntmps) (ks : List Nat)
    (h : ∀ r a, pre r a → runF ⟨P, T⟩ fn ks [0] (.c (.ptr 0 0) :: ea a) (prH r) fun r' H'' => Ends r' H'' (g r a) (prH r)) : TSound P (ext T f (looks (looksP da ea pre g))) :=
  ext_look hT hf hname ks fun args H p r hs hp => by
    unfold looksP at hs
    split at hs
    · split at hs
      · cases hs
        obtain ⟨rfl, rfl, hpre⟩ := hp
        exact ⟨hn _, [0], rfl, id1p, h _ _ hpre⟩
      · cases hs
    · cases hs

theorem pr_no {p : Pr} (h : ¬ p.at_ < p.toks.length) : p.sg = ⟨#[]⟩ := by
  unfold Pr.sg
  rw [pts_end p h]
  rfl
theorem pr_in {p : Pr} (h : p.at_ < p.toks.length) (hk : p.tok.1 = 4) : p.sg = p.tok.2.1 := by
  rw [sgn_tok h, hk]
  rfl
theorem pr_not {p : Pr} (h : p.at_ < p.toks.length) (hk : ¬ p.tok.1 = 4) : p.sg = ⟨#[]⟩ := by
  rw [sgn_tok h, decide_eq_false hk]

section
variable {T : Table} (hT : TSound Tryz.prog T)

abbrev P1 (T : Table) : Table := ext T 37 (looks (looksP da0 ea0 (fun _ _ => True) fun r _ => .str r.sg))
include hT in
theorem p1 : TSound Tryz.prog (P1 T) := by
  refine extLP hT 37 (fn := Tryz.f37) rfl rfl da0 ea0 _ _ (fun _ => Nat.le_of_ble_eq_true rfl) [0, 2, 26] fun r _ _ => ?_
  repeat ((conv => whnf); refine ⟨by first | (unfold inI64; omega) | omega | exact ⟨by omega, by omega⟩ | (intro hg; first | (unfold inI64; omega) | omega | exact ⟨by omega, by omega⟩ | (simp [lit] at hg; unfold inI64; omega) | (simp [lit] at hg; omega) | (simp [lit] at hg; exact ⟨by omega, by omega⟩)) | (show (_ : Nat) + 1 ≤ 1000000000000; omega) | exact rfl | (unfold inI64; dsimp only; omega) | (dsimp only; omega) | (intro hg; simp [lit] at hg; first | (unfold inI64; dsimp only; omega) | (dsimp only; omega)) | decide +kernel, ?_⟩)
  conv => whnf
  refine cond_intro (fun h => ?_) (fun h => ?_)
  · have h' : r.at_ < r.toks.length ∧ r.tok.1 = 4 := by
      have h2 : (decide ((r.at_ : Int) < (r.toks.length : Nat)) && decide (r.tok.1 = 4)) = true := h
      simpa using h2
    repeat ((conv => whnf); refine ⟨by first | (unfold inI64; omega) | omega | exact ⟨by omega, by omega⟩ | exact rfl | decide +kernel, ?_⟩)
    conv => whnf
    exact ends_eq ⟨congrArg SV.str (pr_in h'.1 h'.2).symm, rfl⟩
  · have h' : ¬ (r.at_ < r.toks.length ∧ r.tok.1 = 4) := by
      have h2 : (decide ((r.at_ : Int) < (r.toks.length : Nat)) && decide (r.tok.1 = 4)) = false := h
      simpa using h2
    repeat ((conv => whnf); refine ⟨by first | (unfold inI64; omega) | omega | exact ⟨by omega, by omega⟩ | exact rfl | decide +kernel, ?_⟩)
    conv => whnf
    refine ends_eq ⟨congrArg SV.str ?_, rfl⟩
    by_cases ha : r.at_ < r.toks.length
    · rw [pr_not ha fun hk => h' ⟨ha, hk⟩]
    · rw [pr_no ha]

abbrev P2 (T : Table) : Table := ext (P1 T) 60 (saysP daS eaS (fun r _ => r.at_ ≤ 1000000) fun r s => (.tup [], takeP s r))
include hT in
theorem p2 : TSound Tryz.prog (P2 T) := by
  refine extP (p1 hT) 60 (fn := Tryz.f60) rfl rfl daS eaS _ _ (fun _ => Nat.le_of_ble_eq_true rfl) [0, 1, 7] fun r s hs => ?_
  have ha : r.at_ ≤ 1000000 := hs
  unfold takeP
  repeat ((conv => whnf); refine ⟨by first | exact ⟨rfl, rfl, trivial⟩ | (unfold inI64; omega) | omega | exact ⟨by omega, by omega⟩ | exact rfl | decide +kernel, ?_⟩)
  conv => whnf
  refine cond_intro (fun h => ?_) (fun h => ?_)
  · have h1 : ¬ r.sg = s := by
      have h2 : (!decide (r.sg = s)) = true := h
      simpa using h2
    rw [if_neg h1]
    repeat ((conv => whnf); refine ⟨by first | (unfold inI64; omega) | omega | exact ⟨by omega, by omega⟩ | exact rfl | decide +kernel, ?_⟩)
    conv => whnf
    exact ends_eq ⟨rfl, rfl⟩
  · have h1 : r.sg = s := by
      have h2 : (!decide (r.sg = s)) = false := h
      simpa using h2
    rw [if_pos h1]
    repeat ((conv => whnf); refine ⟨by first | (unfold inI64; omega) | omega | exact ⟨by omega, by omega⟩ | exact rfl | decide +kernel, ?_⟩)
    conv => whnf
    exact ends_eq ⟨rfl, rfl⟩

abbrev P3 (T : Table) : Table := ext (P2 T) 62 saysTr
include hT in
theorem p3 : TSound Tryz.prog (P3 T) := by
  refine ext_run (p2 hT) (f := 62) (fn := Tryz.f62) rfl rfl [0, 2, 3] fun args H p r H' hs hp => ?_
  unfold saysTr at hs
  split at hs
  · cases hs
    refine ⟨by show 1 ≤ _; decide, [], rfl, fun k hk => absurd hk (Nat.not_lt_zero k), ?_⟩
    conv => whnf
    refine cond_intro (fun h => ?_) (fun h => ?_) <;> subst h <;> conv => whnf
    · exact ends_eq ⟨rfl, rfl⟩
    · exact ends_eq ⟨rfl, rfl⟩
  · cases hs
end
end Go.Ab

/- The reference's parser of expressions: signs between two operands. -/
namespace Go.Ab
open Go.Proofs
set_option linter.unusedSectionVars false
set_option maxRecDepth 100000
variable [Glob]

def daSUU : List AV → Option (ByteArray × Int × Int)
  | [.c (.p (.v (.string s))), .c (.p (.v (.int .u32 a))), .c (.p (.v (.int .u32 b)))] => some (s, a, b)
  | _ => none
def eaSUU (x : ByteArray × Int × Int) : List AV := [.c (.str x.1), .c (.int .u32 x.2.1), .c (.int .u32 x.2.2)]

section
variable {T : Table} (hT : TSound Tryz.prog T)

abbrev P4 (T : Table) : Table := ext (P3 T) 78 (saysP daSUU eaSUU (fun _ x => rankV x.1 ≠ 0 ∧ u32r x.2.1 ∧ u32r x.2.2) fun r x => (.int .u32 (applyV x.1 x.2.1 x.2.2), r.dv x.1 x.2.2))

theorem dv_nd {r : Pr} {s : ByteArray} (h : divs s = false) (b : Int) : r.dv s b = r := by
  unfold Pr.dv Fl.dv by0
  rw [h, Bool.and_false, Bool.or_false]

theorem pr_shl {a b : Int} (_ha : 0 ≤ a) (_ha2 : a < 4294967296) (hb : 32 ≤ b) : calcV (betw ⟨#[60, 60]⟩) ⟨#[60, 60]⟩ a b = 0 := by
  show w32 (a * 2 ^ min b.toNat 32) = 0
  rw [show min b.toNat 32 = 32 by omega]
  unfold w32 IntKind.wrap
  simp only [IntKind.signed, IntKind.bits]
  exact Int.emod_eq_zero_of_dvd ⟨a, Int.mul_comm _ _⟩
theorem pr_shr {a b : Int} (ha : 0 ≤ a) (ha2 : a < 4294967296) (hb : 32 ≤ b) : calcV (betw ⟨#[62, 62]⟩) ⟨#[62, 62]⟩ a b = 0 := by
  show a.fdiv (2 ^ min b.toNat 32) = 0
  rw [show min b.toNat 32 = 32 by omega]
  rw [Int.fdiv_eq_ediv_of_nonneg _ (by decide)]
  exact Int.ediv_eq_zero_of_lt ha ha2

set_option maxHeartbeats 1000000 in
include hT in
theorem p4 : TSound Tryz.prog (P4 T) := by
  refine extP (p3 hT) 78 (fn := Tryz.f78) rfl rfl daSUU eaSUU _ _ (fun _ => Nat.le_of_ble_eq_true rfl) [0, 1, 2, 3, 8, 9, 10, 19, 28, 33, 38, 43, 49, 55, 61, 67, 73, 79, 82, 86, 89, 93, 98, 103, 109, 114] fun r x hs => ?_
  obtain ⟨s, a, b⟩ := x
  obtain ⟨hk, ha, hb⟩ := hs
  have hk : rankV s ≠ 0 := hk
  have ha : u32r a := ha
  have hb : u32r b := hb
  show runF _ _ _ _ _ _ fun r' H'' => Ends r' H'' (.int .u32 (applyV s a b)) (prH (r.dv s b))
  unfold u32r at ha hb
  repeat ((conv => whnf); refine ⟨by first | (unfold inI64; omega) | omega | exact ⟨by omega, by omega⟩ | exact rfl | decide +kernel, ?_⟩)
  conv => whnf
  refine cond_intro (fun h => ?_) (fun h => ?_)
  · have e : s = ⟨#[124, 124]⟩ := of_decide_eq_true h
    subst e
    rw [dv_nd (by decide), apply_nd (by decide)]
    repeat ((conv => whnf); refine ⟨by first | (unfold inI64; omega) | omega | exact ⟨by omega, by omega⟩ | exact rfl | decide +kernel, ?_⟩)
    conv => whnf
    exact ends_eq ⟨rfl, rfl⟩
  have h1 : s ≠ ⟨#[124, 124]⟩ := of_decide_eq_false h
  clear h
  repeat ((conv => whnf); refine ⟨by first | (unfold inI64; omega) | omega | exact ⟨by omega, by omega⟩ | exact rfl | decide +kernel, ?_⟩)
  conv => whnf
  refine cond_intro (fun h => ?_) (fun h => ?_)
  · have e : s = ⟨#[38, 38]⟩ := of_decide_eq_true h
    subst e
    rw [dv_nd (by decide), apply_nd (by decide)]
    repeat ((conv => whnf); refine ⟨by first | (unfold inI64; omega) | omega | exact ⟨by omega, by omega⟩ | exact rfl | decide +kernel, ?_⟩)
    conv => whnf
    exact ends_eq ⟨rfl, rfl⟩
  have h2 : s ≠ ⟨#[38, 38]⟩ := of_decide_eq_false h
  clear h
  repeat ((conv => whnf); refine ⟨by first | (unfold inI64; omega) | omega | exact ⟨by omega, by omega⟩ | exact rfl | decide +kernel, ?_⟩)
  conv => whnf
  refine cond_intro (fun h => ?_) (fun h => ?_)
  · have e : s = ⟨#[124]⟩ := of_decide_eq_true h
    subst e
    rw [dv_nd (by decide), apply_nd (by decide)]
    repeat ((conv => whnf); refine ⟨by first | (unfold inI64; omega) | omega | exact ⟨by omega, by omega⟩ | exact rfl | decide +kernel, ?_⟩)
    conv => whnf
    exact ends_eq ⟨rfl, rfl⟩
  have h3 : s ≠ ⟨#[124]⟩ := of_decide_eq_false h
  clear h
  repeat ((conv => whnf); refine ⟨by first | (unfold inI64; omega) | omega | exact ⟨by omega, by omega⟩ | exact rfl | decide +kernel, ?_⟩)
  conv => whnf
  refine cond_intro (fun h => ?_) (fun h => ?_)
  · have e : s = ⟨#[94]⟩ := of_decide_eq_true h
    subst e
    rw [dv_nd (by decide), apply_nd (by decide)]
    repeat ((conv => whnf); refine ⟨by first | (unfold inI64; omega) | omega | exact ⟨by omega, by omega⟩ | exact rfl | decide +kernel, ?_⟩)
    conv => whnf
    exact ends_eq ⟨rfl, rfl⟩
  have h4 : s ≠ ⟨#[94]⟩ := of_decide_eq_false h
  clear h
  repeat ((conv => whnf); refine ⟨by first | (unfold inI64; omega) | omega | exact ⟨by omega, by omega⟩ | exact rfl | decide +kernel, ?_⟩)
  conv => whnf
  refine cond_intro (fun h => ?_) (fun h => ?_)
  · have e : s = ⟨#[38]⟩ := of_decide_eq_true h
    subst e
    rw [dv_nd (by decide), apply_nd (by decide)]
    repeat ((conv => whnf); refine ⟨by first | (unfold inI64; omega) | omega | exact ⟨by omega, by omega⟩ | exact rfl | decide +kernel, ?_⟩)
    conv => whnf
    exact ends_eq ⟨rfl, rfl⟩
  have h5 : s ≠ ⟨#[38]⟩ := of_decide_eq_false h
  clear h
  repeat ((conv => whnf); refine ⟨by first | (unfold inI64; omega) | omega | exact ⟨by omega, by omega⟩ | exact rfl | decide +kernel, ?_⟩)
  conv => whnf
  refine cond_intro (fun h => ?_) (fun h => ?_)
  · have e : s = ⟨#[61, 61]⟩ := of_decide_eq_true h
    subst e
    rw [dv_nd (by decide), apply_nd (by decide)]
    repeat ((conv => whnf); refine ⟨by first | (unfold inI64; omega) | omega | exact ⟨by omega, by omega⟩ | exact rfl | decide +kernel, ?_⟩)
    conv => whnf
    exact ends_eq ⟨rfl, rfl⟩
  have h6 : s ≠ ⟨#[61, 61]⟩ := of_decide_eq_false h
  clear h
  repeat ((conv => whnf); refine ⟨by first | (unfold inI64; omega) | omega | exact ⟨by omega, by omega⟩ | exact rfl | decide +kernel, ?_⟩)
  conv => whnf
  refine cond_intro (fun h => ?_) (fun h => ?_)
  · have e : s = ⟨#[33, 61]⟩ := of_decide_eq_true h
    subst e
    rw [dv_nd (by decide), apply_nd (by decide)]
    repeat ((conv => whnf); refine ⟨by first | (unfold inI64; omega) | omega | exact ⟨by omega, by omega⟩ | exact rfl | decide +kernel, ?_⟩)
    conv => whnf
    exact ends_eq ⟨rfl, rfl⟩
  have h7 : s ≠ ⟨#[33, 61]⟩ := of_decide_eq_false h
  clear h
  repeat ((conv => whnf); refine ⟨by first | (unfold inI64; omega) | omega | exact ⟨by omega, by omega⟩ | exact rfl | decide +kernel, ?_⟩)
  conv => whnf
  refine cond_intro (fun h => ?_) (fun h => ?_)
  · have e : s = ⟨#[60]⟩ := of_decide_eq_true h
    subst e
    rw [dv_nd (by decide), apply_nd (by decide)]
    repeat ((conv => whnf); refine ⟨by first | (unfold inI64; omega) | omega | exact ⟨by omega, by omega⟩ | exact rfl | decide +kernel, ?_⟩)
    conv => whnf
    exact ends_eq ⟨rfl, rfl⟩
  have h8 : s ≠ ⟨#[60]⟩ := of_decide_eq_false h
  clear h
  repeat ((conv => whnf); refine ⟨by first | (unfold inI64; omega) | omega | exact ⟨by omega, by omega⟩ | exact rfl | decide +kernel, ?_⟩)
  conv => whnf
  refine cond_intro (fun h => ?_) (fun h => ?_)
  · have e : s = ⟨#[62]⟩ := of_decide_eq_true h
    subst e
    rw [dv_nd (by decide), apply_nd (by decide)]
    repeat ((conv => whnf); refine ⟨by first | (unfold inI64; omega) | omega | exact ⟨by omega, by omega⟩ | exact rfl | decide +kernel, ?_⟩)
    conv => whnf
    exact ends_eq ⟨rfl, rfl⟩
  have h9 : s ≠ ⟨#[62]⟩ := of_decide_eq_false h
  clear h
  repeat ((conv => whnf); refine ⟨by first | (unfold inI64; omega) | omega | exact ⟨by omega, by omega⟩ | exact rfl | decide +kernel, ?_⟩)
  conv => whnf
  refine cond_intro (fun h => ?_) (fun h => ?_)
  · have e : s = ⟨#[60, 61]⟩ := of_decide_eq_true h
    subst e
    rw [dv_nd (by decide), apply_nd (by decide)]
    repeat ((conv => whnf); refine ⟨by first | (unfold inI64; omega) | omega | exact ⟨by omega, by omega⟩ | exact rfl | decide +kernel, ?_⟩)
    conv => whnf
    exact ends_eq ⟨rfl, rfl⟩
  have h10 : s ≠ ⟨#[60, 61]⟩ := of_decide_eq_false h
  clear h
  repeat ((conv => whnf); refine ⟨by first | (unfold inI64; omega) | omega | exact ⟨by omega, by omega⟩ | exact rfl | decide +kernel, ?_⟩)
  conv => whnf
  refine cond_intro (fun h => ?_) (fun h => ?_)
  · have e : s = ⟨#[62, 61]⟩ := of_decide_eq_true h
    subst e
    rw [dv_nd (by decide), apply_nd (by decide)]
    repeat ((conv => whnf); refine ⟨by first | (unfold inI64; omega) | omega | exact ⟨by omega, by omega⟩ | exact rfl | decide +kernel, ?_⟩)
    conv => whnf
    exact ends_eq ⟨rfl, rfl⟩
  have h11 : s ≠ ⟨#[62, 61]⟩ := of_decide_eq_false h
  clear h
  repeat ((conv => whnf); refine ⟨by first | (unfold inI64; omega) | omega | exact ⟨by omega, by omega⟩ | exact rfl | decide +kernel, ?_⟩)
  conv => whnf
  refine cond_intro (fun h => ?_) (fun h => ?_)
  · have e : s = ⟨#[60, 60]⟩ := of_decide_eq_true h
    subst e
    rw [dv_nd (by decide), apply_nd (by decide)]
    repeat ((conv => whnf); refine ⟨by first | (unfold inI64; omega) | omega | exact ⟨by omega, by omega⟩ | exact rfl | decide +kernel, ?_⟩)
    conv => whnf
    refine cond_intro (fun h => ?_) (fun h => ?_)
    · have h2 : 32 ≤ b := of_decide_eq_true h
      repeat ((conv => whnf); refine ⟨by first | (unfold inI64; omega) | omega | exact ⟨by omega, by omega⟩ | exact rfl | decide +kernel, ?_⟩)
      conv => whnf
      refine ends_eq ⟨congrArg (SV.int .u32) ?_, rfl⟩
      exact (pr_shl ha.1 ha.2 h2).symm
    · have h2 : ¬ 32 ≤ b := of_decide_eq_false h
      repeat ((conv => whnf); refine ⟨by first | exact hb.1 | (unfold inI64; omega) | omega | exact ⟨by omega, by omega⟩ | exact rfl | decide +kernel, ?_⟩)
      conv => whnf
      refine ends_eq ⟨rfl, rfl⟩
  have h12 : s ≠ ⟨#[60, 60]⟩ := of_decide_eq_false h
  clear h
  repeat ((conv => whnf); refine ⟨by first | (unfold inI64; omega) | omega | exact ⟨by omega, by omega⟩ | exact rfl | decide +kernel, ?_⟩)
  conv => whnf
  refine cond_intro (fun h => ?_) (fun h => ?_)
  · have e : s = ⟨#[62, 62]⟩ := of_decide_eq_true h
    subst e
    rw [dv_nd (by decide), apply_nd (by decide)]
    repeat ((conv => whnf); refine ⟨by first | (unfold inI64; omega) | omega | exact ⟨by omega, by omega⟩ | exact rfl | decide +kernel, ?_⟩)
    conv => whnf
    refine cond_intro (fun h => ?_) (fun h => ?_)
    · have h2 : 32 ≤ b := of_decide_eq_true h
      repeat ((conv => whnf); refine ⟨by first | (unfold inI64; omega) | omega | exact ⟨by omega, by omega⟩ | exact rfl | decide +kernel, ?_⟩)
      conv => whnf
      refine ends_eq ⟨congrArg (SV.int .u32) ?_, rfl⟩
      exact (pr_shr ha.1 ha.2 h2).symm
    · have h2 : ¬ 32 ≤ b := of_decide_eq_false h
      repeat ((conv => whnf); refine ⟨by first | exact hb.1 | (unfold inI64; omega) | omega | exact ⟨by omega, by omega⟩ | exact rfl | decide +kernel, ?_⟩)
      conv => whnf
      refine ends_eq ⟨rfl, rfl⟩
  have h13 : s ≠ ⟨#[62, 62]⟩ := of_decide_eq_false h
  clear h
  repeat ((conv => whnf); refine ⟨by first | (unfold inI64; omega) | omega | exact ⟨by omega, by omega⟩ | exact rfl | decide +kernel, ?_⟩)
  conv => whnf
  refine cond_intro (fun h => ?_) (fun h => ?_)
  · have e : s = ⟨#[43]⟩ := of_decide_eq_true h
    subst e
    rw [dv_nd (by decide), apply_nd (by decide)]
    repeat ((conv => whnf); refine ⟨by first | (unfold inI64; omega) | omega | exact ⟨by omega, by omega⟩ | exact rfl | decide +kernel, ?_⟩)
    conv => whnf
    exact ends_eq ⟨rfl, rfl⟩
  have h14 : s ≠ ⟨#[43]⟩ := of_decide_eq_false h
  clear h
  repeat ((conv => whnf); refine ⟨by first | (unfold inI64; omega) | omega | exact ⟨by omega, by omega⟩ | exact rfl | decide +kernel, ?_⟩)
  conv => whnf
  refine cond_intro (fun h => ?_) (fun h => ?_)
  · have e : s = ⟨#[45]⟩ := of_decide_eq_true h
    subst e
    rw [dv_nd (by decide), apply_nd (by decide)]
    repeat ((conv => whnf); refine ⟨by first | (unfold inI64; omega) | omega | exact ⟨by omega, by omega⟩ | exact rfl | decide +kernel, ?_⟩)
    conv => whnf
    exact ends_eq ⟨rfl, rfl⟩
  have h15 : s ≠ ⟨#[45]⟩ := of_decide_eq_false h
  clear h
  repeat ((conv => whnf); refine ⟨by first | (unfold inI64; omega) | omega | exact ⟨by omega, by omega⟩ | exact rfl | decide +kernel, ?_⟩)
  conv => whnf
  refine cond_intro (fun h => ?_) (fun h => ?_)
  · have e : s = ⟨#[42]⟩ := of_decide_eq_true h
    subst e
    rw [dv_nd (by decide), apply_nd (by decide)]
    repeat ((conv => whnf); refine ⟨by first | (unfold inI64; omega) | omega | exact ⟨by omega, by omega⟩ | exact rfl | decide +kernel, ?_⟩)
    conv => whnf
    exact ends_eq ⟨rfl, rfl⟩
  have h16 : s ≠ ⟨#[42]⟩ := of_decide_eq_false h
  clear h
  repeat ((conv => whnf); refine ⟨by first | (unfold inI64; omega) | omega | exact ⟨by omega, by omega⟩ | exact rfl | decide +kernel, ?_⟩)
  conv => whnf
  have hd : divs s = true := by
    rcases rank_last hk h1 h2 h3 h4 h5 h6 h7 h8 h9 h10 h11 h12 h13 h14 h15 h16 with rfl | rfl <;> decide
  have hdv : r.dv s b = { r with f := { r.f with div := r.f.div || decide (b = 0) } } := by
    unfold Pr.dv Fl.dv by0
    rw [hd, Bool.and_true]
  have hap : applyV s a b = if b = 0 then 0 else calcV (betw s) s a b := by
    unfold applyV by0
    rw [hd, Bool.and_true]
    by_cases h0 : b = 0 <;> simp [h0]
  rw [hdv, hap]
  refine cond_intro (fun h => ?_) (fun h => ?_)
  · have h0 : b = 0 := of_decide_eq_true h
    rw [if_pos h0, decide_eq_true h0, Bool.or_true]
    repeat ((conv => whnf); refine ⟨by first | (unfold inI64; omega) | omega | exact ⟨by omega, by omega⟩ | exact rfl | decide +kernel, ?_⟩)
    conv => whnf
    exact ends_eq ⟨rfl, rfl⟩
  have h0 : ¬ b = 0 := of_decide_eq_false h
  rw [if_neg h0, decide_eq_false h0, Bool.or_false]
  repeat ((conv => whnf); refine ⟨by first | (unfold inI64; omega) | omega | exact ⟨by omega, by omega⟩ | exact rfl | decide +kernel, ?_⟩)
  conv => whnf
  refine cond_intro (fun h => ?_) (fun h => ?_)
  · have e : s = ⟨#[47]⟩ := of_decide_eq_true h
    subst e
    repeat ((conv => whnf); refine ⟨by first | exact h0 | (unfold inI64; omega) | omega | exact ⟨by omega, by omega⟩ | exact rfl | decide +kernel, ?_⟩)
    conv => whnf
    exact ends_eq ⟨rfl, rfl⟩
  · have e : s = ⟨#[37]⟩ := by
      rcases rank_last hk h1 h2 h3 h4 h5 h6 h7 h8 h9 h10 h11 h12 h13 h14 h15 h16 with e | e
      · exact absurd e (of_decide_eq_false h)
      · exact e
    subst e
    repeat ((conv => whnf); refine ⟨by first | exact h0 | (unfold inI64; omega) | omega | exact ⟨by omega, by omega⟩ | exact rfl | decide +kernel, ?_⟩)
    conv => whnf
    exact ends_eq ⟨rfl, rfl⟩
end
end Go.Ab

/- The reference's parser of expressions: ranks of signs. -/
namespace Go.Ab
open Go.Proofs
set_option linter.unusedSectionVars false
set_option maxRecDepth 100000
variable [Glob]
section
variable {T : Table} (hT : TSound Tryz.prog T)

theorem in_drop {s : ByteArray} {r : List ByteArray} {j : Nat} (h : j < r.length) : inRow s (r.drop j) = if r.getD j ⟨#[]⟩ = s then true else inRow s (r.drop (j + 1)) := by
  rw [List.drop_eq_getElem_cons h]
  simp [inRow, h]
theorem rk_drop {s : ByteArray} {i : Nat} (h : i < 10) : rkGo s (rowsR.drop i) i = if inRow s (rowsR.getD i []) = true then i + 1 else rkGo s (rowsR.drop (i + 1)) (i + 1) := by
  have h' : i < rowsR.length := h
  rw [List.drop_eq_getElem_cons h']
  simp [rkGo, h']

abbrev rkH : List AO := [.tok 9 .str 1 false, .tok 9 .str 1 false, .tok 9 .str 1 false, .tok 9 .str 1 false, .tok 9 .str 1 false, .tok 9 .str 2 false, .tok 9 .str 4 false, .tok 9 .str 2 false, .tok 9 .str 2 false, .tok 9 .str 3 false, .tok 33 (.list .str) 10 false]
abbrev P5 (T : Table) : Table := ext (P4 T) 77 (saysS fun s => (none, .int .i64 (rankV s : Int)))
include hT in
theorem p5 : TSound Tryz.prog (P5 T) := by
  refine extS (p4 hT) 77 (fn := Tryz.f77) rfl rfl (by decide) _ [0, 2, 3, 4, 6, 17, 18, 19, 20, 24, 25, 26, 27, 32] fun s _ => ?_
  repeat ((conv => whnf); refine ⟨by first | (unfold inI64; omega) | omega | exact ⟨by omega, by omega⟩ | exact rfl | decide +kernel, ?_⟩)
  conv => whnf
  refine loop_intro (σ := Nat) (fun i => [(0, XV.s (.str s)), (2, XV.s .none), (3, XV.s .none), (4, XV.s .none), (6, XV.s .none), (17, XV.s (.a (.c (.own 10 (.list .str) rowsR)))), (18, XV.s (.int .i64 10)), (19, XV.s (.int .i64 i)), (20, XV.s .none), (24, XV.s .none), (25, XV.s .none), (26, XV.s .none), (27, XV.s .none), (32, XV.s .none)])
    (fun _ => rkH) (fun i => i ≤ 10 ∧ rkGo s (rowsR.drop i) i = rankV s) (fun i => 10 - i) 0 ?_ rfl ?_ fun i hI => ?_
  · repeat (first | exact LeL.nil | refine LeL.drop ?_ | refine LeL.same ?_)
  · exact ⟨by decide, rank_go s⟩
  obtain ⟨h1, h2⟩ := hI
  repeat ((conv => whnf); refine ⟨by first | (unfold inI64; omega) | omega | exact ⟨by omega, by omega⟩ | exact rfl | decide +kernel, ?_⟩)
  conv => whnf
  refine cond_intro (fun h => ?_) (fun h => ?_)
  · have h3 : i < 10 := by
      have : (i : Int) < 10 := of_decide_eq_true h
      omega
    rw [rk_drop h3] at h2
    generalize hR : rowsR.getD i [] = R at h2
    have hb : R.length ≤ 4 := by
      rw [← hR]
      have : i = 0 ∨ i = 1 ∨ i = 2 ∨ i = 3 ∨ i = 4 ∨ i = 5 ∨ i = 6 ∨ i = 7 ∨ i = 8 ∨ i = 9 := by omega
      rcases this with rfl | rfl | rfl | rfl | rfl | rfl | rfl | rfl | rfl | rfl <;> decide
    have hin : 0 ≤ (i : Int) ∧ (i : Int) < 10 := by omega
    repeat ((conv => whnf); refine ⟨by first | exact hin | (unfold inI64; omega) | omega | exact ⟨by omega, by omega⟩ | exact rfl | decide +kernel, ?_⟩)
    conv => whnf
    refine loop_intro (σ := Nat) (fun j => [(0, XV.s (.str s)), (2, XV.s .none), (3, XV.s (.int .i64 i)), (4, XV.s .none), (6, XV.s .none), (17, XV.s (.a (.c (.own 10 (.list .str) rowsR)))), (18, XV.s (.int .i64 10)), (19, XV.s (.int .i64 i)), (20, XV.s .none), (24, XV.s (.list .str (rowsR.getD i []))), (25, XV.s (.int .i64 ((rowsR.getD i []).length : Nat))), (26, XV.s (.int .i64 j)), (27, XV.s .none), (32, XV.s .none)])
      (fun _ => rkH) (fun j => j ≤ R.length ∧ inRow s (R.drop j) = inRow s R) (fun j => R.length - j) 0 ?_ rfl ?_ fun j hJ => ?_
    · repeat (first | exact LeL.nil | refine LeL.drop ?_ | refine LeL.same ?_)
    · exact ⟨Nat.zero_le _, rfl⟩
    obtain ⟨h4, h5⟩ := hJ
    rw [hR]
    repeat ((conv => whnf); refine ⟨by first | (unfold inI64; omega) | omega | exact ⟨by omega, by omega⟩ | exact rfl | decide +kernel, ?_⟩)
    conv => whnf
    refine cond_intro (fun h6 => ?_) (fun h6 => ?_)
    · have h7 : j < R.length := by
        have : (j : Int) < (R.length : Nat) := of_decide_eq_true h6
        omega
      rw [in_drop h7] at h5
      have hjn : 0 ≤ (j : Int) ∧ (j : Int) < (R.length : Nat) := by omega
      repeat ((conv => whnf); refine ⟨by first | exact hjn | (unfold inI64; omega) | omega | exact ⟨by omega, by omega⟩ | exact rfl | decide +kernel, ?_⟩)
      conv => whnf
      refine cond_intro (fun h8 => ?_) (fun h8 => ?_)
      · have h9 : R.getD j ⟨#[]⟩ = s := of_decide_eq_true h8
        rw [if_pos h9] at h5
        rw [← h5, if_pos rfl] at h2
        repeat ((conv => whnf); refine ⟨by first | (unfold inI64; omega) | omega | exact ⟨by omega, by omega⟩ | exact rfl | decide +kernel, ?_⟩)
        conv => whnf
        refine ends_eq ⟨?_, rfl⟩
        rw [← h2]
        rfl
      · have h9 : ¬ R.getD j ⟨#[]⟩ = s := of_decide_eq_false h8
        rw [if_neg h9] at h5
        repeat ((conv => whnf); refine ⟨by first | (unfold inI64; omega) | omega | exact ⟨by omega, by omega⟩ | exact rfl | decide +kernel, ?_⟩)
        conv => whnf
        refine head_intro (j + 1) ?_ rfl ?_ ?_
        · repeat (first | exact LeL.nil | refine LeL.drop ?_ | refine LeL.same ?_)
        · exact ⟨h7, h5⟩
        · omega
    · have h7 : ¬ j < R.length := by
        have : ¬ (j : Int) < (R.length : Nat) := of_decide_eq_false h6
        omega
      rw [List.drop_eq_nil_of_le (by omega)] at h5
      rw [← h5] at h2
      have h2 : rkGo s (rowsR.drop (i + 1)) (i + 1) = rankV s := h2
      repeat ((conv => whnf); refine ⟨by first | (unfold inI64; omega) | omega | exact ⟨by omega, by omega⟩ | exact rfl | decide +kernel, ?_⟩)
      conv => whnf
      refine head_intro (i + 1) ?_ rfl ?_ ?_
      · repeat (first | exact LeL.nil | refine LeL.drop ?_ | refine LeL.same ?_)
      · exact ⟨h3, h2⟩
      · omega
  · have h3 : ¬ i < 10 := by
      have : ¬ (i : Int) < 10 := of_decide_eq_false h
      omega
    have h4 : i = 10 := by omega
    subst h4
    repeat ((conv => whnf); refine ⟨by first | (unfold inI64; omega) | omega | exact ⟨by omega, by omega⟩ | exact rfl | decide +kernel, ?_⟩)
    conv => whnf
    refine ends_eq ⟨?_, rfl⟩
    rw [← h2]
    rfl
end
end Go.Ab
