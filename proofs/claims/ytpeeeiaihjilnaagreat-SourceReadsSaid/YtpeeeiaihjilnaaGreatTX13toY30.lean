/- Package source: Read. -/
import Derived.Test.YtpeeeiaihjilnaaGreatTX11toX12
namespace Go.Ab
open Go.Proofs
set_option linter.unusedSectionVars false
set_option maxRecDepth 100000
variable [Glob]
def inclW : ByteArray := ⟨#[105, 110, 99, 108, 117, 100, 101]⟩
def noIncl (toks : List tkC.den) : Prop := ∀ t ∈ toks, wrdI t inclW = false
def Y61 : Table := ext (tN 6001) 31 (saysR da0 ea0 (fun r _ => Vld r ∧ noIncl r.toks) fun r _ => (.int .i64 (topS r).1, (topS r).2))
theorem y61 : TSound Tryz.prog Y61 := by
 refine extR (yN 6001 (tBk 6001)) 31 (fn := Tryz.f31) rfl rfl da0 ea0 _ _ (fun _ => Nat.le_of_ble_eq_true rfl) [0, 1, 2, 3, 6, 12, 19] fun r _ hs => ?_
 obtain ⟨hv, hn⟩ := hs
 have hk : r.toks.length ≤ 6001 + 1 + r.at_ := by have := hv.len; omega
 have h1 : ¬ wrdI r.tok ⟨#[105, 110, 99, 108, 117, 100, 101]⟩ = true := by
  rw [show wrdI r.tok ⟨#[105, 110, 99, 108, 117, 100, 101]⟩ = false from hn _ hv.tok]
  simp
 unfold topS
 rw [if_neg h1]
 repeat ((conv => whnf); refine ⟨by exact ⟨rfl, rfl, hv⟩, ?_⟩)
 conv => whnf
 refine cI9 (fun h => ?_) (fun h => ?_)
 ·exact absurd h h1
 conv => whnf
 refine cI9 (fun h2 => ?_) (fun h2 => ?_)
 ·have h3 : wrdI r.tok ⟨#[100, 101, 108, 101, 116, 101, 45, 110, 111, 100, 101]⟩ = true := h2
  rw [if_pos h3]
  repeat ((conv => whnf); refine ⟨by exact ⟨rfl, rfl, hv, wrdI_kind h3, .inr (.inr (.inl rfl))⟩, ?_⟩)
  conv => whnf
  exact eE9 ⟨rfl, rfl⟩
 have h3 : ¬ wrdI r.tok ⟨#[100, 101, 108, 101, 116, 101, 45, 110, 111, 100, 101]⟩ = true := by
  have h4 : wrdI r.tok ⟨#[100, 101, 108, 101, 116, 101, 45, 110, 111, 100, 101]⟩ = false := h2
  rw [h4]; simp
 rw [if_neg h3]
 conv => whnf
 refine cI9 (fun h5 => ?_) (fun h5 => ?_)
 ·have h6 : r.tok.1 = 6 := of_decide_eq_true h5
  rw [if_pos h6]
  repeat ((conv => whnf); refine ⟨by exact ⟨rfl, rfl, hv, hk, .inr (.inr (.inl rfl))⟩, ?_⟩)
  conv => whnf
  exact eE9 ⟨rfl, rfl⟩
 ·have h6 : ¬ r.tok.1 = 6 := of_decide_eq_false h5
  rw [if_neg h6]
  repeat ((conv => whnf); refine ⟨by exact ⟨rfl, rfl, hv, hk, .inr (.inr (.inr rfl))⟩, ?_⟩)
  conv => whnf
  exact eE9 ⟨rfl, rfl⟩
theorem rGo_end : ∀ (k : Nat) (q : RdV) (zs : List tokC.den), (readGo k q zs).toks.length ≤ zs.length + k ∧ ((readGo k q zs).err = 0 → ∃ ys e, (readGo k q zs).toks = ys ++ [e] ∧ e.1 = 8) := by
 intro k
 induction k with
 | zero =>
  intro q zs
  simp only [readGo]
  refine ⟨Nat.zero_le _, fun h => ?_⟩
  split at h
  ·omega
  ·exact absurd h (by assumption)
 | succ k ih =>
  intro q zs
  simp only [readGo]
  by_cases h1 : (nextV q).2.1 = 0
  ·rw [if_pos h1]
   by_cases h2 : (nextV q).1.kind = 8
   ·rw [if_pos h2]
    exact ⟨by simp, fun _ => ⟨zs, _, rfl, h2⟩⟩
   ·rw [if_neg h2]
    have := ih (nextV q).2.2 (zs ++ [(nextV q).1.den])
    refine ⟨?_, this.2⟩
    have h3 := this.1
    simp at h3
    omega
  ·rw [if_neg h1]
   exact ⟨Nat.zero_le _, fun h => absurd h h1⟩
theorem rV_end (s : ByteArray) (f : Int) : (readV s f).toks.length ≤ 6000 ∧ ((readV s f).err = 0 → ∃ ys e, (readV s f).toks = ys ++ [e] ∧ e.1 = 8) := by
 unfold readV
 split
 ·exact ⟨Nat.zero_le _, fun h => absurd h (by decide)⟩
 ·have := rGo_end 6000 ⟨s, f, 1, 1⟩ []
  exact ⟨by simpa using this.1, this.2⟩
def okT (t : tkC.den) : Bool := !wrdI t inclW && decide (t.2.1.size ≤ 16000) && decide (0 ≤ t.2.2.1) && decide (t.2.2.1 ≤ 4294967295)
theorem srV_vld {s : ByteArray} {f : Int} (h0 : (readV s f).err = 0) (h : (readV s f).toks.all okT = true) : Vld ⟨(readV s f).toks, 0, 0, []⟩ ∧ noIncl (readV s f).toks := by
 obtain ⟨h1, h2⟩ := rV_end s f
 obtain ⟨ys, e, h3, h4⟩ := h2 h0
 have hall : ∀ t ∈ (readV s f).toks, wrdI t inclW = false ∧ t.2.1.size ≤ 16000 ∧ 0 ≤ t.2.2.1 ∧ t.2.2.1 ≤ 4294967295 := fun t ht => by
  have := List.all_eq_true.1 h t ht
  unfold okT at this
  obtain ⟨h5, h6⟩ := Bool.and_eq_true_iff.1 this
  obtain ⟨h7, h8⟩ := Bool.and_eq_true_iff.1 h5
  obtain ⟨h9, h10⟩ := Bool.and_eq_true_iff.1 h7
  exact ⟨by simpa using h9, of_decide_eq_true h10, of_decide_eq_true h8, of_decide_eq_true h6⟩
 refine ⟨⟨by show (readV s f).toks.length ≤ 6001; omega, ?_, ?_, fun t ht => (hall t ht).2, Nat.le_refl _, Nat.zero_le _⟩, fun t ht => (hall t ht).1⟩
 ·show 0 < (readV s f).toks.length
  rw [h3]; simp
 ·intro i hi
  show ((readV s f).toks.getD i tkC.dflt).1 = 8
  have hi' : i + 1 = (readV s f).toks.length := hi
  rw [h3] at hi' ⊢
  have : i = ys.length := by simpa using hi'
  subst this
  rw [List.getD_eq_getElem?_getD]
  simp [h4]
def TokP (r : Sr) : Prop := r.toks.length ≤ 6001 ∧ r.at_ < r.toks.length
theorem Vld.tokP {r : Sr} (h : Vld r) : TokP r := ⟨h.len, h.lt⟩
def Y63 : Table := ext Y61 30 (looks (looksR da0 ea0 (fun r _ => TokP r) fun r _ => tokA r.tok))
theorem y63 : TSound Tryz.prog Y63 := by
 refine extLR y61 30 (fn := Tryz.f30) rfl rfl da0 ea0 _ _ (fun _ => Nat.le_of_ble_eq_true rfl) [0, 2] fun r _ hs => ?_
 obtain ⟨hn, hl⟩ := hs
 have h0 : 0 ≤ (r.at_ : Int) ∧ (r.at_ : Int) < (r.toks.length : Nat) := by omega
 repeat ((conv => whnf); refine ⟨by first | exact h0 | exact rfl, ?_⟩)
 conv => whnf
 exact eE9 ⟨rfl, rfl⟩
def SrcV.sv (x : SrcV) : SV := .tup [.c (.p (.l defC x.defs)), .agg [.int .i64 x.file, .int .i64 x.line, .int .i64 x.column], .c (.int .i64 x.err)]
def Y62 : Table := ext Y63 12 (saysSI fun s f => (some ((readV s f).toks.all okT = true), (srcV s f).sv))
theorem y62 : TSound Tryz.prog Y62 := by
 refine extSI y63 12 (fn := Tryz.f12) rfl rfl (by decide) _ [0, 1, 4, 5, 6, 7, 8, 9, 10, 11, 20, 27, 30] fun s f hs => ?_
 conv => whnf
 refine cI9 (fun h => ?_) (fun h => ?_)
 ·have h1 : ¬ (readV s f).err = 0 := by
   have h2 : (!decide ((readV s f).err = 0)) = true := h
   simpa using h2
  repeat ((conv => whnf); refine ⟨by exact rfl, ?_⟩)
  conv => whnf
  refine eO9 (fun G v hv => ?_) rfl
  have := nil_sle defC G v hv
  show RepS G (srcV s f).sv v
  unfold srcV
  rw [if_neg h1]
  exact this
 have h1 : (readV s f).err = 0 := by
  have h2 : (!decide ((readV s f).err = 0)) = false := h
  simpa using h2
 obtain ⟨hv, hn⟩ := srV_vld h1 hs
 have hS : srcV s f = (let x := topsS (readV s f).toks.length ⟨(readV s f).toks, 0, 0, []⟩
   if x.1 = 0 then ⟨x.2.defs, 0, 0, 0, 0⟩ else ⟨[], x.2.tok.2.2.2.1, x.2.tok.2.2.2.2.1, x.2.tok.2.2.2.2.2, x.1⟩) := by
  unfold srcV
  rw [if_pos h1]
 conv => whnf
 refine loop_weak (σ := Sr × Nat) (fun _ => [(0, XV.s .none), (1, XV.s .none), (4, XV.s .none), (5, XV.s (.a (.c (.ptr 0 0)))), (6, XV.s .none), (7, XV.s .none), (8, XV.s .none), (9, XV.s .none), (10, XV.s (.a (.c (.ptr 2 0)))), (11, XV.s .none), (20, XV.s .none), (27, XV.s .none), (30, XV.s .none)])
  (fun ⟨q, _⟩ => [.row [.int .i64 0, .int .i64 0, .int .i64 0], .row [.int .i64 (readV s f).file, .int .i64 (readV s f).line, .int .i64 (readV s f).column], .row [.p (.l tkC q.toks), .int .i64 q.at_, .int .i64 q.bod, .own 3 defC q.defs], .tok 52 defC q.defs.length true])
  (fun ⟨q, n⟩ => Vld q ∧ q.toks = (readV s f).toks ∧ q.toks.length ≤ n + q.at_ ∧ topsS n q = topsS (readV s f).toks.length ⟨(readV s f).toks, 0, 0, []⟩) (fun ⟨_, n⟩ => n)
  (⟨(readV s f).toks, 0, 0, []⟩, (readV s f).toks.length) ?_ ?_ ?_
 ·refine (Weak.cell 2 rfl 3 rfl 52 defC).trans (Weak.le _ ?_)
  repeat (first | exact LeL.nil | refine LeL.drop ?_ | refine LeL.same ?_)
 ·exact ⟨hv, rfl, Nat.le_add_right _ _, rfl⟩
 rintro ⟨q, n⟩ ⟨hq, htk, hl, hgo⟩
 have hql := hq.lt
 have hnq : noIncl q.toks := by rw [htk]; exact hn
 have hp := hq.tokP
 obtain ⟨n, rfl⟩ : ∃ j, n = j + 1 := ⟨n - 1, by omega⟩
 simp only [topsS] at hgo
 repeat ((conv => whnf); refine ⟨by exact ⟨rfl, rfl, hp⟩, ?_⟩)
 conv => whnf
 refine cI9 (fun h3 => ?_) (fun h3 => ?_)
 ·have h4 : ¬ q.tok.1 = 8 := by
   have h5 : (!decide (q.tok.1 = 8)) = true := h3
   simpa using h5
  rw [if_neg h4] at hgo
  have g := topS_good hq
  have hp2 : TokP (topS q).2 := ⟨by rw [g.adv.toks]; exact hq.len, by rw [g.adv.toks]; exact g.adv.lt⟩
  repeat ((conv => whnf); refine ⟨by exact ⟨rfl, rfl, hq, hnq⟩, ?_⟩)
  conv => whnf
  refine cI9 (fun h5 => ?_) (fun h5 => ?_)
  ·have h6 : ¬ (topS q).1 = 0 := by
    have h7 : (!decide ((topS q).1 = 0)) = true := h5
    simpa using h7
   rw [if_neg h6] at hgo
   repeat ((conv => whnf); refine ⟨by exact ⟨rfl, rfl, hp2⟩, ?_⟩)
   conv => whnf
   refine eO9 (fun G v hv => ?_) rfl
   have hw := nil_sle defC G v hv
   show RepS G (srcV s f).sv v
   rw [hS]
   simp only
   rw [← hgo, if_neg h6]
   exact hw
  ·have h6 : (topS q).1 = 0 := by
    have h7 : (!decide ((topS q).1 = 0)) = false := h5
    simpa using h7
   rw [if_pos h6] at hgo
   rw [h6] at g
   conv => whnf
   refine hI9 ((topS q).2, n) ?_ ?_ ?_ ?_
   ·repeat (first | exact LeL.nil | refine LeL.drop ?_ | refine LeL.same ?_)
   ·rfl
   ·refine ⟨g.vld hq, g.adv.toks.trans htk, ?_, hgo⟩
    rw [g.adv.toks]
    have := (g.ok rfl).1
    show q.toks.length ≤ n + (topS q).2.at_
    omega
   ·exact Nat.lt_succ_self n
 ·have h4 : q.tok.1 = 8 := by
   have h5 : (!decide (q.tok.1 = 8)) = false := h3
   simpa using h5
  rw [if_pos h4] at hgo
  conv => whnf
  refine eE9 ⟨?_, rfl⟩
  show _ = (srcV s f).sv
  rw [hS]
  simp only
  rw [← hgo, if_pos rfl]
  rfl
abbrev srR (id : Nat) (r : Sr) : AO := .row [.p (.l tkC r.toks), .int .i64 r.at_, .int .i64 r.bod, .own id defC r.defs]
abbrev srT (r : Sr) : AO := .tok 52 defC r.defs.length true
abbrev srI (r : Sr) : List AO := [.row [.ptr 1 0], srR 2 r, srT r]
abbrev srK (r : Sr) : List AO := [srR 2 r, .row [.ptr 0 0], srT r]
def srOfR (x : AO) : Option Sr :=
 match x with
 | .row [.p (.l c0 toks), .p (.v (.int .i64 a)), .p (.v (.int .i64 b)), .own _ c1 ds] =>
  match castD (e := tkC) (e' := c0) toks, castD (e := defC) (e' := c1) ds with
  | some toks, some ds => some ⟨toks, a.toNat, b.toNat, ds⟩
  | _, _ => none
 | _ => none
def saysIn : Says := fun args H => match args, H with
 | [.c (.ptr 0 0)], [.row _, x, .tok _ _ _ _] => match srOfR x with
  | some r => some (some (H = srI r ∧ Vld r), nmSV (nmS .str r).1, srI (nmS .str r).2)
  | none => none
 | _, _ => none
theorem id3n : ∀ k, k < 3 → [0, 1, 2][k]? = some k := fun k hk => by
 have : k = 0 ∨ k = 1 ∨ k = 2 := by omega
 rcases this with rfl | rfl | rfl <;> rfl
def Z1 : Table := ext (tN 6001) 50 saysIn
theorem z1 : TSound Tryz.prog Z1 := by
 refine ext_run (yN 6001 (tBk 6001)) (f := 50) (fn := Tryz.f50) rfl rfl [0, 1, 2] fun args H p r' H' hs hp => ?_
 unfold saysIn at hs
 split at hs
 ·split at hs
  ·rename_i r _
   cases hs
   obtain ⟨he, hv⟩ := hp
   rw [he]
   refine ⟨Nat.le_of_ble_eq_true rfl, [0, 1, 2], rfl, id3n, ?_⟩
   repeat ((conv => whnf); refine ⟨by exact ⟨rfl, rfl, hv, by decide, .inr (.inr (.inr rfl))⟩, ?_⟩)
   conv => whnf
   exact eE9 ⟨rfl, rfl⟩
  ·cases hs
 ·cases hs
def saysCI : Says := fun args H => match args, H with
 | [.c (.ptr 0 0), .c (.p (.v (.int .i64 k))), .c (.clo _ _f _)], [x, .row _, .tok _ _ _ _] => match srOfR x with
  | some r => some (some (args = [.c (.ptr 0 0), .c (.int .i64 k), .c (.clo false 50 [1])] ∧ H = srK r ∧ Vld r ∧ r.tok.1 ≠ 8), .int .i64 (cmdS k .str r).1, srK (cmdS k .str r).2)
  | none => none
 | _, _ => none
theorem z2a : TSound Tryz.prog (ext Z1 49 saysCI) := by
 refine ext_run z1 (f := 49) (fn := Tryz.f49) rfl rfl [0, 1, 2, 6, 7, 8, 28] fun args H p r' H' hs hp => ?_
 unfold saysCI at hs
 split at hs
 ·split at hs
  ·rename_i k _ f cs _ _ _ _ _ _ _ r _
   cases hs
   obtain ⟨ha, he, hv, hk⟩ := hp
   rw [ha, he]
   have hi := hv.i64
   have hv1 := hv.adv_v hk
   refine ⟨Nat.le_of_ble_eq_true rfl, [0, 1, 2], rfl, id3n, ?_⟩
   unfold cmdS
   repeat ((conv => whnf); refine ⟨by first | exact ⟨rfl, rfl, hv⟩ | exact hi | exact ⟨rfl, hv1⟩, ?_⟩)
   conv => whnf
   refine cI9 (fun h => ?_) (fun h => ?_)
   ·have h1 : ¬ (nmS .str r.adv).1.2 = 0 := by
     have h2 : (!decide ((nmS .str r.adv).1.2 = 0)) = true := h
     simpa using h2
    simp only
    rw [if_neg h1]
    conv => whnf
    exact eE9 ⟨rfl, rfl⟩
   ·have h1 : (nmS .str r.adv).1.2 = 0 := by
     have h2 : (!decide ((nmS .str r.adv).1.2 = 0)) = false := h
     simpa using h2
    simp only
    rw [if_pos h1]
    obtain ⟨c1, c2⟩ := cmd_add hv hk h1 (dfn k e0 (nmS .str r.adv).1.1 [] r.tok)
    repeat ((conv => whnf); refine ⟨by first | exact c2 | exact ⟨rfl, srH_add _ _, c1⟩ | omega | exact rfl, ?_⟩)
    conv => whnf
    exact eE9 ⟨rfl, rfl⟩
  ·cases hs
 ·cases hs
def Z2 : Table := ext Z1 49 (orS (saysR daIC eaIC cmdPre fun r a => (.int .i64 (cmdS a.1 (nmF a.2) r).1, (cmdS a.1 (nmF a.2) r).2)) saysCI)
theorem z2b : TSound Tryz.prog (ext Z1 49 (saysR daIC eaIC cmdPre fun r a => (.int .i64 (cmdS a.1 (nmF a.2) r).1, (cmdS a.1 (nmF a.2) r).2))) := ext_only y54 z1
theorem z2 : TSound Tryz.prog Z2 := ext_or z2b z2a
def Z3 : Table := ext Z2 31 (saysR da0 ea0 (fun r _ => Vld r) fun r _ => (.int .i64 (topS r).1, (topS r).2))
theorem z3 : TSound Tryz.prog Z3 := by
 refine extR z2 31 (fn := Tryz.f31) rfl rfl da0 ea0 _ _ (fun _ => Nat.le_of_ble_eq_true rfl) [0, 1, 2, 3, 6, 12, 19] fun r _ hs => ?_
 have hv : Vld r := hs
 have hk : r.toks.length ≤ 6001 + 1 + r.at_ := by have := hv.len; omega
 unfold topS
 repeat ((conv => whnf); refine ⟨by exact ⟨rfl, rfl, hv⟩, ?_⟩)
 conv => whnf
 refine cI9 (fun h => ?_) (fun h => ?_)
 ·have h1 : wrdI r.tok ⟨#[105, 110, 99, 108, 117, 100, 101]⟩ = true := h
  rw [if_pos h1]
  repeat ((conv => whnf); refine ⟨by exact ⟨rfl, rfl, hv, wrdI_kind h1⟩, ?_⟩)
  conv => whnf
  exact eE9 ⟨rfl, rfl⟩
 have h1 : ¬ wrdI r.tok ⟨#[105, 110, 99, 108, 117, 100, 101]⟩ = true := by
  have h4 : wrdI r.tok ⟨#[105, 110, 99, 108, 117, 100, 101]⟩ = false := h
  rw [h4]; simp
 rw [if_neg h1]
 conv => whnf
 refine cI9 (fun h2 => ?_) (fun h2 => ?_)
 ·have h3 : wrdI r.tok ⟨#[100, 101, 108, 101, 116, 101, 45, 110, 111, 100, 101]⟩ = true := h2
  rw [if_pos h3]
  repeat ((conv => whnf); refine ⟨by exact ⟨rfl, rfl, hv, wrdI_kind h3, .inr (.inr (.inl rfl))⟩, ?_⟩)
  conv => whnf
  exact eE9 ⟨rfl, rfl⟩
 have h3 : ¬ wrdI r.tok ⟨#[100, 101, 108, 101, 116, 101, 45, 110, 111, 100, 101]⟩ = true := by
  have h4 : wrdI r.tok ⟨#[100, 101, 108, 101, 116, 101, 45, 110, 111, 100, 101]⟩ = false := h2
  rw [h4]; simp
 rw [if_neg h3]
 conv => whnf
 refine cI9 (fun h5 => ?_) (fun h5 => ?_)
 ·have h6 : r.tok.1 = 6 := of_decide_eq_true h5
  rw [if_pos h6]
  repeat ((conv => whnf); refine ⟨by exact ⟨rfl, rfl, hv, hk, .inr (.inr (.inl rfl))⟩, ?_⟩)
  conv => whnf
  exact eE9 ⟨rfl, rfl⟩
 ·have h6 : ¬ r.tok.1 = 6 := of_decide_eq_false h5
  rw [if_neg h6]
  repeat ((conv => whnf); refine ⟨by exact ⟨rfl, rfl, hv, hk, .inr (.inr (.inr rfl))⟩, ?_⟩)
  conv => whnf
  exact eE9 ⟨rfl, rfl⟩
def tvOk (t : TokV) (n : Nat) : Prop := t.text.size ≤ n ∧ 0 ≤ t.value ∧ t.value ≤ 4294967295
theorem tvOk_none (n : Nat) (k : Int) : tvOk { kind := k } n := ⟨Nat.zero_le _, (show (0 : Int) ≤ 0 by decide), (show (0 : Int) ≤ 4294967295 by decide)⟩
theorem tvOk_text {l : List UInt8} {n : Nat} (k : Int) (h : l.length ≤ n) : tvOk { kind := k, text := B l } n := ⟨h, (show (0 : Int) ≤ 0 by decide), (show (0 : Int) ≤ 4294967295 by decide)⟩
theorem comp_rng (b : Int) (hb : 0 ≤ b) : ∀ (l : List UInt8) (v : Int), 0 ≤ v → 0 ≤ (compLgo b l v).1 ∧ (compLgo b l v).1 ≤ 4294967295 := by
 intro l
 induction l with
 | nil =>
  intro v hv
  unfold compLgo
  split
  ·exact ⟨by decide, by decide⟩
  ·exact ⟨hv, by omega⟩
 | cons d r ih =>
  intro v hv
  unfold compLgo
  split
  ·exact ⟨by decide, by decide⟩
  ·refine ih _ ?_
   have h1 := (digitV_range ((d.toNat : Nat) : Int)).1
   have h2 := Int.mul_nonneg hv hb
   split
   ·decide
   ·omega
theorem str_rng (N : Nat) : ∀ (k : Nat) (l : List UInt8) (out : List Int) (n : Nat), out.length + l.length ≤ N → tvOk (strL k l out n).1 N := by
 intro k
 induction k with
 | zero => intro l out n _; exact tvOk_none _ _
 | succ k ih =>
  intro l out n h
  cases l with
  | nil => exact tvOk_none _ _
  | cons a r =>
   simp only [List.length_cons] at h
   simp only [strL]
   split
   ·exact tvOk_none _ _
   ·split
    ·refine ⟨?_, (show (0 : Int) ≤ 0 by decide), (show (0 : Int) ≤ 4294967295 by decide)⟩
     show (bytesOf out).size ≤ N
     have : (bytesOf out).size = out.length := by
      unfold bytesOf
      show (out.map _).toArray.size = _
      simp
     omega
    ·split
     ·split
      ·rename_i he
       refine ih _ _ _ ?_
       have h3 := escV_n (B (a :: r)) he
       have h4 : 1 ≤ (escL (a :: r)).2.1.toNat := by
        show 1 ≤ (escV (B (a :: r))).2.1.toNat
        omega
       rw [List.length_append, List.length_drop]
       simp only [List.length_cons, List.length_nil]
       omega
      ·exact tvOk_none _ _
     ·refine ih _ _ _ ?_
      rw [List.length_append]
      simp only [List.length_cons, List.length_nil]
      omega
theorem cut_rng (l : List UInt8) : tvOk (cutL l).1 l.length := by
 cases l with
 | nil => exact tvOk_none _ _
 | cons a r =>
  show tvOk (cutC a r).1 (r.length + 1)
  unfold cutC
  have hn := tw_len nameB (a :: r)
  have hw := tw_len wordB r
  have hs := tw_len slashB r
  simp only [List.length_cons] at hn
  split
  ·unfold nameLx
   split
   ·split
    ·exact tvOk_none _ _
    ·exact tvOk_text _ (by omega)
   ·exact tvOk_text _ (by omega)
  ·split
   ·unfold numLx
    split
    ·refine ⟨Nat.zero_le _, ?_⟩
     show 0 ≤ (compL _ _).1 ∧ (compL _ _).1 ≤ 4294967295
     unfold compL
     split
     ·exact ⟨by decide, by decide⟩
     ·refine comp_rng _ ?_ _ _ (Int.le_refl 0)
      unfold splitL
      split
      ·exact (show (0 : Int) ≤ 16 by decide)
      ·split
       ·exact (show (0 : Int) ≤ 8 by decide)
       ·exact (show (0 : Int) ≤ 10 by decide)
    ·exact tvOk_none _ _
   ·split
    ·have := str_rng r.length (r.length + 1) r [] 1 (by simp)
     exact ⟨Nat.le_succ_of_le this.1, this.2⟩
    ·split
     ·exact tvOk_text _ (by omega)
     ·split
      ·exact tvOk_text _ (by omega)
      ·split
       ·refine tvOk_text _ ?_
        rw [List.length_take]
        simp only [List.length_cons]
        omega
       ·exact tvOk_none _ _
theorem skipL_len : ∀ (k : Nat) (l : List UInt8) (p : Int × Int), (skipL k l p).2.1.length ≤ l.length := by
 intro k
 induction k with
 | zero => intro l p; exact Nat.le_refl _
 | succ k ih =>
  intro l p
  unfold skipL
  split
  ·exact Nat.le_refl _
  ·refine Nat.le_trans (ih _ _) ?_
   rw [List.length_drop]
   omega
def tkFit (t : tkC.den) : Prop := t.2.1.size ≤ 16000 ∧ 0 ≤ t.2.2.1 ∧ t.2.2.1 ≤ 4294967295
theorem readL_fit (f : Int) : ∀ (k : Nat) (l : List UInt8) (p : Int × Int) (zs : List tokC.den), l.length ≤ 16000 → (∀ t ∈ zs, tkFit t) → ∀ t ∈ (readL f k l p zs).toks, tkFit t := by
 intro k
 induction k with
 | zero => intro l p zs _ _ t ht; cases ht
 | succ k ih =>
  intro l p zs hl hz t ht
  have hs : (skipA l p).2.1.length ≤ l.length := skipL_len _ _ _
  have hc := cut_rng (skipA l p).2.1
  have hadd : ∀ t ∈ zs ++ [tokD (cutL (skipA l p).2.1).1 f (skipA l p).2.2], tkFit t := fun t ht => by
   rcases List.mem_append.1 ht with h1 | h1
   ·exact hz t h1
   ·obtain rfl := List.mem_singleton.1 h1
    exact ⟨Nat.le_trans hc.1 (by omega), hc.2⟩
  simp only [readL] at ht
  split at ht
  ·split at ht
   ·split at ht
    ·exact hadd t ht
    ·refine ih _ _ _ ?_ hadd t ht
     rw [List.length_drop]
     omega
   ·cases ht
  ·cases ht
theorem readV_fit (s : ByteArray) (f : Int) : ∀ t ∈ (readV s f).toks, tkFit t := by
 intro t ht
 by_cases h : s.size ≤ 16000
 ·obtain ⟨l, rfl⟩ : ∃ l, s = B l := ⟨s.data.toList, rfl⟩
  rw [readV_L l f h] at ht
  exact readL_fit f _ l _ [] h (fun t h => by cases h) t ht
 ·unfold readV at ht
  rw [if_pos (by omega)] at ht
  cases ht
theorem srV_vld' {s : ByteArray} {f : Int} (h0 : (readV s f).err = 0) : Vld ⟨(readV s f).toks, 0, 0, []⟩ := by
 obtain ⟨h1, h2⟩ := rV_end s f
 obtain ⟨ys, e, h3, h4⟩ := h2 h0
 refine ⟨by show (readV s f).toks.length ≤ 6001; omega, ?_, ?_, readV_fit s f, Nat.le_refl _, Nat.zero_le _⟩
 ·show 0 < (readV s f).toks.length
  rw [h3]; simp
 ·intro i hi
  show ((readV s f).toks.getD i tkC.dflt).1 = 8
  have hi' : i + 1 = (readV s f).toks.length := hi
  rw [h3] at hi' ⊢
  have : i = ys.length := by simpa using hi'
  subst this
  rw [List.getD_eq_getElem?_getD]
  simp [h4]
def Z4 : Table := ext Z3 30 (looks (looksR da0 ea0 (fun r _ => TokP r) fun r _ => tokA r.tok))
theorem z4 : TSound Tryz.prog Z4 := by
 refine extLR z3 30 (fn := Tryz.f30) rfl rfl da0 ea0 _ _ (fun _ => Nat.le_of_ble_eq_true rfl) [0, 2] fun r _ hs => ?_
 obtain ⟨hn, hl⟩ := hs
 have h0 : 0 ≤ (r.at_ : Int) ∧ (r.at_ : Int) < (r.toks.length : Nat) := by omega
 repeat ((conv => whnf); refine ⟨by first | exact h0 | exact rfl, ?_⟩)
 conv => whnf
 exact eE9 ⟨rfl, rfl⟩
def Z5 : Table := ext Z4 12 (saysSI fun s f => (none, (srcV s f).sv))
theorem z5 : TSound Tryz.prog Z5 := by
 refine extSI z4 12 (fn := Tryz.f12) rfl rfl (by decide) _ [0, 1, 4, 5, 6, 7, 8, 9, 10, 11, 20, 27, 30] fun s f _ => ?_
 conv => whnf
 refine cI9 (fun h => ?_) (fun h => ?_)
 ·have h1 : ¬ (readV s f).err = 0 := by
   have h2 : (!decide ((readV s f).err = 0)) = true := h
   simpa using h2
  repeat ((conv => whnf); refine ⟨by exact rfl, ?_⟩)
  conv => whnf
  refine eO9 (fun G v hv => ?_) rfl
  have := nil_sle defC G v hv
  show RepS G (srcV s f).sv v
  unfold srcV
  rw [if_neg h1]
  exact this
 have h1 : (readV s f).err = 0 := by
  have h2 : (!decide ((readV s f).err = 0)) = false := h
  simpa using h2
 have hv := srV_vld' h1
 have hS : srcV s f = (let x := topsS (readV s f).toks.length ⟨(readV s f).toks, 0, 0, []⟩
   if x.1 = 0 then ⟨x.2.defs, 0, 0, 0, 0⟩ else ⟨[], x.2.tok.2.2.2.1, x.2.tok.2.2.2.2.1, x.2.tok.2.2.2.2.2, x.1⟩) := by
  unfold srcV
  rw [if_pos h1]
 conv => whnf
 refine loop_weak (σ := Sr × Nat) (fun _ => [(0, XV.s .none), (1, XV.s .none), (4, XV.s .none), (5, XV.s (.a (.c (.ptr 0 0)))), (6, XV.s .none), (7, XV.s .none), (8, XV.s .none), (9, XV.s .none), (10, XV.s (.a (.c (.ptr 2 0)))), (11, XV.s .none), (20, XV.s .none), (27, XV.s .none), (30, XV.s .none)])
  (fun ⟨q, _⟩ => [.row [.int .i64 0, .int .i64 0, .int .i64 0], .row [.int .i64 (readV s f).file, .int .i64 (readV s f).line, .int .i64 (readV s f).column], .row [.p (.l tkC q.toks), .int .i64 q.at_, .int .i64 q.bod, .own 3 defC q.defs], .tok 52 defC q.defs.length true])
  (fun ⟨q, n⟩ => Vld q ∧ q.toks = (readV s f).toks ∧ q.toks.length ≤ n + q.at_ ∧ topsS n q = topsS (readV s f).toks.length ⟨(readV s f).toks, 0, 0, []⟩) (fun ⟨_, n⟩ => n)
  (⟨(readV s f).toks, 0, 0, []⟩, (readV s f).toks.length) ?_ ?_ ?_
 ·refine (Weak.cell 2 rfl 3 rfl 52 defC).trans (Weak.le _ ?_)
  repeat (first | exact LeL.nil | refine LeL.drop ?_ | refine LeL.same ?_)
 ·exact ⟨hv, rfl, Nat.le_add_right _ _, rfl⟩
 rintro ⟨q, n⟩ ⟨hq, htk, hl, hgo⟩
 have hql := hq.lt
 have hp := hq.tokP
 obtain ⟨n, rfl⟩ : ∃ j, n = j + 1 := ⟨n - 1, by omega⟩
 simp only [topsS] at hgo
 repeat ((conv => whnf); refine ⟨by exact ⟨rfl, rfl, hp⟩, ?_⟩)
 conv => whnf
 refine cI9 (fun h3 => ?_) (fun h3 => ?_)
 ·have h4 : ¬ q.tok.1 = 8 := by
   have h5 : (!decide (q.tok.1 = 8)) = true := h3
   simpa using h5
  rw [if_neg h4] at hgo
  have g := topS_good hq
  have hp2 : TokP (topS q).2 := ⟨by rw [g.adv.toks]; exact hq.len, by rw [g.adv.toks]; exact g.adv.lt⟩
  repeat ((conv => whnf); refine ⟨by exact ⟨rfl, rfl, hq⟩, ?_⟩)
  conv => whnf
  refine cI9 (fun h5 => ?_) (fun h5 => ?_)
  ·have h6 : ¬ (topS q).1 = 0 := by
    have h7 : (!decide ((topS q).1 = 0)) = true := h5
    simpa using h7
   rw [if_neg h6] at hgo
   repeat ((conv => whnf); refine ⟨by exact ⟨rfl, rfl, hp2⟩, ?_⟩)
   conv => whnf
   refine eO9 (fun G v hv => ?_) rfl
   have hw := nil_sle defC G v hv
   show RepS G (srcV s f).sv v
   rw [hS]
   simp only
   rw [← hgo, if_neg h6]
   exact hw
  ·have h6 : (topS q).1 = 0 := by
    have h7 : (!decide ((topS q).1 = 0)) = false := h5
    simpa using h7
   rw [if_pos h6] at hgo
   rw [h6] at g
   conv => whnf
   refine hI9 ((topS q).2, n) ?_ ?_ ?_ ?_
   ·repeat (first | exact LeL.nil | refine LeL.drop ?_ | refine LeL.same ?_)
   ·rfl
   ·refine ⟨g.vld hq, g.adv.toks.trans htk, ?_, hgo⟩
    rw [g.adv.toks]
    have := (g.ok rfl).1
    show q.toks.length ≤ n + (topS q).2.at_
    omega
   ·exact Nat.lt_succ_self n
 ·have h4 : q.tok.1 = 8 := by
   have h5 : (!decide (q.tok.1 = 8)) = false := h3
   simpa using h5
  rw [if_pos h4] at hgo
  conv => whnf
  refine eE9 ⟨?_, rfl⟩
  show _ = (srcV s f).sv
  rw [hS]
  simp only
  rw [← hgo, if_pos rfl]
  rfl
theorem namB_cons (a : UInt8) (r : List UInt8) : namB (B (a :: r)) = (decide (((r.length + 1 : Nat) : Int) ≤ 31) && firstB ((a.toNat : Nat) : Int) && (nameB ((a.toNat : Nat) : Int) && r.all fun u : UInt8 => nameB ((u.toNat : Nat) : Int))) := by
 unfold namB consB
 rw [lead_all]
 have h1 : decide (B (a :: r) = ⟨#[]⟩) = false := decide_eq_false fun h => by
  have := congrArg ByteArray.size h
  rw [B_size] at this
  have h0 : (⟨#[]⟩ : ByteArray).size = 0 := rfl
  rw [h0] at this
  simp at this
 have h2 : byteAt (B (a :: r)) 0 = ((a.toNat : Nat) : Int) := rfl
 have h3 : ((B (a :: r)).size : Int) = ((r.length + 1 : Nat) : Int) := rfl
 rw [h1, h2, h3]
 have h4 : allB nameB (B (a :: r)) = (nameB ((a.toNat : Nat) : Int) && r.all fun u : UInt8 => nameB ((u.toNat : Nat) : Int)) := by
  unfold allB
  rfl
 rw [h4]
 rfl
def has64 : List UInt8 → Bool
 | [] => false
 | a :: r => if ((a.toNat : Nat) : Int) = 64 then true else has64 r
theorem has64_cons (a : UInt8) (r : List UInt8) : has64 (a :: r) = if ((a.toNat : Nat) : Int) = 64 then true else has64 r := rfl
theorem has64_at (l : List UInt8) : has64 l = atB (B l) := by
 have h : atB (B l) = l.contains 64 := by
  unfold atB
  show decide (0 ≤ Lib.indexByte l 64) = _
  have := idx_mem l 64
  cases hc : l.contains 64 with
  | true => rw [hc] at this; exact decide_eq_true (by rw [this])
  | false => rw [hc] at this; exact decide_eq_false (by rw [this]; simp)
 rw [h]
 induction l with
 | nil => rfl
 | cons a r ih =>
  unfold has64
  rw [List.contains_cons]
  have ih' := ih (by
   unfold atB
   show decide (0 ≤ Lib.indexByte r 64) = _
   have := idx_mem r 64
   cases hc : r.contains 64 with
   | true => rw [hc] at this; exact decide_eq_true (by rw [this])
   | false => rw [hc] at this; exact decide_eq_false (by rw [this]; simp))
  by_cases ha : ((a.toNat : Nat) : Int) = 64
  ·have : a = 64 := by
    apply UInt8.toNat_inj.1
    have h64 : (64 : UInt8).toNat = 64 := rfl
    omega
   rw [if_pos ha, this]
   rfl
  ·have : ((64 : UInt8) == a) = false := by
    refine beq_eq_false_iff_ne.2 fun h => ha ?_
    rw [← h]
    rfl
   rw [if_neg ha, ih', this, Bool.false_or]
def rPrp (s : ByteArray) : Bool :=
 if (s.size : Int) < 1 ∨ 31 < (s.size : Int) then false
 else if has64 s.data.toList = true then false
 else if byteAt s 0 = 35 then (decide ((s.size : Int) = 1) || namB (⟨#[97]⟩ ++ s.extract 1 s.size)) else namB s
theorem prp_same (s : ByteArray) : rPrp s = prpB s := by
 obtain ⟨l, rfl⟩ : ∃ l, s = B l := ⟨s.data.toList, rfl⟩
 unfold rPrp prpB
 rw [show has64 (B l).data.toList = atB (B l) from has64_at l]
 cases l with
 | nil => decide
 | cons a r =>
  have hs : ((B (a :: r)).size : Int) = ((r.length + 1 : Nat) : Int) := rfl
  rw [hs]
  by_cases h1 : 31 < ((r.length + 1 : Nat) : Int)
  ·rw [if_pos (.inr h1), if_pos h1]
  rw [if_neg (by omega), if_neg h1]
  by_cases h2 : atB (B (a :: r)) = true
  ·rw [if_pos h2, if_pos h2]
  rw [if_neg h2, if_neg h2]
  have hb : byteAt (B (a :: r)) 0 = ((a.toNat : Nat) : Int) := rfl
  rw [hb]
  by_cases h3 : ((a.toNat : Nat) : Int) = 35
  ·have ha : a = 35 := by
    apply UInt8.toNat_inj.1
    have h35 : (35 : UInt8).toNat = 35 := rfl
    omega
   subst ha
   have e1 : (B (35 :: r)).extract 1 (B (35 :: r)).size = B r := by
    rw [B_extract, B_size]
    simp
   have hp : prefB (B (35 :: r)) ⟨#[35]⟩ = true := by
    unfold prefB
    have : (B (35 :: r)).extract 0 (⟨#[35]⟩ : ByteArray).size = ⟨#[35]⟩ := by
     show (B (35 :: r)).extract 0 1 = B [35]
     rw [B_extract]
     simp
    rw [this]
    have h1 : (((⟨#[35]⟩ : ByteArray).size : Nat) : Int) ≤ ((B (35 :: r)).size : Nat) := by
     rw [B_size]
     show ((1 : Nat) : Int) ≤ ((r.length + 1 : Nat) : Int)
     omega
    rw [decide_eq_true h1]
    simp
   have ht : trimP (B (35 :: r)) ⟨#[35]⟩ = B r := by
    unfold trimP
    rw [if_pos hp]
    exact e1
   rw [if_pos h3, if_pos hp, ht, e1]
   have f1 : (⟨#[97]⟩ ++ B r : ByteArray) = B (97 :: r) := by show B [97] ++ B r = _; rw [B_append]; rfl
   have f2 : (⟨#[95]⟩ ++ B r : ByteArray) = B (95 :: r) := by show B [95] ++ B r = _; rw [B_append]; rfl
   rw [f1, f2, namB_cons, namB_cons]
   have g1 : firstB (((97 : UInt8).toNat : Nat) : Int) = true := by decide
   have g2 : firstB (((95 : UInt8).toNat : Nat) : Int) = true := by decide
   have g3 : nameB (((97 : UInt8).toNat : Nat) : Int) = true := by decide +kernel
   have g4 : nameB (((95 : UInt8).toNat : Nat) : Int) = true := by decide +kernel
   rw [g1, g2, g3, g4]
   cases r with
   | nil => decide
   | cons b r =>
    rw [decide_eq_false (show ¬ (((b :: r).length + 1 : Nat) : Int) = 1 by simp only [List.length_cons]; omega)]
    rfl
  ·have hp : prefB (B (a :: r)) ⟨#[35]⟩ = false := by
    unfold prefB
    have : ¬ (B (a :: r)).extract 0 (⟨#[35]⟩ : ByteArray).size = ⟨#[35]⟩ := by
     show ¬ (B (a :: r)).extract 0 1 = B [35]
     rw [B_extract]
     intro h
     have h5 : B [a] = B [35] := by simpa using h
     have h6 : byteAt (B [a]) 0 = byteAt (B [35]) 0 := by rw [h5]
     exact h3 h6
    rw [decide_eq_false this]
    simp
   rw [if_neg h3, if_neg (by rw [hp]; simp)]
end Go.Ab
