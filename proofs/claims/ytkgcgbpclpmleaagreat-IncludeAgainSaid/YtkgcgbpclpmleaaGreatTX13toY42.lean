/- Package source: Read. -/
import Derived.Test.YtkgcgbpclpmleaaGreatTX11toX12
import Derived.Test.YtkgcgbpclpmleaaGreatTX8toX10
namespace Go.Ab
open Go.Proofs
set_option linter.unusedSectionVars false
set_option maxRecDepth 100000
variable [Glob]
def inclW : ByteArray := ⟨#[105, 110, 99, 108, 117, 100, 101]⟩
def noIncl (toks : List tkC.den) : Prop := ∀ t ∈ toks, wrdI t inclW = false
def Y61 : Table := ext (tN 6001) 74 (saysR da0 ea0 (fun r _ => Vld r ∧ noIncl r.toks) fun r _ => (.int .i64 (topS r).1, (topS r).2))
theorem y61 : TS9 Y61 := by
 refine extR (yN 6001 (tBk 6001)) 74 (fn := Tryz.f74) rfl rfl da0 ea0 _ _ (fun _ => nB9 rfl) [0, 1, 2, 3, 6, 12, 19] fun r _ hs => ?_
 obtain ⟨hv, hn⟩ := hs
 have hk : r.toks.length ≤ 6001 + 1 + r.at_ := by have := hv.len; omega
 have h1 : ¬ wrdI r.tok ⟨#[105, 110, 99, 108, 117, 100, 101]⟩ = true := by
  rw [show wrdI r.tok ⟨#[105, 110, 99, 108, 117, 100, 101]⟩ = false from hn _ hv.tok]
  simp
 unfold topS
 rw [if_neg h1]
 repeat ((conv => whnf); refine ⟨⟨rfl, rfl, hv⟩, ?_⟩)
 conv => whnf
 refine cI9 ?_ ?_<;>intro h
 ·exact absurd h h1
 conv => whnf
 refine cI9 ?_ ?_<;>intro h2
 ·have h3 : wrdI r.tok ⟨#[100, 101, 108, 101, 116, 101, 45, 110, 111, 100, 101]⟩ = true := h2
  rw [if_pos h3]
  repeat ((conv => whnf); refine ⟨⟨rfl, rfl, hv, wrdI_kind h3, .inr (.inr (.inl rfl))⟩, ?_⟩)
  conv => whnf
  exact eR9
 have h3 : ¬ wrdI r.tok ⟨#[100, 101, 108, 101, 116, 101, 45, 110, 111, 100, 101]⟩ = true := by
  have h4 : wrdI r.tok ⟨#[100, 101, 108, 101, 116, 101, 45, 110, 111, 100, 101]⟩ = false := h2
  rw [h4]; simp
 rw [if_neg h3]
 conv => whnf
 refine cI9 ?_ ?_<;>intro h5
 ·have h6 : r.tok.1 = 6 := oT9 h5
  rw [if_pos h6]
  repeat ((conv => whnf); refine ⟨⟨rfl, rfl, hv, hk, .inr (.inr (.inl rfl))⟩, ?_⟩)
  conv => whnf
  exact eR9
 ·have h6 : ¬ r.tok.1 = 6 := oF9 h5
  rw [if_neg h6]
  repeat ((conv => whnf); refine ⟨⟨rfl, rfl, hv, hk, .inr (.inr (.inr rfl))⟩, ?_⟩)
  conv => whnf
  exact eR9
theorem rGo_end : ∀ (k : Nat) (q : RdV) (zs : List tokC.den), (readGo k q zs).toks.length ≤ zs.length + k ∧ ((readGo k q zs).err = 0 → ∃ ys e, (readGo k q zs).toks = ys ++ [e] ∧ e.1 = 8) := by
 intro k
 induction k with
 | zero =>
  intro q zs
  simp only [readGo]
  refine ⟨nZ9 _, fun h => ?_⟩
  split at h
  ·omega
  ·exact absurd h (by assumption)
 | succ k ih =>
  intro q zs
  simp only [readGo]
  by_cases h1 : (nextV q).2.1 = 0
  ·rw [if_pos h1]
   by_cases h2 : (nextV q).1.kind = 8
   ·rw [if_pos h2]
    exact ⟨by simp, fun _ => ⟨zs, _, rfl, h2⟩⟩
   ·rw [if_neg h2]
    have := ih (nextV q).2.2 (zs ++ [(nextV q).1.den])
    refine ⟨?_, this.2⟩
    have h3 := this.1
    simp at h3
    omega
  ·rw [if_neg h1]
   exact ⟨nZ9 _, fun h => absurd h h1⟩
theorem rV_end (s : ByteArray) (f : Int) : (readV s f).toks.length ≤ 6000 ∧ ((readV s f).err = 0 → ∃ ys e, (readV s f).toks = ys ++ [e] ∧ e.1 = 8) := by
 unfold readV
 split
 ·exact ⟨nZ9 _, fun h => absurd h (by decide)⟩
 ·have := rGo_end 6000 ⟨s, f, 1, 1⟩ []
  exact ⟨by simpa using this.1, this.2⟩
def okT (t : tkC.den) : Bool := !wrdI t inclW && decide (t.2.1.size ≤ 16000) && decide (0 ≤ t.2.2.1) && decide (t.2.2.1 ≤ 4294967295)
theorem srV_vld {s : ByteArray} {f : Int} (h0 : (readV s f).err = 0) (h : (readV s f).toks.all okT = true) : Vld ⟨(readV s f).toks, 0, 0, []⟩ ∧ noIncl (readV s f).toks := by
 obtain ⟨h1, h2⟩ := rV_end s f
 obtain ⟨ys, e, h3, h4⟩ := h2 h0
 have hall : ∀ t ∈ (readV s f).toks, wrdI t inclW = false ∧ t.2.1.size ≤ 16000 ∧ 0 ≤ t.2.2.1 ∧ t.2.2.1 ≤ 4294967295 := fun t ht => by
  have := List.all_eq_true.1 h t ht
  unfold okT at this
  obtain ⟨h5, h6⟩ := bA9.1 this
  obtain ⟨h7, h8⟩ := bA9.1 h5
  obtain ⟨h9, h10⟩ := bA9.1 h7
  exact ⟨by simpa using h9, oT9 h10, oT9 h8, oT9 h6⟩
 refine ⟨⟨by show (readV s f).toks.length ≤ 6001; omega, ?_, ?_, fun t ht => (hall t ht).2, nR9 _, nZ9 _⟩, fun t ht => (hall t ht).1⟩
 ·show 0 < (readV s f).toks.length
  rw [h3]; simp
 ·intro i hi
  show ((readV s f).toks.getD i tkC.dflt).1 = 8
  have hi' : i + 1 = (readV s f).toks.length := hi
  rw [h3] at hi' ⊢
  have : i = ys.length := by simpa using hi'
  subst this
  rw [List.getD_eq_getElem?_getD]
  simp [h4]
def TokP (r : Sr) : Prop := r.toks.length ≤ 6001 ∧ r.at_ < r.toks.length
theorem Vld.tokP {r : Sr} (h : Vld r) : TokP r := ⟨h.len, h.lt⟩
def Y63 : Table := ext Y61 73 (looks (looksR da0 ea0 (fun r _ => TokP r) fun r _ => tokA r.tok))
theorem y63 : TS9 Y63 := by
 refine extLR y61 73 (fn := Tryz.f73) rfl rfl da0 ea0 _ _ (fun _ => nB9 rfl) [0, 2] fun r _ hs => ?_
 obtain ⟨hn, hl⟩ := hs
 have h0 : 0 ≤ (r.at_ : Int) ∧ (r.at_ : Int) < (r.toks.length : Nat) := by omega
 repeat ((conv => whnf); refine ⟨by first | exact h0 | exact rfl, ?_⟩)
 conv => whnf
 exact eR9
def SrcV.sv (x : SrcV) : SV := .tup [.c (.p (.l defC x.defs)), .agg [.int .i64 x.file, .int .i64 x.line, .int .i64 x.column], .c (.int .i64 x.err)]
def Y62 : Table := ext Y63 60 (saysSI fun s f => (some ((readV s f).toks.all okT = true), (srcV s f).sv))
theorem y62 : TS9 Y62 := by
 refine extSI y63 60 (fn := Tryz.f60) rfl rfl (by decide) _ [0, 1, 4, 5, 6, 7, 8, 9, 10, 11, 20, 27, 30] fun s f hs => ?_
 conv => whnf
 refine cI9 ?_ ?_<;>intro h
 ·have h1 : ¬ (readV s f).err = 0 := by
   have h2 : (!decide ((readV s f).err = 0)) = true := h
   simpa using h2
  repeat ((conv => whnf); refine ⟨rfl, ?_⟩)
  conv => whnf
  refine eO9 (fun G v hv => ?_) rfl
  have := nil_sle defC G v hv
  show RepS G (srcV s f).sv v
  unfold srcV
  rw [if_neg h1]
  exact this
 have h1 : (readV s f).err = 0 := by
  have h2 : (!decide ((readV s f).err = 0)) = false := h
  simpa using h2
 obtain ⟨hv, hn⟩ := srV_vld h1 hs
 have hS : srcV s f = (let x := topsS (readV s f).toks.length ⟨(readV s f).toks, 0, 0, []⟩
   if x.1 = 0 then ⟨x.2.defs, 0, 0, 0, 0⟩ else ⟨[], x.2.tok.2.2.2.1, x.2.tok.2.2.2.2.1, x.2.tok.2.2.2.2.2, x.1⟩) := by
  unfold srcV
  rw [if_pos h1]
 conv => whnf
 refine loop_weak (σ := Sr × Nat) (fun _ => [(0, nX9), (1, nX9), (4, nX9), (5, XV.s (.a (.c (.ptr 0 0)))), (6, nX9), (7, nX9), (8, nX9), (9, nX9), (10, XV.s (.a (.c (.ptr 2 0)))), (11, nX9), (20, nX9), (27, nX9), (30, nX9)])
  (fun ⟨q, _⟩ => [.row [.int .i64 0, .int .i64 0, .int .i64 0], .row [.int .i64 (readV s f).file, .int .i64 (readV s f).line, .int .i64 (readV s f).column], .row [.p (.l tkC q.toks), .int .i64 q.at_, .int .i64 q.bod, .own 3 defC q.defs], .tok 39 defC q.defs.length true])
  (fun ⟨q, n⟩ => Vld q ∧ q.toks = (readV s f).toks ∧ q.toks.length ≤ n + q.at_ ∧ topsS n q = topsS (readV s f).toks.length ⟨(readV s f).toks, 0, 0, []⟩) (fun ⟨_, n⟩ => n)
  (⟨(readV s f).toks, 0, 0, []⟩, (readV s f).toks.length) ?_ ?_ ?_
 ·refine (Weak.cell 2 rfl 3 rfl 39 defC).trans (Weak.le _ ?_)
  repeat first|exact lN9|refine lD9 ?_|refine lS9 ?_
 ·exact ⟨hv, rfl, Nat.le_add_right _ _, rfl⟩
 rintro ⟨q, n⟩ ⟨hq, htk, hl, hgo⟩
 have hql := hq.lt
 have hnq : noIncl q.toks := by rw [htk]; exact hn
 have hp := hq.tokP
 obtain ⟨n, rfl⟩ : ∃ j, n = j + 1 := ⟨n - 1, by omega⟩
 simp only [topsS] at hgo
 repeat ((conv => whnf); refine ⟨⟨rfl, rfl, hp⟩, ?_⟩)
 conv => whnf
 refine cI9 ?_ ?_<;>intro h3
 ·have h4 : ¬ q.tok.1 = 8 := by
   have h5 : (!decide (q.tok.1 = 8)) = true := h3
   simpa using h5
  rw [if_neg h4] at hgo
  have g := topS_good hq
  have hp2 : TokP (topS q).2 := ⟨by rw [g.adv.toks]; exact hq.len, by rw [g.adv.toks]; exact g.adv.lt⟩
  repeat ((conv => whnf); refine ⟨⟨rfl, rfl, hq, hnq⟩, ?_⟩)
  conv => whnf
  refine cI9 ?_ ?_<;>intro h5
  ·have h6 : ¬ (topS q).1 = 0 := by
    have h7 : (!decide ((topS q).1 = 0)) = true := h5
    simpa using h7
   rw [if_neg h6] at hgo
   repeat ((conv => whnf); refine ⟨⟨rfl, rfl, hp2⟩, ?_⟩)
   conv => whnf
   refine eO9 (fun G v hv => ?_) rfl
   have hw := nil_sle defC G v hv
   show RepS G (srcV s f).sv v
   rw [hS]
   simp only
   rw [← hgo, if_neg h6]
   exact hw
  ·have h6 : (topS q).1 = 0 := by
    have h7 : (!decide ((topS q).1 = 0)) = false := h5
    simpa using h7
   rw [if_pos h6] at hgo
   rw [h6] at g
   conv => whnf
   refine hI9 ((topS q).2, n) ?_ ?_ ?_ ?_
   ·repeat first|exact lN9|refine lD9 ?_|refine lS9 ?_
   ·rfl
   ·refine ⟨g.vld hq, g.adv.toks.trans htk, ?_, hgo⟩
    rw [g.adv.toks]
    have := (g.ok rfl).1
    show q.toks.length ≤ n + (topS q).2.at_
    omega
   ·exact nS9 n
 ·have h4 : q.tok.1 = 8 := by
   have h5 : (!decide (q.tok.1 = 8)) = false := h3
   simpa using h5
  rw [if_pos h4] at hgo
  conv => whnf
  refine eT9 ?_
  show _ = (srcV s f).sv
  rw [hS]
  simp only
  rw [← hgo, if_pos rfl]
  rfl
abbrev srR (id : Nat) (r : Sr) : AO := .row [.p (.l tkC r.toks), .int .i64 r.at_, .int .i64 r.bod, .own id defC r.defs]
abbrev srT (r : Sr) : AO := .tok 39 defC r.defs.length true
abbrev srI (r : Sr) : List AO := [.row [.ptr 1 0], srR 2 r, srT r]
abbrev srK (r : Sr) : List AO := [srR 2 r, .row [.ptr 0 0], srT r]
def srOfR (x : AO) : Option Sr :=
 match x with
 | .row [.p (.l c0 toks), .p (.v (.int .i64 a)), .p (.v (.int .i64 b)), .own _ c1 ds] =>
  match castD (e := tkC) (e' := c0) toks, castD (e := defC) (e' := c1) ds with
  | some toks, some ds => some ⟨toks, a.toNat, b.toNat, ds⟩
  | _, _ => none
 | _ => none
def saysIn : Says := fun args H => match args, H with
 | [.c (.ptr 0 0)], [.row _, x, .tok _ _ _ _] => match srOfR x with
  | some r => some (some (H = srI r ∧ Vld r), nmSV (nmS .str r).1, srI (nmS .str r).2)
  | none => none
 | _, _ => none
theorem id3n : ∀ k, k < 3 → [0, 1, 2][k]? = some k := fun k hk => by
 have : k = 0 ∨ k = 1 ∨ k = 2 := by omega
 rcases this with rfl | rfl | rfl <;> rfl
def Z1 : Table := ext (tN 6001) 81 saysIn
theorem z1 : TS9 Z1 := by
 refine ext_run (yN 6001 (tBk 6001)) (f := 81) (fn := Tryz.f81) rfl rfl [0, 1, 2] fun args H p r' H' hs hp => ?_
 unfold saysIn at hs
 split at hs
 ·split at hs
  ·rename_i r _
   cases hs
   obtain ⟨he, hv⟩ := hp
   rw [he]
   refine ⟨nB9 rfl, [0, 1, 2], rfl, id3n, ?_⟩
   repeat ((conv => whnf); refine ⟨⟨rfl, rfl, hv, by decide, .inr (.inr (.inr rfl))⟩, ?_⟩)
   conv => whnf
   exact eR9
  ·cases hs
 ·cases hs
def saysCI : Says := fun args H => match args, H with
 | [.c (.ptr 0 0), .c (.p (.v (.int .i64 k))), .c (.clo _ _f _)], [x, .row _, .tok _ _ _ _] => match srOfR x with
  | some r => some (some (args = [.c (.ptr 0 0), .c (.int .i64 k), .c (.clo false 81 [1])] ∧ H = srK r ∧ Vld r ∧ r.tok.1 ≠ 8), .int .i64 (cmdS k .str r).1, srK (cmdS k .str r).2)
  | none => none
 | _, _ => none
theorem z2a : TS9 (ext Z1 80 saysCI) := by
 refine ext_run z1 (f := 80) (fn := Tryz.f80) rfl rfl [0, 1, 2, 6, 7, 8, 28] fun args H p r' H' hs hp => ?_
 unfold saysCI at hs
 split at hs
 ·split at hs
  ·rename_i k _ f cs _ _ _ _ _ _ _ r _
   cases hs
   obtain ⟨ha, he, hv, hk⟩ := hp
   rw [ha, he]
   have hi := hv.i64
   have hv1 := hv.adv_v hk
   refine ⟨nB9 rfl, [0, 1, 2], rfl, id3n, ?_⟩
   unfold cmdS
   repeat ((conv => whnf); refine ⟨by first | exact ⟨rfl, rfl, hv⟩ | exact hi | exact ⟨rfl, hv1⟩, ?_⟩)
   conv => whnf
   refine cI9 ?_ ?_<;>intro h
   ·have h1 : ¬ (nmS .str r.adv).1.2 = 0 := by
     have h2 : (!decide ((nmS .str r.adv).1.2 = 0)) = true := h
     simpa using h2
    simp only
    rw [if_neg h1]
    conv => whnf
    exact eR9
   ·have h1 : (nmS .str r.adv).1.2 = 0 := by
     have h2 : (!decide ((nmS .str r.adv).1.2 = 0)) = false := h
     simpa using h2
    simp only
    rw [if_pos h1]
    obtain ⟨c1, c2⟩ := cmd_add hv hk h1 (dfn k e0 (nmS .str r.adv).1.1 [] r.tok)
    repeat ((conv => whnf); refine ⟨by first | exact c2 | exact ⟨rfl, srH_add _ _, c1⟩ | omega | exact rfl, ?_⟩)
    conv => whnf
    exact eR9
  ·cases hs
 ·cases hs
def Z2 : Table := ext Z1 80 (orS (saysR daIC eaIC cmdPre fun r a => (.int .i64 (cmdS a.1 (nmF a.2) r).1, (cmdS a.1 (nmF a.2) r).2)) saysCI)
theorem z2b : TS9 (ext Z1 80 (saysR daIC eaIC cmdPre fun r a => (.int .i64 (cmdS a.1 (nmF a.2) r).1, (cmdS a.1 (nmF a.2) r).2))) := ext_only y54 z1
theorem z2 : TS9 Z2 := ext_or z2b z2a
def Z3 : Table := ext Z2 74 (saysR da0 ea0 (fun r _ => Vld r) fun r _ => (.int .i64 (topS r).1, (topS r).2))
theorem z3 : TS9 Z3 := by
 refine extR z2 74 (fn := Tryz.f74) rfl rfl da0 ea0 _ _ (fun _ => nB9 rfl) [0, 1, 2, 3, 6, 12, 19] fun r _ hs => ?_
 have hv : Vld r := hs
 have hk : r.toks.length ≤ 6001 + 1 + r.at_ := by have := hv.len; omega
 unfold topS
 repeat ((conv => whnf); refine ⟨⟨rfl, rfl, hv⟩, ?_⟩)
 conv => whnf
 refine cI9 ?_ ?_<;>intro h
 ·have h1 : wrdI r.tok ⟨#[105, 110, 99, 108, 117, 100, 101]⟩ = true := h
  rw [if_pos h1]
  repeat ((conv => whnf); refine ⟨⟨rfl, rfl, hv, wrdI_kind h1⟩, ?_⟩)
  conv => whnf
  exact eR9
 have h1 : ¬ wrdI r.tok ⟨#[105, 110, 99, 108, 117, 100, 101]⟩ = true := by
  have h4 : wrdI r.tok ⟨#[105, 110, 99, 108, 117, 100, 101]⟩ = false := h
  rw [h4]; simp
 rw [if_neg h1]
 conv => whnf
 refine cI9 ?_ ?_<;>intro h2
 ·have h3 : wrdI r.tok ⟨#[100, 101, 108, 101, 116, 101, 45, 110, 111, 100, 101]⟩ = true := h2
  rw [if_pos h3]
  repeat ((conv => whnf); refine ⟨⟨rfl, rfl, hv, wrdI_kind h3, .inr (.inr (.inl rfl))⟩, ?_⟩)
  conv => whnf
  exact eR9
 have h3 : ¬ wrdI r.tok ⟨#[100, 101, 108, 101, 116, 101, 45, 110, 111, 100, 101]⟩ = true := by
  have h4 : wrdI r.tok ⟨#[100, 101, 108, 101, 116, 101, 45, 110, 111, 100, 101]⟩ = false := h2
  rw [h4]; simp
 rw [if_neg h3]
 conv => whnf
 refine cI9 ?_ ?_<;>intro h5
 ·have h6 : r.tok.1 = 6 := oT9 h5
  rw [if_pos h6]
  repeat ((conv => whnf); refine ⟨⟨rfl, rfl, hv, hk, .inr (.inr (.inl rfl))⟩, ?_⟩)
  conv => whnf
  exact eR9
 ·have h6 : ¬ r.tok.1 = 6 := oF9 h5
  rw [if_neg h6]
  repeat ((conv => whnf); refine ⟨⟨rfl, rfl, hv, hk, .inr (.inr (.inr rfl))⟩, ?_⟩)
  conv => whnf
  exact eR9
def tvOk (t : TokV) (n : Nat) : Prop := t.text.size ≤ n ∧ 0 ≤ t.value ∧ t.value ≤ 4294967295
theorem tvOk_none (n : Nat) (k : Int) : tvOk { kind := k } n := ⟨nZ9 _, (show (0 : Int) ≤ 0 by decide), (show (0 : Int) ≤ 4294967295 by decide)⟩
theorem tvOk_text {l : List UInt8} {n : Nat} (k : Int) (h : l.length ≤ n) : tvOk { kind := k, text := B l } n := ⟨h, (show (0 : Int) ≤ 0 by decide), (show (0 : Int) ≤ 4294967295 by decide)⟩
theorem comp_rng (b : Int) (hb : 0 ≤ b) : ∀ (l : List UInt8) (v : Int), 0 ≤ v → 0 ≤ (compLgo b l v).1 ∧ (compLgo b l v).1 ≤ 4294967295 := by
 intro l
 induction l with
 | nil =>
  intro v hv
  unfold compLgo
  split
  ·exact ⟨by decide, by decide⟩
  ·exact ⟨hv, by omega⟩
 | cons d r ih =>
  intro v hv
  unfold compLgo
  split
  ·exact ⟨by decide, by decide⟩
  ·refine ih _ ?_
   have h1 := (digitV_range ((d.toNat : Nat) : Int)).1
   have h2 := Int.mul_nonneg hv hb
   split
   ·decide
   ·omega
theorem str_rng (N : Nat) : ∀ (k : Nat) (l : List UInt8) (out : List Int) (n : Nat), out.length + l.length ≤ N → tvOk (strL k l out n).1 N := by
 intro k
 induction k with
 | zero => intro l out n _; exact tvOk_none _ _
 | succ k ih =>
  intro l out n h
  cases l with
  | nil => exact tvOk_none _ _
  | cons a r =>
   simp only [zC9] at h
   simp only [strL]
   split
   ·exact tvOk_none _ _
   ·split
    ·refine ⟨?_, (show (0 : Int) ≤ 0 by decide), (show (0 : Int) ≤ 4294967295 by decide)⟩
     show (bytesOf out).size ≤ N
     have : (bytesOf out).size = out.length := by
      unfold bytesOf
      show (out.map _).toArray.size = _
      simp
     omega
    ·split
     ·split
      ·rename_i he
       refine ih _ _ _ ?_
       have h3 := escV_n (B (a :: r)) he
       have h4 : 1 ≤ (escL (a :: r)).2.1.toNat := by
        show 1 ≤ (escV (B (a :: r))).2.1.toNat
        omega
       rw [zP9, List.length_drop]
       simp only [zC9, zN9]
       omega
      ·exact tvOk_none _ _
     ·refine ih _ _ _ ?_
      rw [zP9]
      simp only [zC9, zN9]
      omega
theorem cut_rng (l : List UInt8) : tvOk (cutL l).1 l.length := by
 cases l with
 | nil => exact tvOk_none _ _
 | cons a r =>
  show tvOk (cutC a r).1 (r.length + 1)
  unfold cutC
  have hn := tw_len nameB (a :: r)
  have hw := tw_len wordB r
  have hs := tw_len slashB r
  simp only [zC9] at hn
  split
  ·unfold nameLx
   split
   ·split
    ·exact tvOk_none _ _
    ·exact tvOk_text _ (by omega)
   ·exact tvOk_text _ (by omega)
  ·split
   ·unfold numLx
    split
    ·refine ⟨nZ9 _, ?_⟩
     show 0 ≤ (compL _ _).1 ∧ (compL _ _).1 ≤ 4294967295
     unfold compL
     split
     ·exact ⟨by decide, by decide⟩
     ·refine comp_rng _ ?_ _ _ (Int.le_refl 0)
      unfold splitL
      split
      ·exact (show (0 : Int) ≤ 16 by decide)
      ·split
       ·exact (show (0 : Int) ≤ 8 by decide)
       ·exact (show (0 : Int) ≤ 10 by decide)
    ·exact tvOk_none _ _
   ·split
    ·have := str_rng r.length (r.length + 1) r [] 1 (by simp)
     exact ⟨Nat.le_succ_of_le this.1, this.2⟩
    ·split
     ·exact tvOk_text _ (by omega)
     ·split
      ·exact tvOk_text _ (by omega)
      ·split
       ·refine tvOk_text _ ?_
        rw [List.length_take]
        simp only [zC9]
        omega
       ·exact tvOk_none _ _
theorem skipL_len : ∀ (k : Nat) (l : List UInt8) (p : Int × Int), (skipL k l p).2.1.length ≤ l.length := by
 intro k
 induction k with
 | zero => intro l p; exact nR9 _
 | succ k ih =>
  intro l p
  unfold skipL
  split
  ·exact nR9 _
  ·refine Nat.le_trans (ih _ _) ?_
   rw [List.length_drop]
   omega
def tkFit (t : tkC.den) : Prop := t.2.1.size ≤ 16000 ∧ 0 ≤ t.2.2.1 ∧ t.2.2.1 ≤ 4294967295
theorem readL_fit (f : Int) : ∀ (k : Nat) (l : List UInt8) (p : Int × Int) (zs : List tokC.den), l.length ≤ 16000 → (∀ t ∈ zs, tkFit t) → ∀ t ∈ (readL f k l p zs).toks, tkFit t := by
 intro k
 induction k with
 | zero => intro l p zs _ _ t ht; cases ht
 | succ k ih =>
  intro l p zs hl hz t ht
  have hs : (skipA l p).2.1.length ≤ l.length := skipL_len _ _ _
  have hc := cut_rng (skipA l p).2.1
  have hadd : ∀ t ∈ zs ++ [tokD (cutL (skipA l p).2.1).1 f (skipA l p).2.2], tkFit t := fun t ht => by
   rcases List.mem_append.1 ht with h1 | h1
   ·exact hz t h1
   ·obtain rfl := List.mem_singleton.1 h1
    exact ⟨Nat.le_trans hc.1 (by omega), hc.2⟩
  simp only [readL] at ht
  split at ht
  ·split at ht
   ·split at ht
    ·exact hadd t ht
    ·refine ih _ _ _ ?_ hadd t ht
     rw [List.length_drop]
     omega
   ·cases ht
  ·cases ht
theorem readV_fit (s : ByteArray) (f : Int) : ∀ t ∈ (readV s f).toks, tkFit t := by
 intro t ht
 by_cases h : s.size ≤ 16000
 ·obtain ⟨l, rfl⟩ : ∃ l, s = B l := ⟨s.data.toList, rfl⟩
  rw [readV_L l f h] at ht
  exact readL_fit f _ l _ [] h (fun t h => by cases h) t ht
 ·unfold readV at ht
  rw [if_pos (by omega)] at ht
  cases ht
theorem srV_vld' {s : ByteArray} {f : Int} (h0 : (readV s f).err = 0) : Vld ⟨(readV s f).toks, 0, 0, []⟩ := by
 obtain ⟨h1, h2⟩ := rV_end s f
 obtain ⟨ys, e, h3, h4⟩ := h2 h0
 refine ⟨by show (readV s f).toks.length ≤ 6001; omega, ?_, ?_, readV_fit s f, nR9 _, nZ9 _⟩
 ·show 0 < (readV s f).toks.length
  rw [h3]; simp
 ·intro i hi
  show ((readV s f).toks.getD i tkC.dflt).1 = 8
  have hi' : i + 1 = (readV s f).toks.length := hi
  rw [h3] at hi' ⊢
  have : i = ys.length := by simpa using hi'
  subst this
  rw [List.getD_eq_getElem?_getD]
  simp [h4]
def Z4 : Table := ext Z3 73 (looks (looksR da0 ea0 (fun r _ => TokP r) fun r _ => tokA r.tok))
theorem z4 : TS9 Z4 := by
 refine extLR z3 73 (fn := Tryz.f73) rfl rfl da0 ea0 _ _ (fun _ => nB9 rfl) [0, 2] fun r _ hs => ?_
 obtain ⟨hn, hl⟩ := hs
 have h0 : 0 ≤ (r.at_ : Int) ∧ (r.at_ : Int) < (r.toks.length : Nat) := by omega
 repeat ((conv => whnf); refine ⟨by first | exact h0 | exact rfl, ?_⟩)
 conv => whnf
 exact eR9
def Z5 : Table := ext Z4 60 (saysSI fun s f => (none, (srcV s f).sv))
theorem z5 : TS9 Z5 := by
 refine extSI z4 60 (fn := Tryz.f60) rfl rfl (by decide) _ [0, 1, 4, 5, 6, 7, 8, 9, 10, 11, 20, 27, 30] fun s f _ => ?_
 conv => whnf
 refine cI9 ?_ ?_<;>intro h
 ·have h1 : ¬ (readV s f).err = 0 := by
   have h2 : (!decide ((readV s f).err = 0)) = true := h
   simpa using h2
  repeat ((conv => whnf); refine ⟨rfl, ?_⟩)
  conv => whnf
  refine eO9 (fun G v hv => ?_) rfl
  have := nil_sle defC G v hv
  show RepS G (srcV s f).sv v
  unfold srcV
  rw [if_neg h1]
  exact this
 have h1 : (readV s f).err = 0 := by
  have h2 : (!decide ((readV s f).err = 0)) = false := h
  simpa using h2
 have hv := srV_vld' h1
 have hS : srcV s f = (let x := topsS (readV s f).toks.length ⟨(readV s f).toks, 0, 0, []⟩
   if x.1 = 0 then ⟨x.2.defs, 0, 0, 0, 0⟩ else ⟨[], x.2.tok.2.2.2.1, x.2.tok.2.2.2.2.1, x.2.tok.2.2.2.2.2, x.1⟩) := by
  unfold srcV
  rw [if_pos h1]
 conv => whnf
 refine loop_weak (σ := Sr × Nat) (fun _ => [(0, nX9), (1, nX9), (4, nX9), (5, XV.s (.a (.c (.ptr 0 0)))), (6, nX9), (7, nX9), (8, nX9), (9, nX9), (10, XV.s (.a (.c (.ptr 2 0)))), (11, nX9), (20, nX9), (27, nX9), (30, nX9)])
  (fun ⟨q, _⟩ => [.row [.int .i64 0, .int .i64 0, .int .i64 0], .row [.int .i64 (readV s f).file, .int .i64 (readV s f).line, .int .i64 (readV s f).column], .row [.p (.l tkC q.toks), .int .i64 q.at_, .int .i64 q.bod, .own 3 defC q.defs], .tok 39 defC q.defs.length true])
  (fun ⟨q, n⟩ => Vld q ∧ q.toks = (readV s f).toks ∧ q.toks.length ≤ n + q.at_ ∧ topsS n q = topsS (readV s f).toks.length ⟨(readV s f).toks, 0, 0, []⟩) (fun ⟨_, n⟩ => n)
  (⟨(readV s f).toks, 0, 0, []⟩, (readV s f).toks.length) ?_ ?_ ?_
 ·refine (Weak.cell 2 rfl 3 rfl 39 defC).trans (Weak.le _ ?_)
  repeat first|exact lN9|refine lD9 ?_|refine lS9 ?_
 ·exact ⟨hv, rfl, Nat.le_add_right _ _, rfl⟩
 rintro ⟨q, n⟩ ⟨hq, htk, hl, hgo⟩
 have hql := hq.lt
 have hp := hq.tokP
 obtain ⟨n, rfl⟩ : ∃ j, n = j + 1 := ⟨n - 1, by omega⟩
 simp only [topsS] at hgo
 repeat ((conv => whnf); refine ⟨⟨rfl, rfl, hp⟩, ?_⟩)
 conv => whnf
 refine cI9 ?_ ?_<;>intro h3
 ·have h4 : ¬ q.tok.1 = 8 := by
   have h5 : (!decide (q.tok.1 = 8)) = true := h3
   simpa using h5
  rw [if_neg h4] at hgo
  have g := topS_good hq
  have hp2 : TokP (topS q).2 := ⟨by rw [g.adv.toks]; exact hq.len, by rw [g.adv.toks]; exact g.adv.lt⟩
  repeat ((conv => whnf); refine ⟨⟨rfl, rfl, hq⟩, ?_⟩)
  conv => whnf
  refine cI9 ?_ ?_<;>intro h5
  ·have h6 : ¬ (topS q).1 = 0 := by
    have h7 : (!decide ((topS q).1 = 0)) = true := h5
    simpa using h7
   rw [if_neg h6] at hgo
   repeat ((conv => whnf); refine ⟨⟨rfl, rfl, hp2⟩, ?_⟩)
   conv => whnf
   refine eO9 (fun G v hv => ?_) rfl
   have hw := nil_sle defC G v hv
   show RepS G (srcV s f).sv v
   rw [hS]
   simp only
   rw [← hgo, if_neg h6]
   exact hw
  ·have h6 : (topS q).1 = 0 := by
    have h7 : (!decide ((topS q).1 = 0)) = false := h5
    simpa using h7
   rw [if_pos h6] at hgo
   rw [h6] at g
   conv => whnf
   refine hI9 ((topS q).2, n) ?_ ?_ ?_ ?_
   ·repeat first|exact lN9|refine lD9 ?_|refine lS9 ?_
   ·rfl
   ·refine ⟨g.vld hq, g.adv.toks.trans htk, ?_, hgo⟩
    rw [g.adv.toks]
    have := (g.ok rfl).1
    show q.toks.length ≤ n + (topS q).2.at_
    omega
   ·exact nS9 n
 ·have h4 : q.tok.1 = 8 := by
   have h5 : (!decide (q.tok.1 = 8)) = false := h3
   simpa using h5
  rw [if_pos h4] at hgo
  conv => whnf
  refine eT9 ?_
  show _ = (srcV s f).sv
  rw [hS]
  simp only
  rw [← hgo, if_pos rfl]
  rfl
def CT.fit : (t : CT) → t.den → Prop
 | .list e, zs => (zs : List e.den).length ≤ 9223372036854775807 ∧ ∀ z ∈ (zs : List e.den), e.fit z
 | .pair a b, z => a.fit z.1 ∧ b.fit z.2
 | _, _ => True
theorem fit_at {e : CT} {l : List e.den} (h : (CT.list e).fit l) {i : Nat} (hi : i < l.length) : e.fit l[i] := h.2 _ (List.getElem_mem hi)
theorem eq_pref {α : Type} {a b : List α} (hl : a.length = b.length) (h : ∀ i : Nat, i < a.length → a[i]? = b[i]?) : a = b := by
 apply List.ext_getElem?
 intro i
 rcases Nat.lt_or_ge i a.length with h1 | h1
 ·exact h i h1
 ·rw [List.getElem?_eq_none (by omega), List.getElem?_eq_none (by omega)]
theorem ne_at {α : Type} {a b : List α} {i : Nat} (ha : i < a.length) (hb : i < b.length) (h : ¬ a[i] = b[i]) : ¬ a = b := fun hab => h (by subst hab; rfl)
def celsB (a b : List celC.den) : Bool := decide (a = b)
def prtB (a b : prtC.den) : Bool := decide (a.1 = b.1) && decide (a.2.2 = b.2.2) && celsB a.2.1 b.2.1
theorem prtB_iff {a b : prtC.den} : prtB a b = true ↔ a = b := by
 obtain ⟨a1, a2, a3⟩ := a
 obtain ⟨b1, b2, b3⟩ := b
 unfold prtB celsB
 simp only [Bool.and_eq_true, decide_eq_true_eq]
 constructor
 ·rintro ⟨⟨rfl, rfl⟩, rfl⟩; rfl
 ·intro h
  cases h
  exact ⟨⟨rfl, rfl⟩, rfl⟩
instance : DecidableEq prtC.den := fun a b => decidable_of_iff _ (prtB_iff (a := a) (b := b))
def prtsB (a b : List prtC.den) : Bool := decide (a = b)
def defB (a b : defC.den) : Bool := (decide (a.2.2.2.2.1 = b.2.2.2.2.1) && (decide (a.2.2.2.2.2.1 = b.2.2.2.2.2.1) && decide (a.2.2.2.2.2.2 = b.2.2.2.2.2.2))) && decide (a.1 = b.1) && decide (a.2.1 = b.2.1) && decide (a.2.2.1 = b.2.2.1) && prtsB a.2.2.2.1 b.2.2.2.1
theorem defB_iff {a b : defC.den} : defB a b = true ↔ a = b := by
 obtain ⟨a1, a2, a3, a4, a5, a6, a7⟩ := a
 obtain ⟨b1, b2, b3, b4, b5, b6, b7⟩ := b
 unfold defB prtsB
 simp only [Bool.and_eq_true, decide_eq_true_eq]
 constructor
 ·rintro ⟨⟨⟨⟨⟨rfl, rfl, rfl⟩, rfl⟩, rfl⟩, rfl⟩, rfl⟩; rfl
 ·intro h
  cases h
  exact ⟨⟨⟨⟨⟨rfl, rfl, rfl⟩, rfl⟩, rfl⟩, rfl⟩, rfl⟩
instance : DecidableEq defC.den := fun a b => decidable_of_iff _ (defB_iff (a := a) (b := b))
def defsB (a b : List defC.den) : Bool := decide (a = b)
abbrev prtA1 (p : prtC.den) : AV := .agg [.int .i64 p.1, .p (.l celC p.2.1), .str p.2.2]
def saysPP (g : prtC.den → prtC.den → Option Prop × SV) : Says := fun args H => match args, H with
 | [.agg [.p (.v (.int .i64 k)), .p (.l (.pair (.int .i64) .str) a), .p (.v (.string t))], .agg [.p (.v (.int .i64 k')), .p (.l (.pair (.int .i64) .str) b), .p (.v (.string t'))]], [] => some ((g (k, a, t) (k', b, t')).1, (g (k, a, t) (k', b, t')).2, [])
 | _, _ => none
def saysDs (g : List defC.den → List defC.den → Option Prop × SV) : Says := fun args H => match args, H with
 | [.c (.p (.l (.pair (.int .i64) (.pair .str (.pair .str (.pair (.list (.pair (.int .i64) (.pair (.list (.pair (.int .i64) .str)) .str))) (.pair (.int .i64) (.pair (.int .i64) (.int .i64))))))) a)), .c (.p (.l (.pair (.int .i64) (.pair .str (.pair .str (.pair (.list (.pair (.int .i64) (.pair (.list (.pair (.int .i64) .str)) .str))) (.pair (.int .i64) (.pair (.int .i64) (.int .i64))))))) b))], [] => some ((g a b).1, (g a b).2, [])
 | _, _ => none
theorem extD {α : Type} {P : Program} {T : Table} (hT : TSound P T) (f : FuncId) {fn : Func} (hf : P.funcs[f]? = some fn) (hname : NG9 fn) (says : Says) (ea : α → α → List AV) (g : α → α → Option Prop × SV) (hs0 : ∀ args H p r H', says args H = some (p, r, H') → ∃ a b, args = ea a b ∧ H = [] ∧ p = (g a b).1 ∧ r = (g a b).2 ∧ H' = []) (hn : ∀ a b, (ea a b).length ≤ fn.ntmps) (ks : List Nat)
  (h : ∀ a b, holdsO (g a b).1 → runF ⟨P, T⟩ fn ks [] (ea a b) [] fun r' H'' => Ends r' H'' (g a b).2 []) : TSound P (ext T f says) :=
 ext_run hT hf hname ks fun args H p r H' hs hp => by
  obtain ⟨a, b, rfl, rfl, rfl, rfl, rfl⟩ := hs0 _ _ _ _ _ hs
  exact ⟨hn a b, [], rfl, nK9, h _ _ hp⟩
theorem pp_out (g : prtC.den → prtC.den → Option Prop × SV) : ∀ args H p r H', saysPP g args H = some (p, r, H') → ∃ a b, args = [prtA1 a, prtA1 b] ∧ H = [] ∧ p = (g a b).1 ∧ r = (g a b).2 ∧ H' = [] := fun args H p r H' h => by
 unfold saysPP at h
 split at h
 ·rename_i k a t k' b t'; cases h; exact ⟨(k, a, t), (k', b, t'), rfl, rfl, rfl, rfl, rfl⟩
 ·cases h
theorem ds_out (g : List defC.den → List defC.den → Option Prop × SV) : ∀ args H p r H', saysDs g args H = some (p, r, H') → ∃ a b, args = [.c (.p (.l defC a)), .c (.p (.l defC b))] ∧ H = [] ∧ p = (g a b).1 ∧ r = (g a b).2 ∧ H' = [] := fun args H p r H' h => by
 unfold saysDs at h
 split at h
 ·rename_i a b; cases h; exact ⟨a, b, rfl, rfl, rfl, rfl, rfl⟩
 ·cases h
theorem len_ne {α : Type} {a b : List α} (h : (!decide ((a.length : Int) = (b.length : Int))) = true) : ¬ a.length = b.length := by
 simp at h
 omega
theorem len_eq {α : Type} {a b : List α} (h : (!decide ((a.length : Int) = (b.length : Int))) = false) : a.length = b.length := by
 simp at h
 omega
theorem or_f {a b : Bool} (h : (a || b) = false) : a = false ∧ b = false := Bool.or_eq_false_iff.1 h
theorem nd_f {p : Prop} [Decidable p] (h : (!decide p) = false) : p := by simpa using h
section
variable {T : Table} (hT : TS9 T)
abbrev Q6 (T : Table) : Table := T
include hT in theorem q6 : TS9 (Q6 T) := hT
abbrev Q7 (T : Table) : Table := ext (Q6 T) 18 (saysPP fun a b => (some (prtC.fit a), .bool (prtB a b)))
include hT in
theorem q7 : TS9 (Q7 T) := by
 refine extD (q6 hT) 18 (fn := Tryz.f18) rfl rfl _ _ _ (pp_out _) (fun _ _ => nB9 rfl) [0, 1, 2, 3, 4, 5, 26, 29, 30, 31, 43] fun p p' hs => ?_
 obtain ⟨k, a, t⟩ := p
 obtain ⟨k', b, t'⟩ := p'
 have hf : (CT.list celC).fit a := hs.2.1
 have hl : (a : List celC.den).length ≤ 9223372036854775807 := hf.1
 have hB : prtB (k, a, t) (k', b, t') = (decide (k = k') && decide (t = t') && decide (a = b)) := rfl
 rw [hB]
 conv => whnf
 refine cI9 ?_ ?_<;>intro h0
 ·have h1 : ¬ (k = k' ∧ t = t' ∧ a = b) := fun ⟨e1, e2, e3⟩ => by
   subst e1 e2 e3
   have h2 : (!decide (k = k) || !decide (t = t) || !decide ((a.length : Int) = (a.length : Int))) = true := h0
   simp at h2
  conv => whnf
  refine eE9 ⟨congrArg SV.bool ?_, rfl⟩
  symm
  rw [Bool.and_eq_false_iff, Bool.and_eq_false_iff]
  by_cases e1 : k = k'
  ·by_cases e2 : t = t'
   ·exact .inr (dF9 fun e3 => h1 ⟨e1, e2, e3⟩)
   ·exact .inl (.inr (dF9 e2))
  ·exact .inl (.inl (dF9 e1))
 have h2 : (!decide (k = k') || !decide (t = t') || !decide ((a.length : Int) = (b.length : Int))) = false := h0
 have e1 : k = k' := nd_f (or_f (or_f h2).1).1
 have e2 : t = t' := nd_f (or_f (or_f h2).1).2
 have h1 : a.length = b.length := len_eq (or_f h2).2
 subst e1 e2
 rw [dT9 (rfl : k = k), dT9 (rfl : t = t)]
 conv => whnf
 refine lI9 (σ := Nat) (fun j => [(0, nX9), (1, nX9), (2, XV.s (.a (.c (.ptr 0 0)))), (3, XV.s (.a (.c (.ptr 1 0)))), (4, nX9), (5, nX9), (26, nX9), (29, XV.s (.int .i64 a.length)), (30, XV.s (.int .i64 j)), (31, nX9), (43, nX9)]) (fun _ => [.row [.int .i64 k, .p (.l celC a), .str t], .row [.int .i64 k, .p (.l celC b), .str t]])
  (fun j => j ≤ a.length ∧ ∀ i : Nat, i < j → a[i]? = b[i]?) (fun j => a.length - j) 0 ?_ rfl ⟨nZ9 _, fun i hi => absurd hi (nN9 i)⟩ fun j hI => ?_
 ·repeat first|exact lN9|refine lD9 ?_|refine lS9 ?_
 obtain ⟨hj, hsame⟩ := hI
 conv => whnf
 refine cI9 ?_ ?_<;>intro g1
 ·have hlt : j < a.length := by have : (j : Int) < a.length := oT9 g1
                                omega
  have hin : 0 ≤ (j : Int) ∧ (j : Int) < (a.length : Nat) := by omega
  have hin2 : 0 ≤ (j : Int) ∧ (j : Int) < (b.length : Nat) := by omega
  have eqg : eqGood Tryz.prog 75 := ⟨by decide +kernel, by decide +kernel⟩
  repeat ((conv => whnf); refine ⟨by first | exact hin | exact hin2 | exact eqg | exact rfl, ?_⟩)
  conv => whnf
  have ex : a.getD ((j : Int)).toNat celC.dflt = a[j] := getD_get hlt
  have ey : b.getD ((j : Int)).toNat celC.dflt = b[j] := getD_get (by omega)
  refine cI9 ?_ ?_<;>intro g2
  ·have hne : ¬ a = b := fun hab => by
    subst hab
    simp at g2
   conv => whnf
   refine eE9 ⟨congrArg SV.bool ?_, rfl⟩
   rw [dF9 hne]
   rfl
  ·have heq : a[j] = b[j]'(by omega) := by
    rw [ex, ey] at g2
    generalize a[j] = x at g2
    generalize b[j]'(by omega) = y at g2
    obtain ⟨x1, x2⟩ := x
    obtain ⟨y1, y2⟩ := y
    simp only [Bool.not_eq_false', Bool.and_eq_true, decide_eq_true_eq] at g2
    obtain ⟨e1, e2⟩ := g2
    rw [e1, e2]
   repeat ((conv => whnf); refine ⟨by (unfold inI64; omega), ?_⟩)
   conv => whnf
   refine hI9 (j + 1) ?_ rfl ⟨hlt, fun i hi => ?_⟩ ?_
   ·repeat first|exact lN9|refine lD9 ?_|refine lS9 ?_
   ·rcases Nat.lt_succ_iff_lt_or_eq.1 hi with h4 | rfl
    ·exact hsame i h4
    ·rw [List.getElem?_eq_getElem hlt, List.getElem?_eq_getElem (by omega), heq]
   ·show a.length - (j + 1) < a.length - j
    omega
 ·have hja : j = a.length := by have : ¬ (j : Int) < a.length := oF9 g1
                                omega
  subst hja
  conv => whnf
  refine eE9 ⟨congrArg SV.bool ?_, rfl⟩
  rw [dT9 (eq_pref h1 hsame)]
  rfl
abbrev Q8 (T : Table) : Table := ext (Q7 T) 9 (saysDs fun a b => (some ((CT.list defC).fit a), .bool (defsB a b)))
set_option maxHeartbeats 1000000 in
include hT in
theorem q8 : TS9 (Q8 T) := by
 refine extD (q7 hT) 9 (fn := Tryz.f9) rfl rfl _ _ _ (ds_out _) (fun _ _ => nB9 rfl) [0, 1, 4, 5, 6, 7, 8, 13, 15, 16, 17, 61, 64, 65, 66, 79] fun a b hs => ?_
 have hf : (CT.list defC).fit a := hs
 have hl : (a : List defC.den).length ≤ 9223372036854775807 := hf.1
 conv => whnf
 refine cI9 ?_ ?_<;>intro h
 ·have h1 := len_ne h
  conv => whnf
  refine eT9 ?_
  rw [defsB, dF9 (fun h => h1 (by rw [h]))]
 have h1 := len_eq h
 conv => whnf
 refine lI9 (σ := Nat) (fun j => [(0, XV.s (.a (.c (.p (.l defC a))))), (1, XV.s (.a (.c (.p (.l defC b))))), (4, nX9), (5, nX9), (6, nX9), (7, nX9), (8, nX9), (13, nX9), (15, XV.s (.int .i64 a.length)), (16, XV.s (.int .i64 j)), (17, nX9), (61, nX9), (64, nX9), (65, nX9), (66, nX9), (79, nX9)]) (fun _ => [])
  (fun j => j ≤ a.length ∧ ∀ i : Nat, i < j → a[i]? = b[i]?) (fun j => a.length - j) 0 ?_ rfl ⟨nZ9 _, fun i hi => absurd hi (nN9 i)⟩ fun j hI => ?_
 ·repeat first|exact lN9|refine lD9 ?_|refine lS9 ?_
 obtain ⟨hj, hsame⟩ := hI
 conv => whnf
 refine cI9 ?_ ?_<;>intro g1
 ·have hlt : j < a.length := by have : (j : Int) < a.length := oT9 g1
                                omega
  have hin : 0 ≤ (j : Int) ∧ (j : Int) < (a.length : Nat) := by omega
  have hin2 : 0 ≤ (j : Int) ∧ (j : Int) < (b.length : Nat) := by omega
  have ex : a.getD ((j : Int)).toNat defC.dflt = a[j] := getD_get hlt
  have ey : b.getD ((j : Int)).toNat defC.dflt = b[j] := getD_get (by omega)
  have hfe : defC.fit (a.getD ((j : Int)).toNat defC.dflt) := by rw [ex]; exact fit_at hf hlt
  have nx : a.getD ((j : Int)).toNat defC.dflt = b.getD ((j : Int)).toNat defC.dflt → ∀ i : Nat, i < j + 1 → a[i]? = b[i]? := fun heq i hi => by
   rcases Nat.lt_succ_iff_lt_or_eq.1 hi with h4 | rfl
   ·exact hsame i h4
   ·rw [List.getElem?_eq_getElem hlt, List.getElem?_eq_getElem (by omega), ← ex, ← ey, heq]
  have no : ¬ a.getD ((j : Int)).toNat defC.dflt = b.getD ((j : Int)).toNat defC.dflt → ¬ a = b := fun hne => ne_at hlt (by omega) fun hab => hne (by rw [ex, ey, hab])
  have eqg : eqGood Tryz.prog 32 := ⟨by decide +kernel, by decide +kernel⟩
  repeat ((conv => whnf); refine ⟨by first | exact hin | exact hin2 | exact fun _ => eqg | (repeat ((conv => whnf); refine ⟨by ((conv => whnf); first | exact ⟨rfl, rfl, rfl⟩ | exact ⟨rfl, rfl⟩ | exact ⟨by assumption, rfl, rfl, rfl⟩), ?_⟩)); ((conv => whnf); exact trivial) | exact rfl, ?_⟩)
  conv => whnf
  generalize a.getD ((j : Int)).toNat defC.dflt = x at *
  generalize b.getD ((j : Int)).toNat defC.dflt = y at *
  refine cI9 ?_ ?_<;>intro g2
  ·have g3 : (!decide (x.1 = y.1) || !decide (x.2.1 = y.2.1) || !decide (x.2.2.1 = y.2.2.1) || !(decide (x.2.2.2.2.1 = y.2.2.2.2.1) && (decide (x.2.2.2.2.2.1 = y.2.2.2.2.2.1) && decide (x.2.2.2.2.2.2 = y.2.2.2.2.2.2))) || !decide ((x.2.2.2.1.length : Int) = (y.2.2.2.1.length : Int))) = true := g2
   have hne : ¬ a = b := no fun hxy => by
    subst hxy
    simp at g3
   conv => whnf
   refine eT9 ?_
   rw [defsB, dF9 hne]
  have g3 : (!decide (x.1 = y.1) || !decide (x.2.1 = y.2.1) || !decide (x.2.2.1 = y.2.2.1) || !(decide (x.2.2.2.2.1 = y.2.2.2.2.1) && (decide (x.2.2.2.2.2.1 = y.2.2.2.2.2.1) && decide (x.2.2.2.2.2.2 = y.2.2.2.2.2.2))) || !decide ((x.2.2.2.1.length : Int) = (y.2.2.2.1.length : Int))) = false := g2
  have g4 : x.1 = y.1 ∧ x.2.1 = y.2.1 ∧ x.2.2.1 = y.2.2.1 ∧ x.2.2.2.2 = y.2.2.2.2 := by
   have h4 := or_f (or_f g3).1
   have h5 := or_f (or_f h4.1).1
   refine ⟨nd_f h5.1, nd_f h5.2, nd_f (or_f h4.1).2, ?_⟩
   have h6 := h4.2
   simp only [Bool.not_eq_false', Bool.and_eq_true, decide_eq_true_eq] at h6
   exact Prod.ext h6.1 (Prod.ext h6.2.1 h6.2.2)
  have h2 : x.2.2.2.1.length = y.2.2.2.1.length := len_eq (or_f g3).2
  have hpf : (CT.list prtC).fit x.2.2.2.1 := hfe.2.2.2.1
  have hpl : x.2.2.2.1.length ≤ 9223372036854775807 := hpf.1
  conv => whnf
  refine lI9 (σ := Nat) (fun i => [(0, XV.s (.a (.c (.p (.l defC a))))), (1, XV.s (.a (.c (.p (.l defC b))))), (4, nX9), (5, nX9), (6, XV.s (.a (.c (.ptr 0 0)))), (7, XV.s (.a (.c (.ptr 1 0)))), (8, nX9), (13, nX9), (15, XV.s (.int .i64 a.length)), (16, XV.s (.int .i64 j)), (17, nX9), (61, nX9), (64, XV.s (.int .i64 x.2.2.2.1.length)), (65, XV.s (.int .i64 i)), (66, nX9), (79, nX9)]) (fun _ => [.row [.int .i64 x.1, .str x.2.1, .str x.2.2.1, .p (.l prtC x.2.2.2.1), .int .i64 x.2.2.2.2.1, .int .i64 x.2.2.2.2.2.1, .int .i64 x.2.2.2.2.2.2], .row [.int .i64 y.1, .str y.2.1, .str y.2.2.1, .p (.l prtC y.2.2.2.1), .int .i64 y.2.2.2.2.1, .int .i64 y.2.2.2.2.2.1, .int .i64 y.2.2.2.2.2.2]])
   (fun i => i ≤ x.2.2.2.1.length ∧ ∀ k : Nat, k < i → x.2.2.2.1[k]? = y.2.2.2.1[k]?) (fun i => x.2.2.2.1.length - i) 0 ?_ rfl ⟨nZ9 _, fun i hi => absurd hi (nN9 i)⟩ fun i hI2 => ?_
  ·repeat first|exact lN9|refine lD9 ?_|refine lS9 ?_
  obtain ⟨hi, hsame2⟩ := hI2
  conv => whnf
  refine cI9 ?_ ?_<;>intro g5
  ·have hlt2 : i < x.2.2.2.1.length := by have : (i : Int) < x.2.2.2.1.length := oT9 g5
                                          omega
   have hin3 : 0 ≤ (i : Int) ∧ (i : Int) < (x.2.2.2.1.length : Nat) := by omega
   have hin4 : 0 ≤ (i : Int) ∧ (i : Int) < (y.2.2.2.1.length : Nat) := by omega
   have ex2 : x.2.2.2.1.getD ((i : Int)).toNat prtC.dflt = x.2.2.2.1[i] := getD_get hlt2
   have ey2 : y.2.2.2.1.getD ((i : Int)).toNat prtC.dflt = y.2.2.2.1[i] := getD_get (by omega)
   have hfp : prtC.fit (x.2.2.2.1.getD ((i : Int)).toNat prtC.dflt) := by rw [ex2]; exact fit_at hpf hlt2
   repeat ((conv => whnf); refine ⟨by first | exact hin3 | exact hin4 | exact hfp | exact rfl, ?_⟩)
   conv => whnf
   refine cI9 ?_ ?_<;>intro g6
   ·have g7 : (!prtB (x.2.2.2.1.getD ((i : Int)).toNat prtC.dflt) (y.2.2.2.1.getD ((i : Int)).toNat prtC.dflt)) = true := g6
    have hne : ¬ a = b := no fun hxy => by
     subst hxy
     rw [prtB_iff.2 rfl] at g7
     cases g7
    conv => whnf
    refine eT9 ?_
    rw [defsB, dF9 hne]
   ·have g7 : (!prtB (x.2.2.2.1.getD ((i : Int)).toNat prtC.dflt) (y.2.2.2.1.getD ((i : Int)).toNat prtC.dflt)) = false := g6
    have heq : x.2.2.2.1[i] = y.2.2.2.1[i]'(by omega) := by
     rw [ex2, ey2] at g7
     exact prtB_iff.1 (by simpa using g7)
    repeat ((conv => whnf); refine ⟨by (unfold inI64; omega), ?_⟩)
    conv => whnf
    refine hI9 (i + 1) ?_ rfl ⟨hlt2, fun k hk => ?_⟩ ?_
    ·repeat first|exact lN9|refine lD9 ?_|refine lS9 ?_
    ·rcases Nat.lt_succ_iff_lt_or_eq.1 hk with h4 | rfl
     ·exact hsame2 k h4
     ·rw [List.getElem?_eq_getElem hlt2, List.getElem?_eq_getElem (by omega), heq]
    ·show x.2.2.2.1.length - (i + 1) < x.2.2.2.1.length - i
     omega
  ·have hii : i = x.2.2.2.1.length := by have : ¬ (i : Int) < x.2.2.2.1.length := oF9 g5
                                         omega
   subst hii
   have hxy : x = y := Prod.ext g4.1 (Prod.ext g4.2.1 (Prod.ext g4.2.2.1 (Prod.ext (eq_pref h2 hsame2) g4.2.2.2)))
   repeat ((conv => whnf); refine ⟨by (unfold inI64; omega), ?_⟩)
   conv => whnf
   refine kI9 (j + 1) [] rfl (nK9) rfl ?_ ⟨hlt, nx hxy⟩ ?_
   ·repeat first|exact kN9|refine kD9 ?_|refine kR9 rfl ?_
   ·show a.length - (j + 1) < a.length - j
    omega
 ·have hja : j = a.length := by have : ¬ (j : Int) < a.length := oF9 g1
                                omega
  subst hja
  conv => whnf
  refine eT9 ?_
  rw [defsB, dT9 (eq_pref h1 hsame)]
end
end Go.Ab
