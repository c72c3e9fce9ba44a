/- Package include: Load. -/
import Derived.Test.YtkgcgbpclpmleaaGreatTY21toY49
import Derived.Test.YtkgcgbpclpmleaaGreatTX13toY42
import Derived.Test.YtkgcgbpclpmleaaGreatTR19toS10
namespace Go.Ab
open Go.Proofs
set_option linter.unusedSectionVars false
set_option maxRecDepth 100000
variable [Glob]
theorem ext_weakG {P : Program} {T : Table} (hT : TSound P T) (f : FuncId) (s : Says)
  (h : ∀ args H p r H', s args H = some (p, r, H') → holdsO p → ∃ p' H2, callWith ⟨P, T⟩ f args H2 = some (p', r, H') ∧ holdsO p' ∧ ∀ G : View, Sim G → G.H = H → ∃ G' : View, G'.w = G.w ∧ Ext G G' ∧ Sim G' ∧ G'.H = H2) : TSound P (ext T f s) :=
 ext_sound hT fun args H p r H' hs hp G hS hH cargs ha => by
  obtain ⟨p', H2, hc, hp', hw⟩ := h args H p r H' hs hp
  obtain ⟨G1, hw1, hx, hS1, hH1⟩ := hw G hS hH
  have := callWith_sound (M := ⟨P, T⟩) hT hS1 (by rw [hH1]; exact hc) hp' (ha.mono fun _ _ h => h.mono hx)
  exact this.trans hw1 hx
def ldO (K : Nat) (fs : List flC.den) (nm : ByteArray) : Option LdR := incF K nm (0, 0, 0) ⟨fs, [], [], []⟩
def ldX (K : Nat) (fs : List flC.den) (nm : ByteArray) : LdR := (ldO K fs nm).getD (((0, 0, 0), 0), ⟨fs, [], [], []⟩)
abbrev nilB : AC := .p (.v (.slice none 0 0))
abbrev ldN (fs : List flC.den) : List AO := [.row [.p (.l flC fs), nilB, .mp 1, nilB], .map .str spC []]
abbrev ldF (l : Ld) : List AO := [.row [.p (.l flC l.files), .own 2 .str l.names, .mp 1, .own 3 defC l.defs], .map .str spC l.es, .tok 9 .str l.names.length true, .tok 39 defC l.defs.length true]
def saysLdN (K : Nat) : Says := fun args H => match args, H with
 | .c (.ptr 0 0) :: al, [.row [a, _, _, _], .map _ _ _] => match daInc al, daFl (.c a) with
  | some x, some fs => some (some (al = eaInc x ∧ x.2 = (0, 0, 0) ∧ H = ldN fs ∧ fs.length ≤ 1000000000 ∧ (ldO K fs x.1).isSome = true), resL (ldX K fs x.1).1, ldF (ldX K fs x.1).2)
  | _, _ => none
 | _, _ => none
theorem weak_ld (fs : List flC.den) : ∀ G : View, Sim G → G.H = ldN fs → ∃ G' : View, G'.w = G.w ∧ Ext G G' ∧ Sim G' ∧ G'.H = ldF ⟨fs, [], [], []⟩ := by
 intro G hS hH
 obtain ⟨G1, w1, x1, s1, h1⟩ := weak_ow hS (id := 0) (by rw [hH]; rfl) 1 rfl 9 .str
 rw [hH] at h1
 obtain ⟨G2, w2, x2, s2, h2⟩ := weak_ow s1 (id := 0) (by rw [h1]; rfl) 3 rfl 39 defC
 rw [h1] at h2
 exact ⟨G2, w2.trans w1, x1.trans x2, s2, h2⟩
theorem call_ld (K : Nat) (fs : List flC.den) (nm : ByteArray) : callWith ⟨Tryz.prog, tI Z5 K⟩ 28 (.c (.ptr 0 0) :: eaInc (nm, (0, 0, 0))) (ldF ⟨fs, [], [], []⟩) =
  some (some (eaInc (nm, (0, 0, 0)) = eaInc (nm, (0, 0, 0)) ∧ ldH ⟨fs, [], [], []⟩ = ldH ⟨fs, [], [], []⟩ ∧ fs.length ≤ 1000000000 ∧ (ldO K fs nm).isSome = true), resL (ldX K fs nm).1, ldF (ldX K fs nm).2) := by
 have g1 : gather (ldF ⟨fs, [], [], []⟩) (.c (.ptr 0 0) :: eaInc (nm, (0, 0, 0))) = [0, 2, 1, 3] := (gatherK_eq _ _ fun L => L).symm.trans (by conv => lhs; whnf)
 have g2 : renAs [0, 2, 1, 3] (.c (.ptr 0 0) :: eaInc (nm, (0, 0, 0))) = some (.c (.ptr 0 0) :: eaInc (nm, (0, 0, 0))) := by rfl
 have g3 : subH [0, 2, 1, 3] (ldF ⟨fs, [], [], []⟩) [0, 2, 1, 3] = some (ldH ⟨fs, [], [], []⟩) := by rfl
 have g4 : tI Z5 K 28 (.c (.ptr 0 0) :: eaInc (nm, (0, 0, 0))) (ldH ⟨fs, [], [], []⟩) = some (some (eaInc (nm, (0, 0, 0)) = eaInc (nm, (0, 0, 0)) ∧ ldH ⟨fs, [], [], []⟩ = ldH ⟨fs, [], [], []⟩ ∧ fs.length ≤ 1000000000 ∧ (ldO K fs nm).isSome = true), resL (ldX K fs nm).1, ldH (ldX K fs nm).2) := by rfl
 unfold callWith callWithL
 rw [g1, g2, g3]
 have g5 : nodup [0, 2, 1, 3] = true := by rfl
 rw [g5]
 simp only [g4]
 rfl
abbrev J1 (K : Nat) : Table := ext (tI Z5 K) 28 (saysLdN K)
theorem j1 (K : Nat) : TS9 (J1 K) := by
 refine ext_weakG (tIk K) 28 _ fun args H p r H' hs hp => ?_
 unfold saysLdN at hs
 split at hs
 ·split at hs
  ·rename_i al a _ _ _ _ _ _ x fs _ _
   cases hs
   obtain ⟨rfl, hps, hH, hl, hsm⟩ := hp
   rw [hH]
   obtain ⟨nm, ps⟩ := x
   obtain rfl : ps = (0, 0, 0) := hps
   refine ⟨_, ldF ⟨fs, [], [], []⟩, call_ld K fs nm, ⟨rfl, rfl, hl, hsm⟩, weak_ld fs⟩
  ·cases hs
 ·cases hs
structure LoV where
 names : List ByteArray
 defs : List defC.den
 pos : Ps
 err : Int
def LoV.bad (p : Ps) (e : Int) : LoV := ⟨[], [], p, e⟩
def loX (x : LdR) : LoV := if x.1.2 = 0 then ⟨x.2.names, x.2.defs, (0, 0, 0), 0⟩ else .bad x.1.1 x.1.2
def loV (K : Nat) (fs : List flC.den) (nm : ByteArray) : LoV := if chkV fs = 0 then loX (ldX K fs nm) else .bad (0, 0, 0) (chkV fs)
def LoV.ld (v : LoV) : SV := .tup [.agg [.any, .p (.l .str v.names), .any, .p (.l defC v.defs)], .agg (psA v.pos), .c (.int .i64 v.err)]
def LoV.sv (v : LoV) : SV := .tup [.c (.p (.l defC v.defs)), .agg (psA v.pos), .c (.int .i64 v.err)]
theorem one_l {I : Cells} {w : World} {e : CT} {zs : List e.den} {v : Value} (h : RepV I w (.l e zs) v) : v.oneCell' = true := RepV.oneCell h
theorem agg_any {G : View} {a b c d : AC} {rest : List AV} {v : Value} {a' b' c' d' : AC} (ha : ∀ x, RepC G a x → RepC G a' x) (hb : ∀ x, RepC G b x → RepC G b' x) (hc : ∀ x, RepC G c x → RepC G c' x) (hd : ∀ x, RepC G d x → RepC G d' x)
  (h : RepS G (.tup (.agg [a, b, c, d] :: rest)) v) : RepS G (.tup (.agg [a', b', c', d'] :: rest)) v := by
 obtain ⟨vs, rfl, hv⟩ := h
 cases hv with
 | cons h1 t =>
  obtain ⟨cs, rfl, hcs⟩ := h1
  cases hcs with
  | cons h1 t1 => cases t1 with
   | cons h2 t2 => cases t2 with
    | cons h3 t3 => cases t3 with
     | cons h4 t4 => exact ⟨_, rfl, .cons ⟨_, rfl, .cons (ha _ h1) (.cons (hb _ h2) (.cons (hc _ h3) (.cons (hd _ h4) t4)))⟩ t⟩
theorem any_l {G : View} {e : CT} {zs : List e.den} {x : Value} (h : RepC G (.p (.l e zs)) x) : RepC G .any x := one_l h
theorem nil_l {G : View} {e : CT} {x : Value} (h : RepC G nilB x) : RepC G (.p (.l e [])) x := by
 obtain ⟨_, rfl⟩ := h
 exact .inl ⟨rfl, rfl⟩
theorem nil_any {G : View} {x : Value} (h : RepC G nilB x) : RepC G .any x := by
 obtain ⟨_, rfl⟩ := h
 rfl
theorem map_any {G : View} {x : Value} (h : RepC G (.p (.v (.map none))) x) : RepC G .any x := by
 obtain ⟨_, rfl⟩ := h
 rfl
def saysLo (K : Nat) (g : LoV → SV) : Says := fun args H => match args, H with
 | [a, .c (.p (.v (.string n)))], [] => match daFl a with
  | some fs => some (some (args = [.c (.p (.l flC fs)), .c (.str n)] ∧ fs.length ≤ 1000000000 ∧ (ldO K fs n).isSome = true), g (loV K fs n), [])
  | none => none
 | _, _ => none
abbrev J2 (K : Nat) : Table := ext (J1 K) 17 (saysLo K LoV.ld)
theorem j2 (K : Nat) : TS9 (J2 K) := by
 refine ext_run (j1 K) (f := 17) (fn := Tryz.f17) rfl rfl [0, 1, 4, 5, 6, 7, 8, 9, 10, 14, 28] fun args H p r' H' hs hp => ?_
 unfold saysLo at hs
 split at hs
 ·split at hs
  ·rename_i a n _ fs _
   cases hs
   obtain ⟨ha, hl, hsm⟩ := hp
   rw [ha]
   refine ⟨nB9 rfl, [], rfl, nK9, ?_⟩
   unfold loV
   repeat ((conv => whnf); refine ⟨⟨rfl, hl⟩, ?_⟩)
   conv => whnf
   refine cI9 ?_ ?_<;>intro h
   ·have h1 : ¬ chkV fs = 0 := by
     have h2 : (!decide (chkV fs = 0)) = true := h
     simpa using h2
    rw [if_neg h1]
    conv => whnf
    refine eO9 (fun G v hv => ?_) rfl
    exact agg_any (fun _ h => nil_any h) (fun _ h => nil_l h) (fun _ h => map_any h) (fun _ h => nil_l h) hv
   have h1 : chkV fs = 0 := by
    have h2 : (!decide (chkV fs = 0)) = false := h
    simpa using h2
   rw [if_pos h1]
   repeat ((conv => whnf); refine ⟨⟨rfl, rfl, rfl, hl, hsm⟩, ?_⟩)
   conv => whnf
   unfold loX
   refine cI9 ?_ ?_<;>intro h3
   ·have h4 : ¬ (ldX K fs n).1.2 = 0 := by
     have h2 : (!decide ((ldX K fs n).1.2 = 0)) = true := h3
     simpa using h2
    rw [if_neg h4]
    conv => whnf
    refine ⟨by (conv => whnf); exact ⟨⟨rfl, rfl, rfl⟩, trivial⟩, ?_⟩
    repeat ((conv => whnf); refine ⟨rfl, ?_⟩)
    conv => whnf
    refine eO9 (fun G v hv => ?_) rfl
    exact agg_any (fun _ h => nil_any h) (fun _ h => nil_l h) (fun _ h => map_any h) (fun _ h => nil_l h) hv
   ·have h4 : (ldX K fs n).1.2 = 0 := by
     have h2 : (!decide ((ldX K fs n).1.2 = 0)) = false := h3
     simpa using h2
    rw [if_pos h4]
    conv => whnf
    refine eO9 (fun G v hv => ?_) rfl
    refine agg_any ?_ ?_ ?_ ?_ hv
    ·exact fun _ h => any_l h
    ·exact fun _ h => h
    ·exact fun _ h => h
    ·exact fun _ h => h
  ·cases hs
 ·cases hs
abbrev J3 (K : Nat) : Table := ext (J2 K) 8 (saysLo K LoV.sv)
theorem j3 (K : Nat) : TS9 (J3 K) := by
 refine ext_run (j2 K) (f := 8) (fn := Tryz.f8) rfl rfl [0, 1, 4, 5, 6, 7, 8, 9] fun args H p r' H' hs hp => ?_
 unfold saysLo at hs
 split at hs
 ·split at hs
  ·rename_i a n _ fs _
   cases hs
   obtain ⟨ha, hl, hsm⟩ := hp
   rw [ha]
   refine ⟨nB9 rfl, [], rfl, nK9, ?_⟩
   repeat ((conv => whnf); refine ⟨by first | exact ⟨rfl, hl, hsm⟩ | exact rfl, ?_⟩)
   conv => whnf
   exact eR9
  ·cases hs
 ·cases hs
def LoV.nv (v : LoV) : SV := .tup [.c (.p (.l .str v.names)), .c (.int .i64 v.err)]
abbrev J4 (K : Nat) : Table := ext (J3 K) 13 (saysLo K LoV.nv)
theorem j4 (K : Nat) : TS9 (J4 K) := by
 refine ext_run (j3 K) (f := 13) (fn := Tryz.f13) rfl rfl [0, 1, 4, 5, 6, 8] fun args H p r' H' hs hp => ?_
 unfold saysLo at hs
 split at hs
 ·split at hs
  ·rename_i a n _ fs _
   cases hs
   obtain ⟨ha, hl, hsm⟩ := hp
   rw [ha]
   refine ⟨nB9 rfl, [], rfl, nK9, ?_⟩
   repeat ((conv => whnf); refine ⟨⟨rfl, hl, hsm⟩, ?_⟩)
   conv => whnf
   exact eR9
  ·cases hs
 ·cases hs
def noSI : List UInt8 → Bool
 | [] => true
 | a :: r => !(decide (a = 47) && decide (r.head? = some 105)) && noSI r
def semB (a : UInt8) : Bool := decide (a = 59) || decide (a = 123)
def cntL : List UInt8 → Nat
 | [] => 0
 | a :: r => (if semB a = true then 1 else 0) + cntL r
theorem noSI_drop : ∀ (n : Nat) (l : List UInt8), noSI l = true → noSI (l.drop n) = true
 | 0, _, h => h
 | _ + 1, [], _ => rfl
 | n + 1, _ :: r, h => noSI_drop n r (bA9.1 h).2
theorem cntL_drop : ∀ (n : Nat) (l : List UInt8), cntL (l.drop n) ≤ cntL l
 | 0, _ => nR9 _
 | _ + 1, [] => nR9 _
 | n + 1, _ :: r => by
  have := cntL_drop n r
  show cntL (r.drop n) ≤ _ + cntL r
  omega
theorem skipL_suf : ∀ (k : Nat) (l : List UInt8) (p : Int × Int), ∃ n, (skipL k l p).2.1 = l.drop n
 | 0, l, p => ⟨0, rfl⟩
 | k + 1, l, p => by
  unfold skipL
  split
  ·exact ⟨0, rfl⟩
  ·obtain ⟨n, hn⟩ := skipL_suf k (l.drop (sepL l).1) (posL (l.take (sepL l).1) p)
   exact ⟨(sepL l).1 + n, by rw [hn, List.drop_drop]⟩
def incB : ByteArray := ⟨#[105, 110, 99, 108, 117, 100, 101]⟩
def incT (k : Int) (s : ByteArray) : Prop := k = 7 ∧ s = incB
def wtT (k : Int) (s : ByteArray) : Nat := if k = 4 ∧ (s = ⟨#[59]⟩ ∨ s = ⟨#[123]⟩) then 1 else 0
def sumW : List tkC.den → Nat
 | [] => 0
 | z :: r => wtT z.1 z.2.1 + sumW r
theorem sumW_append : ∀ a b : List tkC.den, sumW (a ++ b) = sumW a + sumW b
 | [], b => (Nat.zero_add _).symm
 | z :: a, b => by
  show wtT z.1 z.2.1 + sumW (a ++ b) = wtT z.1 z.2.1 + sumW a + sumW b
  rw [sumW_append a b]
  omega
theorem sumW_drop : ∀ (n : Nat) (l : List tkC.den), sumW (l.drop n) ≤ sumW l
 | 0, l => nR9 _
 | _ + 1, [] => nR9 _
 | n + 1, z :: r => by
  have := sumW_drop n r
  show sumW (r.drop n) ≤ _ + sumW r
  omega
theorem nameLx_kind (l : List UInt8) : (nameLx l).1.kind = 0 ∨ (nameLx l).1.kind = 1 ∨ (nameLx l).1.kind = 5 := by
 unfold nameLx
 split
 ·split
  ·exact .inl rfl
  ·exact .inr (.inr rfl)
 ·exact .inr (.inl rfl)
theorem numLx_kind (l : List UInt8) : (numLx l).1.kind = 0 ∨ (numLx l).1.kind = 2 := by
 unfold numLx
 split
 ·exact .inr rfl
 ·exact .inl rfl
theorem cutC_w (a : UInt8) (r : List UInt8) (h : (cutC a r).2.2 = 0) : (noSI (a :: r) = true → ¬ incT (cutC a r).1.kind (cutC a r).1.text) ∧
  cntL ((a :: r).drop (cutC a r).2.1) + wtT (cutC a r).1.kind (cutC a r).1.text ≤ cntL (a :: r) := by
 have triv : ∀ x : TokV × Nat × Int, x.1.kind ≠ 7 → x.1.kind ≠ 4 → (noSI (a :: r) = true → ¬ incT x.1.kind x.1.text) ∧ cntL ((a :: r).drop x.2.1) + wtT x.1.kind x.1.text ≤ cntL (a :: r) := fun x h7 h4 => by
  refine ⟨fun _ hi => h7 hi.1, ?_⟩
  have e : wtT x.1.kind x.1.text = 0 := if_neg fun hi => h4 hi.1
  rw [e]
  exact cntL_drop _ _
 revert h
 unfold cutC
 split
 ·intro _
  rcases nameLx_kind (a :: r) with h | h | h <;> exact triv _ (by rw [h]; decide) (by rw [h]; decide)
 split
 ·intro _
  rcases numLx_kind (a :: r) with h | h <;> exact triv _ (by rw [h]; decide) (by rw [h]; decide)
 split
 ·intro h
  have := (strL_pos _ _ _ _ h).2
  exact triv _ (by rw [this]; decide) (by rw [this]; decide)
 split
 ·intro _
  exact triv ({ kind := 6, text := B (tw wordB r) }, (tw wordB r).length + 1, 0) (show (6 : Int) ≠ 7 by decide) (show (6 : Int) ≠ 4 by decide)
 split
 ·intro h0
  rename_i hw
  refine ⟨fun hn hi => ?_, ?_⟩
  ·have h47 : a = 47 := by
    unfold wordL at hw
    split at hw
    ·rename_i hc
     exact Option.some.inj hc.1
    ·exact absurd hw (Nat.lt_irrefl 0)
   have ht : B (tw slashB r) = B [105, 110, 99, 108, 117, 100, 101] := hi.2
   have ht := B_inj.1 ht
   have hh : r.head? = some 105 := by
    have e := tw_dw slashB r
    rw [ht] at e
    rw [← e]
    rfl
   have h1 := (bA9.1 hn).1
   rw [h47, hh] at h1
   cases h1
  ·have e : wtT 7 (B (tw slashB r)) = 0 := if_neg fun hi => absurd hi.1 (by decide)
   show _ + wtT 7 (B (tw slashB r)) ≤ _
   rw [e]
   exact cntL_drop _ _
 split
 ·intro h0
  rename_i hs
  refine ⟨fun _ hi => absurd hi.1 (show ¬ (4 : Int) = 7 by decide), ?_⟩
  show cntL ((a :: r).drop (signL a r)) + wtT 4 (B ((a :: r).take (signL a r))) ≤ cntL (a :: r)
  obtain ⟨n, hn⟩ : ∃ n, signL a r = n + 1 := ⟨signL a r - 1, by omega⟩
  rw [hn]
  show cntL (r.drop n) + wtT 4 (B (a :: r.take n)) ≤ (if semB a = true then 1 else 0) + cntL r
  have hd := cntL_drop n r
  unfold wtT
  split
  ·rename_i hc
   have : semB a = true := by
    rcases hc.2 with h | h
    ·have := B_inj.1 (show B (a :: r.take n) = B [59] from h)
     rw [(List.cons.inj this).1]
     rfl
    ·have := B_inj.1 (show B (a :: r.take n) = B [123] from h)
     rw [(List.cons.inj this).1]
     rfl
   rw [if_pos this]
   omega
  ·omega
 ·intro h
  exact absurd h (show ¬ (20 : Int) = 0 by decide)
theorem readL_w (f : Int) : ∀ (k : Nat) (l : List UInt8) (p : Int × Int) (zs : List tkC.den),
  ((noSI l = true) → (∀ z ∈ zs, ¬ incT z.1 z.2.1) → ∀ z ∈ (readL f k l p zs).toks, ¬ incT z.1 z.2.1) ∧ sumW (readL f k l p zs).toks ≤ sumW zs + cntL l
 | 0, l, p, zs => ⟨fun _ _ z hz => absurd hz List.not_mem_nil, nZ9 _⟩
 | k + 1, l, p, zs => by
  rw [readL_succ]
  obtain ⟨n, hn⟩ := skipL_suf (l.length + 1) l p
  have hn : (skipA l p).2.1 = l.drop n := hn
  split
  ·split
   ·rename_i h2
    generalize (skipA l p).2.1 = m at hn h2 ⊢
    generalize (skipA l p).2.2 = q
    have hcm : cntL m ≤ cntL l := by rw [hn]; exact cntL_drop _ _
    have hsm : noSI l = true → noSI m = true := by rw [hn]; exact noSI_drop _ _
    cases m with
    | nil =>
     rw [if_pos (show (cutL []).1.kind = 8 from rfl)]
     refine ⟨fun _ hz z hm => ?_, ?_⟩
     ·rcases List.mem_append.1 hm with hm | hm
      ·exact hz z hm
      ·obtain rfl := List.mem_singleton.1 hm
       exact fun hi => absurd hi.1 (show ¬ (8 : Int) = 7 by decide)
     ·show sumW (zs ++ [tokD (cutL []).1 f q]) ≤ _
      rw [sumW_append]
      show sumW zs + (wtT 8 _ + 0) ≤ _
      have e : ∀ s, wtT 8 s = 0 := fun s => if_neg fun hi => absurd hi.1 (by decide)
      rw [e]
      omega
    | cons a r =>
     have h3 := (cutC_pos a r h2).2
     rw [if_neg (show ¬ (cutL (a :: r)).1.kind = 8 from h3)]
     obtain ⟨w1, w2⟩ := cutC_w a r h2
     obtain ⟨i1, i2⟩ := readL_w f k ((a :: r).drop (cutL (a :: r)).2.1) (posL ((a :: r).take (cutL (a :: r)).2.1) q) (zs ++ [tokD (cutL (a :: r)).1 f q])
     refine ⟨fun hl hz => i1 (noSI_drop _ _ (hsm hl)) fun z hm => ?_, Nat.le_trans i2 ?_⟩
     ·rcases List.mem_append.1 hm with hm | hm
      ·exact hz z hm
      ·obtain rfl := List.mem_singleton.1 hm
       exact w1 (hsm hl)
     ·rw [sumW_append]
      show sumW zs + (wtT (cutC a r).1.kind (cutC a r).1.text + 0) + cntL ((a :: r).drop (cutC a r).2.1) ≤ _
      omega
   ·exact ⟨fun _ _ z hz => absurd hz List.not_mem_nil, nZ9 _⟩
  ·exact ⟨fun _ _ z hz => absurd hz List.not_mem_nil, nZ9 _⟩
theorem readV_w (l : List UInt8) (f : Int) : (noSI l = true → ∀ z ∈ (readV (B l) f).toks, ¬ incT z.1 z.2.1) ∧ sumW (readV (B l) f).toks ≤ cntL l := by
 by_cases h : l.length ≤ 16000
 ·rw [readV_L l f h]
  obtain ⟨h1, h2⟩ := readL_w f 6000 l (1, 1) []
  exact ⟨fun hl => h1 hl fun z hz => absurd hz List.not_mem_nil, by have h2 : _ ≤ 0 + cntL l := h2; omega⟩
 ·unfold readV
  rw [if_pos (by rw [B_size]; omega)]
  exact ⟨fun _ z hz => absurd hz List.not_mem_nil, nZ9 _⟩
structure Ct (m n : Nat) (r q : Sr) : Prop where
 toks : q.toks = r.toks
 cnt : q.defs.length + sumW (q.toks.drop q.at_) + m ≤ r.defs.length + sumW (r.toks.drop r.at_) + n
 kd : (∀ z ∈ r.toks, ¬ incT z.1 z.2.1) → ∀ d ∈ q.defs, d ∈ r.defs ∨ d.1 ≠ 6
theorem Ct.trans {m n m' n' : Nat} {a b c : Sr} (h : Ct m n a b) (k : Ct m' n' b c) : Ct (m + m') (n + n') a c :=
 ⟨k.toks.trans h.toks, by have := h.cnt; have := k.cnt; omega, fun hz d hd => by
  rcases k.kd (by rw [h.toks]; exact hz) d hd with hd | hd
  ·exact h.kd hz d hd
  ·exact .inr hd⟩
theorem Ct.eq {m n m' n' : Nat} {a b : Sr} (h : Ct m n a b) (hm : m' + n ≤ m + n') : Ct m' n' a b := ⟨h.toks, by have := h.cnt; omega, h.kd⟩
theorem Ct.refl (r : Sr) : Ct 0 0 r r := ⟨rfl, nR9 _, fun _ _ h => .inl h⟩
theorem drop_le {r q : Sr} (ht : q.toks = r.toks) (hle : r.at_ ≤ q.at_) : sumW (q.toks.drop q.at_) ≤ sumW (r.toks.drop r.at_) := by
 obtain ⟨k, hk⟩ := Nat.exists_eq_add_of_le hle
 rw [ht, hk, ← List.drop_drop]
 exact sumW_drop _ _
theorem Ct.move {r q : Sr} (ht : q.toks = r.toks) (hle : r.at_ ≤ q.at_) (hd : q.defs = r.defs) : Ct 0 0 r q :=
 ⟨ht, by have := drop_le ht hle; rw [hd]; omega, fun _ d h => .inl (hd ▸ h)⟩
theorem Ct.adv (r : Sr) : Ct 0 0 r r.adv := .move rfl (Nat.le_succ _) rfl
theorem Ct.sign {r : Sr} {s : ByteArray} (hs : s = ⟨#[59]⟩ ∨ s = ⟨#[123]⟩) (h : sgnI r.tok s = true) : Ct 1 0 r r.adv := by
 refine ⟨rfl, ?_, fun _ d h => .inl h⟩
 obtain ⟨h1, h2⟩ := bA9.1 h
 have h1 := oT9 h1
 have h2 := oT9 h2
 have hlt : r.at_ < r.toks.length := by
  rcases Nat.lt_or_ge r.at_ r.toks.length with hh | hh
  ·exact hh
  ·unfold Sr.tok at h1
   rw [List.getD_eq_getElem?_getD, List.getElem?_eq_none hh] at h1
   cases h1
 have ht : r.toks[r.at_] = r.tok := by
  unfold Sr.tok
  rw [List.getD_eq_getElem?_getD, List.getElem?_eq_getElem hlt]
  rfl
 have hd : sumW (r.toks.drop r.at_) = 1 + sumW (r.toks.drop (r.at_ + 1)) := by
  rw [List.drop_eq_getElem_cons hlt, ht]
  show wtT r.tok.1 r.tok.2.1 + _ = _
  have : wtT r.tok.1 r.tok.2.1 = 1 := if_pos ⟨h1, by rw [h2]; exact hs⟩
  rw [this]
 show r.defs.length + sumW (r.toks.drop (r.at_ + 1)) + 1 ≤ _
 omega
theorem Ct.add (r : Sr) {d : defC.den} (hd : d.1 ≠ 6) : Ct 0 1 r (r.add d) :=
 ⟨rfl, by show (r.defs ++ [d]).length + sumW (r.toks.drop r.at_) + 0 ≤ _; rw [zP9]; simp only [zC9, zN9]; omega, fun _ x hx => by
  rcases List.mem_append.1 hx with hx | hx
  ·exact .inl hx
  ·obtain rfl := List.mem_singleton.1 hx
   exact .inr hd⟩
theorem must_ct {s : ByteArray} (hs : s = ⟨#[59]⟩ ∨ s = ⟨#[123]⟩) {r : Sr} (h : (mustS s r).1 = 0) : Ct 1 0 r (mustS s r).2 := by
 unfold mustS at h ⊢
 split
 ·rename_i h1
  exact .sign hs h1
 ·rename_i h1
  rw [if_neg h1] at h
  cases h
theorem must_mv (s : ByteArray) (r : Sr) : Ct 0 0 r (mustS s r).2 := by
 unfold mustS
 split
 ·exact .adv r
 ·exact .refl r
theorem take_mv (k : Int) (v : ByteArray → Bool) (r : Sr) : Ct 0 0 r (takeS k v r).2 := by
 unfold takeS
 split
 ·split
  ·exact .adv r
  ·exact .refl r
 ·exact .refl r
theorem nm_mv (nm : Nm) (r : Sr) : Ct 0 0 r (nmS nm r).2 := by
 cases nm with
 | root => exact must_mv _ r
 | ref => exact take_mv _ _ r
 | node => exact take_mv _ _ r
 | prop => exact take_mv _ _ r
 | str => exact take_mv _ _ r
theorem cmd_ct {kind : Int} (hk : kind ≠ 6) (nm : Nm) {r : Sr} (h : (cmdS kind nm r).1 = 0) : Ct 0 0 r (cmdS kind nm r).2 := by
 unfold cmdS at h ⊢
 dsimp only at h ⊢
 split
 ·rename_i h1
  rw [if_pos h1] at h
  exact ((((Ct.adv r).trans (nm_mv nm r.adv)).trans (.add _ (show (dfn kind e0 (nmS nm r.adv).1.1 [] r.tok).1 ≠ 6 from hk))).trans (must_ct (.inl rfl) h)).eq (nR9 _)
 ·rename_i h1
  rw [if_neg h1] at h
  exact absurd h h1
theorem nums_df : ∀ (k : Nat) (r : Sr) (out : List Int), (numsS k r out).2.defs = r.defs := by
 intro k
 induction k with
 | zero => intro r out; rfl
 | succ k ih =>
  intro r out
  unfold numsS
  split
  ·rfl
  ·split
   ·split
    ·rfl
    ·exact ih _ _
   ·rfl
theorem take_df (k : Int) (v : ByteArray → Bool) (r : Sr) : (takeS k v r).2.defs = r.defs := by
 unfold takeS
 split
 ·split <;> rfl
 ·rfl
theorem cel_df (r : Sr) : (celS r).2.defs = r.defs := by
 unfold celS
 split
 ·exact take_df _ _ r
 ·dsimp only
  split <;> rfl
theorem cels_df : ∀ (k : Nat) (r : Sr) (out : List celC.den), (celsS k r out).2.defs = r.defs := by
 intro k
 induction k with
 | zero => intro r out; rfl
 | succ k ih =>
  intro r out
  unfold celsS
  split
  ·rfl
  ·split
   ·exact (ih _ _).trans (cel_df r)
   ·exact cel_df r
theorem prt_df (r : Sr) : (prtS r).2.defs = r.defs := by
 unfold prtS
 split
 ·exact cels_df _ _ _
 ·split
  ·exact nums_df _ _ _
  ·split
   ·exact take_df _ _ _
   ·exact take_df _ _ _
theorem prts_df : ∀ (k : Nat) (r : Sr) (out : List prtC.den), (prtsS k r out).2.defs = r.defs := by
 intro k
 induction k with
 | zero => intro r out; rfl
 | succ k ih =>
  intro r out
  unfold prtsS
  split
  ·split
   ·exact (ih _ _).trans (prt_df r)
   ·exact prt_df r
  ·exact prt_df r
theorem prts_mv {r : Sr} (h : Vld r) (k : Nat) (out : List prtC.den) : Ct 0 0 r (prtsS k r out).2 :=
 .move (prtsS_good k h out).adv.toks (prtsS_good k h out).adv.le (prts_df _ _ _)
theorem prp_ct {r : Sr} (hv : Vld r) (h : (prpS r).1 = 0) : Ct 0 0 r (prpS r).2 := by
 have h1 := nmS_good hv .prop
 unfold prpS at h ⊢
 dsimp only at h ⊢
 split
 ·rename_i h2
  rw [if_pos h2] at h
  rw [h2] at h1
  have v1 := h1.vld hv
  by_cases hs : sgnI (nmS .prop r).2.tok ⟨#[61]⟩ = true
  ·rw [if_pos hs] at h ⊢
   split
   ·rename_i h5
    rw [if_pos h5] at h
    have h3 := v1.adv (sgnI_kind hs) 0
    exact (((((nm_mv .prop r).trans (Ct.adv _)).trans (prts_mv (h3.vld v1) _ _)).trans (.add _ (show (dfn 3 e0 (nmS .prop r).1.1 (prtsS (nmS .prop r).2.toks.length (nmS .prop r).2.adv []).1.1 r.tok).1 ≠ 6 from (by decide : (3 : Int) ≠ 6)))).trans (must_ct (.inl rfl) h)).eq (nR9 _)
   ·rename_i h5
    rw [if_neg h5] at h
    exact absurd h h5
  ·rw [if_neg hs] at h ⊢
   dsimp only at h ⊢
   rw [if_pos rfl] at h ⊢
   exact (((nm_mv .prop r).trans (.add _ (show (dfn 3 e0 (nmS .prop r).1.1 [] r.tok).1 ≠ 6 from (by decide : (3 : Int) ≠ 6)))).trans (must_ct (.inl rfl) h)).eq (nR9 _)
 ·rename_i h2
  rw [if_neg h2] at h
  exact absurd h h2
def BodCt (body : Sr → Int × Sr) : Prop := ∀ r, Vld r → (body r).1 = 0 → Ct 0 0 r (body r).2
theorem nod_ct {body : Sr → Int × Sr} (hb : BodCt body) {r : Sr} (hv : Vld r) (nm : Nm) (h : (nodF body nm r).1 = 0) : Ct 0 0 r (nodF body nm r).2 := by
 have go : ∀ (l : ByteArray) (q : Sr), Adv r q → q.bod = r.bod → Ct 0 0 r q → (if (nmS nm q).1.2 = 0 then (if (body ((nmS nm q).2.add (dfn 1 l (nmS nm q).1.1 [] r.tok))).1 = 0 then mustS ⟨#[59]⟩ (body ((nmS nm q).2.add (dfn 1 l (nmS nm q).1.1 [] r.tok))).2 else body ((nmS nm q).2.add (dfn 1 l (nmS nm q).1.1 [] r.tok))) else ((nmS nm q).1.2, (nmS nm q).2)).1 = 0 →
   Ct 0 0 r (if (nmS nm q).1.2 = 0 then (if (body ((nmS nm q).2.add (dfn 1 l (nmS nm q).1.1 [] r.tok))).1 = 0 then mustS ⟨#[59]⟩ (body ((nmS nm q).2.add (dfn 1 l (nmS nm q).1.1 [] r.tok))).2 else body ((nmS nm q).2.add (dfn 1 l (nmS nm q).1.1 [] r.tok))) else ((nmS nm q).1.2, (nmS nm q).2)).2 := by
  intro l q ha hq hc h
  have vq := ha.vld hv (by rw [hq]; exact hv.bod)
  have h1 := ha.then hq (nmS_good vq nm)
  split
  ·rename_i h2
   rw [if_pos h2] at h
   rw [h2] at h1
   have h3 := h1.add (dfn 1 l (nmS nm q).1.1 [] r.tok)
   have hbo : ((nmS nm q).2.add (dfn 1 l (nmS nm q).1.1 [] r.tok)).bod = r.bod := (h1.ok rfl).2.1
   have v3 := h3.vld hv (by rw [hbo]; exact hv.bod)
   split
   ·rename_i h5
    rw [if_pos h5] at h
    exact ((((hc.trans (nm_mv nm q)).trans (.add _ (show (dfn 1 l (nmS nm q).1.1 [] r.tok).1 ≠ 6 from (by decide : (1 : Int) ≠ 6)))).trans (hb _ v3 h5)).trans (must_ct (.inl rfl) h)).eq (nR9 _)
   ·rename_i h5
    rw [if_neg h5] at h
    exact absurd h h5
  ·rename_i h2
   rw [if_neg h2] at h
   exact absurd h h2
 unfold nodF at h ⊢
 dsimp only at h ⊢
 by_cases h5 : r.tok.1 = 5
 ·rw [if_pos h5] at h ⊢
  have h1 := takeS_good hv (k := 5) (by decide) labB
  split
  ·rename_i h2
   rw [if_pos h2] at h
   rw [h2] at h1
   exact go _ _ h1.adv (h1.ok rfl).2.1 (take_mv _ _ r) h
  ·rename_i h2
   rw [if_neg h2] at h
   exact absurd h h2
 ·rw [if_neg h5] at h ⊢
  dsimp only at h ⊢
  rw [if_pos rfl] at h ⊢
  exact go _ _ hv.refl rfl (.refl r) h
theorem mem_ct {node : Nm → Sr → Int × Sr} (hn : ∀ r nm, Vld r → (node nm r).1 = 0 → Ct 0 0 r (node nm r).2) {r : Sr} (hv : Vld r) (h : (memF node r).1 = 0) : Ct 0 0 r (memF node r).2 := by
 unfold memF at h ⊢
 split
 ·rename_i h1
  rw [if_pos h1] at h
  exact cmd_ct (by decide) _ h
 ·rename_i h1
  rw [if_neg h1] at h
  split
  ·rename_i h2
   rw [if_pos h2] at h
   exact cmd_ct (by decide) _ h
  ·rename_i h2
   rw [if_neg h2] at h
   split
   ·rename_i h3
    rw [if_pos h3] at h
    exact prp_ct hv h
   ·rename_i h3
    rw [if_neg h3] at h
    exact hn _ _ hv h
theorem mems_ct {mem : Sr → Int × Sr} (hg : ∀ r, Vld r → Good r (mem r).1 (mem r).2) (hm : ∀ r, Vld r → (mem r).1 = 0 → Ct 0 0 r (mem r).2) : ∀ (k : Nat) {r : Sr}, Vld r → (memsF mem k r).1 = 0 → Ct 0 0 r (memsF mem k r).2 := by
 intro k
 induction k with
 | zero => intro r hv h; cases h
 | succ k ih =>
  intro r hv h
  have h1 := hg r hv
  unfold memsF at h ⊢
  split
  ·exact .refl r
  ·rename_i h2
   rw [if_neg h2] at h
   split
   ·rename_i h3
    rw [if_pos h3] at h
    rw [h3] at h1
    exact ((hm r hv h3).trans (ih (h1.vld hv) h)).eq (nR9 _)
   ·rename_i h3
    rw [if_neg h3] at h
    exact absurd h h3
theorem bod_ct {mem : Sr → Int × Sr} (hg : ∀ r, Vld r → Good r (mem r).1 (mem r).2) (hm : ∀ r, Vld r → (mem r).1 = 0 → Ct 0 0 r (mem r).2) : BodCt (bodF mem) := by
 intro r hv h
 unfold bodF at h ⊢
 split
 ·rename_i hs
  rw [if_pos hs] at h
  split
  ·rename_i hb
   rw [if_pos hb] at h
   cases h
  ·rename_i hb
   rw [if_neg hb] at h
   dsimp only at h ⊢
   have h1 := hv.adv (sgnI_kind hs) 0
   have v1 : Vld { r.adv with bod := r.bod + 1 } := ⟨hv.len, h1.adv.lt, hv.lst, hv.fit, by have := hv.dfs; show r.defs.length ≤ 2 * (r.at_ + 1); omega, by show r.bod + 1 ≤ 9; omega⟩
   have c1 : Ct 1 0 r { r.adv with bod := r.bod + 1 } := ⟨rfl, (Ct.sign (.inr rfl) hs).cnt, fun _ _ h => .inl h⟩
   split
   ·rename_i h4
    rw [if_pos h4] at h
    have c2 := mems_ct hg hm r.toks.length v1 h4
    generalize memsF mem r.toks.length { r.adv with bod := r.bod + 1 } = x at *
    have c3 : Ct 0 0 x.2 { x.2 with bod := x.2.bod - 1 } := .move rfl (nR9 _) rfl
    exact (((((c1.trans c2).trans c3).trans (.add _ (show (dfn 2 e0 e0 [] x.2.tok).1 ≠ 6 from (by decide : (2 : Int) ≠ 6)))).trans (must_mv _ _))).eq (nR9 _)
   ·rename_i h4
    rw [if_neg h4] at h
    exact absurd h h4
 ·rename_i hs
  rw [if_neg hs] at h
  cases h
theorem bods_ct : ∀ k, BodCt (bodS k) := by
 intro k
 induction k with
 | zero => intro r hv h; cases h
 | succ k ih =>
  exact bod_ct (fun r h => memF_good (fun r nm h => nodF_good (bodS_good k) h nm) h) fun r hv h => mem_ct (fun r nm hv h => nod_ct ih hv nm h) hv h
theorem top_ct {r : Sr} (hv : Vld r) (hz : ∀ z ∈ r.toks, ¬ incT z.1 z.2.1) (h : (topS r).1 = 0) : Ct 0 0 r (topS r).2 := by
 unfold topS at h ⊢
 split
 ·rename_i h1
  exfalso
  obtain ⟨h2, h3⟩ := bA9.1 h1
  exact hz _ hv.tok ⟨oT9 h2, oT9 h3⟩
 ·rename_i h1
  rw [if_neg h1] at h
  split
  ·rename_i h2
   rw [if_pos h2] at h
   exact cmd_ct (by decide) _ h
  ·rename_i h2
   rw [if_neg h2] at h
   split
   ·rename_i h3
    rw [if_pos h3] at h
    exact nod_ct (bods_ct _) hv _ h
   ·rename_i h3
    rw [if_neg h3] at h
    exact nod_ct (bods_ct _) hv _ h
theorem tops_ct : ∀ (k : Nat) {r : Sr}, Vld r → (∀ z ∈ r.toks, ¬ incT z.1 z.2.1) → (topsS k r).1 = 0 → Ct 0 0 r (topsS k r).2 := by
 intro k
 induction k with
 | zero => intro r hv _ h; cases h
 | succ k ih =>
  intro r hv hz h
  have h1 := topS_good hv
  unfold topsS at h ⊢
  split
  ·exact .refl r
  ·rename_i h2
   rw [if_neg h2] at h
   split
   ·rename_i h3
    rw [if_pos h3] at h
    rw [h3] at h1
    have c := top_ct hv hz h3
    exact (c.trans (ih (h1.vld hv) (by rw [c.toks]; exact hz) h)).eq (nR9 _)
   ·rename_i h3
    rw [if_neg h3] at h
    exact absurd h h3
theorem srcV_w (l : List UInt8) (f : Int) (hl : noSI l = true) : (srcV (B l) f).defs.length ≤ cntL l ∧ ∀ d ∈ (srcV (B l) f).defs, d.1 ≠ 6 := by
 unfold srcV
 split
 ·rename_i h0
  dsimp only
  split
  ·rename_i h1
   obtain ⟨w1, w2⟩ := readV_w l f
   have c := tops_ct _ (srV_vld' h0) (w1 hl) h1
   refine ⟨?_, fun d hd => ?_⟩
   ·have h3 := c.cnt
    have h4 : (topsS (readV (B l) f).toks.length ⟨(readV (B l) f).toks, 0, 0, []⟩).2.defs.length + _ + 0 ≤ 0 + sumW (readV (B l) f).toks + 0 := h3
    show (topsS (readV (B l) f).toks.length ⟨(readV (B l) f).toks, 0, 0, []⟩).2.defs.length ≤ _
    omega
   ·rcases c.kd (w1 hl) d hd with h | h
    ·exact absurd h List.not_mem_nil
    ·exact h
  ·exact ⟨nZ9 _, fun d hd => absurd hd List.not_mem_nil⟩
 ·exact ⟨nZ9 _, fun d hd => absurd hd List.not_mem_nil⟩
end Go.Ab
