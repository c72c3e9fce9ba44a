/- Package expression: the reader's small steps. -/
import Derived.Test.YtkgcgbpclpmleaaGreatTV2toV3
namespace Go.Ab
open Go.Proofs
set_option linter.unusedSectionVars false
set_option maxRecDepth 100000
variable [Glob]
abbrev xrC (r : Xr) (m : AC) : List AC := [.p (.l tkC r.toks), .int .i64 r.at_, m, .sl 1 (.int .u32) r.vv r.vl, .sl 2 frC r.wv r.wl, .int .i64 r.br, .bool r.deep, .bool r.oor, .bool r.div]
abbrev xrT (r : Xr) : List AO := [.arr 94 (.int .u32) r.vz r.vv, .arr 189 frC r.wz r.wv]
abbrev xrH (r : Xr) : List AO := .row (xrC r (.may (.l mpC rowsM))) :: xrT r
def xrOf (H : List AO) : Option Xr :=
 match H with
 | [.row [.p (.l c0 toks), .p (.v (.int .i64 a)), _, .sl _ _ vv vl, .sl _ _ wv wl, .p (.v (.int .i64 br)), .p (.v (.bool d)), .p (.v (.bool o)), .p (.v (.bool z))], .arr _ c1 vz _, .arr _ c2 wz _] =>
  match castD (e := tkC) (e' := c0) toks, castD (e := .int .u32) (e' := c1) vz, castD (e := frC) (e' := c2) wz with
  | some toks, some vz, some wz => some ⟨toks, a.toNat, vz, vl, vv, wz, wl, wv, br, d, o, z⟩
  | _, _, _ => none
 | _ => none
def saysX {α : Type} (da : List AV → Option α) (ea : α → List AV) (pre : Xr → α → Prop) (g : Xr → α → SV × Xr) : Says := fun args H => match args with
 | .c (.ptr 0 0) :: al => match da al, xrOf H with
  | some a, some r => some (some (al = ea a ∧ H = xrH r ∧ pre r a), (g r a).1, xrH (g r a).2)
  | _, _ => none
 | _ => none
def looksX {α : Type} (da : List AV → Option α) (ea : α → List AV) (pre : Xr → α → Prop) (g : Xr → α → SV) : List AV → List AO → Option (Option Prop × SV) := fun args H => match args with
 | .c (.ptr 0 0) :: al => match da al, xrOf H with
  | some a, some r => some (some (al = ea a ∧ H = xrH r ∧ pre r a), g r a)
  | _, _ => none
 | _ => none
theorem id3 : ∀ k, k < 3 → [0, 1, 2][k]? = some k := fun k hk => by
 have : k = 0 ∨ k = 1 ∨ k = 2 := by omega
 rcases this with rfl | rfl | rfl <;> rfl
theorem extX {α : Type} {P : Program} {T : Table} (hT : TSound P T) (f : FuncId) {fn : Func} (hf : P.funcs[f]? = some fn) (hname : NG9 fn) (da : List AV → Option α) (ea : α → List AV) (pre : Xr → α → Prop) (g : Xr → α → SV × Xr) (hn : ∀ a, (ea a).length + 1 ≤ fn.ntmps) (ks : List Nat)
  (h : ∀ r a, pre r a → runF ⟨P, T⟩ fn ks [0, 1, 2] (.c (.ptr 0 0) :: ea a) (xrH r) fun r' H'' => Ends r' H'' (g r a).1 (xrH (g r a).2)) : TSound P (ext T f (saysX da ea pre g)) :=
 ext_run hT hf hname ks fun args H p r H' hs hp => by
  unfold saysX at hs
  split at hs
  ·split at hs
   ·cases hs
    obtain ⟨rfl, rfl, hpre⟩ := hp
    exact ⟨hn _, [0, 1, 2], rfl, id3, h _ _ hpre⟩
   ·cases hs
  ·cases hs
theorem extLX {α : Type} {P : Program} {T : Table} (hT : TSound P T) (f : FuncId) {fn : Func} (hf : P.funcs[f]? = some fn) (hname : NG9 fn) (da : List AV → Option α) (ea : α → List AV) (pre : Xr → α → Prop) (g : Xr → α → SV) (hn : ∀ a, (ea a).length + 1 ≤ fn.ntmps) (ks : List Nat)
  (h : ∀ r a, pre r a → runF ⟨P, T⟩ fn ks [0, 1, 2] (.c (.ptr 0 0) :: ea a) (xrH r) fun r' H'' => Ends r' H'' (g r a) (xrH r)) : TSound P (ext T f (looks (looksX da ea pre g))) :=
 ext_look hT hf hname ks fun args H p r hs hp => by
  unfold looksX at hs
  split at hs
  ·split at hs
   ·cases hs
    obtain ⟨rfl, rfl, hpre⟩ := hp
    exact ⟨hn _, [0, 1, 2], rfl, id3, h _ _ hpre⟩
   ·cases hs
  ·cases hs
def da0 : List AV → Option Unit
 | [] => some ()
 | _ => none
def ea0 : Unit → List AV := fun _ => []
def daS : List AV → Option ByteArray
 | [.c (.p (.v (.string s)))] => some s
 | _ => none
def eaS (s : ByteArray) : List AV := [.c (.str s)]
def daI : List AV → Option Int
 | [.c (.p (.v (.int .i64 n)))] => some n
 | _ => none
def eaI (n : Int) : List AV := [.c (.int .i64 n)]
def daSI : List AV → Option Frm
 | [.c (.p (.v (.string s))), .c (.p (.v (.int .i64 n)))] => some (s, n)
 | _ => none
def eaSI (a : Frm) : List AV := [.c (.str a.1), .c (.int .i64 a.2)]
def daF : List AV → Option Frm
 | [.agg [.p (.v (.string s)), .p (.v (.int .i64 n))]] => some (s, n)
 | _ => none
def eaF (a : Frm) : List AV := [.agg [.str a.1, .int .i64 a.2]]
def small (r : Xr) : Prop := r.toks.length ≤ 1000000 ∧ r.at_ ≤ 1000000 ∧ r.vl ≤ 1000000 ∧ r.wl ≤ 1000000 ∧ r.vl ≤ r.vz.length ∧ r.wl ≤ r.wz.length ∧ -1000000 ≤ r.br ∧ r.br ≤ 1000000
def X22 : Table := ext X21 155 (looks (looksX da0 ea0 (fun r _ => small r) fun r _ => .str (signX r)))
theorem sign_in {r : Xr} (h : r.at_ < r.toks.length) (hk : (r.toks.getD r.at_ tkC.dflt).1 = 4) : signX r = (r.toks.getD r.at_ tkC.dflt).2.1 := by
 unfold signX
 rw [ts_at r h]
 have : (tkOf (r.toks.getD r.at_ tkC.dflt)).1 = 4 := hk
 simp only [sgn, this, decide_true]
 rfl
theorem sign_no {r : Xr} (h : ¬ r.at_ < r.toks.length) : signX r = ⟨#[]⟩ := by
 unfold signX
 have : r.ts = [] := List.eq_nil_of_length_eq_zero (by rw [ts_len]; omega)
 rw [this]; rfl
theorem sign_not {r : Xr} (h : r.at_ < r.toks.length) (hk : ¬ (r.toks.getD r.at_ tkC.dflt).1 = 4) : signX r = ⟨#[]⟩ := by
 unfold signX
 rw [ts_at r h]
 have : ¬ (tkOf (r.toks.getD r.at_ tkC.dflt)).1 = 4 := hk
 simp only [sgn, this, decide_false]
theorem x22 : TS9 X22 := by
 refine extLX x21 155 (fn := Tryz.f155) rfl rfl da0 ea0 _ _ (fun _ => nB9 rfl) [0, 2, 26] fun r _ hs => ?_
 obtain ⟨h1, h2, _⟩ := hs
 repeat ((conv => whnf); refine ⟨by first | (intro hg; first | (unfold inI64; omega) | omega | exact ⟨by omega, by omega⟩ | (simp [lit] at hg; unfold inI64; omega) | (simp [lit] at hg; omega) | (simp [lit] at hg; exact ⟨by omega, by omega⟩)) | exact rfl, ?_⟩)
 conv => whnf
 refine cI9 ?_ ?_<;>intro h
 ·have h' : r.at_ < r.toks.length ∧ (r.toks.getD r.at_ tkC.dflt).1 = 4 := by simpa using h
  repeat ((conv => whnf); refine ⟨by first | omega | exact rfl, ?_⟩)
  conv => whnf
  exact eE9 ⟨congrArg SV.str (sign_in h'.1 h'.2).symm, rfl⟩
 ·have h' : ¬ (r.at_ < r.toks.length ∧ (r.toks.getD r.at_ tkC.dflt).1 = 4) := by simpa using h
  conv => whnf
  refine eE9 ⟨congrArg SV.str ?_, rfl⟩
  by_cases ha : r.at_ < r.toks.length
  ·rw [sign_not ha fun hk => h' ⟨ha, hk⟩]
  ·rw [sign_no ha]
abbrev xrN (r : Xr) (m : AC) : List AO := .row (xrC r m) :: xrT r
def cell2 : List AO → Option PV
 | .row [_, _, .p y, _, _, _, _, _, _] :: _ => some y
 | _ => none
def mapV (n : Int) : SV := .a (.c (.p (.m .str .fn (rowsM.getD n.toNat []))))
def saysRow : Says := fun args H => match args with
 | [.c (.ptr 0 0), .c (.p (.v (.int .i64 n)))] => match xrOf H, cell2 H with
  | some r, some y => some (some (H = xrN r (.p y) ∧ (y = .v (.slice none 0 0) ∨ y = .l mpC rowsM) ∧ 0 ≤ n ∧ n < 11), mapV n, xrN r (.p (.l mpC rowsM)))
  | _, _ => none
 | _ => none
def X23 : Table := ext X22 158 saysRow
def rowPre (_ : Xr) (n : Int) : Prop := 0 ≤ n ∧ n < 11
def X24 : Table := ext X23 158 (looks (looksX daI eaI rowPre fun _ n => mapV n))
theorem x23 : TS9 X23 := by
 refine ext_run x22 (f := 158) (fn := Tryz.f158) rfl rfl [0, 1, 4, 9] fun args H p r' H' hs hp => ?_
 unfold saysRow at hs
 split at hs
 ·rename_i n
  split at hs
  ·rename_i r y _ _
   cases hs
   obtain ⟨rfl, hy, h0, h1⟩ := hp
   refine ⟨nB9 rfl, [0, 1, 2], rfl, id3, ?_⟩
   rcases hy with rfl | rfl
   ·repeat ((conv => whnf); refine ⟨⟨h0, h1⟩, ?_⟩)
    conv => whnf
    exact eR9
   ·repeat ((conv => whnf); refine ⟨by first | exact ⟨h0, h1⟩ | decide +kernel, ?_⟩)
    conv => whnf
    exact eR9
  ·cases hs
 ·cases hs
theorem x24 : TS9 X24 := by
 refine ext_may x23 158 2 (.l mpC rowsM) _ fun args H p r' H' hs hp => ?_
 unfold looks at hs
 split at hs
 ·rename_i hl
  cases hs
  unfold looksX at hl
  split at hl
  ·rename_i al
   split at hl
   ·rename_i n r hd _
    cases hl
    obtain ⟨rfl, rfl, hpre⟩ := hp
    refine ⟨rfl, _, _, rfl, rfl, fun y hy => ?_⟩
    rcases hy with rfl | rfl
    ·refine ⟨_, _, rfl, ⟨rfl, .inl rfl, hpre.1, hpre.2⟩, rfl⟩
    ·refine ⟨_, _, rfl, ⟨rfl, .inr rfl, hpre.1, hpre.2⟩, rfl⟩
   ·cases hl
  ·cases hl
 ·cases hs
theorem find_has (s : ByteArray) : ∀ (es : List (ByteArray × FuncId)), (findE (k := .str) (v := .fn) es s).isSome = (es.map (·.1)).contains s := by
 intro es
 induction es with
 | nil => rfl
 | cons a es ih =>
  obtain ⟨a, x⟩ := a
  rw [List.map_cons, List.contains_cons, ← ih]
  show (match decide (s = a) with | true => some x | false => findE (k := .str) (v := .fn) es s).isSome = ((s == a) || _)
  rw [ba_beq]
  by_cases h : s = a
  ·simp [h]
  ·simp [h]
def X25 : Table := ext X24 154 (looks (looksX daS eaS (fun _ _ => True) fun _ s => .bool (frontV s)))
theorem x25 : TS9 X25 := by
 refine extLX x24 154 (fn := Tryz.f154) rfl rfl daS eaS _ _ (fun _ => nB9 rfl) [0, 1, 4, 6, 8] fun r s hs => ?_
 conv => whnf
 refine cI9 ?_ ?_<;>intro h
 ·skip
  conv => whnf
  refine eT9 ?_
  rw [oT9 h]
  rfl
 ·repeat ((conv => whnf); refine ⟨⟨rfl, rfl, by omega, by omega⟩, ?_⟩)
  conv => whnf
  exact eE9 ⟨congrArg SV.bool (find_has s _), rfl⟩
def waitPre (r : Xr) : Prop := r.wl ≤ 1000000 ∧ r.at_ ≤ 1000000 ∧ r.wl ≤ r.wz.length
def X26 : Table := ext X25 160 (saysX daSI eaSI (fun r _ => waitPre r) fun r a => (.tup [], waitX r a.1 a.2))
theorem x26 : TS9 X26 := by
 refine extX x25 160 (fn := Tryz.f160) rfl rfl daSI eaSI _ _ (fun _ => nB9 rfl) [0, 1, 2] fun r a hs => ?_
 obtain ⟨h1, h2, h3⟩ := hs
 repeat ((conv => whnf); refine ⟨by first | exact Nat.zero_lt_one | (unfold inI64; omega) | omega | (show (_ : Nat) + 1 ≤ 1000000000000; omega), ?_⟩)
 conv => whnf
 exact eR9
def numPre (r : Xr) : Prop := r.vl ≤ 1000000 ∧ r.vl ≤ r.vz.length ∧ r.at_ ≤ 1000000
def X27 : Table := ext X26 159 (saysX daI eaI (fun r _ => numPre r) fun r n => (.tup [], numX r n))
theorem x27 : TS9 X27 := by
 refine extX x26 159 (fn := Tryz.f159) rfl rfl daI eaI _ _ (fun _ => nB9 rfl) [0, 1] fun r n hs => ?_
 obtain ⟨h1, h2, h3⟩ := hs
 repeat ((conv => whnf); refine ⟨by first | exact Nat.zero_lt_one | (unfold inI64; omega) | omega | (show (_ : Nat) + 1 ≤ 1000000000000; omega), ?_⟩)
 conv => whnf
 refine eE9 ⟨rfl, ?_⟩
 rw [Bool.or_assoc]
 rfl
def takePre (r : Xr) : Prop := r.wl ≤ 1000000 ∧ r.wl ≤ r.wz.length ∧ r.wl ≠ 0
def frmSV (a : Frm) : SV := .a (.agg [.str a.1, .int .i64 a.2])
def X28 : Table := ext X27 165 (saysX da0 ea0 (fun r _ => takePre r) fun r _ => (frmSV (topX r), takeX r))
theorem x28 : TS9 X28 := by
 refine extX x27 165 (fn := Tryz.f165) rfl rfl da0 ea0 _ _ (fun _ => nB9 rfl) [0, 2, 3, 4] fun r _ hs => ?_
 obtain ⟨h1, h2, h3⟩ := hs
 repeat ((conv => whnf); refine ⟨by first | exact ⟨rfl, by omega, by omega⟩ | (unfold inI64; omega) | omega, ?_⟩)
 conv => whnf
 have e1 : ((r.wl : Int) - 1).toNat = r.wl - 1 := by omega
 refine eE9 ⟨?_, ?_⟩ <;> rw [e1] <;> rfl
def choPre (r : Xr) : Prop := 3 ≤ r.vl ∧ r.vl ≤ 1000000 ∧ r.vl ≤ r.vz.length
def X29 : Table := ext X28 166 (saysX da0 ea0 (fun r _ => choPre r) fun r _ => (.tup [], chooseX r))
theorem x29 : TS9 X29 := by
 refine extX x28 166 (fn := Tryz.f166) rfl rfl da0 ea0 _ _ (fun _ => nB9 rfl) [0, 2, 3, 25] fun r _ hs => ?_
 obtain ⟨h1, h2, h3⟩ := hs
 have e1 : ((r.vl : Int) - 3).toNat = r.vl - 3 := by omega
 have e2 : ((r.vl : Int) - 3 + 1).toNat = r.vl - 2 := by omega
 have e3 : ((r.vl : Int) - 3 + 2).toNat = r.vl - 1 := by omega
 repeat ((conv => whnf); refine ⟨by first | exact ⟨rfl, by omega, by omega⟩ | (unfold inI64; omega) | omega, ?_⟩)
 conv => whnf
 refine cI9 ?_ ?_<;>intro h
 ·have hc : chosen r = r.vz.getD (r.vl - 2) 0 := by
   have h' : (!decide (r.vz.getD ((r.vl : Int) - 3).toNat 0 = 0)) = true := h
   rw [e1] at h'
   unfold chosen
   rw [if_pos (by simpa using h')]
  repeat ((conv => whnf); refine ⟨by first | exact Nat.zero_lt_one | exact ⟨rfl, by omega, by omega⟩ | (unfold inI64; omega) | omega | (show (_ : Nat) + 1 ≤ 1000000000000; omega), ?_⟩)
  conv => whnf
  refine eE9 ⟨rfl, ?_⟩
  rw [e1, e2]
  unfold chooseX
  rw [hc]
  rfl
 ·have hc : chosen r = r.vz.getD (r.vl - 1) 0 := by
   have h' : (!decide (r.vz.getD ((r.vl : Int) - 3).toNat 0 = 0)) = false := h
   rw [e1] at h'
   unfold chosen
   rw [if_neg (by simpa using h')]
  repeat ((conv => whnf); refine ⟨by first | exact Nat.zero_lt_one | exact ⟨rfl, by omega, by omega⟩ | omega | (show (_ : Nat) + 1 ≤ 1000000000000; omega), ?_⟩)
  conv => whnf
  refine eE9 ⟨rfl, ?_⟩
  rw [e1, e3]
  unfold chooseX
  rw [hc]
  rfl
end Go.Ab
