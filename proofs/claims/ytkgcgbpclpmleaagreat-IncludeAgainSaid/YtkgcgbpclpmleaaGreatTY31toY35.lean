/- The reference of package source: the reader's small steps. -/
import Derived.Test.YtkgcgbpclpmleaaGreatTY43toY30
import Derived.Test.YtkgcgbpclpmleaaGreatTY2toR16
import Derived.Test.YtkgcgbpclpmleaaGreatTR21toR23
namespace Go.Ab
open Go.Proofs
set_option linter.unusedSectionVars false
set_option maxRecDepth 100000
variable [Glob]
structure Er where
 s : Sr
 err : Int
 pos : Int × Int × Int
def Sr.ok (s : Sr) : Er := ⟨s, 0, 0, 0, 0⟩
def erOf (x : Int × Sr) : Er := if x.1 = 0 then x.2.ok else ⟨x.2, x.1, x.2.tok.2.2.2⟩
abbrev erC (r : Er) : List AC := [.p (.l tkC r.s.toks), .int .i64 r.s.at_, .own 1 defC r.s.defs, .int .i64 r.err, .int .i64 r.pos.1, .int .i64 r.pos.2.1, .int .i64 r.pos.2.2]
abbrev erH (r : Er) : List AO := [.row (erC r), .tok 39 defC r.s.defs.length true]
def erO (b : Nat) (H : List AO) : Option Er :=
 match H with
 | [.row [.p (.l c0 toks), .p (.v (.int .i64 a)), .own _ c1 ds, .p (.v (.int .i64 e)), .p (.v (.int .i64 x)), .p (.v (.int .i64 y)), .p (.v (.int .i64 z))], .tok _ _ _ _] =>
  match castD (e := tkC) (e' := c0) toks, castD (e := defC) (e' := c1) ds with
  | some toks, some ds => some ⟨⟨toks, a.toNat, b, ds⟩, e, x, y, z⟩
  | _, _ => none
 | _ => none
theorem erO_bod {b : Nat} {H : List AO} {r : Er} (h : erO b H = some r) : r.s.bod = b := by
 unfold erO at h
 split at h
 ·split at h
  ·exact (Option.some.inj (congrArg (fun q => q.map fun q : Er => q.s.bod) h)).symm
  ·cases h
 ·cases h
def saysE {α : Type} (da : List AV → Option α) (ea : α → List AV) (bo : α → Nat) (pre : Er → α → Prop) (g : Er → α → SV × Er) : Says := fun args H => match args with
 | .c (.ptr 0 0) :: al => match da al with
  | some a => match erO (bo a) H with
   | some r => some (some (al = ea a ∧ H = erH r ∧ pre r a), (g r a).1, erH (g r a).2)
   | none => none
  | none => none
 | _ => none
theorem extE {α : Type} {P : Program} {T : Table} (hT : TSound P T) (f : FuncId) {fn : Func} (hf : P.funcs[f]? = some fn) (hname : NG9 fn) (da : List AV → Option α) (ea : α → List AV) (bo : α → Nat) (pre : Er → α → Prop) (g : Er → α → SV × Er) (hn : ∀ a, (ea a).length + 1 ≤ fn.ntmps) (ks : List Nat)
  (h : ∀ r a, pre r a → r.s.bod = bo a → runF ⟨P, T⟩ fn ks [0, 1] (.c (.ptr 0 0) :: ea a) (erH r) fun r' H'' => Ends r' H'' (g r a).1 (erH (g r a).2)) : TSound P (ext T f (saysE da ea bo pre g)) :=
 ext_run hT hf hname ks fun args H p r H' hs hp => by
  unfold saysE at hs
  split at hs
  ·split at hs
   ·split at hs
    ·rename_i a _ _ r hr
     cases hs
     obtain ⟨rfl, rfl, hpre⟩ := hp
     have hb := erO_bod hr
     exact ⟨hn _, [0, 1], rfl, id2, h _ _ hpre hb⟩
    ·cases hs
   ·cases hs
  ·cases hs
def looksE {α : Type} (da : List AV → Option α) (ea : α → List AV) (pre : Er → α → Prop) (g : Er → α → SV) : List AV → List AO → Option (Option Prop × SV) := fun args H => match args with
 | .c (.ptr 0 0) :: al => match da al with
  | some a => match erO 0 H with
   | some r => some (some (al = ea a ∧ H = erH r ∧ pre r a), g r a)
   | none => none
  | none => none
 | _ => none
theorem extLE {α : Type} {P : Program} {T : Table} (hT : TSound P T) (f : FuncId) {fn : Func} (hf : P.funcs[f]? = some fn) (hname : NG9 fn) (da : List AV → Option α) (ea : α → List AV) (pre : Er → α → Prop) (g : Er → α → SV) (hn : ∀ a, (ea a).length + 1 ≤ fn.ntmps) (ks : List Nat)
  (h : ∀ r a, pre r a → runF ⟨P, T⟩ fn ks [0, 1] (.c (.ptr 0 0) :: ea a) (erH r) fun r' H'' => Ends r' H'' (g r a) (erH r)) : TSound P (ext T f (looks (looksE da ea pre g))) :=
 ext_look hT hf hname ks fun args H p r hs hp => by
  unfold looksE at hs
  split at hs
  ·split at hs
   ·split at hs
    ·cases hs
     obtain ⟨rfl, rfl, hpre⟩ := hp
     exact ⟨hn _, [0, 1], rfl, id2, h _ _ hpre⟩
    ·cases hs
   ·cases hs
  ·cases hs
def bo0 {α : Type} (_ : α) : Nat := 0
section
variable {T : Table} (hT : TS9 T)
abbrev E0 (T : Table) : Table := ext T 52 (saysS fun s => (some (fits s), .bool (rNameS s)))
abbrev E1 (T : Table) : Table := ext (E0 T) 54 (saysS fun s => (some (fits s), .bool (rLabelS s)))
abbrev E2 (T : Table) : Table := ext (E1 T) 53 (saysS fun s => (some (fits s), .bool (rPrp s)))
include hT in
theorem e2 : TS9 (E2 T) := by
 refine extS (ext_only t20 (ext_only t19 hT)) 53 (fn := Tryz.f53) rfl rfl (by decide) _ [0, 2, 3, 11, 15, 21, 24] fun s hs => ?_
 have hf : s.size ≤ 1000000000 := hs
 unfold rPrp
 conv => whnf
 refine cI9 ?_ ?_<;>intro h
 ·have h1 : (s.size : Int) < 1 ∨ 31 < (s.size : Int) := by
   have h2 : (decide ((s.size : Int) < 1) || decide (31 < (s.size : Int))) = true := h
   simpa using h2
  rw [if_pos h1]
  conv => whnf
  exact eR9
 have h1 : ¬ ((s.size : Int) < 1 ∨ 31 < (s.size : Int)) := by
  have h2 : (decide ((s.size : Int) < 1) || decide (31 < (s.size : Int))) = false := h
  simp at h2
  omega
 rw [if_neg h1]
 conv => whnf
 obtain ⟨l, rfl⟩ : ∃ l, s = B l := ⟨s.data.toList, rfl⟩
 have hB : (B l).size = l.length := rfl
 have hd : (B l).data.toList = l := rfl
 rw [hd]
 refine lI9 (σ := Nat) (fun i => [(0, XV.s (.str (B l))), (2, nX9), (3, XV.s (.int .i64 (i : Nat))), (11, nX9), (15, nX9), (21, nX9), (24, nX9)])
  (fun _ => []) (fun i => i ≤ l.length ∧ has64 (l.drop i) = has64 l) (fun i => l.length - i) 0 ?_ rfl ?_ fun i hI => ?_
 ·repeat first|exact lN9|refine lD9 ?_|refine lS9 ?_
 ·exact ⟨nZ9 _, rfl⟩
 obtain ⟨h2, h3⟩ := hI
 conv => whnf
 refine cI9 ?_ ?_<;>intro h4
 ·have h5 : i < l.length := by
   have h6 : (i : Int) < ((B l).size : Nat) := oT9 h4
   omega
  have hin : 0 ≤ (i : Int) ∧ (i : Int) < ((B l).size : Nat) := by omega
  have hb : byteAt (B l) (i : Int) = (((l[i]).toNat : Nat) : Int) := by
   rw [byteAt_B]
   simp [h5]
  rw [List.drop_eq_getElem_cons h5, has64_cons] at h3
  repeat ((conv => whnf); refine ⟨hin, ?_⟩)
  conv => whnf
  refine cI9 ?_ ?_<;>intro h6
  ·have h7 : ((l[i].toNat : Nat) : Int) = 64 := by rw [← hb]; exact oT9 h6
   rw [if_pos h7] at h3
   rw [if_pos h3.symm]
   conv => whnf
   exact eR9
  ·have h7 : ¬ ((l[i].toNat : Nat) : Int) = 64 := by rw [← hb]; exact oF9 h6
   rw [if_neg h7] at h3
   repeat ((conv => whnf); refine ⟨by (unfold inI64; omega), ?_⟩)
   conv => whnf
   refine hI9 (i + 1) ?_ rfl ?_ ?_
   ·repeat first|exact lN9|refine lD9 ?_|refine lS9 ?_
   ·exact ⟨h5, h3⟩
   ·omega
 ·have h5 : i = l.length := by
   have h6 : ¬ (i : Int) < ((B l).size : Nat) := oF9 h4
   omega
  subst h5
  rw [List.drop_length] at h3
  rw [if_neg (by rw [← h3]; decide)]
  have h0 : 0 ≤ (0 : Int) ∧ (0 : Int) < ((B l).size : Nat) := by omega
  repeat ((conv => whnf); refine ⟨h0, ?_⟩)
  conv => whnf
  refine cI9 ?_ ?_<;>intro h6
  ·have h7 : byteAt (B l) 0 = 35 := oT9 h6
   rw [if_pos h7]
   have e1 : (⟨#[97]⟩ : ByteArray).size = 1 := rfl
   have e2 : ((B l).extract 1 (B l).size).size ≤ (B l).size := by rw [ByteArray.size_extract]; omega
   have e3 : (((⟨#[97]⟩ : ByteArray).size + ((B l).extract 1 (B l).size).size : Nat) : Int) ≤ 9223372036854775807 := by omega
   have e4 : (⟨#[97]⟩ ++ (B l).extract 1 (B l).size : ByteArray).size ≤ 1000000000 := by
    rw [zA9, e1]
    have : ((B l).size : Int) ≤ 31 := by omega
    omega
   have e5 : 0 ≤ (1 : Int) ∧ (1 : Int) ≤ ((B l).size : Nat) ∧ ((B l).size : Int) ≤ ((B l).size : Nat) := by omega
   repeat ((conv => whnf); refine ⟨by first | exact fun _ => e5 | exact fun _ => e3 | exact fun _ => e4, ?_⟩)
   conv => whnf
   refine eE9 ⟨congrArg SV.bool ?_, rfl⟩
   show (decide (((B l).size : Int) = 1) || rNameS (⟨#[97]⟩ ++ (B l).extract 1 (B l).size)) = (decide (((B l).size : Int) = 1) || namB (⟨#[97]⟩ ++ (B l).extract 1 (B l).size))
   rw [nameS_same]
   rfl
  ·have h7 : ¬ byteAt (B l) 0 = 35 := oF9 h6
   rw [if_neg h7]
   repeat ((conv => whnf); refine ⟨hf, ?_⟩)
   conv => whnf
   exact eE9 ⟨congrArg SV.bool (nameS_same _), rfl⟩
def failE (e : Int) (r : Er) : Er := if r.err = 0 then ⟨r.s, e, r.s.tok.2.2.2⟩ else r
abbrev E3 (T : Table) : Table := ext (E2 T) 51 (saysE daI eaI bo0 (fun r _ => r.s.at_ < r.s.toks.length) fun r e => (.tup [], failE e r))
include hT in
theorem e3 : TS9 (E3 T) := by
 refine extE (e2 hT) 51 (fn := Tryz.f51) rfl rfl daI eaI bo0 _ _ (fun _ => nB9 rfl) [0, 1, 8] fun r e hs hb => ?_
 have hlt : r.s.at_ < r.s.toks.length := hs
 have hin : 0 ≤ (r.s.at_ : Int) ∧ (r.s.at_ : Int) < (r.s.toks.length : Nat) := by omega
 unfold failE
 conv => whnf
 refine cI9 ?_ ?_<;>intro h
 ·have h1 : r.err = 0 := oT9 h
  rw [if_pos h1]
  repeat ((conv => whnf); refine ⟨by first | exact hin | exact rfl, ?_⟩)
  conv => whnf
  exact eR9
 ·have h1 : ¬ r.err = 0 := oF9 h
  rw [if_neg h1]
  conv => whnf
  exact eR9
def daIS : List AV → Option (Int × ByteArray)
 | [.c (.p (.v (.int .i64 n))), .c (.p (.v (.string s)))] => some (n, s)
 | _ => none
def eaIS (x : Int × ByteArray) : List AV := [.c (.int .i64 x.1), .c (.str x.2)]
def isE (k : Int) (t : ByteArray) (r : Er) : Bool := decide (r.s.tok.1 = k) && decide (r.s.tok.2.1 = t)
abbrev E4 (T : Table) : Table := ext (E3 T) 33 (looks (looksE daIS eaIS (fun r _ => r.s.at_ < r.s.toks.length) fun r x => .bool (isE x.1 x.2 r)))
include hT in
theorem e4 : TS9 (E4 T) := by
 refine extLE (e3 hT) 33 (fn := Tryz.f33) rfl rfl daIS eaIS _ _ (fun _ => nB9 rfl) [0, 1, 2, 6] fun r x hs => ?_
 obtain ⟨k, t⟩ := x
 have hlt : r.s.at_ < r.s.toks.length := hs
 have hin : 0 ≤ (r.s.at_ : Int) ∧ (r.s.at_ : Int) < (r.s.toks.length : Nat) := by omega
 repeat ((conv => whnf); refine ⟨by first | exact hin | exact fun _ => hin | exact rfl, ?_⟩)
 conv => whnf
 exact eR9
def takeE (t : ByteArray) (r : Er) : Er := if r.err = 0 then erOf (mustS t r.s) else r
abbrev E5 (T : Table) : Table := ext (E4 T) 37 (saysE daS eaS bo0 (fun r _ => r.s.at_ < r.s.toks.length ∧ r.s.toks.length ≤ 6001 ∧ (r.err = 0 → r.pos = (0, 0, 0))) fun r t => (.tup [], takeE t r))
include hT in
theorem e5 : TS9 (E5 T) := by
 refine extE (e4 hT) 37 (fn := Tryz.f37) rfl rfl daS eaS bo0 _ _ (fun _ => nB9 rfl) [0, 1, 8, 12] fun r t hs hb => ?_
 obtain ⟨hlt, hl, hpos⟩ : r.s.at_ < r.s.toks.length ∧ r.s.toks.length ≤ 6001 ∧ (r.err = 0 → r.pos = (0, 0, 0)) := hs
 obtain ⟨s, e, ps⟩ := r
 unfold takeE
 conv => whnf
 refine cI9 ?_ ?_<;>intro h
 ·have h1 : ¬ e = 0 := by
   have h2 : (!decide (e = 0)) = true := h
   simpa using h2
  rw [if_neg h1]
  conv => whnf
  exact eR9
 have h1 : e = 0 := by
  have h2 : (!decide (e = 0)) = false := h
  simpa using h2
 subst h1
 obtain rfl : ps = (0, 0, 0) := hpos rfl
 rw [if_pos rfl]
 unfold mustS
 repeat ((conv => whnf); refine ⟨⟨rfl, rfl, hlt⟩, ?_⟩)
 conv => whnf
 refine cI9 ?_ ?_<;>intro h2
 ·have h3 : ¬ sgnI s.tok t = true := by
   have h4 : (!(decide (s.tok.1 = 4) && decide (s.tok.2.1 = t))) = true := h2
   intro hh
   have hh : (decide (s.tok.1 = 4) && decide (s.tok.2.1 = t)) = true := hh
   rw [hh] at h4
   cases h4
  rw [if_neg h3]
  repeat ((conv => whnf); refine ⟨⟨rfl, rfl, hlt⟩, ?_⟩)
  conv => whnf
  exact eR9
 ·have h3 : sgnI s.tok t = true := by
   have h4 : (!(decide (s.tok.1 = 4) && decide (s.tok.2.1 = t))) = false := h2
   unfold sgnI
   simpa using h4
  rw [if_pos h3]
  repeat ((conv => whnf); refine ⟨by (unfold inI64; omega), ?_⟩)
  conv => whnf
  exact eR9
end
def vfE (how : Int) : ByteArray → Bool := if how = 1 then namB else if how = 2 then prpB else if how = 3 then labB else fun _ => true
def wordE (k how : Int) (r : Er) : ByteArray × Er := if r.err = 0 then ((takeS k (vfE how) r.s).1.1, erOf ((takeS k (vfE how) r.s).1.2, (takeS k (vfE how) r.s).2)) else (e0, r)
structure ErOk (r : Er) : Prop where
 v : Vld r.s
 p : r.err = 0 → r.pos = (0, 0, 0)
def daII : List AV → Option (Int × Int)
 | [.c (.p (.v (.int .i64 n))), .c (.p (.v (.int .i64 m)))] => some (n, m)
 | _ => none
def eaII (x : Int × Int) : List AV := [.c (.int .i64 x.1), .c (.int .i64 x.2)]
section
variable {T : Table} (hT : TS9 T)
abbrev E6 (T : Table) : Table := ext (E5 T) 35 (saysE daII eaII bo0 (fun r x => ErOk r ∧ (x.2 = 1 ∨ x.2 = 2 ∨ x.2 = 3 ∨ x.2 = 4)) fun r x => (.str (wordE x.1 x.2 r).1, (wordE x.1 x.2 r).2))
set_option maxHeartbeats 1000000 in
include hT in
theorem e6 : TS9 (E6 T) := by
 refine extE (e5 hT) 35 (fn := Tryz.f35) rfl rfl daII eaII bo0 _ _ (fun _ => nB9 rfl) [0, 1, 2, 6, 7, 12, 26, 56] fun r x hs hb => ?_
 obtain ⟨k, how⟩ := x
 obtain ⟨hr, hw⟩ : ErOk r ∧ (how = 1 ∨ how = 2 ∨ how = 3 ∨ how = 4) := hs
 obtain ⟨s, e, ps⟩ := r
 have hv : Vld s := hr.v
 have hlt := hv.lt
 have hlen := hv.len
 have hin : 0 ≤ (s.at_ : Int) ∧ (s.at_ : Int) < (s.toks.length : Nat) := by omega
 have hfit : s.tok.2.1.size ≤ 1000000000 := by
  have hm : s.tok ∈ s.toks := by
   unfold Sr.tok
   rw [List.getD_eq_getElem?_getD, List.getElem?_eq_getElem hlt]
   exact List.getElem_mem hlt
  have := (hv.fit _ hm).1
  omega
 unfold wordE
 conv => whnf
 refine cI9 ?_ ?_<;>intro h
 ·have h1 : ¬ e = 0 := by
   have h2 : (!decide (e = 0)) = true := h
   simpa using h2
  rw [if_neg h1]
  conv => whnf
  exact eR9
 have h1 : e = 0 := by
  have h2 : (!decide (e = 0)) = false := h
  simpa using h2
 subst h1
 obtain rfl : ps = (0, 0, 0) := hr.p rfl
 rw [if_pos rfl]
 unfold takeS
 repeat ((conv => whnf); refine ⟨by first | exact hin | (repeat ((conv => whnf); refine ⟨by ((conv => whnf); first | exact ⟨rfl, rfl, rfl⟩ | exact ⟨hin, rfl, rfl, rfl⟩), ?_⟩)); ((conv => whnf); exact trivial) | exact rfl, ?_⟩)
 conv => whnf
 refine cI9 ?_ ?_<;>intro h2
 ·have h3 : ¬ s.tok.1 = k := by
   have h4 : (!decide (s.tok.1 = k)) = true := h2
   simpa using h4
  rw [if_neg h3]
  repeat ((conv => whnf); refine ⟨⟨rfl, rfl, hlt⟩, ?_⟩)
  conv => whnf
  exact eR9
 have h3 : s.tok.1 = k := by
  have h4 : (!decide (s.tok.1 = k)) = false := h2
  simpa using h4
 rw [if_pos h3]
 have hvf : (!vfE how s.tok.2.1) = ((decide (how = 1) && !rNameS s.tok.2.1) || (decide (how = 2) && !rPrp s.tok.2.1) || (decide (how = 3) && !rLabelS s.tok.2.1)) := by
  rw [nameS_same, prp_same, labelS_same]
  rcases hw with rfl | rfl | rfl | rfl
  ·show (!namB s.tok.2.1) = _
   simp [namB]
  ·show (!prpB s.tok.2.1) = _
   simp
  ·show (!labB s.tok.2.1) = _
   simp [labB]
  ·show (!true) = _
   simp
 repeat ((conv => whnf); refine ⟨fun _ => hfit, ?_⟩)
 conv => whnf
 refine cI9 ?_ ?_<;>intro h5
 ·have h6 : (!vfE how s.tok.2.1) = true := by
   rw [hvf]
   exact h5
  rw [if_neg (by simpa using h6)]
  repeat ((conv => whnf); refine ⟨⟨rfl, rfl, hlt⟩, ?_⟩)
  conv => whnf
  exact eR9
 ·have h6 : (!vfE how s.tok.2.1) = false := by
   rw [hvf]
   exact h5
  rw [if_pos (by simpa using h6)]
  have hi : inI64 ((s.at_ : Int) + 1) := by unfold inI64; omega
  repeat ((conv => whnf); refine ⟨hi, ?_⟩)
  conv => whnf
  exact eR9
end
def daDf : List AV → Option (defC.den × Bool)
 | [.agg [.p (.v (.int .i64 k)), .p (.v (.string a)), .p (.v (.string b)), .p (.l c0 ps), .p (.v (.int .i64 x)), .p (.v (.int .i64 y)), .p (.v (.int .i64 z))]] => match castD (e := prtC) (e' := c0) ps with
  | some ps => some ((k, a, b, ps, x, y, z), false)
  | none => none
 | [.agg [.p (.v (.int .i64 k)), .p (.v (.string a)), .p (.v (.string b)), .p (.v (.slice none 0 0)), .p (.v (.int .i64 x)), .p (.v (.int .i64 y)), .p (.v (.int .i64 z))]] => some ((k, a, b, [], x, y, z), true)
 | _ => none
def eaDf (d : defC.den × Bool) : List AV := match d.2 with
 | true => [.agg [.int .i64 d.1.1, .str d.1.2.1, .str d.1.2.2.1, .p (.v (.slice none 0 0)), .int .i64 d.1.2.2.2.2.1, .int .i64 d.1.2.2.2.2.2.1, .int .i64 d.1.2.2.2.2.2.2]]
 | false => [.agg [.int .i64 d.1.1, .str d.1.2.1, .str d.1.2.2.1, .p (.l prtC d.1.2.2.2.1), .int .i64 d.1.2.2.2.2.1, .int .i64 d.1.2.2.2.2.2.1, .int .i64 d.1.2.2.2.2.2.2]]
def Sr.z (s : Sr) : Sr := { s with bod := 0 }
def addE (d : defC.den) (r : Er) : Er := if r.err = 0 then { r with s := r.s.add d } else r
theorem exprV_bad {pm : Bool} {toks : List tkC.den} {a : Int} (h : ¬ (exprV pm toks a).2.2 = 0) : (exprV pm toks a).1 = 0 := by
 unfold exprV at h ⊢
 split
 ·rfl
 ·rename_i h1
  rw [if_neg h1] at h
  split
  ·rfl
  ·rename_i x ts f he
   rw [he] at h
   dsimp only at h ⊢
   split
   ·rename_i h2
    rw [if_pos h2] at h
    exact absurd rfl h
   ·rfl
section
variable {T : Table} (hT : TS9 T)
abbrev E7 (T : Table) : Table := ext (E6 T) 34 (saysE daDf eaDf bo0 (fun r x => r.s.defs.length ≤ 1000000 ∧ (x.2 = true → x.1.2.2.2.1 = [])) fun r x => (.tup [], addE x.1 r))
include hT in
theorem e7 : TS9 (E7 T) := by
 refine extE (e6 hT) 34 (fn := Tryz.f34) rfl rfl daDf eaDf bo0 _ _ (fun ⟨_, b⟩ => by cases b <;> exact nB9 rfl) [0, 1, 3, 8] fun r x hs hb => ?_
 obtain ⟨d, b⟩ := x
 obtain ⟨hl, hn⟩ : r.s.defs.length ≤ 1000000 ∧ (b = true → d.2.2.2.1 = []) := hs
 have hc : r.s.defs.length + 1 ≤ 1000000000000 := by omega
 have fin : ∀ d : defC.den, [AO.row [.p (.l tkC r.s.toks), .int .i64 r.s.at_, .own 1 defC (r.s.defs ++ [d]), .int .i64 r.err, .int .i64 r.pos.1, .int .i64 r.pos.2.1, .int .i64 r.pos.2.2], AO.tok 39 defC (r.s.defs.length + 1) true] = erH { r with s := r.s.add d } := fun d => by
  show [_, AO.tok 39 defC (r.s.defs.length + 1) true] = [_, AO.tok 39 defC (r.s.defs ++ [d]).length true]
  rw [zP9]
  rfl
 unfold addE
 obtain ⟨k, a, c, ps, x, y, z⟩ := d
 cases b with
 | true =>
  obtain rfl : ps = [] := hn rfl
  conv => whnf
  refine cI9 ?_ ?_<;>intro h
  ·have h1 : r.err = 0 := oT9 h
   rw [if_pos h1]
   repeat ((conv => whnf); refine ⟨by first | exact hc | omega | exact rfl, ?_⟩)
   conv => whnf
   exact eE9 ⟨rfl, fin _⟩
  ·have h1 : ¬ r.err = 0 := oF9 h
   rw [if_neg h1]
   conv => whnf
   exact eR9
 | false =>
  conv => whnf
  refine cI9 ?_ ?_<;>intro h
  ·have h1 : r.err = 0 := oT9 h
   rw [if_pos h1]
   repeat ((conv => whnf); refine ⟨by first | exact hc | omega | exact rfl, ?_⟩)
   conv => whnf
   exact eE9 ⟨rfl, fin _⟩
  ·have h1 : ¬ r.err = 0 := oF9 h
   rw [if_neg h1]
   conv => whnf
   exact eR9
abbrev E8 (N : Nat) (T : Table) : Table := ext (P7 N (E7 T)) 76 (saysE da0 ea0 bo0 (fun r _ => ErOk r ∧ r.err = 0) fun r _ => (.a (.agg [.int .i64 (celS r.s).1.1.1, .str (celS r.s).1.1.2]), erOf ((celS r.s).1.2, (celS r.s).2)))
include hT in
theorem e8 {N : Nat} (hN : 20000 ≤ N) : TS9 (E8 N T) := by
 refine extE (p7 (e7 hT) hN) 76 (fn := Tryz.f76) rfl rfl da0 ea0 bo0 _ _ (fun _ => nB9 rfl) [0, 2, 3, 4, 5, 17, 35] fun r _ hs hb => ?_
 obtain ⟨hr, he⟩ : ErOk r ∧ r.err = 0 := hs
 obtain ⟨s, e, ps⟩ := r
 have he : e = 0 := he
 subst he
 obtain rfl : ps = (0, 0, 0) := hr.p rfl
 obtain ⟨u, rfl⟩ : ∃ u : Sr, s = u.z := ⟨s, by have hb0 : s.bod = 0 := hb; unfold Sr.z; rw [← hb0]⟩
 have hv : Vld u.z := hr.v
 have hlt := hv.lt
 have hlen := hv.len
 have hin : 0 ≤ (u.z.at_ : Int) ∧ (u.z.at_ : Int) < (u.z.toks.length : Nat) := by omega
 have hw : ErOk ⟨u.z, 0, 0, 0, 0⟩ ∧ ((3 : Int) = 1 ∨ (3 : Int) = 2 ∨ (3 : Int) = 3 ∨ (3 : Int) = 4) := ⟨hr, .inr (.inr (.inl rfl))⟩
 unfold celS
 repeat ((conv => whnf); refine ⟨by first | exact hin | exact rfl, ?_⟩)
 conv => whnf
 refine cI9 ?_ ?_<;>intro h
 ·have h1 : u.z.tok.1 = 6 := oT9 h
  rw [if_pos h1]
  have hv3 : wordE 6 3 ⟨u.z, 0, 0, 0, 0⟩ = ((takeS 6 labB u.z).1.1, erOf ((takeS 6 labB u.z).1.2, (takeS 6 labB u.z).2)) := rfl
  repeat ((conv => whnf); refine ⟨⟨rfl, rfl, hw⟩, ?_⟩)
  conv => whnf
  exact eR9
 ·have h1 : ¬ u.z.tok.1 = 6 := oF9 h
  rw [if_neg h1]
  dsimp only
  have h6 : u.z.toks.length ≤ 6001 := hlen
  repeat ((conv => whnf); refine ⟨by first | exact ⟨rfl, h6⟩ | exact rfl, ?_⟩)
  conv => whnf
  refine cI9 ?_ ?_<;>intro h2
  ·have h3 : ¬ (exprV true u.z.toks (u.z.at_ : Int)).2.2 = 0 := by
    have h4 : (!decide ((exprV true u.z.toks (u.z.at_ : Int)).2.2 = 0)) = true := h2
    simpa using h4
   rw [if_neg h3]
   repeat ((conv => whnf); refine ⟨⟨rfl, rfl, hlt⟩, ?_⟩)
   conv => whnf
   refine eE9 ⟨?_, ?_⟩
   ·show SV.a (.agg [.int .i64 0, .str e0]) = SV.a (.agg [.int .i64 (exprV true u.z.toks (u.z.at_ : Int)).1, .str e0])
    rw [exprV_bad h3]
   ·show erH (failE (exprV true u.z.toks (u.z.at_ : Int)).2.2 ⟨u.z, 0, 0, 0, 0⟩) = erH (erOf ((exprV true u.z.toks (u.z.at_ : Int)).2.2, u.z))
    unfold failE erOf
    rw [if_pos rfl, if_neg h3]
  ·have h3 : (exprV true u.z.toks (u.z.at_ : Int)).2.2 = 0 := by
    have h4 : (!decide ((exprV true u.z.toks (u.z.at_ : Int)).2.2 = 0)) = false := h2
    simpa using h4
   rw [if_pos h3]
   have h4 := exprV_on hv.lst hv.lt h3
   have hx : (((exprV true u.z.toks (u.z.at_ : Int)).2.1.toNat : Nat) : Int) = (exprV true u.z.toks (u.z.at_ : Int)).2.1 := by omega
   conv => whnf
   refine eE9 ⟨rfl, ?_⟩
   show _ = [AO.row [.p (.l tkC u.z.toks), .int .i64 (((exprV true u.z.toks (u.z.at_ : Int)).2.1.toNat : Nat) : Int), .own 1 defC u.z.defs, .int .i64 0, .int .i64 0, .int .i64 0, .int .i64 0], .tok 39 defC u.z.defs.length true]
   rw [hx]
end
def numsE : Nat → Sr → List Int → List Int × (Int × Sr)
 | 0, r, out => (out, 6, r)
 | k + 1, r, out => if r.tok.1 = 2 then (if 255 < r.tok.2.2.1 then (out, 2, r) else numsE k r.adv (out ++ [IntKind.u8.wrap r.tok.2.2.1])) else (out, mustS ⟨#[93]⟩ r)
def celsE : Nat → Sr → List celC.den → List celC.den × (Int × Sr)
 | 0, r, out => (out, 6, r)
 | k + 1, r, out => if sgnI r.tok ⟨#[62]⟩ = true then (out, 0, r.adv) else if (celS r).1.2 = 0 then celsE k (celS r).2 (out ++ [(celS r).1.1]) else (out ++ [(celS r).1.1], (celS r).1.2, (celS r).2)
def prtE (r : Sr) : prtC.den × (Int × Sr) :=
 if r.tok.1 = 3 then ((2, [], (takeS 3 (fun _ => true) r).1.1), (takeS 3 (fun _ => true) r).1.2, (takeS 3 (fun _ => true) r).2)
 else if r.tok.1 = 6 then ((4, [], (takeS 6 labB r).1.1), (takeS 6 labB r).1.2, (takeS 6 labB r).2)
 else if sgnI r.tok ⟨#[91]⟩ = true then ((3, [], bytesOf (numsE r.toks.length r.adv []).1), (numsE r.toks.length r.adv []).2)
 else if sgnI r.tok ⟨#[60]⟩ = true then ((1, (celsE r.toks.length r.adv []).1, e0), (celsE r.toks.length r.adv []).2)
 else ((0, [], e0), 6, r)
theorem sgnI_4 {t : tkC.den} {s : ByteArray} (h : sgnI t s = true) : t.1 = 4 := oT9 (bA9.1 h).1
theorem numsE_same : ∀ (k : Nat) (r : Sr) (out : List Int), (numsE k r out).2 = ((numsS k r out).1.2, (numsS k r out).2) ∧ ((numsS k r out).1.2 = 0 → (numsS k r out).1.1 = bytesOf (numsE k r out).1) := by
 intro k
 induction k with
 | zero => intro r out; exact ⟨rfl, fun h => by cases h⟩
 | succ k ih =>
  intro r out
  unfold numsE numsS
  by_cases h2 : r.tok.1 = 2
  ·have h1 : ¬ sgnI r.tok ⟨#[93]⟩ = true := fun h => by have := sgnI_4 h; rw [h2] at this; exact absurd this (by decide)
   rw [if_pos h2, if_neg h1, if_pos h2]
   by_cases h3 : 255 < r.tok.2.2.1
   ·rw [if_pos h3, if_pos h3]
    exact ⟨rfl, fun h => by cases h⟩
   ·rw [if_neg h3, if_neg h3]
    exact ih _ _
  ·rw [if_neg h2, if_neg h2]
   unfold mustS
   by_cases h1 : sgnI r.tok ⟨#[93]⟩ = true
   ·rw [if_pos h1, if_pos h1]
    exact ⟨rfl, fun _ => rfl⟩
   ·rw [if_neg h1, if_neg h1]
    exact ⟨rfl, fun h => by cases h⟩
theorem celsE_same : ∀ (k : Nat) (r : Sr) (out : List celC.den), (celsE k r out).2 = ((celsS k r out).1.2, (celsS k r out).2) ∧ ((celsS k r out).1.2 = 0 → (celsS k r out).1.1 = (celsE k r out).1) := by
 intro k
 induction k with
 | zero => intro r out; exact ⟨rfl, fun h => by cases h⟩
 | succ k ih =>
  intro r out
  unfold celsE celsS
  by_cases h1 : sgnI r.tok ⟨#[62]⟩ = true
  ·rw [if_pos h1, if_pos h1]
   exact ⟨rfl, fun _ => rfl⟩
  ·rw [if_neg h1, if_neg h1]
   by_cases h2 : (celS r).1.2 = 0
   ·rw [if_pos h2, if_pos h2]
    exact ih _ _
   ·rw [if_neg h2, if_neg h2]
    exact ⟨rfl, fun h => absurd h h2⟩
theorem prtE_same (r : Sr) : (prtE r).2 = ((prtS r).1.2, (prtS r).2) ∧ ((prtS r).1.2 = 0 → (prtS r).1.1 = (prtE r).1) := by
 have no : ∀ {s : ByteArray} {n : Int}, r.tok.1 = n → n ≠ 4 → ¬ sgnI r.tok s = true := fun h hn hs => hn (by rw [← h]; exact sgnI_4 hs)
 unfold prtE prtS
 by_cases h3 : r.tok.1 = 3
 ·rw [if_pos h3, if_neg (no h3 (by decide)), if_neg (no h3 (by decide)), if_pos h3]
  exact ⟨rfl, fun _ => rfl⟩
 rw [if_neg h3]
 by_cases h6 : r.tok.1 = 6
 ·rw [if_pos h6, if_neg (no h6 (by decide)), if_neg (no h6 (by decide)), if_neg h3]
  exact ⟨rfl, fun _ => rfl⟩
 rw [if_neg h6]
 by_cases h9 : sgnI r.tok ⟨#[91]⟩ = true
 ·have h10 : ¬ sgnI r.tok ⟨#[60]⟩ = true := by
   intro h
   have a := oT9 (bA9.1 h).2
   have b := oT9 (bA9.1 h9).2
   rw [a] at b
   exact absurd b (by decide)
  rw [if_pos h9, if_neg h10, if_pos h9]
  obtain ⟨a, b⟩ := numsE_same r.toks.length r.adv []
  refine ⟨a, fun h => ?_⟩
  show ((3 : Int), ([] : List celC.den), (numsS r.toks.length r.adv []).1.1) = (3, [], bytesOf (numsE r.toks.length r.adv []).1)
  rw [b h]
 rw [if_neg h9]
 by_cases h10 : sgnI r.tok ⟨#[60]⟩ = true
 ·rw [if_pos h10, if_pos h10]
  obtain ⟨a, b⟩ := celsE_same r.toks.length r.adv []
  refine ⟨a, fun h => ?_⟩
  show ((1 : Int), (celsS r.toks.length r.adv []).1.1, e0) = (1, (celsE r.toks.length r.adv []).1, e0)
  rw [b h]
 ·rw [if_neg h10, if_neg h10, if_neg h9, if_neg h3]
  unfold takeS
  rw [if_neg h6]
  exact ⟨rfl, fun h => by cases h⟩
theorem Sr.z_id {s : Sr} (h : s.bod = 0) : s.z = s := by
 unfold Sr.z
 rw [← h]
theorem erOf_0 {x : Int × Sr} (h : x.1 = 0) : erOf x = x.2.ok := if_pos h
theorem erOf_n {x : Int × Sr} (h : ¬ x.1 = 0) : erOf x = ⟨x.2, x.1, x.2.tok.2.2.2⟩ := if_neg h
theorem take_erOf {s : ByteArray} {x : Int × Sr} : takeE s (erOf x) = if x.1 = 0 then erOf (mustS s x.2) else erOf x := by
 unfold takeE
 by_cases h : x.1 = 0
 ·rw [if_pos h, erOf_0 h, if_pos (show x.2.ok.err = 0 from rfl)]
  rfl
 ·rw [if_neg h, erOf_n h, if_neg h]
theorem nil_one (c : CT) {l r : List AC} (G : View) (v : Value) (h : RepS G (.a (.agg (l ++ .p (.v (.slice none 0 0)) :: r))) v) : RepS G (.a (.agg (l ++ .p (.l c []) :: r))) v := by
 obtain ⟨cs, rfl, hc⟩ := h
 refine ⟨cs, rfl, ?_⟩
 have : ∀ (l : List AC) (cs : List Value), All2 (RepC G) (l ++ .p (.v (.slice none 0 0)) :: r) cs → All2 (RepC G) (l ++ .p (.l c []) :: r) cs := by
  intro l
  induction l with
  | nil =>
   intro cs h
   cases h with
   | cons h2 t2 =>
    refine .cons ?_ t2
    obtain ⟨_, rfl⟩ := h2
    exact .inl ⟨rfl, rfl⟩
  | cons x l ih =>
   intro cs h
   cases h with
   | cons h2 t2 => exact .cons h2 (ih _ t2)
 exact this l cs hc
def prtA (p : prtC.den) : SV := .a (.agg [.int .i64 p.1, .p (.l celC p.2.1), .str p.2.2])
theorem celS_bod (r : Sr) : (celS r).2.bod = r.bod := by
 unfold celS
 split
 ·unfold takeS
  repeat (first | rfl | split)
 ·simp only
  split <;> rfl
theorem id3r : ∀ k, k < 3 → [0, 1, 2, 3][k]? = some k := fun k hk => by
 have : k = 0 ∨ k = 1 ∨ k = 2 := by omega
 rcases this with rfl | rfl | rfl <;> rfl
theorem id4r : ∀ k, k < 4 → [0, 1, 2, 3, 4][k]? = some k := fun k hk => by
 have : k = 0 ∨ k = 1 ∨ k = 2 ∨ k = 3 := by omega
 rcases this with rfl | rfl | rfl | rfl <;> rfl
section
variable {T : Table} (hT : TS9 T)
abbrev E9 (N : Nat) (T : Table) : Table := ext (E8 N T) 69 (saysE da0 ea0 bo0 (fun r _ => ErOk r ∧ r.err = 0) fun r _ => (prtA (prtE r.s).1, erOf (prtE r.s).2))
include hT in
theorem e9 {N : Nat} (hN : 20000 ≤ N) : TS9 (E9 N T) := by
 refine extE (e8 hT hN) 69 (fn := Tryz.f69) rfl rfl da0 ea0 bo0 _ _ (fun _ => nB9 rfl) [0, 2, 3, 4, 5, 21, 37, 65, 77, 107, 127] fun r _ hs hb => ?_
 obtain ⟨hr, he⟩ : ErOk r ∧ r.err = 0 := hs
 obtain ⟨s, e, ps⟩ := r
 have he : e = 0 := he
 subst he
 obtain rfl : ps = (0, 0, 0) := hr.p rfl
 obtain ⟨u, rfl⟩ : ∃ u : Sr, s = u.z := ⟨s, by have hb0 : s.bod = 0 := hb; unfold Sr.z; rw [← hb0]⟩
 have hv : Vld u.z := hr.v
 have hlt := hv.lt
 have hlen := hv.len
 have hi := hv.i64
 have hin : 0 ≤ (u.z.at_ : Int) ∧ (u.z.at_ : Int) < (u.z.toks.length : Nat) := by omega
 unfold prtE
 repeat ((conv => whnf); refine ⟨by first | exact hin | exact rfl, ?_⟩)
 conv => whnf
 refine cI9 ?_ ?_<;>intro h
 ·have h1 : u.z.tok.1 = 3 := oT9 h
  rw [if_pos h1]
  repeat ((conv => whnf); refine ⟨⟨rfl, rfl, hr, .inr (.inr (.inr rfl))⟩, ?_⟩)
  conv => whnf
  refine eO9 (fun G v hv => ?_) rfl
  exact nil_one celC (l := [.int .i64 2]) (r := [.str (takeS 3 (fun _ => true) u.z).1.1]) G v hv
 have h1 : ¬ u.z.tok.1 = 3 := oF9 h
 rw [if_neg h1]
 repeat ((conv => whnf); refine ⟨by first | exact hin | exact rfl, ?_⟩)
 conv => whnf
 refine cI9 ?_ ?_<;>intro h2
 ·have h3 : u.z.tok.1 = 6 := oT9 h2
  rw [if_pos h3]
  repeat ((conv => whnf); refine ⟨⟨rfl, rfl, hr, .inr (.inr (.inl rfl))⟩, ?_⟩)
  conv => whnf
  refine eO9 (fun G v hv => ?_) rfl
  exact nil_one celC (l := [.int .i64 4]) (r := [.str (takeS 6 labB u.z).1.1]) G v hv
 have h3 : ¬ u.z.tok.1 = 6 := oF9 h2
 rw [if_neg h3]
 repeat ((conv => whnf); refine ⟨⟨rfl, rfl, hlt⟩, ?_⟩)
 conv => whnf
 refine cI9 ?_ ?_<;>intro h4
 ·have h5 : sgnI u.z.tok ⟨#[91]⟩ = true := h4
  rw [if_pos h5]
  have ga := hv.adv (sgnI_kind h5) 0
  repeat ((conv => whnf); refine ⟨hi, ?_⟩)
  conv => whnf
  refine loop_weak (σ := Sr × List Int × Nat) (fun ⟨_, zs, _⟩ => [(0, XV.s (.a (.c (.ptr 0 0)))), (2, XV.s (.a (.c (.ptr 2 0)))), (3, XV.s (.a (.c (.own 3 (.int .u8) zs)))), (4, nX9), (5, nX9), (21, nX9), (37, nX9), (65, nX9), (77, nX9), (107, nX9), (127, nX9)])
   (fun ⟨q, zs, _⟩ => erH q.ok ++ [.row [.int .i64 0, nilA, .str e0], tokU zs.length])
   (fun ⟨q, zs, k⟩ => Vld q ∧ q.bod = 0 ∧ q.toks.length ≤ k + q.at_ ∧ zs.length ≤ q.at_ ∧ numsE k q zs = numsE u.z.toks.length u.z.adv []) (fun ⟨_, _, k⟩ => k) (u.z.adv, [], u.z.toks.length) ?_ ?_ fun ⟨q, zs, k⟩ hI => ?_
  ·refine Weak.own 5 ?_
   repeat first|exact wN9|refine wD9 ?_|refine wS9 ?_|refine wO9 ?_
  ·exact ⟨ga.vld hv, rfl, Nat.le_add_right _ _, nZ9 _, rfl⟩
  obtain ⟨hq, hqb, hk, hz, hgo⟩ := hI
  obtain ⟨w, rfl⟩ : ∃ w : Sr, q = w.z := ⟨q, (Sr.z_id hqb).symm⟩
  have hql := hq.lt
  have hqn := hq.len
  have hqi := hq.i64
  have hqin : 0 ≤ (w.z.at_ : Int) ∧ (w.z.at_ : Int) < (w.z.toks.length : Nat) := by omega
  have hcap : zs.length + 1 ≤ capBound := by show _ ≤ 1000000000000; omega
  have ht := hq.tokv
  obtain ⟨k, rfl⟩ : ∃ j, k = j + 1 := ⟨k - 1, by omega⟩
  simp only [numsE] at hgo
  have hin0 : (w.z.at_ : Int).toNat = w.z.at_ := rfl
  repeat ((conv => whnf); refine ⟨by first | exact fun _ => hqin | exact rfl, ?_⟩)
  conv => whnf
  refine cI9 ?_ ?_<;>intro h6
  ·have h7 : w.z.tok.1 = 2 := oT9 (bA9.1 (show (decide ((0 : Int) = 0) && decide (w.z.tok.1 = 2)) = true from h6)).2
   rw [if_pos h7] at hgo
   repeat ((conv => whnf); refine ⟨by first | exact hqin | exact rfl, ?_⟩)
   conv => whnf
   refine cI9 ?_ ?_<;>intro h8
   ·have h9 : 255 < w.z.tok.2.2.1 := oT9 h8
    rw [if_pos h9] at hgo
    rw [← hgo]
    repeat ((conv => whnf); refine ⟨by first | exact ⟨rfl, rfl, hql⟩ | exact ⟨rfl, rfl, hql, hqn, fun h => absurd (show (2 : Int) = 0 from h) (by decide)⟩, ?_⟩)
    conv => whnf
    refine eO9 (fun G v hv => ?_) rfl
    exact nil_one celC (l := [.int .i64 3]) (r := [.str (bytesOf zs)]) G v hv
   ·have h9 : ¬ 255 < w.z.tok.2.2.1 := oF9 h8
    rw [if_neg h9] at hgo
    have g1 := hq.adv (show w.z.tok.1 ≠ 8 by rw [h7]; decide) 0
    repeat ((conv => whnf); refine ⟨by first | exact hqin | exact hcap | exact hqi | omega | exact rfl, ?_⟩)
    conv => whnf
    refine kI9 (w.z.adv, zs ++ [IntKind.u8.wrap w.z.tok.2.2.1], k) [0, 1, 2, 3] rfl id3r ?_ ?_ ?_ ?_
    ·show _ = some (erH w.z.adv.ok ++ [.row [.int .i64 0, nilA, .str e0], tokU (zs ++ [IntKind.u8.wrap w.z.tok.2.2.1]).length])
     rw [zP9]
     rfl
    ·repeat first|exact kN9|refine kD9 ?_|refine kR9 rfl ?_
    ·refine ⟨g1.vld hq, rfl, ?_, ?_, hgo⟩
     ·show w.z.toks.length ≤ k + (w.z.at_ + 1)
      omega
     ·rw [zP9]
      show zs.length + 1 ≤ w.z.at_ + 1
      omega
    ·exact nS9 k
  ·have h7 : ¬ w.z.tok.1 = 2 := fun h => by
    have h8 : (decide ((0 : Int) = 0) && decide (w.z.tok.1 = 2)) = false := h6
    rw [h] at h8
    exact absurd h8 (by decide)
   rw [if_neg h7] at hgo
   rw [← hgo]
   repeat ((conv => whnf); refine ⟨⟨rfl, rfl, hql, hqn, fun _ => rfl⟩, ?_⟩)
   conv => whnf
   refine eO9 (fun G v hv => ?_) rfl
   exact nil_one celC (l := [.int .i64 3]) (r := [.str (bytesOf zs)]) G v hv
 have h5 : ¬ sgnI u.z.tok ⟨#[91]⟩ = true := fun h => by
  have h6 : sgnI u.z.tok ⟨#[91]⟩ = false := h4
  rw [h] at h6
  cases h6
 rw [if_neg h5]
 repeat ((conv => whnf); refine ⟨⟨rfl, rfl, hlt⟩, ?_⟩)
 conv => whnf
 refine cI9 ?_ ?_<;>intro h6
 ·have h7 : sgnI u.z.tok ⟨#[60]⟩ = true := h6
  rw [if_pos h7]
  have ga := hv.adv (sgnI_kind h7) 0
  repeat ((conv => whnf); refine ⟨hi, ?_⟩)
  conv => whnf
  generalize hX : celsE u.z.toks.length u.z.adv [] = X
  refine loop_weak (σ := Er × List celC.den × Nat) (fun _ => [(0, XV.s (.a (.c (.ptr 0 0)))), (2, XV.s (.a (.c (.ptr 2 0)))), (3, nX9), (4, XV.s (.a (.c (.ptr 3 0)))), (5, nX9), (21, nX9), (37, nX9), (65, nX9), (77, nX9), (107, nX9), (127, nX9)])
   (fun ⟨r, zs, _⟩ => erH r ++ [.row [.int .i64 0, nilA, .str e0], .row [.int .i64 1, .own 4 celC zs, .str e0], tokE zs.length])
   (fun ⟨r, zs, k⟩ => Vld r.s ∧ r.s.bod = 0 ∧ zs.length ≤ r.s.at_ + 1 ∧ (r.err = 0 → r.pos = (0, 0, 0) ∧ zs.length ≤ r.s.at_ ∧ r.s.toks.length ≤ k + r.s.at_ ∧ celsE k r.s zs = X) ∧ (¬ r.err = 0 → r = erOf X.2 ∧ zs = X.1)) (fun ⟨_, _, k⟩ => k) (u.z.adv.ok, [], u.z.toks.length) ?_ ?_ fun ⟨r, zs, k⟩ hI => ?_
  ·refine (Weak.cell 3 rfl 1 rfl 75 celC).trans (Weak.le _ ?_)
   repeat first|exact lN9|refine lD9 ?_|refine lS9 ?_
  ·exact ⟨ga.vld hv, rfl, nZ9 _, fun _ => ⟨rfl, nZ9 _, Nat.le_add_right _ _, hX⟩, fun h => absurd rfl h⟩
  obtain ⟨q, e, ps⟩ := r
  obtain ⟨hq, hqb, hz, hg0, hg1⟩ := hI
  obtain ⟨w, rfl⟩ : ∃ w : Sr, q = w.z := ⟨q, (Sr.z_id hqb).symm⟩
  have hql := hq.lt
  have hqn := hq.len
  by_cases he : e = 0
  ·subst he
   obtain ⟨hp, hz0, hk, hgo⟩ := hg0 rfl
   obtain rfl : ps = (0, 0, 0) := hp
   have hk : w.z.toks.length ≤ k + w.z.at_ := hk
   have hql : w.z.at_ < w.z.toks.length := hql
   have hz0 : zs.length ≤ w.z.at_ := hz0
   have hqn : w.z.toks.length ≤ 6001 := hqn
   obtain ⟨k, rfl⟩ : ∃ j, k = j + 1 := ⟨k - 1, by omega⟩
   have hcap : zs.length + 1 ≤ capBound := by show _ ≤ 1000000000000; omega
   have hgo : celsE (k + 1) w.z zs = X := hgo
   simp only [celsE] at hgo
   repeat ((conv => whnf); refine ⟨⟨rfl, rfl, hql⟩, ?_⟩)
   conv => whnf
   refine cI9 ?_ ?_<;>intro h8
   ·have h9 : ¬ sgnI w.z.tok ⟨#[62]⟩ = true := fun h => by
     have h10 : (decide ((0 : Int) = 0) && !sgnI w.z.tok ⟨#[62]⟩) = true := h8
     rw [h] at h10
     exact absurd h10 (by decide)
    rw [if_neg h9] at hgo
    have hok : ErOk ⟨w.z, 0, 0, 0, 0⟩ := ⟨hq, fun _ => rfl⟩
    have hq : Vld w.z := hq
    have g1 := celS_good hq
    repeat ((conv => whnf); refine ⟨by first | exact ⟨rfl, rfl, hok, rfl⟩ | exact hcap | (repeat ((conv => whnf); refine ⟨by ((conv => whnf); first | exact ⟨rfl, rfl, rfl⟩ | exact ⟨rfl, rfl⟩), ?_⟩)); ((conv => whnf); exact trivial) | omega | exact rfl, ?_⟩)
    conv => whnf
    refine kI9 (erOf ((celS w.z).1.2, (celS w.z).2), zs ++ [(celS w.z).1.1], k) [0, 1, 2, 3, 4] rfl id4r ?_ ?_ ?_ ?_
    ·show _ = some (erH (erOf ((celS w.z).1.2, (celS w.z).2)) ++ [.row [.int .i64 0, nilA, .str e0], .row [.int .i64 1, .own 4 celC (zs ++ [(celS w.z).1.1]), .str e0], tokE (zs ++ [(celS w.z).1.1]).length])
     rw [zP9]
     rfl
    ·repeat first|exact kN9|refine kD9 ?_|refine kR9 rfl ?_
    ·have ha := g1.adv
     have hle := ha.le
     have hbz : (celS w.z).2.bod = 0 := celS_bod w.z
     have hv2 : Vld (celS w.z).2 := ha.vld hq (by rw [hbz]; decide)
     by_cases h3 : (celS w.z).1.2 = 0
     ·rw [erOf_0 h3]
      rw [if_pos h3] at hgo
      rw [h3] at g1
      have g2 := (g1.ok rfl).1
      have hto : (celS w.z).2.toks.length = w.z.toks.length := by rw [ha.toks]
      have hz3 : (zs ++ [(celS w.z).1.1]).length ≤ (celS w.z).2.at_ := by
       rw [zP9]
       show zs.length + 1 ≤ (celS w.z).2.at_
       omega
      refine ⟨hv2, hbz, Nat.le_succ_of_le hz3, fun _ => ⟨rfl, hz3, ?_, hgo⟩, fun h => absurd rfl h⟩
      show (celS w.z).2.toks.length ≤ k + (celS w.z).2.at_
      omega
     ·rw [erOf_n h3]
      rw [if_neg h3] at hgo
      refine ⟨hv2, hbz, ?_, fun h => absurd h h3, fun _ => ⟨?_, ?_⟩⟩
      ·rw [zP9]
       show zs.length + 1 ≤ (celS w.z).2.at_ + 1
       omega
      ·rw [← hgo]
       exact (erOf_n h3).symm
      ·rw [← hgo]
    ·exact nS9 k
   ·have h9 : sgnI w.z.tok ⟨#[62]⟩ = true := by
     have h10 : (decide ((0 : Int) = 0) && !sgnI w.z.tok ⟨#[62]⟩) = false := h8
     simpa using h10
    rw [if_pos h9] at hgo
    rw [← hgo]
    repeat ((conv => whnf); refine ⟨⟨rfl, rfl, hql, hqn, fun _ => rfl⟩, ?_⟩)
    conv => whnf
    refine eE9 ⟨rfl, ?_⟩
    show erH (takeE ⟨#[62]⟩ (erOf (0, w.z))) = _
    rw [take_erOf, if_pos rfl]
    unfold mustS
    rw [if_pos h9]
  ·obtain ⟨hr1, hz1⟩ := hg1 he
   have hql : w.z.at_ < w.z.toks.length := hql
   have hqn : w.z.toks.length ≤ 6001 := hqn
   cases e with
   | ofNat n =>
    cases n with
    | zero => exact absurd rfl he
    | succ n =>
     repeat ((conv => whnf); refine ⟨⟨rfl, rfl, hql, hqn, fun h => absurd h he⟩, ?_⟩)
     conv => whnf
     refine eE9 ⟨?_, ?_⟩
     ·show SV.a (.agg [.int .i64 1, .p (.l celC zs), .str e0]) = SV.a (.agg [.int .i64 1, .p (.l celC X.1), .str e0])
      rw [hz1]
     ·show erH (takeE ⟨#[62]⟩ ⟨w.z, Int.ofNat (n + 1), ps⟩) = erH (erOf X.2)
      rw [← hr1]
      unfold takeE
      rw [if_neg he]
   | negSucc n =>
    repeat ((conv => whnf); refine ⟨⟨rfl, rfl, hql, hqn, fun h => absurd h he⟩, ?_⟩)
    conv => whnf
    refine eE9 ⟨?_, ?_⟩
    ·show SV.a (.agg [.int .i64 1, .p (.l celC zs), .str e0]) = SV.a (.agg [.int .i64 1, .p (.l celC X.1), .str e0])
     rw [hz1]
    ·show erH (takeE ⟨#[62]⟩ ⟨w.z, Int.negSucc n, ps⟩) = erH (erOf X.2)
     rw [← hr1]
     unfold takeE
     rw [if_neg he]
 ·have h7 : ¬ sgnI u.z.tok ⟨#[60]⟩ = true := fun h => by
   have h8 : sgnI u.z.tok ⟨#[60]⟩ = false := h6
   rw [h] at h8
   cases h8
  rw [if_neg h7]
  repeat ((conv => whnf); refine ⟨⟨rfl, rfl, hlt⟩, ?_⟩)
  conv => whnf
  refine eO9 (fun G v hv => ?_) rfl
  exact nil_one celC (l := [.int .i64 0]) (r := [.str e0]) G v hv
end
end Go.Ab
