/- Package source: cells. -/
import Derived.Test.YtkgcgbpclpmleaaGreatTX2toX7
import Derived.Test.YtkgcgbpclpmleaaGreatTOtoP
import Derived.Below
import Derived.Test.YtkgcgbpclpmleaaGreatTR6toG3
namespace Go.Ab
open Go.Proofs
set_option linter.unusedSectionVars false
set_option maxRecDepth 100000
variable [Glob]
def celSV (p : celC.den × Int) : SV := .tup [.agg [.int .i64 p.1.1, .str p.1.2], .c (.int .i64 p.2)]
def Y56 : Table := ext Y55 149 (saysR da0 ea0 (fun r _ => Vld r) fun r _ => (celSV (celS r).1, (celS r).2))
theorem y56 : TS9 Y56 := by
 refine extR y55 149 (fn := Tryz.f149) rfl rfl da0 ea0 _ _ (fun _ => nB9 rfl) [0, 2, 3, 4, 5, 6, 7, 8, 12, 35] fun r a hs => ?_
 have hv : Vld r := hs
 have hln := hv.len
 unfold celS
 repeat ((conv => whnf); refine ⟨⟨rfl, rfl, hv⟩, ?_⟩)
 conv => whnf
 refine cI9 ?_ ?_<;>intro h
 ·have h1 : r.tok.1 = 6 := oT9 h
  rw [if_pos h1]
  repeat ((conv => whnf); refine ⟨⟨rfl, rfl, hv, by decide, .inl rfl⟩, ?_⟩)
  conv => whnf
  exact eR9
 have h1 : ¬ r.tok.1 = 6 := oF9 h
 rw [if_neg h1]
 simp only
 repeat ((conv => whnf); refine ⟨by first | exact ⟨rfl, (show r.toks.length ≤ 1000000 by omega)⟩ | exact rfl, ?_⟩)
 conv => whnf
 refine cI9 ?_ ?_<;>intro h2
 ·have h3 : (exprV true r.toks (r.at_ : Int)).2.2 = 0 := oT9 h2
  rw [if_pos h3]
  have h4 := exprV_on hv.lst hv.lt h3
  have hx : (((exprV true r.toks (r.at_ : Int)).2.1.toNat : Nat) : Int) = (exprV true r.toks (r.at_ : Int)).2.1 := by omega
  conv => whnf
  refine eE9 ⟨?_, ?_⟩
  ·show celSV (((exprV true r.toks (r.at_ : Int)).1, e0), (exprV true r.toks (r.at_ : Int)).2.2) = celSV (((exprV true r.toks (r.at_ : Int)).1, e0), 0)
   rw [h3]
  ·show _ = [AO.row [.p (.l tkC r.toks), .int .i64 (((exprV true r.toks (r.at_ : Int)).2.1.toNat : Nat) : Int), .int .i64 r.bod, .own 1 defC r.defs], .tok 39 defC r.defs.length true]
   rw [hx]
 ·have h3 : ¬ (exprV true r.toks (r.at_ : Int)).2.2 = 0 := oF9 h2
  rw [if_neg h3]
  conv => whnf
  exact eR9
def celsSV (p : List celC.den × Int) : SV := .tup [.c (.p (.l celC p.1)), .c (.int .i64 p.2)]
abbrev tokE (n : Nat) : AO := .tok 75 celC n true
def Y57 : Table := ext Y56 147 (saysR da0 ea0 (fun r _ => Vld r) fun r _ => (celsSV (celsS r.toks.length r []).1, (celsS r.toks.length r []).2))
theorem y57 : TS9 Y57 := by
 refine extR y56 147 (fn := Tryz.f147) rfl rfl da0 ea0 _ _ (fun _ => nB9 rfl) [0, 2, 3, 4, 5, 6, 9, 16] fun r a hs => ?_
 have hv : Vld r := hs
 have hlt := hv.lt
 conv => whnf
 refine loop_weak (σ := Sr × List celC.den × Nat) (fun ⟨_, zs, _⟩ => [(0, XV.s (.a (.c (.ptr 0 0)))), (2, nX9), (3, nX9), (4, XV.s (.a (.c (.own 2 celC zs)))), (5, nX9), (6, nX9), (9, nX9), (16, nX9)])
  (fun ⟨q, zs, _⟩ => srH q ++ [tokE zs.length])
  (fun ⟨q, zs, k⟩ => Vld q ∧ q.toks = r.toks ∧ q.toks.length ≤ k + q.at_ ∧ zs.length ≤ q.at_ ∧ celsS k q zs = celsS r.toks.length r []) (fun ⟨_, _, k⟩ => k) (r, [], r.toks.length) ?_ ?_ fun ⟨q, zs, k⟩ hI => ?_
 ·refine Weak.own 75 ?_
  repeat first|exact wN9|refine wD9 ?_|refine wS9 ?_|refine wO9 ?_
 ·exact ⟨hv, rfl, Nat.le_add_right _ _, nZ9 _, rfl⟩
 obtain ⟨hq, htk, hk, hz, hgo⟩ := hI
 have hql := hq.lt
 have hqn := hq.len
 have hcap : zs.length + 1 ≤ capBound := by show _ ≤ 1000000000000; omega
 obtain ⟨k, rfl⟩ : ∃ j, k = j + 1 := ⟨k - 1, by omega⟩
 simp only [celsS] at hgo
 repeat ((conv => whnf); refine ⟨⟨rfl, rfl, hq⟩, ?_⟩)
 conv => whnf
 refine cI9 ?_ ?_<;>intro h
 ·have hp : ¬ sgnI q.tok ⟨#[62]⟩ = true := pass_no h
  have e : passS ⟨#[62]⟩ q = (false, q) := by unfold passS; rw [if_neg hp]
  have v1 : Vld (passS ⟨#[62]⟩ q).2 := by rw [e]; exact hq
  rw [if_neg hp] at hgo
  have g1 := celS_good hq
  repeat ((conv => whnf); refine ⟨⟨rfl, rfl, v1⟩, ?_⟩)
  conv => whnf
  refine cI9 ?_ ?_<;>intro h2
  ·have h3 : ¬ (celS q).1.2 = 0 := by
    have h4 : (!decide ((celS (passS ⟨#[62]⟩ q).2).1.2 = 0)) = true := h2
    rw [e] at h4
    simpa using h4
   rw [if_neg h3] at hgo
   rw [← hgo]
   conv => whnf
   refine eO9 (fun G v hv => ?_) ?_
   ·have hw := nil_sle celC G v hv
    have e2 : (SV.tup [.c (.p (.l celC [])), .c (.int .i64 (celS (passS ⟨#[62]⟩ q).2).1.2)]) = celsSV ([], (celS q).1.2) := by rw [e]; rfl
    rw [← e2]
    exact hw
   ·show srH (celS (passS ⟨#[62]⟩ q).2).2 = srH (celS q).2
    rw [e]
  ·have h3 : (celS q).1.2 = 0 := by
    have h4 : (!decide ((celS (passS ⟨#[62]⟩ q).2).1.2 = 0)) = false := h2
    rw [e] at h4
    simpa using h4
   rw [if_pos h3] at hgo
   rw [h3] at g1
   repeat ((conv => whnf); refine ⟨by first | exact hcap | omega, ?_⟩)
   conv => whnf
   refine kI9 ((celS (passS ⟨#[62]⟩ q).2).2, zs ++ [(celS (passS ⟨#[62]⟩ q).2).1.1], k) [0, 1, 2] rfl id3' ?_ ?_ ?_ ?_
   ·show _ = some (srH (celS (passS ⟨#[62]⟩ q).2).2 ++ [tokE (zs ++ [(celS (passS ⟨#[62]⟩ q).2).1.1]).length])
    rw [zP9]
    rfl
   ·repeat first|exact kN9|refine kD9 ?_|refine kR9 rfl ?_
   ·rw [e]
    have g2 := (g1.ok rfl).1
    refine ⟨g1.vld hq, g1.adv.toks.trans htk, ?_, ?_, hgo⟩
    ·rw [g1.adv.toks]
     show q.toks.length ≤ k + (celS q).2.at_
     omega
    ·rw [zP9]
     show zs.length + 1 ≤ (celS q).2.at_
     omega
   ·exact nS9 k
 ·have hp : sgnI q.tok ⟨#[62]⟩ = true := pass_yes h
  have e : passS ⟨#[62]⟩ q = (true, q.adv) := by unfold passS; rw [if_pos hp]
  rw [if_pos hp] at hgo
  rw [← hgo]
  conv => whnf
  refine eE9 ⟨rfl, ?_⟩
  show srH (passS ⟨#[62]⟩ q).2 = srH q.adv
  rw [e]
end Go.Ab
namespace Go.Ab
open Go.RowKit
set_option linter.unusedSectionVars false
theorem cell_lt {w : World} {b o : Nat} {v : Value} (h : w.at' b o = some v) : b < w.heap.size := by
 rcases Nat.lt_or_ge b w.heap.size with h1 | h1
 ·exact h1
 ·exfalso
  unfold World.at' World.cell? at h
  simp [h1] at h
def IsRow (k : IntKind) (w : World) (a : Option Addr) (len cap : Nat) (zs : List Int) : Prop :=
 (a = none ∧ len = 0 ∧ cap = 0 ∧ zs = []) ∨
 ∃ b off, a = some ⟨b, off, none⟩ ∧ len ≤ cap ∧ zs.length = cap ∧ ∀ i, i < zs.length → w.at' b (off + i) = some (.int k (zs.getD i 0))
def RowCells (a : Option Addr) (cap : Nat) : Cells := fun b o => ∃ off, a = some ⟨b, off, none⟩ ∧ off ≤ o ∧ o < off + cap
theorem isRow_of {k : IntKind} {w : World} {x : Addr} {len cap : Nat} {zs : List Int} (hs : x.spot = none) (hl : len ≤ cap) (hz : zs.length = cap) (hc : ∀ i, i < zs.length → w.cell? (x.add i) = some (.int k (zs.getD i 0))) : IsRow k w (some x) len cap zs := by
 obtain ⟨b, off, sp⟩ := x
 simp only at hs
 subst hs
 refine .inr ⟨b, off, rfl, hl, hz, fun i hi => ?_⟩
 have := hc i hi
 have e : (⟨b, off, none⟩ : Addr).add i = ⟨b, off + i, none⟩ := by unfold Addr.add; split <;> simp_all
 rwa [e] at this
theorem slice_spot {P : Program} {w : World} {r : Reach} {base : Nat} {t e : TypeId} {x : Addr} {len cap : Nat} (ht : P.underlying t = some (.slice e)) (h : Value.okWide P w r base t (.slice (some x) len cap)) : x.spot = none := by
 simp only [Value.okWide, ht, Cell.okWide] at h
 simp only [Cell.ok, ht] at h
 exact h.2.2.2.1
theorem isRow_rep {k : IntKind} {w : World} {a : Option Addr} {len cap : Nat} {zs : List Int} {I : Cells} (h : IsRow k w a len cap zs) (hI : ∀ b o, RowCells a cap b o → I b o) : RepV I w (.l (.int k) (zs.take len)) (.slice a len cap) := by
 rcases h with ⟨rfl, rfl, rfl, rfl⟩ | ⟨b, off, rfl, hl, hz, hc⟩
 ·exact .inl ⟨rfl, rfl⟩
 ·have hlen : (zs.take len).length = len := by rw [List.length_take]; omega
  refine .inr (.inl ⟨b, off, cap, by rw [hlen], by omega, fun i z hi => ?_⟩)
  have hlt : i < len := by
   rcases Nat.lt_or_ge i len with h1 | h1
   ·exact h1
   ·rw [List.getElem?_eq_none (by omega)] at hi; cases hi
  refine ⟨[.int k z], rfl, fun j u hj => ?_⟩
  cases j with
  | succ j => simp at hj
  | zero =>
   cases hj
   have hw : off + i * (CT.int k).width + 0 = off + i := by show off + i * 1 + 0 = off + i; omega
   rw [hw]
   refine ⟨hI _ _ ⟨off, rfl, by omega, by omega⟩, ?_⟩
   rw [hc i (by omega)]
   rw [List.getElem?_take, if_pos hlt] at hi
   rw [List.getD_eq_getElem?_getD, hi]
   rfl
theorem isRow_lt {k : IntKind} {w : World} {a : Option Addr} {len cap : Nat} {zs : List Int} (h : IsRow k w a len cap zs) : ∀ b o, RowCells a cap b o → b < w.heap.size := by
 rintro b o ⟨off, ha, h1, h2⟩
 rcases h with ⟨rfl, _⟩ | ⟨b', off', rfl, hl, hz, hc⟩
 ·cases ha
 ·cases ha
  have := hc (o - off) (by omega)
  exact cell_lt this
variable [Base]
def view0 (I : Cells) (w : World) : View := ⟨fun _ => 0, I, [], w⟩
theorem sim0 {I : Cells} {w : World} (hv : ∀ v ∈ Base.vars, VarOk I w v) (hI : ∀ b o, I b o → b < w.heap.size) : Sim (view0 I w) where
 vars := hv
 objs := fun id o h => by cases id <;> cases h
 inj := fun i j b h => by obtain ⟨o, ho, _⟩ := h; cases i <;> cases ho
 ilt := hI
theorem calls_of_ok {P : Program} {f : FuncId} {fn : Func} {c : Code} (hf : P.funcs[f]? = some fn) (hb : fn.body = some c) (hname : NG9 fn) {cargs : List Value} {G : View} {R : Value → View → Prop}
  (h : CallOk P f cargs G R) : Calls P f cargs.toArray G.w fun e w' => ∃ v G', e = .returned v ∧ G'.w = w' ∧ Ext G G' ∧ Sim G' ∧ R v G' := by
 rcases h with ⟨v, G', h1, _⟩ | ⟨_, h2⟩
 ·exfalso
  have hn' : ¬ fn.name = "runtime.NumGoroutine" := by simpa using hname
  simp [callFunc, hf, hn', hb] at h1
 ·exact h2
theorem law_of {P : Program} {T : Table} (hT : TSound P T) {f : FuncId} {fn : Func} {c : Code} (hf : P.funcs[f]? = some fn) (hb : fn.body = some c) (hname : NG9 fn) {args : List AV} {p : Option Prop}
  (hs : T f args [] = some (p, SV.bool true, [])) (hp : holdsO p) {I : Cells} {w : World} (hv : ∀ v ∈ Base.vars, VarOk I w v) (hI : ∀ b o, I b o → b < w.heap.size) {cargs : List Value} (ha : All2 (RepA (view0 I w)) args cargs) :
  Calls P f cargs.toArray w fun e w' => e = .returned (.bool true) ∧ Below w.heap.size w w' := by
 have h := calls_of_ok hf hb hname (hT f args [] p (SV.bool true) [] hs hp (view0 I w) (sim0 hv hI) rfl cargs ha)
 refine h.mono fun e w' ⟨v, G', he, hw, hx, _, _, hr⟩ => ?_
 subst he hw
 have hr' : v = .bool true := hr.2
 subst hr'
 refine ⟨rfl, hx.os, hx.tape, hx.output, hx.size, fun k hk => hx.frame k hk fun id hid => ?_⟩
 obtain ⟨o, ho, _⟩ := hid
 have ho' : ([] : List AO)[id]? = some o := ho
 simp at ho'
end Go.Ab
namespace Go.Ab
set_option linter.unusedSectionVars false
variable [Base]
theorem ext_twice (T : Table) (f : FuncId) (s t : Says) : ext (ext T f s) f t = ext T f t := by
 funext g args H
 unfold ext
 cases Nat.beq g f <;> rfl
def below (s : Nat → Says) : Nat → Says
 | 0 => fun _ _ => none
 | k + 1 => s k
theorem ext_none {P : Program} {T : Table} (hT : TSound P T) (f : FuncId) : TSound P (ext T f fun _ _ => none) :=
 ext_sound hT fun _ _ _ _ _ h => by cases h
theorem ext_rec {P : Program} {T : Table} (hT : TSound P T) {f : FuncId} {fn : Func} (hf : P.funcs[f]? = some fn) (hname : NG9 fn) {s : Nat → Says} (ks : List Nat)
  (h : ∀ k args H p r H', s k args H = some (p, r, H') → holdsO p → args.length ≤ fn.ntmps ∧ ∃ L, nodup L = true ∧ (∀ i, i < H.length → L[i]? = some i) ∧ runF ⟨P, ext T f (below s k)⟩ fn ks L args H fun r' H'' => Ends r' H'' r H') (k : Nat) : TSound P (ext T f (s k)) := by
 have hb : TSound P (ext T f (below s k)) := by
  induction k with
  | zero => exact ext_none hT f
  | succ k ih =>
   have := ext_run ih hf hname ks (h k)
   rwa [ext_twice] at this
 have := ext_run hb hf hname ks (h k)
 rwa [ext_twice] at this
theorem ext_only {P : Program} {T U : Table} {f : FuncId} {s : Says} (h : TSound P (ext U f s)) (hT : TSound P T) : TSound P (ext T f s) := by
 intro g args H p r H' hg
 cases hb : Nat.beq g f with
 | true =>
  have e : ext T f s g args H = ext U f s g args H := by
   unfold ext
   rw [hb]
  rw [e] at hg
  exact h g args H p r H' hg
 | false =>
  have e : ext T f s g args H = T g args H := by
   unfold ext
   rw [hb]
  rw [e] at hg
  exact hT g args H p r H' hg
def orS (s t : Says) : Says := fun args H => match s args H with | some x => some x | none => t args H
theorem ext_or {P : Program} {T : Table} {f : FuncId} {s t : Says} (hs : TSound P (ext T f s)) (ht : TSound P (ext T f t)) : TSound P (ext T f (orS s t)) := by
 intro g args H p r H' hg
 cases hb : Nat.beq g f with
 | true =>
  have e : ext T f (orS s t) g args H = orS s t args H := by
   unfold ext
   rw [hb]
  rw [e] at hg
  unfold orS at hg
  split at hg
  ·rename_i x hx
   refine hs g args H p r H' ?_
   unfold ext
   rw [hb]
   exact hx.trans hg
  ·refine ht g args H p r H' ?_
   unfold ext
   rw [hb]
   exact hg
 | false =>
  refine hs g args H p r H' ?_
  unfold ext at hg ⊢
  rw [hb] at hg ⊢
  exact hg
def seqQ (M : Mach) (n : Nat) (ks : List Nat) (y : Code) (K : Exit → Env → List AO → Prop) : Exit → Env → List AO → Prop := fun ex e' H' => match ex with
 | .normal => runC M n ks y e' H' K
 | ex => K ex e' H'
theorem seq_shut {M : Mach} {n : Nat} {ks : List Nat} {x y : Code} {e : Env} {H : List AO} {K : Exit → Env → List AO → Prop} (h : ∀ KK, KK = seqQ M n ks y K → runC M n ks x e H KK) : runC M n ks (.seq x y) e H K := h _ rfl
def endQ (P : Program) (rs : List ResultVar) (L : List Nat) (K : SV → List AO → Prop) : Exit → Env → List AO → Prop := fun ex e H' => match ex with
 | .normal => endA P rs L e H' K
 | .ret => endA P rs L e H' K
 | _ => False
theorem runF_shut {M : Mach} {fn : Func} {ks L : List Nat} {args : List AV} {H : List AO} {K : SV → List AO → Prop} {c : Code} (hb : fn.body = some c) (h : ∀ KK, KK = endQ M.P fn.results.toList L K → runC M fn.ntmps ks c (argEnv 0 args) H KK) : runF M fn ks L args H K := by
 unfold runF
 rw [hb]
 exact h _ rfl
theorem weak_ow {G : View} (hS : Sim G) {id : Nat} {cs : List AC} (ho : G.H[id]? = some (.row cs)) (k : Nat) (hk : cs[k]? = some (.p (.v (.slice none 0 0)))) (t : TypeId) (c : CT) :
  ∃ G' : View, G'.w = G.w ∧ Ext G G' ∧ Sim G' ∧ G'.H = (G.H ++ [AO.tok t c 0 true]).set id (.row (cs.set k (.own G.H.length c []))) := by
 have hnb : ¬ (AO.tok t c 0 true).blocked := by intro hb; rcases hb with hb | hb <;> simp at hb
 have hx1 : Ext G (G.obj G.w.heap.size (.tok t c 0 true)) := Ext.obj_self G fun hb => absurd hb hnb
 have hS1 : Sim (G.obj G.w.heap.size (.tok t c 0 true)) := hS.obj (fun id hid => absurd (hS.lt hid) (Nat.lt_irrefl _)) fun hb => absurd hb hnb
 obtain ⟨ho1, _⟩ := View.obj_get (b := G.w.heap.size) (o := AO.tok t c 0 true) ho
 obtain ⟨G2, hw2, hx2, hS2, hH2⟩ := set_cell hS1 ho1 k (.own G.H.length c []) fun vs T v h1 h2 => by
  obtain ⟨vs', T', hheap, _, hall⟩ := hS1.objs id _ ho1 trivial
  rw [hheap] at h1
  cases h1
  obtain ⟨_, hv⟩ := all2_get' hall hk h2
  subst hv
  refine ⟨.inl ⟨rfl, rfl⟩, t, 0, true, ?_, nR9 _, fun _ => .inl ⟨rfl, rfl, rfl⟩⟩
  show (G.H ++ [_])[G.H.length]? = _
  simp
 exact ⟨G2, hw2, hx1.trans hx2, hS2, hH2⟩
theorem Weak.cell {n m : Nat} {e : Env} {H : List AO} (id : Nat) {cs : List AC} (ho : H[id]? = some (.row cs)) (k : Nat) (hk : cs[k]? = some (.p (.v (.slice none 0 0)))) (t : TypeId) (c : CT) :
  Weak n m e H e ((H ++ [AO.tok t c 0 true]).set id (.row (cs.set k (.own H.length c [])))) := fun G0 G a hx0 hm hS hH hE => by
 subst hH
 obtain ⟨G', hw, hx, hS', hH'⟩ := weak_ow hS ho k hk t c
 exact ⟨G', hw, hx0.trans hx, hS', hH', fun u => RepX.mono hx (hE.get u), hE.size, hE.defers⟩
theorem nil_agg (c : CT) {l r : List AC} {rest : List AV} (G : View) (v : Value) (h : RepS G (.tup (.agg (l ++ .p (.v (.slice none 0 0)) :: r) :: rest)) v) : RepS G (.tup (.agg (l ++ .p (.l c []) :: r) :: rest)) v := by
 obtain ⟨vs, rfl, hv⟩ := h
 cases hv with
 | cons h1 t =>
  refine ⟨_, rfl, .cons ?_ t⟩
  obtain ⟨cs, rfl, hc⟩ := h1
  refine ⟨cs, rfl, ?_⟩
  have : ∀ (l : List AC) (cs : List Value), All2 (RepC G) (l ++ .p (.v (.slice none 0 0)) :: r) cs → All2 (RepC G) (l ++ .p (.l c []) :: r) cs := by
   intro l
   induction l with
   | nil =>
    intro cs h
    cases h with
    | cons h2 t2 =>
     refine .cons ?_ t2
     obtain ⟨_, rfl⟩ := h2
     exact .inl ⟨rfl, rfl⟩
   | cons x l ih =>
    intro cs h
    cases h with
    | cons h2 t2 => exact .cons h2 (ih _ t2)
  exact this l cs hc
end Go.Ab
namespace Go.Ab
open Go.Proofs
set_option linter.unusedSectionVars false
set_option maxRecDepth 100000
variable [Glob]
theorem pass_0 {s : ByteArray} {q : Sr} (h : (passS s q).1 = false) : ¬ sgnI q.tok s = true ∧ passS s q = (false, q) := by
 have h1 := pass_no (s := s) (q := q) (by rw [h]; rfl)
 exact ⟨h1, by unfold passS; rw [if_neg h1]⟩
theorem pass_1 {s : ByteArray} {q : Sr} (h : (passS s q).1 = true) : sgnI q.tok s = true ∧ passS s q = (true, q.adv) := by
 have h1 := pass_yes (s := s) (q := q) (by rw [h]; rfl)
 exact ⟨h1, by unfold passS; rw [if_pos h1]⟩
def prtSV (p : prtC.den × Int) : SV := .tup [.agg [.int .i64 p.1.1, .p (.l celC p.1.2.1), .str p.1.2.2], .c (.int .i64 p.2)]
def Y58 : Table := ext Y57 140 (saysR da0 ea0 (fun r _ => Vld r) fun r _ => (prtSV (prtS r).1, (prtS r).2))
theorem y58 : TS9 Y58 := by
 refine extR y57 140 (fn := Tryz.f140) rfl rfl da0 ea0 _ _ (fun _ => nB9 rfl) [0, 2, 3, 4, 5, 13, 23, 33] fun r a hs => ?_
 have hv : Vld r := hs
 unfold prtS
 repeat ((conv => whnf); refine ⟨⟨rfl, rfl, hv⟩, ?_⟩)
 conv => whnf
 refine cI9 ?_ ?_<;>intro h
 ·obtain ⟨h1, e1⟩ := pass_1 (s := ⟨#[60]⟩) (q := r) h
  have v1 : Vld (passS ⟨#[60]⟩ r).2 := by rw [e1]; exact (hv.adv (sgnI_kind h1) 0).vld hv
  rw [if_pos h1]
  repeat ((conv => whnf); refine ⟨⟨rfl, rfl, v1⟩, ?_⟩)
  conv => whnf
  refine eE9 ⟨?_, ?_⟩
  ·show prtSV ((1, (celsS (passS ⟨#[60]⟩ r).2.toks.length (passS ⟨#[60]⟩ r).2 []).1.1, e0), (celsS (passS ⟨#[60]⟩ r).2.toks.length (passS ⟨#[60]⟩ r).2 []).1.2) = _
   rw [e1]
   rfl
  ·show srH (celsS (passS ⟨#[60]⟩ r).2.toks.length (passS ⟨#[60]⟩ r).2 []).2 = _
   rw [e1]
   rfl
 obtain ⟨h1, e1⟩ := pass_0 (s := ⟨#[60]⟩) (q := r) h
 have v1 : Vld (passS ⟨#[60]⟩ r).2 := by rw [e1]; exact hv
 rw [if_neg h1]
 repeat ((conv => whnf); refine ⟨⟨rfl, rfl, v1⟩, ?_⟩)
 conv => whnf
 refine cI9 ?_ ?_<;>intro h2
 ·have h2' : (passS ⟨#[91]⟩ r).1 = true := by
   have h3 : (passS ⟨#[91]⟩ (passS ⟨#[60]⟩ r).2).1 = true := h2
   rw [e1] at h3
   exact h3
  obtain ⟨h3, e3⟩ := pass_1 h2'
  have v3 : Vld (passS ⟨#[91]⟩ (passS ⟨#[60]⟩ r).2).2 := by rw [e1, e3]; exact (hv.adv (sgnI_kind h3) 0).vld hv
  rw [if_pos h3]
  repeat ((conv => whnf); refine ⟨⟨rfl, rfl, v3⟩, ?_⟩)
  conv => whnf
  refine eO9 (fun G v hv => ?_) ?_
  ·have hw := nil_agg celC (l := [.int .i64 3]) (r := [.str (numsS (passS ⟨#[91]⟩ (passS ⟨#[60]⟩ r).2).2.toks.length (passS ⟨#[91]⟩ (passS ⟨#[60]⟩ r).2).2 []).1.1]) (rest := [.c (.int .i64 (numsS (passS ⟨#[91]⟩ (passS ⟨#[60]⟩ r).2).2.toks.length (passS ⟨#[91]⟩ (passS ⟨#[60]⟩ r).2).2 []).1.2)]) G v hv
   rw [e1, e3] at hw
   exact hw
  ·show srH (numsS (passS ⟨#[91]⟩ (passS ⟨#[60]⟩ r).2).2.toks.length (passS ⟨#[91]⟩ (passS ⟨#[60]⟩ r).2).2 []).2 = _
   rw [e1, e3]
   rfl
 have h2' : (passS ⟨#[91]⟩ r).1 = false := by
  have h3 : (passS ⟨#[91]⟩ (passS ⟨#[60]⟩ r).2).1 = false := h2
  rw [e1] at h3
  exact h3
 obtain ⟨h3, e3⟩ := pass_0 h2'
 have e4 : (passS ⟨#[91]⟩ (passS ⟨#[60]⟩ r).2).2 = r := by rw [e1, e3]
 have v3 : Vld (passS ⟨#[91]⟩ (passS ⟨#[60]⟩ r).2).2 := by rw [e4]; exact hv
 rw [if_neg h3]
 repeat ((conv => whnf); refine ⟨⟨rfl, rfl, v3⟩, ?_⟩)
 conv => whnf
 refine cI9 ?_ ?_<;>intro h5
 ·have h6 : r.tok.1 = 3 := by
   have h7 : decide ((passS ⟨#[91]⟩ (passS ⟨#[60]⟩ r).2).2.tok.1 = 3) = true := h5
   rw [e4] at h7
   exact oT9 h7
  rw [if_pos h6]
  repeat ((conv => whnf); refine ⟨⟨rfl, rfl, v3, by decide, .inr (.inr (.inr rfl))⟩, ?_⟩)
  conv => whnf
  refine eO9 (fun G v hv => ?_) ?_
  ·have hw := nil_agg celC (l := [.int .i64 2]) (r := [.str (takeS 3 (fun _ => true) (passS ⟨#[91]⟩ (passS ⟨#[60]⟩ r).2).2).1.1]) (rest := [.c (.int .i64 (takeS 3 (fun _ => true) (passS ⟨#[91]⟩ (passS ⟨#[60]⟩ r).2).2).1.2)]) G v hv
   rw [e4] at hw
   exact hw
  ·show srH (takeS 3 (fun _ => true) (passS ⟨#[91]⟩ (passS ⟨#[60]⟩ r).2).2).2 = _
   rw [e4]
 ·have h6 : ¬ r.tok.1 = 3 := by
   have h7 : decide ((passS ⟨#[91]⟩ (passS ⟨#[60]⟩ r).2).2.tok.1 = 3) = false := h5
   rw [e4] at h7
   exact oF9 h7
  rw [if_neg h6]
  repeat ((conv => whnf); refine ⟨⟨rfl, rfl, v3, by decide, .inl rfl⟩, ?_⟩)
  conv => whnf
  refine eO9 (fun G v hv => ?_) ?_
  ·have hw := nil_agg celC (l := [.int .i64 4]) (r := [.str (takeS 6 labB (passS ⟨#[91]⟩ (passS ⟨#[60]⟩ r).2).2).1.1]) (rest := [.c (.int .i64 (takeS 6 labB (passS ⟨#[91]⟩ (passS ⟨#[60]⟩ r).2).2).1.2)]) G v hv
   rw [e4] at hw
   exact hw
  ·show srH (takeS 6 labB (passS ⟨#[91]⟩ (passS ⟨#[60]⟩ r).2).2).2 = _
   rw [e4]
abbrev tokP (n : Nat) : AO := .tok 61 prtC n true
abbrev defO (k : Int) (l n : ByteArray) (t : tkC.den) (c : AC) : AO := .row [.int .i64 k, .str l, .str n, c, .int .i64 t.2.2.2.1, .int .i64 t.2.2.2.2.1, .int .i64 t.2.2.2.2.2]
def Y59 : Table := ext Y58 129 (saysR da0 ea0 (fun r _ => Vld r) fun r _ => (.int .i64 (prpS r).1, (prpS r).2))
theorem id4' : ∀ k, k < 3 → [0, 1, 2, 3][k]? = some k := fun k hk => by
 have : k = 0 ∨ k = 1 ∨ k = 2 := by omega
 rcases this with rfl | rfl | rfl <;> rfl
def partsAt (b : Bool) (k : Nat) (q : Sr) (out : List prtC.den) : (List prtC.den × Int) × Sr := match b with
 | true => prtsS k q out
 | false => ((out, 0), q)
theorem y59 : TS9 Y59 := by
 refine extR y58 129 (fn := Tryz.f129) rfl rfl da0 ea0 _ _ (fun _ => nB9 rfl) [0, 2, 3, 4, 5, 6, 7, 19, 23, 32] fun r a hs => ?_
 have hv : Vld r := hs
 have hg := nmS_good hv .prop
 repeat ((conv => whnf); refine ⟨⟨rfl, rfl, hv⟩, ?_⟩)
 conv => whnf
 refine cI9 ?_ ?_<;>intro h
 ·have h1 : ¬ (nmS .prop r).1.2 = 0 := by
   have h2 : (!decide ((nmS .prop r).1.2 = 0)) = true := h
   simpa using h2
  have e1 : prpS r = ((nmS .prop r).1.2, (nmS .prop r).2) := by unfold prpS; simp only; rw [if_neg h1]
  rw [e1]
  conv => whnf
  exact eR9
 have h1 : (nmS .prop r).1.2 = 0 := by
  have h2 : (!decide ((nmS .prop r).1.2 = 0)) = false := h
  simpa using h2
 rw [h1] at hg
 have v1 := hg.vld hv
 have e1 : prpS r = (let x := partsAt (passS ⟨#[61]⟩ (nmS .prop r).2).1 (nmS .prop r).2.toks.length (passS ⟨#[61]⟩ (nmS .prop r).2).2 []
   if x.1.2 = 0 then mustS ⟨#[59]⟩ (x.2.add (dfn 3 e0 (nmS .prop r).1.1 x.1.1 r.tok)) else (x.1.2, x.2)) := by
  unfold prpS passS
  simp only
  rw [if_pos h1]
  by_cases hs : sgnI (nmS .prop r).2.tok ⟨#[61]⟩ = true
  ·rw [if_pos hs, if_pos hs]
   rfl
  ·rw [if_neg hs, if_neg hs]
   rfl
 rw [e1]
 have g2 : Adv r (passS ⟨#[61]⟩ (nmS .prop r).2).2 ∧ (passS ⟨#[61]⟩ (nmS .prop r).2).2.bod = r.bod := by
  unfold passS
  split
  ·have g3 := hg.trans (v1.adv (sgnI_kind (by assumption)) 0)
   exact ⟨g3.adv, (g3.ok rfl).2.1⟩
  ·exact ⟨hg.adv, (hg.ok rfl).2.1⟩
 have v2 := g2.1.vld hv (by rw [g2.2]; exact hv.bod)
 have g2s : (passS ⟨#[61]⟩ (nmS .prop r).2).2.defs.length + 2 * r.at_ + 1 ≤ r.defs.length + 2 * (passS ⟨#[61]⟩ (nmS .prop r).2).2.at_ := by
  unfold passS
  split
  ·exact ((hg.trans (v1.adv (sgnI_kind (by assumption)) 0)).ok rfl).2.2
  ·exact (hg.ok rfl).2.2
 repeat ((conv => whnf); refine ⟨⟨rfl, rfl, v1⟩, ?_⟩)
 conv => whnf
 refine loop_weak (σ := Bool × Sr × List prtC.den × Nat) (fun ⟨b, _, _, _⟩ => [(0, XV.s (.a (.c (.ptr 0 0)))), (2, nX9), (3, XV.s (.a (.c (.ptr 2 0)))), (4, nX9), (5, XV.s (.bool b)), (6, nX9), (7, nX9), (19, nX9), (23, nX9), (32, nX9)])
  (fun ⟨_, q, ps, _⟩ => srH q ++ [defO 3 e0 (nmS .prop r).1.1 r.tok (.own 3 prtC ps), tokP ps.length])
  (fun ⟨b, q, ps, k⟩ => Adv r q ∧ q.bod = r.bod ∧ q.defs.length + 2 * r.at_ + 1 ≤ r.defs.length + 2 * q.at_ ∧ q.toks.length ≤ k + q.at_ ∧ ps.length ≤ q.at_ ∧ partsAt b k q ps = partsAt (passS ⟨#[61]⟩ (nmS .prop r).2).1 (nmS .prop r).2.toks.length (passS ⟨#[61]⟩ (nmS .prop r).2).2 []) (fun ⟨b, _, _, k⟩ => match b with | true => k + 1 | false => 0)
  ((passS ⟨#[61]⟩ (nmS .prop r).2).1, (passS ⟨#[61]⟩ (nmS .prop r).2).2, [], (nmS .prop r).2.toks.length) ?_ ?_ fun ⟨b, q, ps, k⟩ hI => ?_
 ·refine (Weak.cell 2 rfl 3 rfl 61 prtC).trans (Weak.le _ ?_)
  repeat first|exact lN9|refine lD9 ?_|refine lS9 ?_
 ·refine ⟨g2.1, g2.2, g2s, ?_, nZ9 _, rfl⟩
  rw [g2.1.toks, hg.adv.toks]
  exact Nat.le_add_right _ _
 obtain ⟨ha, hb, hd, hk, hz, hgo⟩ := hI
 have hq := ha.vld hv (by rw [hb]; exact hv.bod)
 have hql := hq.lt
 have hqn := hq.len
 have hcap : ps.length + 1 ≤ capBound := by show _ ≤ 1000000000000; omega
 conv => whnf
 refine cI9 ?_ ?_<;>intro h2
 ·obtain rfl : b = true := h2
  obtain ⟨k, rfl⟩ : ∃ j, k = j + 1 := ⟨k - 1, by omega⟩
  have hgo' : prtsS (k + 1) q ps = partsAt (passS ⟨#[61]⟩ (nmS .prop r).2).1 (nmS .prop r).2.toks.length (passS ⟨#[61]⟩ (nmS .prop r).2).2 [] := hgo
  simp only [prtsS] at hgo'
  have g3 := prtS_good hq
  repeat ((conv => whnf); refine ⟨⟨rfl, rfl, hq⟩, ?_⟩)
  conv => whnf
  refine cI9 ?_ ?_<;>intro h3
  ·have h4 : ¬ (prtS q).1.2 = 0 := by
    have h5 : (!decide ((prtS q).1.2 = 0)) = true := h3
    simpa using h5
   rw [if_neg h4] at hgo'
   rw [← hgo']
   simp only
   rw [if_neg h4]
   conv => whnf
   exact eR9
  ·have h4 : (prtS q).1.2 = 0 := by
    have h5 : (!decide ((prtS q).1.2 = 0)) = false := h3
    simpa using h5
   rw [if_pos h4] at hgo'
   rw [h4] at g3
   have v3 := g3.vld hq
   have g4 : Adv r (passS ⟨#[44]⟩ (prtS q).2).2 ∧ (passS ⟨#[44]⟩ (prtS q).2).2.bod = r.bod ∧ (passS ⟨#[44]⟩ (prtS q).2).2.defs.length + 2 * r.at_ + 1 ≤ r.defs.length + 2 * (passS ⟨#[44]⟩ (prtS q).2).2.at_ ∧ q.at_ < (passS ⟨#[44]⟩ (prtS q).2).2.at_ ∧ (passS ⟨#[44]⟩ (prtS q).2).2.toks = q.toks := by
    have g5 := ha.then hb g3
    unfold passS
    split
    ·have g6 := v3.adv (sgnI_kind (by assumption)) 0
     have g7 := g5.trans g6
     exact ⟨g7.adv, (g7.ok rfl).2.1, (g7.ok rfl).2.2, Nat.lt_trans (g3.ok rfl).1 (g6.ok rfl).1, g6.adv.toks.trans g3.adv.toks⟩
    ·exact ⟨g5.adv, (g5.ok rfl).2.1, (g5.ok rfl).2.2, (g3.ok rfl).1, g3.adv.toks⟩
   repeat ((conv => whnf); refine ⟨by first | exact hcap | exact ⟨rfl, rfl, v3⟩ | omega, ?_⟩)
   conv => whnf
   refine kI9 ((passS ⟨#[44]⟩ (prtS q).2).1, (passS ⟨#[44]⟩ (prtS q).2).2, ps ++ [(prtS q).1.1], k) [0, 1, 2, 3] rfl id4' ?_ ?_ ?_ ?_
   ·show _ = some (srH (passS ⟨#[44]⟩ (prtS q).2).2 ++ [defO 3 e0 (nmS .prop r).1.1 r.tok (.own 3 prtC (ps ++ [(prtS q).1.1])), tokP (ps ++ [(prtS q).1.1]).length])
    rw [zP9]
    rfl
   ·repeat first|exact kN9|refine kD9 ?_|refine kR9 rfl ?_
   ·refine ⟨g4.1, g4.2.1, g4.2.2.1, ?_, ?_, ?_⟩
    ·rw [g4.2.2.2.2]
     have h8 := g4.2.2.2.1
     show q.toks.length ≤ k + (passS ⟨#[44]⟩ (prtS q).2).2.at_
     omega
    ·rw [zP9]
     have h8 := g4.2.2.2.1
     show ps.length + 1 ≤ (passS ⟨#[44]⟩ (prtS q).2).2.at_
     omega
    ·rw [← hgo']
     unfold passS
     split <;> rfl
   ·show (match (passS ⟨#[44]⟩ (prtS q).2).1 with | true => k + 1 | false => 0) < k + 1 + 1
    split
    ·exact nS9 _
    ·exact Nat.succ_pos _
 ·obtain rfl : b = false := h2
  have hgo' : ((ps, (0 : Int)), q) = partsAt (passS ⟨#[61]⟩ (nmS .prop r).2).1 (nmS .prop r).2.toks.length (passS ⟨#[61]⟩ (nmS .prop r).2).2 [] := hgo
  rw [← hgo']
  simp only [if_true]
  have c1 : Vld (q.add (dfn 3 e0 (nmS .prop r).1.1 ps r.tok)) := by
   refine ⟨hq.len, hq.lt, hq.lst, hq.fit, ?_, hq.bod⟩
   show (q.defs ++ [dfn 3 e0 (nmS .prop r).1.1 ps r.tok]).length ≤ 2 * q.at_
   rw [zP9]
   show q.defs.length + 1 ≤ 2 * q.at_
   have := hv.dfs
   omega
  have c2 := hq.cap
  repeat ((conv => whnf); refine ⟨by first | exact c2 | exact ⟨rfl, srH_add _ _, c1⟩ | omega | exact rfl, ?_⟩)
  conv => whnf
  exact eR9
end Go.Ab
