/- Names of nodes and properties. -/
import Derived.Test.YtnlifjljmbfomaaGreatTR5
import Derived.Test.YtnlifjljmbfomaaGreatTOtoR1
import Derived.Below
namespace Go.Ab
open Go.Proofs
set_option linter.unusedSectionVars false
set_option maxRecDepth 100000
variable [Base]
def namB (s : ByteArray) : Bool := consB nameB s
def atB (s : ByteArray) : Bool := decide (0 ≤ Lib.indexByte s.data.toList 64)
def prpB (s : ByteArray) : Bool :=
 if 31 < (s.size : Int) then false else if atB s = true then false
 else namB (if prefB s ⟨#[35]⟩ = true then ⟨#[95]⟩ ++ trimP s ⟨#[35]⟩ else s)
end Go.Ab
namespace Go.Ab
open Go.RowKit
set_option linter.unusedSectionVars false
theorem cell_lt {w : World} {b o : Nat} {v : Value} (h : w.at' b o = some v) : b < w.heap.size := by
 rcases Nat.lt_or_ge b w.heap.size with h1 | h1
 ·exact h1
 ·exfalso
  unfold World.at' World.cell? at h
  simp [h1] at h
def IsRow (k : IntKind) (w : World) (a : Option Addr) (len cap : Nat) (zs : List Int) : Prop :=
 (a = none ∧ len = 0 ∧ cap = 0 ∧ zs = []) ∨
 ∃ b off, a = some ⟨b, off, none⟩ ∧ len ≤ cap ∧ zs.length = cap ∧ ∀ i, i < zs.length → w.at' b (off + i) = some (.int k (zs.getD i 0))
def RowCells (a : Option Addr) (cap : Nat) : Cells := fun b o => ∃ off, a = some ⟨b, off, none⟩ ∧ off ≤ o ∧ o < off + cap
theorem isRow_of {k : IntKind} {w : World} {x : Addr} {len cap : Nat} {zs : List Int} (hs : x.spot = none) (hl : len ≤ cap) (hz : zs.length = cap) (hc : ∀ i, i < zs.length → w.cell? (x.add i) = some (.int k (zs.getD i 0))) : IsRow k w (some x) len cap zs := by
 obtain ⟨b, off, sp⟩ := x
 simp only at hs
 subst hs
 refine .inr ⟨b, off, rfl, hl, hz, fun i hi => ?_⟩
 have := hc i hi
 have e : (⟨b, off, none⟩ : Addr).add i = ⟨b, off + i, none⟩ := by unfold Addr.add; split <;> simp_all
 rwa [e] at this
theorem slice_spot {P : Program} {w : World} {r : Reach} {base : Nat} {t e : TypeId} {x : Addr} {len cap : Nat} (ht : P.underlying t = some (.slice e)) (h : Value.okWide P w r base t (.slice (some x) len cap)) : x.spot = none := by
 simp only [Value.okWide, ht, Cell.okWide] at h
 simp only [Cell.ok, ht] at h
 exact h.2.2.2.1
theorem isRow_rep {k : IntKind} {w : World} {a : Option Addr} {len cap : Nat} {zs : List Int} {I : Cells} (h : IsRow k w a len cap zs) (hI : ∀ b o, RowCells a cap b o → I b o) : RepV I w (.l (.int k) (zs.take len)) (.slice a len cap) := by
 rcases h with ⟨rfl, rfl, rfl, rfl⟩ | ⟨b, off, rfl, hl, hz, hc⟩
 ·exact .inl ⟨rfl, rfl⟩
 ·have hlen : (zs.take len).length = len := by rw [List.length_take]; omega
  refine .inr (.inl ⟨b, off, cap, by rw [hlen], by omega, fun i z hi => ?_⟩)
  have hlt : i < len := by
   rcases Nat.lt_or_ge i len with h1 | h1
   ·exact h1
   ·rw [List.getElem?_eq_none (by omega)] at hi; cases hi
  refine ⟨[.int k z], rfl, fun j u hj => ?_⟩
  cases j with
  | succ j => simp at hj
  | zero =>
   cases hj
   have hw : off + i * (CT.int k).width + 0 = off + i := by show off + i * 1 + 0 = off + i; omega
   rw [hw]
   refine ⟨hI _ _ ⟨off, rfl, by omega, by omega⟩, ?_⟩
   rw [hc i (by omega)]
   rw [List.getElem?_take, if_pos hlt] at hi
   rw [List.getD_eq_getElem?_getD, hi]
   rfl
theorem isRow_lt {k : IntKind} {w : World} {a : Option Addr} {len cap : Nat} {zs : List Int} (h : IsRow k w a len cap zs) : ∀ b o, RowCells a cap b o → b < w.heap.size := by
 rintro b o ⟨off, ha, h1, h2⟩
 rcases h with ⟨rfl, _⟩ | ⟨b', off', rfl, hl, hz, hc⟩
 ·cases ha
 ·cases ha
  have := hc (o - off) (by omega)
  exact cell_lt this
variable [Base]
def view0 (I : Cells) (w : World) : View := ⟨fun _ => 0, I, [], w⟩
theorem sim0 {I : Cells} {w : World} (hv : ∀ v ∈ Base.vars, VarOk I w v) (hI : ∀ b o, I b o → b < w.heap.size) : Sim (view0 I w) where
 vars := hv
 objs := fun id o h => by cases id <;> cases h
 inj := fun i j b h => by obtain ⟨o, ho, _⟩ := h; cases i <;> cases ho
 ilt := hI
theorem calls_of_ok {P : Program} {f : FuncId} {fn : Func} {c : Code} (hf : P.funcs[f]? = some fn) (hb : fn.body = some c) (hname : NG9 fn) {cargs : List Value} {G : View} {R : Value → View → Prop}
  (h : CallOk P f cargs G R) : Calls P f cargs.toArray G.w fun e w' => ∃ v G', e = .returned v ∧ G'.w = w' ∧ Ext G G' ∧ Sim G' ∧ R v G' := by
 rcases h with ⟨v, G', h1, _⟩ | ⟨_, h2⟩
 ·exfalso
  have hn' : ¬ fn.name = "runtime.NumGoroutine" := by simpa using hname
  simp [callFunc, hf, hn', hb] at h1
 ·exact h2
theorem law_of {P : Program} {T : Table} (hT : TSound P T) {f : FuncId} {fn : Func} {c : Code} (hf : P.funcs[f]? = some fn) (hb : fn.body = some c) (hname : NG9 fn) {args : List AV} {p : Option Prop}
  (hs : T f args [] = some (p, SV.bool true, [])) (hp : holdsO p) {I : Cells} {w : World} (hv : ∀ v ∈ Base.vars, VarOk I w v) (hI : ∀ b o, I b o → b < w.heap.size) {cargs : List Value} (ha : All2 (RepA (view0 I w)) args cargs) :
  Calls P f cargs.toArray w fun e w' => e = .returned (.bool true) ∧ Below w.heap.size w w' := by
 have h := calls_of_ok hf hb hname (hT f args [] p (SV.bool true) [] hs hp (view0 I w) (sim0 hv hI) rfl cargs ha)
 refine h.mono fun e w' ⟨v, G', he, hw, hx, _, _, hr⟩ => ?_
 subst he hw
 have hr' : v = .bool true := hr.2
 subst hr'
 refine ⟨rfl, hx.os, hx.tape, hx.output, hx.size, fun k hk => hx.frame k hk fun id hid => ?_⟩
 obtain ⟨o, ho, _⟩ := hid
 have ho' : ([] : List AO)[id]? = some o := ho
 simp at ho'
end Go.Ab
namespace Go.Ab
set_option linter.unusedSectionVars false
variable [Base]
theorem all2_set {α β : Type} {R : α → β → Prop} : ∀ {l : List α} {m : List β}, All2 R l m → ∀ (k : Nat) (x : α), (∀ y, m[k]? = some y → R x y) → All2 R (l.set k x) m := by
 intro l m h
 induction h with
 | nil => intro k x _; exact .nil
 | cons h1 h2 ih =>
  intro k x hx
  cases k with
  | zero => exact .cons (hx _ rfl) h2
  | succ k => exact .cons h1 (ih k x fun y hy => hx y hy)
theorem all2_get' {α β : Type} {R : α → β → Prop} : ∀ {l : List α} {m : List β}, All2 R l m → ∀ {k : Nat} {x : α} {y : β}, l[k]? = some x → m[k]? = some y → R x y := by
 intro l m h
 induction h with
 | nil => intro k x y h; simp at h
 | cons h1 h2 ih =>
  intro k x y hx hy
  cases k with
  | zero => cases hx; cases hy; exact h1
  | succ k => exact ih hx hy
theorem set_cell {G : View} (hS : Sim G) {id : Nat} {cs : List AC} (ho : G.H[id]? = some (.row cs)) (k : Nat) (y : AC)
  (hy : ∀ (vs : Array Value) T v, G.w.heap[G.ρ id]? = some (.cells vs T (0, 0)) → vs.toList[k]? = some v → RepC G y v) :
  ∃ G' : View, G'.w = G.w ∧ Ext G G' ∧ Sim G' ∧ G'.H = G.H.set id (.row (cs.set k y)) := by
 have hh : G.holds id (G.ρ id) := ⟨_, ho, trivial, rfl⟩
 obtain ⟨vs, T, hheap, hno, hall⟩ := hS.objs id _ ho trivial
 have g : Upd G id (G.ρ id) (.row cs) (.row (cs.set k y)) (fun _ => False) G.w :=
  ⟨ho, ⟨by rw [View.upd_ρ, if_pos rfl], by simp⟩, nR9 _, rfl, rfl, rfl, fun _ _ _ => rfl, .inr hh, hS.lt hh, hno⟩
 have hx2 := Ext.upd hS g
 refine ⟨G.upd id (G.ρ id) (.row (cs.set k y)) (fun _ => False) G.w, rfl, hx2, Sim.upd hS g fun _ => ?_, rfl⟩
 have hρ2 : (G.upd id (G.ρ id) (.row (cs.set k y)) (fun _ => False) G.w).ρ id = G.ρ id := by
  rw [View.upd_ρ, if_pos rfl]
 refine ⟨vs, T, by rw [hρ2]; exact hheap, fun o ho => ?_, ?_⟩
 ·rw [hρ2] at ho
  rcases ho with ho | ⟨_, ho⟩
  ·exact hno o ho
  ·exact ho
 ·exact all2_set (hall.mono fun _ _ h => h.mono hx2) k _ fun v hv => (hy vs T v hheap hv).mono hx2
theorem CallOk.trans {P : Program} {f : FuncId} {cargs : List Value} {G G1 : View} {R : Value → View → Prop} (hw : G1.w = G.w) (hx : Ext G G1) (h : CallOk P f cargs G1 R) : CallOk P f cargs G R := by
 rcases h with ⟨v, G', h1, h2, h3, h4⟩ | ⟨h1, h2⟩
 ·exact .inl ⟨v, G', hw ▸ h1, hx.trans h2, h3, h4⟩
 ·exact .inr ⟨hw ▸ h1, (hw ▸ h2).mono fun e w' ⟨v, G', he, hw', hx', hS', hr⟩ => ⟨v, G', he, hw', hx.trans hx', hS', hr⟩⟩
theorem ext_twice (T : Table) (f : FuncId) (s t : Says) : ext (ext T f s) f t = ext T f t := by
 funext g args H
 unfold ext
 cases Nat.beq g f <;> rfl
def below (s : Nat → Says) : Nat → Says
 | 0 => fun _ _ => none
 | k + 1 => s k
theorem ext_none {P : Program} {T : Table} (hT : TSound P T) (f : FuncId) : TSound P (ext T f fun _ _ => none) :=
 ext_sound hT fun _ _ _ _ _ h => by cases h
theorem ext_rec {P : Program} {T : Table} (hT : TSound P T) {f : FuncId} {fn : Func} (hf : P.funcs[f]? = some fn) (hname : NG9 fn) {s : Nat → Says} (ks : List Nat)
  (h : ∀ k args H p r H', s k args H = some (p, r, H') → holdsO p → args.length ≤ fn.ntmps ∧ ∃ L, nodup L = true ∧ (∀ i, i < H.length → L[i]? = some i) ∧ runF ⟨P, ext T f (below s k)⟩ fn ks L args H fun r' H'' => Ends r' H'' r H') (k : Nat) : TSound P (ext T f (s k)) := by
 have hb : TSound P (ext T f (below s k)) := by
  induction k with
  | zero => exact ext_none hT f
  | succ k ih =>
   have := ext_run ih hf hname ks (h k)
   rwa [ext_twice] at this
 have := ext_run hb hf hname ks (h k)
 rwa [ext_twice] at this
theorem ext_only {P : Program} {T U : Table} {f : FuncId} {s : Says} (h : TSound P (ext U f s)) (hT : TSound P T) : TSound P (ext T f s) := by
 intro g args H p r H' hg
 cases hb : Nat.beq g f with
 | true =>
  have e : ext T f s g args H = ext U f s g args H := by
   unfold ext
   rw [hb]
  rw [e] at hg
  exact h g args H p r H' hg
 | false =>
  have e : ext T f s g args H = T g args H := by
   unfold ext
   rw [hb]
  rw [e] at hg
  exact hT g args H p r H' hg
theorem weak_ow {G : View} (hS : Sim G) {id : Nat} {cs : List AC} (ho : G.H[id]? = some (.row cs)) (k : Nat) (hk : cs[k]? = some (.p (.v (.slice none 0 0)))) (t : TypeId) (c : CT) :
  ∃ G' : View, G'.w = G.w ∧ Ext G G' ∧ Sim G' ∧ G'.H = (G.H ++ [AO.tok t c 0 true]).set id (.row (cs.set k (.own G.H.length c []))) := by
 have hnb : ¬ (AO.tok t c 0 true).blocked := by intro hb; rcases hb with hb | hb <;> simp at hb
 have hx1 : Ext G (G.obj G.w.heap.size (.tok t c 0 true)) := Ext.obj_self G fun hb => absurd hb hnb
 have hS1 : Sim (G.obj G.w.heap.size (.tok t c 0 true)) := hS.obj (fun id hid => absurd (hS.lt hid) (Nat.lt_irrefl _)) fun hb => absurd hb hnb
 obtain ⟨ho1, _⟩ := View.obj_get (b := G.w.heap.size) (o := AO.tok t c 0 true) ho
 obtain ⟨G2, hw2, hx2, hS2, hH2⟩ := set_cell hS1 ho1 k (.own G.H.length c []) fun vs T v h1 h2 => by
  obtain ⟨vs', T', hheap, _, hall⟩ := hS1.objs id _ ho1 trivial
  rw [hheap] at h1
  cases h1
  obtain ⟨_, hv⟩ := all2_get' hall hk h2
  subst hv
  refine ⟨.inl ⟨rfl, rfl⟩, t, 0, true, ?_, nR9 _, fun _ => .inl ⟨rfl, rfl, rfl⟩⟩
  show (G.H ++ [_])[G.H.length]? = _
  simp
 exact ⟨G2, hw2, hx1.trans hx2, hS2, hH2⟩
theorem Weak.cell {n m : Nat} {e : Env} {H : List AO} (id : Nat) {cs : List AC} (ho : H[id]? = some (.row cs)) (k : Nat) (hk : cs[k]? = some (.p (.v (.slice none 0 0)))) (t : TypeId) (c : CT) :
  Weak n m e H e ((H ++ [AO.tok t c 0 true]).set id (.row (cs.set k (.own H.length c [])))) := fun G0 G a hx0 hm hS hH hE => by
 subst hH
 obtain ⟨G', hw, hx, hS', hH'⟩ := weak_ow hS ho k hk t c
 exact ⟨G', hw, hx0.trans hx, hS', hH', fun u => RepX.mono hx (hE.get u), hE.size, hE.defers⟩
theorem Early.one {M : Mach} {n : Nat} {ops : List Oper} {i : Nat} {e : Env} {o : Oper} {x : XV} {m : Nat} {Hm : List AO} {r : List (Nat × List AO)} (hb : Nat.testBit ((allMasks ops []).getD i 0) m = false) (h : stepD M n ops i e Hm o fun x' H' f => x' = x ∧ H' = Hm ∧ f = 1) (hr : Early M n ops i e o x r) : Early M n ops i e o x ((m, Hm) :: r) := by
 refine ⟨?_, hr⟩
 show match Nat.testBit ((allMasks ops []).getD i 0) m with
  | true => True
  | false => _
 rw [hb]
 exact h
end Go.Ab
namespace Go.Ab
open Go.Proofs
set_option linter.unusedSectionVars false
set_option maxRecDepth 100000
variable [Base]
abbrev ptC : CT := .pair .str .str
abbrev ndC : CT := .pair (.int .i64) (.pair .str (.list ptC))
abbrev Nd : Type := ndC.den
abbrev Pt : Type := ptC.den
def Nd.pa (n : Nd) : Int := n.1
def Nd.nm (n : Nd) : ByteArray := n.2.1
def Nd.ps (n : Nd) : List Pt := n.2.2
def ndAt (ns : List Nd) (i : Nat) : Nd := ns.getD i ndC.dflt
def saysG {α : Type} (da : List AV → Option α) (ea : α → List AV) (g : α → Option Prop × SV) : Says := fun args H => match H with
 | [] => match da args with
  | some a => some (some (args = ea a ∧ holdsO (g a).1), (g a).2, [])
  | none => none
 | _ => none
theorem extG {α : Type} {P : Program} {T : Table} (hT : TSound P T) (f : FuncId) {fn : Func} (hf : P.funcs[f]? = some fn) (hname : NG9 fn) (da : List AV → Option α) (ea : α → List AV) (g : α → Option Prop × SV) (hn : ∀ a, (ea a).length ≤ fn.ntmps) (ks : List Nat)
  (h : ∀ a, holdsO (g a).1 → runF ⟨P, T⟩ fn ks [] (ea a) [] fun r' H'' => Ends r' H'' (g a).2 []) : TSound P (ext T f (saysG da ea g)) :=
 ext_run hT hf hname ks fun args H p r H' hs hp => by
  unfold saysG at hs
  split at hs
  ·split at hs
   ·rename_i a _
    cases hs
    obtain ⟨rfl, hp⟩ := hp
    exact ⟨hn a, [], rfl, nK9, h a hp⟩
   ·cases hs
  ·cases hs
def daN : List AV → Option (List Nd)
 | [.c (.p (.l c0 ns))] => castD (e := ndC) (e' := c0) ns
 | _ => none
def eaN (ns : List Nd) : List AV := [.c (.p (.l ndC ns))]
def daNI : List AV → Option (List Nd × Int)
 | [.c (.p (.l c0 ns)), .c (.p (.v (.int .i64 n)))] => match castD (e := ndC) (e' := c0) ns with | some ns => some (ns, n) | none => none
 | _ => none
def eaNI (a : List Nd × Int) : List AV := [.c (.p (.l ndC a.1)), .c (.int .i64 a.2)]
def daNS : List AV → Option (List Nd × ByteArray)
 | [.c (.p (.l c0 ns)), .c (.p (.v (.string s)))] => match castD (e := ndC) (e' := c0) ns with | some ns => some (ns, s) | none => none
 | _ => none
def eaNS (a : List Nd × ByteArray) : List AV := [.c (.p (.l ndC a.1)), .c (.str a.2)]
def daP : List AV → Option (List Pt)
 | [.c (.p (.l c0 ns))] => castD (e := ptC) (e' := c0) ns
 | _ => none
def eaP (ps : List Pt) : List AV := [.c (.p (.l ptC ps))]
def daT : List AV → Option (List Nd)
 | [.agg [.p (.l c0 ns)]] => castD (e := ndC) (e' := c0) ns
 | _ => none
def eaT (ns : List Nd) : List AV := [.agg [.p (.l ndC ns)]]
def daTI : List AV → Option (List Nd × Int)
 | [.agg [.p (.l c0 ns)], .c (.p (.v (.int .i64 n)))] => match castD (e := ndC) (e' := c0) ns with | some ns => some (ns, n) | none => none
 | _ => none
def eaTI (a : List Nd × Int) : List AV := [.agg [.p (.l ndC a.1)], .c (.int .i64 a.2)]
def daTS : List AV → Option (List Nd × ByteArray)
 | [.agg [.p (.l c0 ns)], .c (.p (.v (.string s)))] => match castD (e := ndC) (e' := c0) ns with | some ns => some (ns, s) | none => none
 | _ => none
def eaTS (a : List Nd × ByteArray) : List AV := [.agg [.p (.l ndC a.1)], .c (.str a.2)]
theorem nd_get {ns : List Nd} {i : Nat} (h : i < ns.length) : ns.getD ((i : Int)).toNat ndC.dflt = ns[i] := by simp [h]
theorem pt_get {ps : List Pt} {i : Nat} (h : i < ps.length) : ps.getD ((i : Int)).toNat ptC.dflt = ps[i] := by simp [h]
theorem all_drop {α : Type} {p : α → Bool} {l : List α} {i : Nat} (h : i < l.length) : (l.drop i).all p = (p l[i] && (l.drop (i + 1)).all p) := by
 rw [List.drop_eq_getElem_cons h, List.all_cons]
theorem lt_of_dec {i n : Nat} (h : decide ((i : Int) < (n : Nat)) = true) : i < n := by
 have := oT9 h
 omega
theorem ge_of_dec {i n : Nat} (h : decide ((i : Int) < (n : Nat)) = false) : n ≤ i := by
 have := oF9 h
 omega
structure OkN (ns : List Nd) : Prop where
 len : ns.length ≤ 1000000000
 ps : ∀ n ∈ ns, n.2.2.length ≤ 1000000000
 nm : ∀ n ∈ ns, n.2.1.size ≤ 1000000000
 pn : ∀ n ∈ ns, ∀ p ∈ n.2.2, p.1.size ≤ 1000000000
def ptLim (p : Pt) : Bool := decide (p.2.size ≤ 256)
def ndLim (n : Nd) : Bool := decide (n.2.2.length ≤ 24) && n.2.2.all ptLim
def limV (ns : List Nd) : Bool := !decide (ns.length = 0) && decide (ns.length ≤ 120) && ns.all ndLim
abbrev A1 : Table := ext T37 56 (saysG daN eaN fun ns => (none, .bool (limV ns)))
theorem a1 : TS9 A1 := by
 refine extG t37 56 (fn := Tryz.f56) rfl rfl daN eaN _ (fun _ => nB9 rfl) [0, 2, 4, 6, 14, 15, 16, 17, 18, 24, 26, 27, 28, 29, 35] fun ns _ => ?_
 dsimp only
 unfold limV
 repeat ((conv => whnf); refine ⟨by first | (unfold inI64; omega) | omega | exact ⟨by omega, by omega⟩ | exact rfl | decide +kernel, ?_⟩)
 conv => whnf
 refine cI9 ?_ ?_<;>intro h
 ·have h1 : (!decide (ns.length = 0) && decide (ns.length ≤ 120)) = false := by
   have h2 : (decide ((ns.length : Int) = 0) || decide (120 < (ns.length : Int))) = true := h
   simp only [Bool.or_eq_true, decide_eq_true_eq] at h2
   rw [Bool.and_eq_false_iff]
   rcases h2 with h2 | h2
   ·left; rw [dT9 (by omega)]; rfl
   ·right; exact dF9 (by omega)
  rw [h1]
  repeat ((conv => whnf); refine ⟨by first | (unfold inI64; omega) | omega | exact ⟨by omega, by omega⟩ | exact rfl | decide +kernel, ?_⟩)
  conv => whnf
  exact eR9
 have h1 : ns.length ≠ 0 ∧ ns.length ≤ 120 := by
  have h2 : (decide ((ns.length : Int) = 0) || decide (120 < (ns.length : Int))) = false := h
  simp only [Bool.or_eq_false_iff, decide_eq_false_iff_not] at h2
  omega
 have e1 : (!decide (ns.length = 0) && decide (ns.length ≤ 120)) = true := by
  rw [dF9 h1.1, dT9 h1.2]; rfl
 rw [e1, Bool.true_and]
 clear h e1
 repeat ((conv => whnf); refine ⟨by first | (unfold inI64; omega) | omega | exact ⟨by omega, by omega⟩ | exact rfl | decide +kernel, ?_⟩)
 conv => whnf
 refine lI9 (σ := Nat) (fun i => [(0, nX9), (2, nX9), (4, nX9), (6, nX9), (14, nX9), (15, XV.s (.a (.c (.p (.l ndC ns))))), (16, XV.s (.int .i64 (ns.length : Nat))), (17, XV.s (.int .i64 (i : Nat))), (18, nX9), (24, nX9), (26, nX9), (27, nX9), (28, nX9), (29, nX9), (35, nX9)])
  (fun _ => []) (fun i => i ≤ ns.length ∧ ns.all ndLim = (ns.drop i).all ndLim) (fun i => ns.length - i) 0 ?_ rfl ⟨nZ9 _, rfl⟩ fun i hI => ?_
 ·repeat first|exact lN9|refine lD9 ?_|refine lS9 ?_
 obtain ⟨hi, hall⟩ := hI
 repeat ((conv => whnf); refine ⟨by first | (unfold inI64; omega) | omega | exact ⟨by omega, by omega⟩ | exact rfl | decide +kernel, ?_⟩)
 conv => whnf
 refine cI9 ?_ ?_<;>intro h2
 ·have hlt := lt_of_dec h2
  have hin : 0 ≤ (i : Int) ∧ (i : Int) < (ns.length : Nat) := by omega
  rw [all_drop hlt] at hall
  have hg := nd_get hlt
  repeat ((conv => whnf); refine ⟨by first | exact hin | (unfold inI64; omega) | omega | exact ⟨by omega, by omega⟩ | exact rfl | decide +kernel, ?_⟩)
  conv => whnf
  generalize hnd : ns.getD ((i : Int)).toNat ndC.dflt = nd at hg ⊢
  rw [← hg] at hall
  refine cI9 ?_ ?_<;>intro h3
  ·have h4 : ndLim nd = false := by
    have h6 : (24 : Int) < (nd.2.2.length : Nat) := oT9 h3
    unfold ndLim
    rw [dF9 (by omega)]
    rfl
   rw [hall, h4]
   repeat ((conv => whnf); refine ⟨by first | (unfold inI64; omega) | omega | exact ⟨by omega, by omega⟩ | exact rfl | decide +kernel, ?_⟩)
   conv => whnf
   exact eR9
  have h4 : nd.2.2.length ≤ 24 := by
   have h6 : ¬ (24 : Int) < (nd.2.2.length : Nat) := oF9 h3
   omega
  have e4 : ndLim nd = nd.2.2.all ptLim := by
   unfold ndLim
   rw [dT9 h4, Bool.true_and]
  clear h3
  repeat ((conv => whnf); refine ⟨by first | (unfold inI64; omega) | omega | exact ⟨by omega, by omega⟩ | exact rfl | decide +kernel, ?_⟩)
  conv => whnf
  refine lI9 (σ := Nat) (fun j => [(0, nX9), (2, nX9), (4, nX9), (6, nX9), (14, nX9), (15, XV.s (.a (.c (.p (.l ndC ns))))), (16, XV.s (.int .i64 (ns.length : Nat))), (17, XV.s (.int .i64 (i : Nat))), (18, nX9), (24, nX9), (26, XV.s (.a (.c (.p (.l ptC nd.2.2))))), (27, XV.s (.int .i64 (nd.2.2.length : Nat))), (28, XV.s (.int .i64 (j : Nat))), (29, nX9), (35, nX9)])
   (fun _ => _) (fun j => j ≤ nd.2.2.length ∧ nd.2.2.all ptLim = (nd.2.2.drop j).all ptLim) (fun j => nd.2.2.length - j) 0 ?_ rfl ⟨nZ9 _, rfl⟩ fun j hJ => ?_
  ·repeat first|exact lN9|refine lD9 ?_|refine lS9 ?_
  obtain ⟨hj, hjall⟩ := hJ
  repeat ((conv => whnf); refine ⟨by first | (unfold inI64; omega) | omega | exact ⟨by omega, by omega⟩ | exact rfl | decide +kernel, ?_⟩)
  conv => whnf
  refine cI9 ?_ ?_<;>intro h5
  ·have hjt := lt_of_dec h5
   have hjn : 0 ≤ (j : Int) ∧ (j : Int) < (nd.2.2.length : Nat) := by omega
   have hq := pt_get hjt
   rw [all_drop hjt] at hjall
   repeat ((conv => whnf); refine ⟨by first | exact hjn | (unfold inI64; omega) | omega | exact ⟨by omega, by omega⟩ | exact rfl | decide +kernel, ?_⟩)
   conv => whnf
   generalize hpt : nd.2.2.getD ((j : Int)).toNat ptC.dflt = pt at hq ⊢
   rw [← hq] at hjall
   refine cI9 ?_ ?_<;>intro h6
   ·have h7 : ptLim pt = false := by
     have h8 : (256 : Int) < (pt.2.size : Nat) := oT9 h6
     exact dF9 (by omega)
    rw [hall, e4, hjall, h7]
    repeat ((conv => whnf); refine ⟨by first | (unfold inI64; omega) | omega | exact ⟨by omega, by omega⟩ | exact rfl | decide +kernel, ?_⟩)
    conv => whnf
    exact eR9
   have h7 : ptLim pt = true := by
    have h8 : ¬ (256 : Int) < (pt.2.size : Nat) := oF9 h6
    exact dT9 (by omega)
   rw [h7, Bool.true_and] at hjall
   repeat ((conv => whnf); refine ⟨by first | (unfold inI64; omega) | omega | exact ⟨by omega, by omega⟩ | exact rfl | decide +kernel, ?_⟩)
   conv => whnf
   refine kI9 (j + 1) [0] rfl id0 rfl ?_ ⟨hjt, hjall⟩ ?_
   ·repeat first|exact kN9|refine kD9 ?_|refine kR9 rfl ?_
   ·omega
  ·have hje : j = nd.2.2.length := by have := ge_of_dec h5; omega
   subst hje
   rw [List.drop_length] at hjall
   rw [e4, hjall] at hall
   repeat ((conv => whnf); refine ⟨by first | (unfold inI64; omega) | omega | exact ⟨by omega, by omega⟩ | exact rfl | decide +kernel, ?_⟩)
   conv => whnf
   refine kI9 (i + 1) [] rfl (nK9) rfl ?_ ⟨hlt, hall⟩ ?_
   ·repeat first|exact kN9|refine kD9 ?_|refine kR9 rfl ?_
   ·omega
 ·have : i = ns.length := by have := ge_of_dec h2; omega
  subst this
  rw [List.drop_length] at hall
  rw [hall]
  repeat ((conv => whnf); refine ⟨by first | (unfold inI64; omega) | omega | exact ⟨by omega, by omega⟩ | exact rfl | decide +kernel, ?_⟩)
  conv => whnf
  exact eR9
def saysConN : Says := fun args H => match args, H with
 | [.c (.p (.v (.string s))), .c (.p (.v (.func (.func f) a b)))], [] => match Nat.beq f 123, a.toList, b.toList with
  | true, [], [] => some (none, .bool (namB s), [])
  | _, _, _ => none
 | _, _ => none
def A2 : Table := ext A1 122 saysConN
theorem a2 : TS9 A2 := by
 refine ext_run a1 (f := 122) (fn := Tryz.f122) rfl rfl [0, 1, 4] fun args H p r H' hs hp => ?_
 unfold saysConN at hs
 split at hs
 ·rename_i s f a b
  split at hs
  ·rename_i hf ha hb
   cases hs
   obtain rfl : f = 123 := Nat.eq_of_beq_eq_true hf
   have ha' : a = #[] := by simpa using ha
   have hb' : b = #[] := by simpa using hb
   subst ha' hb'
   refine ⟨by show 2 ≤ _; decide, [], rfl, nK9, ?_⟩
   conv => whnf
   refine ⟨fun h => ?_, ?_⟩
   ·simp [lit] at h
    have := size_pos h.1
    omega
   conv => whnf
   refine ⟨fun h => ?_, ?_⟩
   ·simp [lit] at h
    show s.size ≤ 1000000000
    omega
   conv => whnf
   exact eR9
  ·cases hs
 ·cases hs
def A3 : Table := ext A2 78 (saysS fun s => (none, .bool (namB s)))
theorem a3 : TS9 A3 := by
 refine extS a2 78 (fn := Tryz.f78) rfl rfl (by decide) _ [0, 2] fun s _ => ?_
 repeat ((conv => whnf); refine ⟨by first | (unfold inI64; omega) | omega | exact ⟨by omega, by omega⟩ | exact rfl | decide +kernel, ?_⟩)
 conv => whnf
 exact eR9
def saysAtN : Says := fun args H => match args, H with
 | [.c (.p (.v (.string s))), .c (.p (.v (.string t)))], [] => some (some (t = ⟨#[64]⟩), .bool (atB s), [])
 | _, _ => none
def A4 : Table := ext A3 76 saysAtN
theorem a4 : TS9 A4 := by
 refine ext_calls a3 76 (fn := Tryz.f76) rfl rfl rfl fun args H p r H' hs hp => ?_
 unfold saysAtN at hs
 split at hs
 ·rename_i s t
  cases hs
  refine ⟨rfl, fun G hS hH cargs ha => ?_⟩
  have hp' : t = ⟨#[64]⟩ := hp
  subst hp'
  cases ha with
  | cons h1 t1 =>
   cases t1 with
   | cons h2 t2 =>
    cases t2
    obtain ⟨_, rfl⟩ := h1
    obtain ⟨_, rfl⟩ := h2
    exact ⟨_, ⟨rfl, rfl⟩, Tryz.strings_Contains_one s 64 _⟩
 ·cases hs
def A5 : Table := ext A4 32 (saysS fun s => (none, .bool (prpB s)))
theorem a5 : TS9 A5 := by
 refine extS a4 32 (fn := Tryz.f32) rfl rfl (by decide) _ [0, 2, 3, 4, 11, 17] fun s _ => ?_
 unfold prpB
 repeat ((conv => whnf); refine ⟨by first | exact fun _ => rfl | (unfold inI64; omega) | omega | exact ⟨by omega, by omega⟩ | exact rfl | decide +kernel, ?_⟩)
 conv => whnf
 refine cI9 ?_ ?_<;>intro h
 ·have h1 : (decide (31 < (s.size : Int)) || atB s) = true := h
  have h2 : (if 31 < (s.size : Int) then false else if atB s = true then false else namB (if prefB s ⟨#[35]⟩ = true then ⟨#[95]⟩ ++ trimP s ⟨#[35]⟩ else s)) = false := by
   rcases Bool.or_eq_true_iff.1 h1 with h3 | h3
   ·rw [if_pos (oT9 h3)]
   ·split <;> first | rfl | rw [if_pos h3]
  rw [h2]
  repeat ((conv => whnf); refine ⟨by first | (unfold inI64; omega) | omega | exact ⟨by omega, by omega⟩ | exact rfl | decide +kernel, ?_⟩)
  conv => whnf
  exact eR9
 have h1 : (decide (31 < (s.size : Int)) || atB s) = false := h
 obtain ⟨h2, h3⟩ := Bool.or_eq_false_iff.1 h1
 have h2' := oF9 h2
 rw [if_neg h2', if_neg (by rw [h3]; simp)]
 repeat ((conv => whnf); refine ⟨by first | (unfold inI64; omega) | omega | exact ⟨by omega, by omega⟩ | exact rfl | decide +kernel, ?_⟩)
 conv => whnf
 have hb1 : (⟨#[95]⟩ : ByteArray).size = 1 := rfl
 have ht : (trimP s ⟨#[35]⟩).size ≤ s.size := by
  unfold trimP
  split
  ·rw [ByteArray.size_extract]; omega
  ·exact nR9 _
 refine cI9 ?_ ?_<;>intro h4
 ·have h5 : prefB s ⟨#[35]⟩ = true := h4
  rw [if_pos h5]
  repeat ((conv => whnf); refine ⟨by first | (show (((⟨#[95]⟩ : ByteArray).size + (trimP s ⟨#[35]⟩).size : Nat) : Int) ≤ 9223372036854775807; rw [hb1]; omega) | (unfold inI64; omega) | omega | exact ⟨by omega, by omega⟩ | exact rfl | decide +kernel, ?_⟩)
  conv => whnf
  exact eR9
 ·have h5 : ¬ prefB s ⟨#[35]⟩ = true := by
   have h6 : prefB s ⟨#[35]⟩ = false := h4
   rw [h6]; simp
  rw [if_neg h5]
  repeat ((conv => whnf); refine ⟨by first | (unfold inI64; omega) | omega | exact ⟨by omega, by omega⟩ | exact rfl | decide +kernel, ?_⟩)
  conv => whnf
  exact eR9
def ptFrm (p : Pt) : Bool := prpB p.1
def ndFrm (i : Nat) (n : Nd) : Bool := !(decide ((i : Int) = 0) && (!decide (n.1 = -1) || !decide (n.2.1 = ⟨#[]⟩))) && !(decide (0 < (i : Int)) && ((decide (n.1 < 0) || decide ((i : Int) ≤ n.1)) || !namB n.2.1)) && n.2.2.all ptFrm
def frmGo : Nat → List Nd → Bool
 | _, [] => true
 | i, n :: r => ndFrm i n && frmGo (i + 1) r
def frmV (ns : List Nd) : Bool := frmGo 0 ns
theorem frm_drop {ns : List Nd} {i : Nat} (h : i < ns.length) : frmGo i (ns.drop i) = (ndFrm i ns[i] && frmGo (i + 1) (ns.drop (i + 1))) := by
 rw [List.drop_eq_getElem_cons h]
 rfl
structure LenN (ns : List Nd) : Prop where
 len : ns.length ≤ 1000000000
 ps : ∀ n ∈ ns, n.2.2.length ≤ 1000000000
theorem LenN.at {ns : List Nd} (h : LenN ns) {i : Nat} (hi : i < ns.length) : (ns[i]).2.2.length ≤ 1000000000 := h.ps _ (List.getElem_mem hi)
def A6 : Table := ext A5 57 (saysG daN eaN fun ns => (some (LenN ns), .bool (frmV ns)))
theorem a6 : TS9 A6 := by
 refine extG a5 57 (fn := Tryz.f57) rfl rfl daN eaN _ (fun _ => nB9 rfl) [0, 2, 3, 4, 6, 7, 8, 9, 10, 25, 44, 46, 47, 48, 49, 55] fun ns hok => ?_
 have hok : LenN ns := hok
 have hlen := hok.len
 dsimp only
 unfold frmV
 repeat ((conv => whnf); refine ⟨by first | (unfold inI64; omega) | omega | exact ⟨by omega, by omega⟩ | exact rfl | decide +kernel, ?_⟩)
 conv => whnf
 refine lI9 (σ := Nat) (fun i => [(0, nX9), (2, nX9), (3, nX9), (4, nX9), (6, nX9), (7, XV.s (.a (.c (.p (.l ndC ns))))), (8, XV.s (.int .i64 (ns.length : Nat))), (9, XV.s (.int .i64 (i : Nat))), (10, nX9), (25, nX9), (44, nX9), (46, nX9), (47, nX9), (48, nX9), (49, nX9), (55, nX9)])
  (fun _ => []) (fun i => i ≤ ns.length ∧ frmGo 0 ns = frmGo i (ns.drop i)) (fun i => ns.length - i) 0 ?_ rfl ⟨nZ9 _, rfl⟩ fun i hI => ?_
 ·repeat first|exact lN9|refine lD9 ?_|refine lS9 ?_
 obtain ⟨hi, hall⟩ := hI
 repeat ((conv => whnf); refine ⟨by first | (unfold inI64; omega) | omega | exact ⟨by omega, by omega⟩ | exact rfl | decide +kernel, ?_⟩)
 conv => whnf
 refine cI9 ?_ ?_<;>intro h2
 ·have hlt := lt_of_dec h2
  have hin : 0 ≤ (i : Int) ∧ (i : Int) < (ns.length : Nat) := by omega
  rw [frm_drop hlt] at hall
  have hg := nd_get hlt
  have hpl := hok.at hlt
  repeat ((conv => whnf); refine ⟨by first | exact hin | (unfold inI64; omega) | omega | exact ⟨by omega, by omega⟩ | exact rfl | decide +kernel, ?_⟩)
  conv => whnf
  generalize hnd : ns.getD ((i : Int)).toNat ndC.dflt = nd at hg ⊢
  rw [← hg] at hall hpl
  refine cI9 ?_ ?_<;>intro h3
  ·have h4 : ndFrm i nd = false := by
    have h5 : (decide ((i : Int) = 0) && (!decide (nd.1 = -1) || !decide (nd.2.1 = ⟨#[]⟩))) = true := h3
    unfold ndFrm
    rw [h5]
    rfl
   rw [hall, h4]
   repeat ((conv => whnf); refine ⟨by first | (unfold inI64; omega) | omega | exact ⟨by omega, by omega⟩ | exact rfl | decide +kernel, ?_⟩)
   conv => whnf
   exact eR9
  have h3 : (decide ((i : Int) = 0) && (!decide (nd.1 = -1) || !decide (nd.2.1 = ⟨#[]⟩))) = false := h3
  repeat ((conv => whnf); refine ⟨by first | (unfold inI64; omega) | omega | exact ⟨by omega, by omega⟩ | exact rfl | decide +kernel, ?_⟩)
  conv => whnf
  refine cI9 ?_ ?_<;>intro h5
  ·have h4 : ndFrm i nd = false := by
    have h6 : (decide (0 < (i : Int)) && ((decide (nd.1 < 0) || decide ((i : Int) ≤ nd.1)) || !namB nd.2.1)) = true := h5
    unfold ndFrm
    rw [h3, h6]
    rfl
   rw [hall, h4]
   repeat ((conv => whnf); refine ⟨by first | (unfold inI64; omega) | omega | exact ⟨by omega, by omega⟩ | exact rfl | decide +kernel, ?_⟩)
   conv => whnf
   exact eR9
  have h5 : (decide (0 < (i : Int)) && ((decide (nd.1 < 0) || decide ((i : Int) ≤ nd.1)) || !namB nd.2.1)) = false := h5
  have e4 : ndFrm i nd = nd.2.2.all ptFrm := by
   unfold ndFrm
   rw [h3, h5]
   rfl
  repeat ((conv => whnf); refine ⟨by first | (unfold inI64; omega) | omega | exact ⟨by omega, by omega⟩ | exact rfl | decide +kernel, ?_⟩)
  conv => whnf
  refine lI9 (σ := Nat) (fun j => [(0, nX9), (2, nX9), (3, nX9), (4, nX9), (6, nX9), (7, XV.s (.a (.c (.p (.l ndC ns))))), (8, XV.s (.int .i64 (ns.length : Nat))), (9, XV.s (.int .i64 (i : Nat))), (10, nX9), (25, nX9), (44, nX9), (46, XV.s (.a (.c (.p (.l ptC nd.2.2))))), (47, XV.s (.int .i64 (nd.2.2.length : Nat))), (48, XV.s (.int .i64 (j : Nat))), (49, nX9), (55, nX9)])
   (fun _ => _) (fun j => j ≤ nd.2.2.length ∧ nd.2.2.all ptFrm = (nd.2.2.drop j).all ptFrm) (fun j => nd.2.2.length - j) 0 ?_ rfl ⟨nZ9 _, rfl⟩ fun j hJ => ?_
  ·repeat first|exact lN9|refine lD9 ?_|refine lS9 ?_
  obtain ⟨hj, hjall⟩ := hJ
  repeat ((conv => whnf); refine ⟨by first | (unfold inI64; omega) | omega | exact ⟨by omega, by omega⟩ | exact rfl | decide +kernel, ?_⟩)
  conv => whnf
  refine cI9 ?_ ?_<;>intro h6
  ·have hjt := lt_of_dec h6
   have hjn : 0 ≤ (j : Int) ∧ (j : Int) < (nd.2.2.length : Nat) := by omega
   have hq := pt_get hjt
   rw [all_drop hjt] at hjall
   repeat ((conv => whnf); refine ⟨by first | exact hjn | (unfold inI64; omega) | omega | exact ⟨by omega, by omega⟩ | exact rfl | decide +kernel, ?_⟩)
   conv => whnf
   generalize hpt : nd.2.2.getD ((j : Int)).toNat ptC.dflt = pt at hq ⊢
   rw [← hq] at hjall
   refine cI9 ?_ ?_<;>intro h7
   ·have h8 : ptFrm pt = false := by
     have h9 : (!prpB pt.1) = true := h7
     show prpB pt.1 = false
     simpa using h9
    rw [hall, e4, hjall, h8]
    repeat ((conv => whnf); refine ⟨by first | (unfold inI64; omega) | omega | exact ⟨by omega, by omega⟩ | exact rfl | decide +kernel, ?_⟩)
    conv => whnf
    exact eR9
   have h8 : ptFrm pt = true := by
    have h9 : (!prpB pt.1) = false := h7
    show prpB pt.1 = true
    simpa using h9
   rw [h8, Bool.true_and] at hjall
   repeat ((conv => whnf); refine ⟨by first | (unfold inI64; omega) | omega | exact ⟨by omega, by omega⟩ | exact rfl | decide +kernel, ?_⟩)
   conv => whnf
   refine kI9 (j + 1) [0] rfl id0 rfl ?_ ⟨hjt, hjall⟩ ?_
   ·repeat first|exact kN9|refine kD9 ?_|refine kR9 rfl ?_
   ·omega
  ·have hje : j = nd.2.2.length := by have := ge_of_dec h6; omega
   subst hje
   rw [List.drop_length] at hjall
   rw [e4, hjall] at hall
   repeat ((conv => whnf); refine ⟨by first | (unfold inI64; omega) | omega | exact ⟨by omega, by omega⟩ | exact rfl | decide +kernel, ?_⟩)
   conv => whnf
   refine kI9 (i + 1) [] rfl (nK9) rfl ?_ ⟨hlt, hall⟩ ?_
   ·repeat first|exact kN9|refine kD9 ?_|refine kR9 rfl ?_
   ·omega
 ·have : i = ns.length := by have := ge_of_dec h2; omega
  subst this
  rw [List.drop_length] at hall
  rw [hall]
  repeat ((conv => whnf); refine ⟨by first | (unfold inI64; omega) | omega | exact ⟨by omega, by omega⟩ | exact rfl | decide +kernel, ?_⟩)
  conv => whnf
  exact eR9
def bLt (a b : ByteArray) : Bool := Op.bytesLess a.toList b.toList
def bLe (a b : ByteArray) : Bool := Op.bytesLess a.toList b.toList || decide (a = b)
def ascV : List Pt → Bool
 | [] => true
 | p :: r => (match r with | q :: _ => bLt p.1 q.1 | [] => true) && ascV r
theorem asc_drop {ps : List Pt} {j : Nat} (h : j + 1 < ps.length) : ascV (ps.drop j) = (bLt (ps[j]'(by omega)).1 (ps[j + 1]).1 && ascV (ps.drop (j + 1))) := by
 rw [List.drop_eq_getElem_cons (by omega), List.drop_eq_getElem_cons h]
 rfl
theorem asc_end {ps : List Pt} {j : Nat} (h : ps.length ≤ j + 1) : ascV (ps.drop j) = true := by
 rcases Nat.lt_or_ge j ps.length with h1 | h1
 ·rw [List.drop_eq_getElem_cons h1, List.drop_eq_nil_of_le h]
  rfl
 ·rw [List.drop_eq_nil_of_le h1]
  rfl
def A7 : Table := ext A6 111 (saysG daP eaP fun ps => (some (ps.length ≤ 1000000000), .bool (ascV ps)))
theorem a7 : TS9 A7 := by
 refine extG a6 111 (fn := Tryz.f111) rfl rfl daP eaP _ (fun _ => nB9 rfl) [0, 2, 3, 7, 21] fun ps hok => ?_
 have hlen : ps.length ≤ 1000000000 := hok
 dsimp only
 repeat ((conv => whnf); refine ⟨by first | (unfold inI64; omega) | omega | exact ⟨by omega, by omega⟩ | exact rfl | decide +kernel, ?_⟩)
 conv => whnf
 refine lI9 (σ := Nat) (fun j => [(0, XV.s (.a (.c (.p (.l ptC ps))))), (2, nX9), (3, XV.s (.int .i64 (1 + (j : Int)))), (7, nX9), (21, nX9)])
  (fun _ => []) (fun j => j ≤ ps.length ∧ ascV ps = ascV (ps.drop j)) (fun j => ps.length - j) 0 ?_ rfl ⟨nZ9 _, rfl⟩ fun j hI => ?_
 ·repeat first|exact lN9|refine lD9 ?_|refine lS9 ?_
 obtain ⟨hj, hall⟩ := hI
 repeat ((conv => whnf); refine ⟨by first | (unfold inI64; omega) | omega | exact ⟨by omega, by omega⟩ | exact rfl | decide +kernel, ?_⟩)
 conv => whnf
 refine cI9 ?_ ?_<;>intro h2
 ·have hlt : j + 1 < ps.length := by
   have : 1 + (j : Int) < (ps.length : Nat) := oT9 h2
   omega
  have hin : 0 ≤ 1 + (j : Int) - 1 ∧ 1 + (j : Int) - 1 < (ps.length : Nat) := by omega
  have hin2 : 0 ≤ 1 + (j : Int) ∧ 1 + (j : Int) < (ps.length : Nat) := by omega
  rw [asc_drop hlt] at hall
  have e1 : ps.getD (1 + (j : Int) - 1).toNat ptC.dflt = ps[j] := by
   have : (1 + (j : Int) - 1).toNat = j := by omega
   rw [this]
   simp [show j < ps.length by omega]
  have e2 : ps.getD (1 + (j : Int)).toNat ptC.dflt = ps[j + 1] := by
   have : (1 + (j : Int)).toNat = j + 1 := by omega
   rw [this]
   simp [hlt]
  rw [← e1, ← e2] at hall
  repeat ((conv => whnf); refine ⟨by first | exact hin | exact hin2 | (unfold inI64; omega) | omega | exact ⟨by omega, by omega⟩ | exact rfl | decide +kernel, ?_⟩)
  conv => whnf
  refine cI9 ?_ ?_<;>intro h3
  ·have h4 : bLt (ps.getD (1 + (j : Int) - 1).toNat ptC.dflt).1 (ps.getD (1 + (j : Int)).toNat ptC.dflt).1 = false := by
    have h5 : (!bLt (ps.getD (1 + (j : Int) - 1).toNat ptC.dflt).1 (ps.getD (1 + (j : Int)).toNat ptC.dflt).1) = true := h3
    simpa using h5
   rw [hall, h4]
   repeat ((conv => whnf); refine ⟨by first | (unfold inI64; omega) | omega | exact ⟨by omega, by omega⟩ | exact rfl | decide +kernel, ?_⟩)
   conv => whnf
   exact eR9
  have h4 : bLt (ps.getD (1 + (j : Int) - 1).toNat ptC.dflt).1 (ps.getD (1 + (j : Int)).toNat ptC.dflt).1 = true := by
   have h5 : (!bLt (ps.getD (1 + (j : Int) - 1).toNat ptC.dflt).1 (ps.getD (1 + (j : Int)).toNat ptC.dflt).1) = false := h3
   simpa using h5
  rw [h4, Bool.true_and] at hall
  repeat ((conv => whnf); refine ⟨by first | (unfold inI64; omega) | omega | exact ⟨by omega, by omega⟩ | exact rfl | decide +kernel, ?_⟩)
  conv => whnf
  refine hI9 (j + 1) ?_ rfl ⟨by omega, hall⟩ ?_
  ·have e : (1 + (j : Int) + 1) = 1 + ((j + 1 : Nat) : Int) := by omega
   rw [e]
   repeat first|exact lN9|refine lD9 ?_|refine lS9 ?_
  ·omega
 ·have hge : ps.length ≤ j + 1 := by
   have : ¬ 1 + (j : Int) < (ps.length : Nat) := oF9 h2
   omega
  rw [asc_end hge] at hall
  rw [hall]
  repeat ((conv => whnf); refine ⟨by first | (unfold inI64; omega) | omega | exact ⟨by omega, by omega⟩ | exact rfl | decide +kernel, ?_⟩)
  conv => whnf
  exact eR9
end Go.Ab
