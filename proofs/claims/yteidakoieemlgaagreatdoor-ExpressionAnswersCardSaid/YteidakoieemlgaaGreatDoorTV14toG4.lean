/- Package expression: whole texts. -/
import Derived.Test.YteidakoieemlgaaGreatDoorTS3toV13
import Derived.Test.YteidakoieemlgaaGreatDoorTS5toS7
import Derived.Test.YteidakoieemlgaaGreatDoorTPtoR1
import Derived.Below
import Derived.Test.YteidakoieemlgaaGreatDoorRows
import Derived.Test.YteidakoieemlgaaGreatDoorTie
import Derived.Test.YteidakoieemlgaaGreatDoorCards
import Derived.ProofKit
import Derived.LaidMore
import Derived.OpenShut
import Derived.ShutString
import Derived.ChangeOld
import Derived.Stop.Joined
import Derived.SevenTiedAt
import Derived.Test.YteidakoieemlgaaGreatDoorTR6toG3
namespace Go.Ab
open Go.Proofs
set_option linter.unusedSectionVars false
set_option maxRecDepth 100000
variable [GlobX]

theorem cmp_ok {l : List UInt8} {ts : List Tk} {x : Int} {D : Nat} (hl : l.length ≤ 16000) (hx : Lx l ts) (hn : ts.length < 6000) (hD : D ≤ 8) (hw : WhlOk D (ts ++ [tkEnd]) x [tkEnd]) : cmpV (B l) = (x, 0) := by
  obtain ⟨h1, h2⟩ := hx 0 6000 (1, 1) [] hn
  rw [← readV_L l 0 hl] at h1 h2
  have h2' : (readV (B l) 0).toks.map tkOf = ts ++ [tkEnd] := by simpa using h2
  have hlen : (readV (B l) 0).toks.length = ts.length + 1 := by
    have := congrArg List.length h2'
    simpa using this
  have h3 := exprV_ok hD h2' hw
  have hk : ((readV (B l) 0).toks.getD (((readV (B l) 0).toks.length : Int) - 1).toNat tkC.dflt).1 = 8 := by
    have e1 : (((readV (B l) 0).toks.length : Int) - 1).toNat = ts.length := by omega
    rw [e1, List.getD_eq_getElem?_getD]
    have h4 := congrArg (fun m : List Tk => m[ts.length]?) h2'
    simp only [List.getElem?_map, List.getElem?_concat_length] at h4
    cases hg : (readV (B l) 0).toks[ts.length]? with
    | none => rw [hg] at h4; cases h4
    | some t =>
      rw [hg] at h4
      have : (tkOf t).1 = 8 := by rw [Option.some.inj h4]
      exact this
  unfold cmpV
  rw [if_pos h1, h3, if_pos rfl]
  simp only
  rw [if_pos hk]

theorem fmtV_L {n : Int} (h0 : 0 ≤ n) (h1 : n ≤ 4294967295) : fmtV n = B (fmtL n.toNat) := by
  unfold fmtV fmtL
  rw [if_neg (by omega)]
  by_cases h : n < 10
  · rw [if_pos h, if_pos (by omega)]
  · rw [if_neg h, if_neg (by omega)]

theorem fmtL_len (n : Nat) : (fmtL n).length ≤ 67 := by
  unfold fmtL
  have h1 := basedV_len false 10 n
  have h2 := basedV_len false 16 n
  split
  · omega
  · simp only [List.length_cons]; omega

theorem fmtV_size (n : Int) : (fmtV n).size ≤ 67 := by
  unfold fmtV
  have h1 := basedV_len false 10 n.toNat
  have h2 := basedV_len false 16 n.toNat
  split
  · exact Nat.zero_le _
  split
  · rw [B_size]; omega
  · rw [B_size]; simp only [List.length_cons]; omega

/-! The examples of the chapter. -/
def aw1T : ByteArray := ⟨#[49, 32, 43, 32, 50, 32, 42, 32, 51, 32, 60, 60, 32, 49]⟩
def aw2T : ByteArray := ⟨#[40, 49, 32, 63, 32, 50, 32, 58, 32, 51, 41, 32, 45, 32, 53]⟩
def aw3T : ByteArray := ⟨#[49, 32, 124, 124, 32, 49, 32, 47, 32, 48]⟩
theorem aw_1 : cmpV aw1T = (14, 0) := by decide +kernel
theorem aw_2 : cmpV aw2T = (4294967293, 0) := by decide +kernel
theorem aw_3 : (cmpV aw3T).2 = 22 := by decide +kernel
theorem aw_4 : fmtV 255 = ⟨#[48, 120, 102, 102]⟩ := by decide +kernel

def X52 : Table := ext X51 4 (fun args H => match args, H with | [], [] => some (none, .bool true, []) | _, _ => none)

theorem x52 : TSound Tryz.prog X52 := by
  refine ext_run x51 (f := 4) (fn := Tryz.f4) rfl rfl [0, 1, 2, 3, 4, 6] fun args H p r H' hs hp => ?_
  split at hs
  · cases hs
    refine ⟨Nat.zero_le _, [], rfl, fun k hk => absurd hk (Nat.not_lt_zero k), ?_⟩
    repeat ((conv => whnf); refine ⟨by first | (unfold inI64; omega) | omega | exact ⟨by omega, by omega⟩ | (intro hg; first | (unfold inI64; omega) | omega | exact ⟨by omega, by omega⟩ | (simp [lit] at hg; unfold inI64; omega) | (simp [lit] at hg; omega) | (simp [lit] at hg; exact ⟨by omega, by omega⟩)) | (show (_ : Nat) + 1 ≤ 1000000000000; omega) | exact rfl | (unfold inI64; dsimp only; omega) | (dsimp only; omega) | (intro hg; simp [lit] at hg; first | (unfold inI64; dsimp only; omega) | (dsimp only; omega)) | decide +kernel, ?_⟩)
    conv => whnf
    refine ends_eq ⟨?_, rfl⟩
    show SV.bool (decide ((cmpV aw1T).2 = 0) && decide ((cmpV aw2T).2 = 0) && decide ((cmpV aw1T).1 = 14) && decide ((cmpV aw2T).1 = 4294967293) && decide ((cmpV aw3T).2 = 22) && decide (fmtV 255 = ⟨#[48, 120, 102, 102]⟩)) = SV.bool true
    rw [aw_1, aw_2, aw_3, aw_4]
    rfl
  · cases hs
end Go.Ab

/- From the abstract machine to the statement of a law: a call that is handed no object. -/
namespace Go.Ab
open Go.RowKit
set_option linter.unusedSectionVars false
/-- A variable of the program's that holds a number. -/
theorem cell_lt {w : World} {b o : Nat} {v : Value} (h : w.at' b o = some v) : b < w.heap.size := by
  rcases Nat.lt_or_ge b w.heap.size with h1 | h1
  · exact h1
  · exfalso
    unfold World.at' World.cell? at h
    simp [h1] at h
/-! Slices of integers that come in. -/
def IsRow (k : IntKind) (w : World) (a : Option Addr) (len cap : Nat) (zs : List Int) : Prop :=
  (a = none ∧ len = 0 ∧ cap = 0 ∧ zs = []) ∨
  ∃ b off, a = some ⟨b, off, none⟩ ∧ len ≤ cap ∧ zs.length = cap ∧ ∀ i, i < zs.length → w.at' b (off + i) = some (.int k (zs.getD i 0))

def RowCells (a : Option Addr) (cap : Nat) : Cells := fun b o => ∃ off, a = some ⟨b, off, none⟩ ∧ off ≤ o ∧ o < off + cap

theorem isRow_of {k : IntKind} {w : World} {x : Addr} {len cap : Nat} {zs : List Int} (hs : x.spot = none) (hl : len ≤ cap) (hz : zs.length = cap) (hc : ∀ i, i < zs.length → w.cell? (x.add i) = some (.int k (zs.getD i 0))) : IsRow k w (some x) len cap zs := by
  obtain ⟨b, off, sp⟩ := x
  simp only at hs
  subst hs
  refine .inr ⟨b, off, rfl, hl, hz, fun i hi => ?_⟩
  have := hc i hi
  have e : (⟨b, off, none⟩ : Addr).add i = ⟨b, off + i, none⟩ := by unfold Addr.add; split <;> simp_all
  rwa [e] at this

theorem slice_spot {P : Program} {w : World} {r : Reach} {base : Nat} {t e : TypeId} {x : Addr} {len cap : Nat} (ht : P.underlying t = some (.slice e)) (h : Value.okWide P w r base t (.slice (some x) len cap)) : x.spot = none := by
  simp only [Value.okWide, ht, Cell.okWide] at h
  simp only [Cell.ok, ht] at h
  exact h.2.2.2.1

theorem isRow_rep {k : IntKind} {w : World} {a : Option Addr} {len cap : Nat} {zs : List Int} {I : Cells} (h : IsRow k w a len cap zs) (hI : ∀ b o, RowCells a cap b o → I b o) : RepV I w (.l (.int k) (zs.take len)) (.slice a len cap) := by
  rcases h with ⟨rfl, rfl, rfl, rfl⟩ | ⟨b, off, rfl, hl, hz, hc⟩
  · exact .inl ⟨rfl, rfl⟩
  · have hlen : (zs.take len).length = len := by rw [List.length_take]; omega
    refine .inr ⟨b, off, cap, by rw [hlen], by omega, fun i z hi => ?_⟩
    have hlt : i < len := by
      rcases Nat.lt_or_ge i len with h1 | h1
      · exact h1
      · rw [List.getElem?_eq_none (by omega)] at hi; cases hi
    refine ⟨[.int k z], rfl, fun j u hj => ?_⟩
    cases j with
    | succ j => simp at hj
    | zero =>
      cases hj
      have hw : off + i * (CT.int k).width + 0 = off + i := by show off + i * 1 + 0 = off + i; omega
      rw [hw]
      refine ⟨hI _ _ ⟨off, rfl, by omega, by omega⟩, ?_⟩
      rw [hc i (by omega)]
      rw [List.getElem?_take, if_pos hlt] at hi
      rw [List.getD_eq_getElem?_getD, hi]
      rfl

theorem isRow_lt {k : IntKind} {w : World} {a : Option Addr} {len cap : Nat} {zs : List Int} (h : IsRow k w a len cap zs) : ∀ b o, RowCells a cap b o → b < w.heap.size := by
  rintro b o ⟨off, ha, h1, h2⟩
  rcases h with ⟨rfl, _⟩ | ⟨b', off', rfl, hl, hz, hc⟩
  · cases ha
  · cases ha
    have := hc (o - off) (by omega)
    exact cell_lt this

variable [Base]

/-- The first view of a world: no object, and cells that nobody writes. -/
def view0 (I : Cells) (w : World) : View := ⟨fun _ => 0, I, [], w⟩

theorem sim0 {I : Cells} {w : World} (hv : ∀ v ∈ Base.vars, VarOk I w v) (hI : ∀ b o, I b o → b < w.heap.size) : Sim (view0 I w) where
  vars := hv
  objs := fun id o h => by cases id <;> cases h
  inj := fun i j b h => by obtain ⟨o, ho, _⟩ := h; cases i <;> cases ho
  ilt := hI

theorem calls_of_ok {P : Program} {f : FuncId} {fn : Func} {c : Code} (hf : P.funcs[f]? = some fn) (hb : fn.body = some c) (hname : (fn.name == "runtime.NumGoroutine") = false) {cargs : List Value} {G : View} {R : Value → View → Prop}
    (h : CallOk P f cargs G R) : Calls P f cargs.toArray G.w fun e w' => ∃ v G', e = .returned v ∧ G'.w = w' ∧ Ext G G' ∧ Sim G' ∧ R v G' := by
  rcases h with ⟨v, G', h1, _⟩ | ⟨_, h2⟩
  · exfalso
    have hn' : ¬ fn.name = "runtime.NumGoroutine" := by simpa using hname
    simp [callFunc, hf, hn', hb] at h1
  · exact h2

theorem law_of {P : Program} {T : Table} (hT : TSound P T) {f : FuncId} {fn : Func} {c : Code} (hf : P.funcs[f]? = some fn) (hb : fn.body = some c) (hname : (fn.name == "runtime.NumGoroutine") = false) {args : List AV} {p : Option Prop}
    (hs : T f args [] = some (p, SV.bool true, [])) (hp : holdsO p) {I : Cells} {w : World} (hv : ∀ v ∈ Base.vars, VarOk I w v) (hI : ∀ b o, I b o → b < w.heap.size) {cargs : List Value} (ha : All2 (RepA (view0 I w)) args cargs) :
    Calls P f cargs.toArray w fun e w' => e = .returned (.bool true) ∧ Below w.heap.size w w' := by
  have h := calls_of_ok hf hb hname (hT f args [] p (SV.bool true) [] hs hp (view0 I w) (sim0 hv hI) rfl cargs ha)
  refine h.mono fun e w' ⟨v, G', he, hw, hx, _, _, hr⟩ => ?_
  subst he hw
  have hr' : v = .bool true := hr.2
  subst hr'
  refine ⟨rfl, hx.os, hx.tape, hx.output, hx.size, fun k hk => hx.frame k hk fun id hid => ?_⟩
  obtain ⟨o, ho, _⟩ := hid
  have ho' : ([] : List AO)[id]? = some o := ho
  simp at ho'

end Go.Ab

/- The bridge for tied rows: what the condition on the listed variables gives a walk. -/
namespace Go.Proofs.YteidakoieemlgaaGreatDoor
open Go.ChangeShapes Go.WideShapes Go.ChangeAt Go.WideElems Go.RowKit
set_option linter.unusedVariables false
set_option maxRecDepth 100000

theorem own : ownKnob Tryz.prog.godebug = none := by kernel_rfl
theorem laidOut : laidOutB Tryz.prog = true := by kernel_rfl

theorem bridge {H : Type} {enc : TypeId × Value → H} {a : Assume} {C : Checked} {os : Os} {f : FuncId} {fn : Func} {s : ChangeSpec} {conds : List PathCond} {apart fresh handsOn again : Bool} {X : World → Array Value → Prop}
    (hX : ∀ (w w' : World) (args : Array Value), w.heap = w'.heap → X w args → X w' args)
    (own : ownKnob C.prog.godebug = none) (started : os.Started) (noInit : C.prog.inits.idxOf? f = none) (hfn : C.prog.funcs[f]? = some fn)
    (witness : ∃ (w : World) (tape : Tape) (i : Input), w.os = os ∧ (w.forCall tape i).Shaped C.prog ∧ i.vars = [] ∧ Input.okWide C.prog (w.forCall tape i) .any w.heap.size f i ∧
      ((s.pre enc C.prog fn conds apart (w.forCall tape i).memory i.args ∧ X (w.forCall tape i).memory i.args) ∧ sizedMet enc C.prog fn (OpenSpec.ofChange s) apart (w.forCall tape i).memory i.args) ∧ a.holds C.prog (lone (Frame.enter C.prog f i.args .normal) [] (w.forCall tape i)))
    (contract : ∀ (W : World) (base : Nat) (args : Array Value) (ds gs : List (DataW H)) (before : List MemPlace),
      (∀ (j : Nat) t v, fn.params[j]? = some t → args[j]? = some v → Value.okWide C.prog W .any base t v) →
      DataW.Whole enc C.prog fn.params.toList s.vars apart W args.toList ds gs before → X W args → W.ShapedOpen C.prog →
      Calls C.prog f args W fun e W' => ∃ v, e = .returned v ∧ s.post enc C.prog fn apart fresh handsOn again W args v W') :
    ReturnsInHanded a C os f .any (fun w args => (s.pre enc C.prog fn conds apart w args ∧ X w args) ∧ sizedMet enc C.prog fn (OpenSpec.ofChange s) apart w args) (s.post enc C.prog fn apart fresh handsOn again) := by
  refine returnsInHanded_of_calls own started noInit witness ?_
  intro w tape i _ hsh _ hok hpre hholds
  obtain ⟨_, _, _, fn', hfn', _, _, _, _, hval⟩ := hok
  have e : fn' = fn := Option.some.inj (hfn'.symm.trans hfn)
  subst e
  obtain ⟨⟨⟨ds, gs, before, hw, hc⟩, hx⟩, hz⟩ := hpre
  have hw' := DataW.Whole.of_heap (w' := w.forCall tape i) (by rfl) hw
  refine (contract (w.forCall tape i) w.heap.size i.args ds gs before hval hw' (hX _ _ _ (by rfl) hx) hsh).mono fun e W' ⟨v, he, hp⟩ => ?_
  subst he
  exact ChangeSpec.post_blind hp

/-- The listed variables. -/
abbrev lay {H : Type} : List (String × DataW H) := [("math/bits.deBruijn32tab", Rows.laid_math_bits_deBruijn32tab), ("math/bits.deBruijn64tab", Rows.laid_math_bits_deBruijn64tab), ("internal/strconv.uint64pow10", Rows.laid_internal_strconv_uint64pow10)]

theorem g64 : Tryz.prog.globalNamed "math/bits.deBruijn64tab" = some 3 := by kernel_rfl
theorem t64 : (Tryz.prog.globals[3]?).map (·.type) = some 135 := by kernel_rfl
theorem u64 : Tryz.prog.underlying 135 = some (.array 64 5) := by kernel_rfl
theorem u8 : Tryz.prog.underlying 5 = some (.int .u8) := by kernel_rfl

/-- The door's own heap meets the condition. -/
theorem door_met (os : Os) (args : Array Value) : laidMetH Tryz.prog lay ((World.doorLaid Tryz.prog 4000 os).forCall (fun _ _ => 0) ⟨#[], args, []⟩).memory :=
  laidMetH_of_parts3 (fuel := 100) (laidMet_of_run' 100 (by kernel_rfl) (by kernel_rfl)) (by kernel_rfl) (by kernel_rfl)

theorem of_laid {W : World} (h : laidMetH Tryz.prog lay W) : W.cell? ⟨3, 15, none⟩ = some (.int .u8 4) := by
  rw [MakeChecks.laidMetH_plain _ _ _ (by kernel_rfl)] at h
  obtain ⟨ps, ⟨g0, t0, cs0, f0, p0, q0, hg0, ht0, hv0, hd0, ⟨g1, t1, cs1, f1, p1, q1, hg1, ht1, hv1, hd1, _, _⟩, _⟩, _, _⟩ := h
  obtain rfl := Option.some.inj (g64.symm.trans hg1)
  obtain rfl := Option.some.inj (t64.symm.trans ht1)
  obtain ⟨xs, m1, rfl, hx1, hlen, hn3, hel⟩ := DataW.trod_array u64 hd1
  have c1 : Tryz.prog.cellsOf 5 = 1 := by kernel_rfl
  have h0 := hel 15 (by decide)
  simp only [Rows.laid_math_bits_deBruijn64tab, Prod.mk.injEq, DataW.agg.injEq] at hx1
  have h15 : (xs.map (·.1))[15]? = some (.lit (.int .u8 4)) := by rw [← hx1.1]; rfl
  rw [List.getElem?_map] at h15
  cases hx : xs[15]? with
  | none => rw [hx] at h15; cases h15
  | some y =>
    rw [hx] at h15 h0
    obtain ⟨d, q⟩ := y
    have hd : d = .lit (.int .u8 4) := Option.some.inj h15
    subst hd
    obtain ⟨k, e1, e2, _⟩ := DataW.trod_int u8 h0
    have hk : k = 4 := (by simpa using e2.symm : k = 4 ∧ q = []).1
    subst hk
    have hc := World.var?_cell hg1 hv1 15
    rw [c1] at e1
    rw [hc]
    obtain ⟨l1⟩ := cs1
    have e3 := congrArg (fun l : List Value => l[0]?) e1
    simpa using e3
end Go.Proofs.YteidakoieemlgaaGreatDoor

/- The abstract machine: functions that call themselves. -/
namespace Go.Ab
set_option linter.unusedSectionVars false
variable [Base]

theorem ext_twice (T : Table) (f : FuncId) (s t : Says) : ext (ext T f s) f t = ext T f t := by
  funext g args H
  unfold ext
  cases Nat.beq g f <;> rfl

/-- What is known of a function below a measure. -/
def below (s : Nat → Says) : Nat → Says
  | 0 => fun _ _ => none
  | k + 1 => s k

theorem ext_none {P : Program} {T : Table} (hT : TSound P T) (f : FuncId) : TSound P (ext T f fun _ _ => none) :=
  ext_sound hT fun _ _ _ _ _ h => by cases h

/-- A function that calls itself, with a smaller measure. -/
theorem ext_rec {P : Program} {T : Table} (hT : TSound P T) {f : FuncId} {fn : Func} (hf : P.funcs[f]? = some fn) (hname : (fn.name == "runtime.NumGoroutine") = false) {s : Nat → Says} (ks : List Nat)
    (h : ∀ k args H p r H', s k args H = some (p, r, H') → holdsO p → args.length ≤ fn.ntmps ∧ ∃ L, nodup L = true ∧ (∀ i, i < H.length → L[i]? = some i) ∧ runF ⟨P, ext T f (below s k)⟩ fn ks L args H fun r' H'' => Ends r' H'' r H') (k : Nat) : TSound P (ext T f (s k)) := by
  have hb : TSound P (ext T f (below s k)) := by
    induction k with
    | zero => exact ext_none hT f
    | succ k ih =>
      have := ext_run ih hf hname ks (h k)
      rwa [ext_twice] at this
  have := ext_run hb hf hname ks (h k)
  rwa [ext_twice] at this

/-- A function's line, taken from one table to another. -/
theorem ext_only {P : Program} {T U : Table} {f : FuncId} {s : Says} (h : TSound P (ext U f s)) (hT : TSound P T) : TSound P (ext T f s) := by
  intro g args H p r H' hg
  cases hb : Nat.beq g f with
  | true =>
    have e : ext T f s g args H = ext U f s g args H := by
      unfold ext
      rw [hb]
    rw [e] at hg
    exact h g args H p r H' hg
  | false =>
    have e : ext T f s g args H = T g args H := by
      unfold ext
      rw [hb]
    rw [e] at hg
    exact hT g args H p r H' hg

/-- Two lines for one function. -/
def orS (s t : Says) : Says := fun args H => match s args H with | some x => some x | none => t args H
theorem ext_or {P : Program} {T : Table} {f : FuncId} {s t : Says} (hs : TSound P (ext T f s)) (ht : TSound P (ext T f t)) : TSound P (ext T f (orS s t)) := by
  intro g args H p r H' hg
  cases hb : Nat.beq g f with
  | true =>
    have e : ext T f (orS s t) g args H = orS s t args H := by
      unfold ext
      rw [hb]
    rw [e] at hg
    unfold orS at hg
    split at hg
    · rename_i x hx
      refine hs g args H p r H' ?_
      unfold ext
      rw [hb]
      exact hx.trans hg
    · refine ht g args H p r H' ?_
      unfold ext
      rw [hb]
      exact hg
  | false =>
    refine hs g args H p r H' ?_
    unfold ext at hg ⊢
    rw [hb] at hg ⊢
    exact hg

/-! What comes behind a part, kept closed. -/
def seqQ (M : Mach) (n : Nat) (ks : List Nat) (y : Code) (K : Exit → Env → List AO → Prop) : Exit → Env → List AO → Prop := fun ex e' H' => match ex with
  | .normal => runC M n ks y e' H' K
  | ex => K ex e' H'
theorem seq_shut {M : Mach} {n : Nat} {ks : List Nat} {x y : Code} {e : Env} {H : List AO} {K : Exit → Env → List AO → Prop} (h : ∀ KK, KK = seqQ M n ks y K → runC M n ks x e H KK) : runC M n ks (.seq x y) e H K := h _ rfl
def endQ (P : Program) (rs : List ResultVar) (L : List Nat) (K : SV → List AO → Prop) : Exit → Env → List AO → Prop := fun ex e H' => match ex with
  | .normal => endA P rs L e H' K
  | .ret => endA P rs L e H' K
  | _ => False
theorem runF_shut {M : Mach} {fn : Func} {ks L : List Nat} {args : List AV} {H : List AO} {K : SV → List AO → Prop} {c : Code} (hb : fn.body = some c) (h : ∀ KK, KK = endQ M.P fn.results.toList L K → runC M fn.ntmps ks c (argEnv 0 args) H KK) : runF M fn ks L args H K := by
  unfold runF
  rw [hb]
  exact h _ rfl
theorem code_shut {M : Mach} {n : Nat} {ks : List Nat} {c : Code} {e : Env} {H : List AO} {K : Exit → Env → List AO → Prop} (h : ∀ KK, KK = K → runC M n ks c e H KK) : runC M n ks c e H K := h K rfl

/-! A cell that holds no slice, to be appended to. -/
theorem weak_ow {G : View} (hS : Sim G) {id : Nat} {cs : List AC} (ho : G.H[id]? = some (.row cs)) (k : Nat) (hk : cs[k]? = some (.p (.v (.slice none 0 0)))) (t : TypeId) (c : CT) :
    ∃ G' : View, G'.w = G.w ∧ Ext G G' ∧ Sim G' ∧ G'.H = (G.H ++ [AO.tok t c 0 true]).set id (.row (cs.set k (.own G.H.length c []))) := by
  have hnb : ¬ (AO.tok t c 0 true).blocked := by intro hb; rcases hb with hb | hb <;> simp at hb
  have hx1 : Ext G (G.obj G.w.heap.size (.tok t c 0 true)) := Ext.obj_self G fun hb => absurd hb hnb
  have hS1 : Sim (G.obj G.w.heap.size (.tok t c 0 true)) := hS.obj (fun id hid => absurd (hS.lt hid) (Nat.lt_irrefl _)) fun hb => absurd hb hnb
  obtain ⟨ho1, _⟩ := View.obj_get (b := G.w.heap.size) (o := AO.tok t c 0 true) ho
  obtain ⟨G2, hw2, hx2, hS2, hH2⟩ := set_cell hS1 ho1 k (.own G.H.length c []) fun vs T v h1 h2 => by
    obtain ⟨vs', T', hheap, _, hall⟩ := hS1.objs id _ ho1 trivial
    rw [hheap] at h1
    cases h1
    obtain ⟨_, hv⟩ := all2_get' hall hk h2
    subst hv
    refine ⟨.inl ⟨rfl, rfl⟩, t, 0, true, ?_, Nat.le_refl _, fun _ => .inl ⟨rfl, rfl, rfl⟩⟩
    show (G.H ++ [_])[G.H.length]? = _
    simp
  exact ⟨G2, hw2, hx1.trans hx2, hS2, hH2⟩

theorem Weak.cell {n m : Nat} {e : Env} {H : List AO} (id : Nat) {cs : List AC} (ho : H[id]? = some (.row cs)) (k : Nat) (hk : cs[k]? = some (.p (.v (.slice none 0 0)))) (t : TypeId) (c : CT) :
    Weak n m e H e ((H ++ [AO.tok t c 0 true]).set id (.row (cs.set k (.own H.length c [])))) := fun G0 G a hx0 hm hS hH hE => by
  subst hH
  obtain ⟨G', hw, hx, hS', hH'⟩ := weak_ow hS ho k hk t c
  exact ⟨G', hw, hx0.trans hx, hS', hH', fun u => RepX.mono hx (hE.get u), hE.size, hE.defers⟩

/-- A struct in a result: one of its cells holds no slice. -/
theorem nil_agg (c : CT) {l r : List AC} {rest : List AV} (G : View) (v : Value) (h : RepS G (.tup (.agg (l ++ .p (.v (.slice none 0 0)) :: r) :: rest)) v) : RepS G (.tup (.agg (l ++ .p (.l c []) :: r) :: rest)) v := by
  obtain ⟨vs, rfl, hv⟩ := h
  cases hv with
  | cons h1 t =>
    refine ⟨_, rfl, .cons ?_ t⟩
    obtain ⟨cs, rfl, hc⟩ := h1
    refine ⟨cs, rfl, ?_⟩
    have : ∀ (l : List AC) (cs : List Value), All2 (RepC G) (l ++ .p (.v (.slice none 0 0)) :: r) cs → All2 (RepC G) (l ++ .p (.l c []) :: r) cs := by
      intro l
      induction l with
      | nil =>
        intro cs h
        cases h with
        | cons h2 t2 =>
          refine .cons ?_ t2
          obtain ⟨_, rfl⟩ := h2
          exact .inl ⟨rfl, rfl⟩
      | cons x l ih =>
        intro cs h
        cases h with
        | cons h2 t2 => exact .cons h2 (ih _ t2)
    exact this l cs hc

end Go.Ab
