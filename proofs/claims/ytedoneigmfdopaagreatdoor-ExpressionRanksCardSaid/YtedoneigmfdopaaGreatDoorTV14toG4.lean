/- Package expression: whole texts. -/
import Derived.Test.YtedoneigmfdopaaGreatDoorTS3toV13
import Derived.Test.YtedoneigmfdopaaGreatDoorTS5toS7
import Derived.Test.YtedoneigmfdopaaGreatDoorTPtoR1
import Derived.Below
import Derived.Test.YtedoneigmfdopaaGreatDoorRows
import Derived.Test.YtedoneigmfdopaaGreatDoorTie
import Derived.Test.YtedoneigmfdopaaGreatDoorCards
import Derived.ProofKit
import Derived.LaidMore
import Derived.OpenShut
import Derived.ShutString
import Derived.ChangeOld
import Derived.Stop.Joined
import Derived.SevenTiedAt
namespace Go.Ab
open Go.Proofs
set_option linter.unusedSectionVars false
set_option maxRecDepth 100000
variable [GlobX]

theorem cmp_ok {l : List UInt8} {ts : List Tk} {x : Int} {D : Nat} (hl : l.length ≤ 16000) (hx : Lx l ts) (hn : ts.length < 6000) (hD : D ≤ 8) (hw : WhlOk D (ts ++ [tkEnd]) x [tkEnd]) : cmpV (B l) = (x, 0) := by
  obtain ⟨h1, h2⟩ := hx 0 6000 (1, 1) [] hn
  rw [← readV_L l 0 hl] at h1 h2
  have h2' : (readV (B l) 0).toks.map tkOf = ts ++ [tkEnd] := by simpa using h2
  have hlen : (readV (B l) 0).toks.length = ts.length + 1 := by
    have := congrArg List.length h2'
    simpa using this
  have h3 := exprV_ok hD h2' hw
  have hk : ((readV (B l) 0).toks.getD (((readV (B l) 0).toks.length : Int) - 1).toNat tkC.dflt).1 = 8 := by
    have e1 : (((readV (B l) 0).toks.length : Int) - 1).toNat = ts.length := by omega
    rw [e1, List.getD_eq_getElem?_getD]
    have h4 := congrArg (fun m : List Tk => m[ts.length]?) h2'
    simp only [List.getElem?_map, List.getElem?_concat_length] at h4
    cases hg : (readV (B l) 0).toks[ts.length]? with
    | none => rw [hg] at h4; cases h4
    | some t =>
      rw [hg] at h4
      have : (tkOf t).1 = 8 := by rw [Option.some.inj h4]
      exact this
  unfold cmpV
  rw [if_pos h1, h3, if_pos rfl]
  simp only
  rw [if_pos hk]

theorem fmtV_L {n : Int} (h0 : 0 ≤ n) (h1 : n ≤ 4294967295) : fmtV n = B (fmtL n.toNat) := by
  unfold fmtV fmtL
  rw [if_neg (by omega)]
  by_cases h : n < 10
  · rw [if_pos h, if_pos (by omega)]
  · rw [if_neg h, if_neg (by omega)]

theorem fmtL_len (n : Nat) : (fmtL n).length ≤ 67 := by
  unfold fmtL
  have h1 := basedV_len false 10 n
  have h2 := basedV_len false 16 n
  split
  · omega
  · simp only [List.length_cons]; omega

theorem fmtV_size (n : Int) : (fmtV n).size ≤ 67 := by
  unfold fmtV
  have h1 := basedV_len false 10 n.toNat
  have h2 := basedV_len false 16 n.toNat
  split
  · exact Nat.zero_le _
  split
  · rw [B_size]; omega
  · rw [B_size]; simp only [List.length_cons]; omega

/-! The examples of the chapter. -/
def aw1T : ByteArray := ⟨#[49, 32, 43, 32, 50, 32, 42, 32, 51, 32, 60, 60, 32, 49]⟩
def aw2T : ByteArray := ⟨#[40, 49, 32, 63, 32, 50, 32, 58, 32, 51, 41, 32, 45, 32, 53]⟩
def aw3T : ByteArray := ⟨#[49, 32, 124, 124, 32, 49, 32, 47, 32, 48]⟩
theorem aw_1 : cmpV aw1T = (14, 0) := by decide +kernel
theorem aw_2 : cmpV aw2T = (4294967293, 0) := by decide +kernel
theorem aw_3 : (cmpV aw3T).2 = 22 := by decide +kernel
theorem aw_4 : fmtV 255 = ⟨#[48, 120, 102, 102]⟩ := by decide +kernel

def X52 : Table := ext X51 7 (fun args H => match args, H with | [], [] => some (none, .bool true, []) | _, _ => none)

theorem x52 : TSound Tryz.prog X52 := by
  refine ext_run x51 (f := 7) (fn := Tryz.f7) rfl rfl [0, 1, 2, 3, 4, 6] fun args H p r H' hs hp => ?_
  split at hs
  · cases hs
    refine ⟨Nat.zero_le _, [], rfl, fun k hk => absurd hk (Nat.not_lt_zero k), ?_⟩
    repeat ((conv => whnf); refine ⟨by first | (unfold inI64; omega) | omega | exact ⟨by omega, by omega⟩ | (intro hg; first | (unfold inI64; omega) | omega | exact ⟨by omega, by omega⟩ | (simp [lit] at hg; unfold inI64; omega) | (simp [lit] at hg; omega) | (simp [lit] at hg; exact ⟨by omega, by omega⟩)) | (show (_ : Nat) + 1 ≤ 1000000000000; omega) | exact rfl | (unfold inI64; dsimp only; omega) | (dsimp only; omega) | (intro hg; simp [lit] at hg; first | (unfold inI64; dsimp only; omega) | (dsimp only; omega)) | decide +kernel, ?_⟩)
    conv => whnf
    refine ends_eq ⟨?_, rfl⟩
    show SV.bool (decide ((cmpV aw1T).2 = 0) && decide ((cmpV aw2T).2 = 0) && decide ((cmpV aw1T).1 = 14) && decide ((cmpV aw2T).1 = 4294967293) && decide ((cmpV aw3T).2 = 22) && decide (fmtV 255 = ⟨#[48, 120, 102, 102]⟩)) = SV.bool true
    rw [aw_1, aw_2, aw_3, aw_4]
    rfl
  · cases hs
end Go.Ab

/- From the abstract machine to the statement of a law: a call that is handed no object. -/
namespace Go.Ab
open Go.RowKit
set_option linter.unusedSectionVars false
/-- A variable of the program's that holds a number. -/
theorem cell_lt {w : World} {b o : Nat} {v : Value} (h : w.at' b o = some v) : b < w.heap.size := by
  rcases Nat.lt_or_ge b w.heap.size with h1 | h1
  · exact h1
  · exfalso
    unfold World.at' World.cell? at h
    simp [h1] at h
/-! Slices of integers that come in. -/
def IsRow (k : IntKind) (w : World) (a : Option Addr) (len cap : Nat) (zs : List Int) : Prop :=
  (a = none ∧ len = 0 ∧ cap = 0 ∧ zs = []) ∨
  ∃ b off, a = some ⟨b, off, none⟩ ∧ len ≤ cap ∧ zs.length = cap ∧ ∀ i, i < zs.length → w.at' b (off + i) = some (.int k (zs.getD i 0))

def RowCells (a : Option Addr) (cap : Nat) : Cells := fun b o => ∃ off, a = some ⟨b, off, none⟩ ∧ off ≤ o ∧ o < off + cap

theorem isRow_of {k : IntKind} {w : World} {x : Addr} {len cap : Nat} {zs : List Int} (hs : x.spot = none) (hl : len ≤ cap) (hz : zs.length = cap) (hc : ∀ i, i < zs.length → w.cell? (x.add i) = some (.int k (zs.getD i 0))) : IsRow k w (some x) len cap zs := by
  obtain ⟨b, off, sp⟩ := x
  simp only at hs
  subst hs
  refine .inr ⟨b, off, rfl, hl, hz, fun i hi => ?_⟩
  have := hc i hi
  have e : (⟨b, off, none⟩ : Addr).add i = ⟨b, off + i, none⟩ := by unfold Addr.add; split <;> simp_all
  rwa [e] at this

theorem slice_spot {P : Program} {w : World} {r : Reach} {base : Nat} {t e : TypeId} {x : Addr} {len cap : Nat} (ht : P.underlying t = some (.slice e)) (h : Value.okWide P w r base t (.slice (some x) len cap)) : x.spot = none := by
  simp only [Value.okWide, ht, Cell.okWide] at h
  simp only [Cell.ok, ht] at h
  exact h.2.2.2.1

theorem isRow_rep {k : IntKind} {w : World} {a : Option Addr} {len cap : Nat} {zs : List Int} {I : Cells} (h : IsRow k w a len cap zs) (hI : ∀ b o, RowCells a cap b o → I b o) : RepV I w (.l (.int k) (zs.take len)) (.slice a len cap) := by
  rcases h with ⟨rfl, rfl, rfl, rfl⟩ | ⟨b, off, rfl, hl, hz, hc⟩
  · exact .inl ⟨rfl, rfl⟩
  · have hlen : (zs.take len).length = len := by rw [List.length_take]; omega
    refine .inr ⟨b, off, cap, by rw [hlen], by omega, fun i z hi => ?_⟩
    have hlt : i < len := by
      rcases Nat.lt_or_ge i len with h1 | h1
      · exact h1
      · rw [List.getElem?_eq_none (by omega)] at hi; cases hi
    refine ⟨[.int k z], rfl, fun j u hj => ?_⟩
    cases j with
    | succ j => simp at hj
    | zero =>
      cases hj
      have hw : off + i * (CT.int k).width + 0 = off + i := by show off + i * 1 + 0 = off + i; omega
      rw [hw]
      refine ⟨hI _ _ ⟨off, rfl, by omega, by omega⟩, ?_⟩
      rw [hc i (by omega)]
      rw [List.getElem?_take, if_pos hlt] at hi
      rw [List.getD_eq_getElem?_getD, hi]
      rfl

theorem isRow_lt {k : IntKind} {w : World} {a : Option Addr} {len cap : Nat} {zs : List Int} (h : IsRow k w a len cap zs) : ∀ b o, RowCells a cap b o → b < w.heap.size := by
  rintro b o ⟨off, ha, h1, h2⟩
  rcases h with ⟨rfl, _⟩ | ⟨b', off', rfl, hl, hz, hc⟩
  · cases ha
  · cases ha
    have := hc (o - off) (by omega)
    exact cell_lt this

variable [Base]

/-- The first view of a world: no object, and cells that nobody writes. -/
def view0 (I : Cells) (w : World) : View := ⟨fun _ => 0, I, [], w⟩

theorem sim0 {I : Cells} {w : World} (hv : ∀ v ∈ Base.vars, VarOk I w v) (hI : ∀ b o, I b o → b < w.heap.size) : Sim (view0 I w) where
  vars := hv
  objs := fun id o h => by cases id <;> cases h
  inj := fun i j b h => by obtain ⟨o, ho, _⟩ := h; cases i <;> cases ho
  ilt := hI

theorem calls_of_ok {P : Program} {f : FuncId} {fn : Func} {c : Code} (hf : P.funcs[f]? = some fn) (hb : fn.body = some c) (hname : (fn.name == "runtime.NumGoroutine") = false) {cargs : List Value} {G : View} {R : Value → View → Prop}
    (h : CallOk P f cargs G R) : Calls P f cargs.toArray G.w fun e w' => ∃ v G', e = .returned v ∧ G'.w = w' ∧ Ext G G' ∧ Sim G' ∧ R v G' := by
  rcases h with ⟨v, G', h1, _⟩ | ⟨_, h2⟩
  · exfalso
    have hn' : ¬ fn.name = "runtime.NumGoroutine" := by simpa using hname
    simp [callFunc, hf, hn', hb] at h1
  · exact h2

theorem law_of {P : Program} {T : Table} (hT : TSound P T) {f : FuncId} {fn : Func} {c : Code} (hf : P.funcs[f]? = some fn) (hb : fn.body = some c) (hname : (fn.name == "runtime.NumGoroutine") = false) {args : List AV} {p : Option Prop}
    (hs : T f args [] = some (p, SV.bool true, [])) (hp : holdsO p) {I : Cells} {w : World} (hv : ∀ v ∈ Base.vars, VarOk I w v) (hI : ∀ b o, I b o → b < w.heap.size) {cargs : List Value} (ha : All2 (RepA (view0 I w)) args cargs) :
    Calls P f cargs.toArray w fun e w' => e = .returned (.bool true) ∧ Below w.heap.size w w' := by
  have h := calls_of_ok hf hb hname (hT f args [] p (SV.bool true) [] hs hp (view0 I w) (sim0 hv hI) rfl cargs ha)
  refine h.mono fun e w' ⟨v, G', he, hw, hx, _, _, hr⟩ => ?_
  subst he hw
  have hr' : v = .bool true := hr.2
  subst hr'
  refine ⟨rfl, hx.os, hx.tape, hx.output, hx.size, fun k hk => hx.frame k hk fun id hid => ?_⟩
  obtain ⟨o, ho, _⟩ := hid
  have ho' : ([] : List AO)[id]? = some o := ho
  simp at ho'

end Go.Ab

/- The bridge for tied rows: what the condition on the listed variables gives a walk. -/
namespace Go.Proofs.YtedoneigmfdopaaGreatDoor
open Go.ChangeShapes Go.WideShapes Go.ChangeAt Go.WideElems Go.RowKit
set_option linter.unusedVariables false
set_option maxRecDepth 100000

theorem own : ownKnob Tryz.prog.godebug = none := by kernel_rfl
theorem laidOut : laidOutB Tryz.prog = true := by kernel_rfl

theorem bridge {H : Type} {enc : TypeId × Value → H} {a : Assume} {C : Checked} {os : Os} {f : FuncId} {fn : Func} {s : ChangeSpec} {conds : List PathCond} {apart fresh handsOn again : Bool} {X : World → Array Value → Prop}
    (hX : ∀ (w w' : World) (args : Array Value), w.heap = w'.heap → X w args → X w' args)
    (own : ownKnob C.prog.godebug = none) (started : os.Started) (noInit : C.prog.inits.idxOf? f = none) (hfn : C.prog.funcs[f]? = some fn)
    (witness : ∃ (w : World) (tape : Tape) (i : Input), w.os = os ∧ (w.forCall tape i).Shaped C.prog ∧ i.vars = [] ∧ Input.okWide C.prog (w.forCall tape i) .any w.heap.size f i ∧
      ((s.pre enc C.prog fn conds apart (w.forCall tape i).memory i.args ∧ X (w.forCall tape i).memory i.args) ∧ sizedMet enc C.prog fn (OpenSpec.ofChange s) apart (w.forCall tape i).memory i.args) ∧ a.holds C.prog (lone (Frame.enter C.prog f i.args .normal) [] (w.forCall tape i)))
    (contract : ∀ (W : World) (base : Nat) (args : Array Value) (ds gs : List (DataW H)) (before : List MemPlace),
      (∀ (j : Nat) t v, fn.params[j]? = some t → args[j]? = some v → Value.okWide C.prog W .any base t v) →
      DataW.Whole enc C.prog fn.params.toList s.vars apart W args.toList ds gs before → X W args → W.ShapedOpen C.prog →
      Calls C.prog f args W fun e W' => ∃ v, e = .returned v ∧ s.post enc C.prog fn apart fresh handsOn again W args v W') :
    ReturnsInHanded a C os f .any (fun w args => (s.pre enc C.prog fn conds apart w args ∧ X w args) ∧ sizedMet enc C.prog fn (OpenSpec.ofChange s) apart w args) (s.post enc C.prog fn apart fresh handsOn again) := by
  refine returnsInHanded_of_calls own started noInit witness ?_
  intro w tape i _ hsh _ hok hpre hholds
  obtain ⟨_, _, _, fn', hfn', _, _, _, _, hval⟩ := hok
  have e : fn' = fn := Option.some.inj (hfn'.symm.trans hfn)
  subst e
  obtain ⟨⟨⟨ds, gs, before, hw, hc⟩, hx⟩, hz⟩ := hpre
  have hw' := DataW.Whole.of_heap (w' := w.forCall tape i) (by rfl) hw
  refine (contract (w.forCall tape i) w.heap.size i.args ds gs before hval hw' (hX _ _ _ (by rfl) hx) hsh).mono fun e W' ⟨v, he, hp⟩ => ?_
  subst he
  exact ChangeSpec.post_blind hp

/-- The listed variables. -/
abbrev lay {H : Type} : List (String × DataW H) := [("math/bits.deBruijn32tab", Rows.laid_math_bits_deBruijn32tab), ("math/bits.deBruijn64tab", Rows.laid_math_bits_deBruijn64tab), ("internal/strconv.uint64pow10", Rows.laid_internal_strconv_uint64pow10)]

theorem g64 : Tryz.prog.globalNamed "math/bits.deBruijn64tab" = some 3 := by kernel_rfl
theorem t64 : (Tryz.prog.globals[3]?).map (·.type) = some 137 := by kernel_rfl
theorem u64 : Tryz.prog.underlying 137 = some (.array 64 5) := by kernel_rfl
theorem u8 : Tryz.prog.underlying 5 = some (.int .u8) := by kernel_rfl

/-- The door's own heap meets the condition. -/
theorem door_met (os : Os) (args : Array Value) : laidMetH Tryz.prog lay ((World.doorLaid Tryz.prog 4000 os).forCall (fun _ _ => 0) ⟨#[], args, []⟩).memory :=
  laidMetH_of_parts3 (fuel := 100) (laidMet_of_run' 100 (by kernel_rfl) (by kernel_rfl)) (by kernel_rfl) (by kernel_rfl)

theorem of_laid {W : World} (h : laidMetH Tryz.prog lay W) : W.cell? ⟨3, 15, none⟩ = some (.int .u8 4) := by
  rw [MakeChecks.laidMetH_plain _ _ _ (by kernel_rfl)] at h
  obtain ⟨ps, ⟨g0, t0, cs0, f0, p0, q0, hg0, ht0, hv0, hd0, ⟨g1, t1, cs1, f1, p1, q1, hg1, ht1, hv1, hd1, _, _⟩, _⟩, _, _⟩ := h
  obtain rfl := Option.some.inj (g64.symm.trans hg1)
  obtain rfl := Option.some.inj (t64.symm.trans ht1)
  obtain ⟨xs, m1, rfl, hx1, hlen, hn3, hel⟩ := DataW.trod_array u64 hd1
  have c1 : Tryz.prog.cellsOf 5 = 1 := by kernel_rfl
  have h0 := hel 15 (by decide)
  simp only [Rows.laid_math_bits_deBruijn64tab, Prod.mk.injEq, DataW.agg.injEq] at hx1
  have h15 : (xs.map (·.1))[15]? = some (.lit (.int .u8 4)) := by rw [← hx1.1]; rfl
  rw [List.getElem?_map] at h15
  cases hx : xs[15]? with
  | none => rw [hx] at h15; cases h15
  | some y =>
    rw [hx] at h15 h0
    obtain ⟨d, q⟩ := y
    have hd : d = .lit (.int .u8 4) := Option.some.inj h15
    subst hd
    obtain ⟨k, e1, e2, _⟩ := DataW.trod_int u8 h0
    have hk : k = 4 := (by simpa using e2.symm : k = 4 ∧ q = []).1
    subst hk
    have hc := World.var?_cell hg1 hv1 15
    rw [c1] at e1
    rw [hc]
    obtain ⟨l1⟩ := cs1
    have e3 := congrArg (fun l : List Value => l[0]?) e1
    simpa using e3
end Go.Proofs.YtedoneigmfdopaaGreatDoor

/- Texts of pieces, and their tokens. -/
namespace Go.Ab
open Go.Proofs
set_option linter.unusedSectionVars false
set_option maxRecDepth 100000
variable [Glob]

/-- A number, a sign and a blank, a sign alone, a blank. -/
inductive Pc where
  | num (n : Nat)
  | sg (s : List UInt8)
  | s1 (c : UInt8)
  | sp

def Pc.txt : Pc → List UInt8
  | .num n => fmtL n
  | .sg s => s ++ [32]
  | .s1 c => [c]
  | .sp => [32]

def Pc.toks : Pc → List Tk
  | .num n => [tkNum n]
  | .sg s => [tkSg (B s)]
  | .s1 c => [tkSg (B [c])]
  | .sp => []

def pcTxt : List Pc → List UInt8
  | [] => []
  | p :: ps => p.txt ++ pcTxt ps

def pcToks : List Pc → List Tk
  | [] => []
  | p :: ps => p.toks ++ pcToks ps

/-- What may follow a number. -/
def Pc.after : List Pc → Bool
  | [] => true
  | .sp :: _ => true
  | .s1 c :: _ => plain1 c
  | .sg s :: _ => signs.contains s
  | .num _ :: _ => false

def pcOk : List Pc → Bool
  | [] => true
  | .num _ :: ps => Pc.after ps && pcOk ps
  | .sg s :: ps => signs.contains s && pcOk ps
  | .s1 c :: ps => plain1 c && pcOk ps
  | .sp :: ps => pcOk ps

theorem sign_head : ∀ s ∈ signs, ∀ u, s.head? = some u → wordB (bi u) = false := by decide +kernel
theorem sign_ne : ∀ s ∈ signs, s ≠ [] := by decide +kernel

theorem after_noWord {ps : List Pc} (h : Pc.after ps = true) : noWord (pcTxt ps) := by
  cases ps with
  | nil => exact noWord_nil
  | cons p ps =>
    cases p with
    | num n => cases h
    | sp => exact noWord_sp _
    | s1 c => exact noWord_plain h _
    | sg s =>
      have hs : s ∈ signs := by simpa [Pc.after] using h
      intro u hu
      have hne := sign_ne s hs
      cases hc : s with
      | nil => exact absurd hc hne
      | cons a r =>
        subst hc
        have hu' : some a = some u := hu
        cases hu'
        exact sign_head _ hs _ rfl

theorem pcLx : ∀ ps : List Pc, pcOk ps = true → (∀ n, Pc.num n ∈ ps → n ≤ 4294967295) → Lx (pcTxt ps) (pcToks ps) := by
  intro ps
  induction ps with
  | nil => intro _ _; exact Lx.nil
  | cons p ps ih =>
    intro h hn
    have hn' : ∀ n, Pc.num n ∈ ps → n ≤ 4294967295 := fun n hm => hn n (List.mem_cons_of_mem _ hm)
    cases p with
    | num n =>
      have h2 := Bool.and_eq_true_iff.1 h
      exact Lx.fmt (hn n (by simp)) (after_noWord h2.1) (ih h2.2 hn')
    | sp => exact Lx.sp (ih h hn')
    | s1 c =>
      have h2 := Bool.and_eq_true_iff.1 h
      exact Lx.sg1 h2.1 (ih h2.2 hn')
    | sg s =>
      have h2 := Bool.and_eq_true_iff.1 h
      have hs : s ∈ signs := by simpa using h2.1
      show Lx ((s ++ [32]) ++ pcTxt ps) _
      rw [List.append_assoc]
      exact Lx.sg hs (ih h2.2 hn')

theorem by0_nd {s : ByteArray} (h : divs s = false) (b : Int) : by0 s b = false := by
  unfold by0
  rw [h, Bool.and_false]

theorem oN (D : Nat) {n : Nat} (h : n < 4294967296) (ts : List Tk) : OpdOk D (tkNum n :: ts) n ts := (OpdOk.num (by omega) (by omega) ts).le (Nat.zero_le D)
theorem rE (D m : Nat) (x : Int) : RwsOk D m x [tkEnd] x [tkEnd] := (RwsOk.stop (.inl rfl)).le (Nat.zero_le D)
theorem rP (D m : Nat) (x : Int) (ts : List Tk) : RwsOk D m x (tkSg sRp :: ts) x (tkSg sRp :: ts) := (RwsOk.stop (.inl rfl)).le (Nat.zero_le D)
theorem rS (D m : Nat) (s : ByteArray) (h : Nat.ble m (betw s) = true) (x : Int) (ts : List Tk) : RwsOk D m x (tkSg s :: ts) x (tkSg s :: ts) := (RwsOk.stop (.inr (Nat.le_of_ble_eq_true h))).le (Nat.zero_le D)
theorem wE {D : Nat} {ts ts1 : List Tk} {x c : Int} (hD : D ≤ 8) (h1 : OpdOk D ts x ts1) (h2 : RwsOk D 11 x ts1 c [tkEnd]) : WhlOk D ts c [tkEnd] := WhlOk.plain hD h1 h2 (by decide)
theorem wP {D : Nat} {ts ts1 ts2 : List Tk} {x c : Int} (hD : D ≤ 8) (h1 : OpdOk D ts x ts1) (h2 : RwsOk D 11 x ts1 c (tkSg sRp :: ts2)) : WhlOk D ts c (tkSg sRp :: ts2) := WhlOk.plain hD h1 h2 (by rw [sgn_tk]; decide)
theorem oF {D : Nat} (s : ByteArray) (hs : frontV s = true) {ts ts' : List Tk} {x : Int} (h : OpdOk D ts x ts') : OpdOk D (tkSg s :: ts) (calcV 0 s 0 x) ts' := OpdOk.front hs h
theorem oP {D : Nat} {ts ts' : List Tk} {x : Int} (h : WhlOk D ts x (tkSg sRp :: ts')) : OpdOk (D + 1) (tkSg sLp :: ts) x ts' := OpdOk.paren h
/-- One sign between two operands, taken at once. -/
theorem rO {D m k : Nat} {s : ByteArray} {x y z : Int} {ts1 ts2 ts4 : List Tk} (hD : D ≤ 8) (hk : betw s = k) (hk0 : k ≠ 0) (hkm : k < m) (h1 : OpdOk D ts1 y ts2) (h2 : RwsOk D k y ts2 y ts2) (hb : by0 s y = false)
    (h3 : RwsOk D m (calcV k s x y) ts2 z ts4) : RwsOk D m x (tkSg s :: ts1) z ts4 := RwsOk.step hD hk hk0 hkm h1 h2 hb h3
end Go.Ab

/- Expressions: laws of the operations, modulo 2^32. -/
namespace Go.Ab
set_option linter.unusedSectionVars false

theorem and_add_or : ∀ (x y : Nat), (x &&& y) + (x ||| y) = x + y := by
  intro x
  induction x using Nat.strongRecOn with
  | _ x ih =>
    intro y
    by_cases hx : x = 0
    · subst hx; simp
    · have h := ih (x / 2) (by omega) (y / 2)
      have a1 : (x &&& y) / 2 = (x / 2) &&& (y / 2) := by have := @Nat.and_div_two_pow x y 1; simpa using this
      have a2 : (x ||| y) / 2 = (x / 2) ||| (y / 2) := by have := @Nat.or_div_two_pow x y 1; simpa using this
      have b1 : (x &&& y) % 2 = (x % 2) &&& (y % 2) := by have := @Nat.and_mod_two_pow x y 1; simpa using this
      have b2 : (x ||| y) % 2 = (x % 2) ||| (y % 2) := by have := @Nat.or_mod_two_pow x y 1; simpa using this
      rw [← a1, ← a2] at h
      have c : (x &&& y) % 2 + (x ||| y) % 2 = x % 2 + y % 2 := by
        rw [b1, b2]
        rcases Nat.mod_two_eq_zero_or_one x with h1 | h1 <;> rcases Nat.mod_two_eq_zero_or_one y with h2 | h2 <;> rw [h1, h2] <;> rfl
      omega

theorem w32_eq (n : Int) : w32 n = n % 4294967296 := by
  unfold w32 IntKind.wrap
  simp only [IntKind.signed, IntKind.bits]
  simp

theorem ofInt_nat {n : Nat} (h : n < 4294967296) : (BitVec.ofInt 32 (n : Int)).toNat = n := by
  simp
  omega

theorem bitsN_and {a b : Nat} (ha : a < 4294967296) (hb : b < 4294967296) : bitsA .and .u32 (a : Int) (b : Int) = ((a &&& b : Nat) : Int) := by
  show w32 (((BitVec.ofInt 32 (a : Int) &&& BitVec.ofInt 32 (b : Int)).toNat : Nat) : Int) = _
  rw [BitVec.toNat_and, ofInt_nat ha, ofInt_nat hb, w32_eq]
  have : a &&& b < 2 ^ 32 := Nat.and_lt_two_pow a hb
  omega

theorem bitsN_or {a b : Nat} (ha : a < 4294967296) (hb : b < 4294967296) : bitsA .or .u32 (a : Int) (b : Int) = ((a ||| b : Nat) : Int) := by
  show w32 (((BitVec.ofInt 32 (a : Int) ||| BitVec.ofInt 32 (b : Int)).toNat : Nat) : Int) = _
  rw [BitVec.toNat_or, ofInt_nat ha, ofInt_nat hb, w32_eq]
  have : a ||| b < 2 ^ 32 := Nat.or_lt_two_pow ha hb
  omega

theorem bitsN_xor {a b : Nat} (ha : a < 4294967296) (hb : b < 4294967296) : bitsA .xor .u32 (a : Int) (b : Int) = ((a ^^^ b : Nat) : Int) := by
  show w32 (((BitVec.ofInt 32 (a : Int) ^^^ BitVec.ofInt 32 (b : Int)).toNat : Nat) : Int) = _
  rw [BitVec.toNat_xor, ofInt_nat ha, ofInt_nat hb, w32_eq]
  have : a ^^^ b < 2 ^ 32 := Nat.xor_lt_two_pow ha hb
  omega

theorem tilde {x : Nat} (h : x < 4294967296) : bitsA .xor .u32 4294967295 (x : Int) = 4294967295 - (x : Int) := by
  show w32 (((BitVec.ofInt 32 4294967295 ^^^ BitVec.ofInt 32 (x : Int)).toNat : Nat) : Int) = _
  have : (BitVec.ofInt 32 4294967295 ^^^ BitVec.ofInt 32 (x : Int)) = ~~~(BitVec.ofInt 32 (x : Int)) := by rw [BitVec.not_def]; rfl
  rw [this, BitVec.toNat_not, ofInt_nat h, w32_eq]
  omega

theorem law1 {x y : Int} (hx : 0 ≤ x ∧ x ≤ 4294967295) : w32 (w32 (x + y) - y) = x := by
  rw [w32_eq, w32_eq]; omega

theorem law2 {x : Nat} (hx : x < 4294967296) : w32 (bitsA .xor .u32 4294967295 (x : Int) + 1) = w32 (0 - (x : Int)) := by
  rw [tilde hx, w32_eq, w32_eq]; omega

theorem law3 (x : Int) (i k : Nat) : w32 (w32 (x * 2 ^ i) * 2 ^ k) = w32 (x * 2 ^ min (i + k) 32) := by
  rw [w32_eq, w32_eq, w32_eq, Int.mul_emod (x * 2 ^ i % 4294967296), Int.emod_emod_of_dvd _ (Int.dvd_refl _), ← Int.mul_emod, Int.mul_assoc, ← Int.pow_add]
  by_cases h : i + k ≤ 32
  · rw [Nat.min_eq_left h]
  · rw [Nat.min_eq_right (by omega)]
    obtain ⟨m, hm⟩ : ∃ m, i + k = 32 + m := ⟨i + k - 32, by omega⟩
    rw [hm, Int.pow_add]
    have e : (2 : Int) ^ 32 = 4294967296 := by decide
    rw [e]
    have h1 : x * (4294967296 * 2 ^ m) = x * 2 ^ m * 4294967296 := by rw [Int.mul_comm 4294967296, Int.mul_assoc]
    rw [h1, Int.mul_emod_left, Int.mul_emod_left]

theorem law4 {x : Nat} (hx : x < 4294967296) (i k : Nat) : ((x : Int).fdiv (2 ^ i)).fdiv (2 ^ k) = (x : Int).fdiv (2 ^ min (i + k) 32) := by
  have pw : ∀ n : Nat, (0 : Int) ≤ 2 ^ n := fun n => Int.le_of_lt (Int.pow_pos (by decide))
  rw [Int.fdiv_eq_ediv_of_nonneg _ (pw i), Int.fdiv_eq_ediv_of_nonneg _ (pw k), Int.fdiv_eq_ediv_of_nonneg _ (pw _)]
  have c : ∀ n : Nat, ((2 : Int) ^ n) = ((2 ^ n : Nat) : Int) := fun n => by simp
  rw [c i, c k, c (min (i + k) 32)]
  have : (x / 2 ^ i) / 2 ^ k = x / 2 ^ min (i + k) 32 := by
    rw [Nat.div_div_eq_div_mul, ← Nat.pow_add]
    by_cases h : i + k ≤ 32
    · rw [Nat.min_eq_left h]
    · rw [Nat.min_eq_right (by omega)]
      have h32 : x < 2 ^ 32 := hx
      have hik : x < 2 ^ (i + k) := Nat.lt_of_lt_of_le h32 (Nat.pow_le_pow_right (by decide) (by omega))
      rw [Nat.div_eq_of_lt hik, Nat.div_eq_of_lt h32]
  exact_mod_cast this

theorem law5 {x o : Nat} (hx : x < 4294967296) (_ho : o < 4294967296) (_h0 : o ≠ 0) : w32 (w32 ((o : Int) * w32 ((x : Int).tdiv o)) + (x : Int).tmod o) = x := by
  have e1 : (x : Int).tdiv o = ((x / o : Nat) : Int) := rfl
  have e2 : (x : Int).tmod o = ((x % o : Nat) : Int) := rfl
  have h1 : x / o ≤ x := Nat.div_le_self x o
  have h2 : o * (x / o) ≤ x := Nat.mul_div_le x o
  have h3 := Nat.div_add_mod x o
  rw [e1, e2]
  generalize x / o = q at h1 h2 h3 ⊢
  generalize x % o = r at h3 ⊢
  rw [w32_id (v := ((q : Nat) : Int)) (by omega) (by omega)]
  have e3 : (o : Int) * ((q : Nat) : Int) = ((o * q : Nat) : Int) := by simp
  rw [e3]
  generalize o * q = s at h2 h3 ⊢
  rw [w32_id (v := ((s : Nat) : Int)) (by omega) (by omega), w32_id (by omega) (by omega)]
  omega

theorem law6 {x y : Nat} (hx : x < 4294967296) (hy : y < 4294967296) : bitsA .xor .u32 (bitsA .xor .u32 (x : Int) (y : Int)) (y : Int) = x := by
  have h : x ^^^ y < 2 ^ 32 := Nat.xor_lt_two_pow hx hy
  rw [bitsN_xor hx hy, bitsN_xor h hy, Nat.xor_assoc, Nat.xor_self, Nat.xor_zero]

theorem law7 (x y : Int) : tr (decide ((0 : Int) = tr (decide (x < y)))) = tr (decide (y ≤ x)) := by
  by_cases h : x < y
  · have : ¬ y ≤ x := by omega
    simp [h, this, tr]
  · have : y ≤ x := by omega
    simp [h, this, tr]

theorem law8 {x y : Nat} (hx : x < 4294967296) (hy : y < 4294967296) : w32 (bitsA .and .u32 (x : Int) (y : Int) + bitsA .or .u32 (x : Int) (y : Int)) = w32 ((x : Int) + y) := by
  rw [bitsN_and hx hy, bitsN_or hx hy]
  have := and_add_or x y
  congr 1
  omega

theorem or_one {y : Nat} (hy : y < 4294967296) : ∃ o : Nat, bitsA .or .u32 (y : Int) 1 = o ∧ o < 4294967296 ∧ o ≠ 0 := by
  have e := bitsN_or hy (b := 1) (by decide)
  refine ⟨y ||| 1, e, Nat.or_lt_two_pow (n := 32) hy (by decide), ?_⟩
  have : 1 ≤ y ||| 1 := Nat.right_le_or
  omega
end Go.Ab

/- Expressions with all brackets: their texts, tokens and values. -/
namespace Go.Ab
open Go.Proofs
set_option linter.unusedSectionVars false
set_option maxRecDepth 100000
variable [GlobX]

/-! Decimal digits. -/
theorem basedL_app (D : List UInt8) (b : Nat) : ∀ (k m : Nat) (out : List UInt8), basedL D b k m out = basedL D b k m [] ++ out := by
  intro k
  induction k with
  | zero => intro m out; rfl
  | succ k ih =>
    intro m out
    simp only [basedL]
    split
    · rfl
    · rw [ih (m / b) (D.getD (m % b) 0 :: out), ih (m / b) [D.getD (m % b) 0], List.append_assoc]
      rfl

theorem basedL_fuel (D : List UInt8) (b : Nat) (hb : 2 ≤ b) : ∀ (k m : Nat) (out : List UInt8), m < 2 ^ k → basedL D b (k + 1) m out = basedL D b k m out := by
  intro k
  induction k with
  | zero =>
    intro m out h
    have : m = 0 := by simpa using h
    subst this
    rfl
  | succ k ih =>
    intro m out h
    have e1 : basedL D b (k + 1 + 1) m out = if m = 0 then out else basedL D b (k + 1) (m / b) (D.getD (m % b) 0 :: out) := rfl
    have e2 : basedL D b (k + 1) m out = if m = 0 then out else basedL D b k (m / b) (D.getD (m % b) 0 :: out) := rfl
    rw [e1, e2]
    split
    · rfl
    · exact ih _ _ (lt_pow_div hb h)

theorem dec_small {n : Nat} (h : n < 10) : basedV false 10 n = [(digL false).getD n 0] := by
  unfold basedV
  rw [show n / 10 = 0 by omega, show n % 10 = n by omega]
  rfl

theorem dec_big {n : Nat} (h : 10 ≤ n) (hn : n < 18446744073709551616) : basedV false 10 n = basedV false 10 (n / 10) ++ [(digL false).getD (n % 10) 0] := by
  have e : basedV false 10 (n / 10) = basedL (digL false) 10 64 (n / 10 / 10) [(digL false).getD (n / 10 % 10) 0] := rfl
  rw [e, basedL_fuel (digL false) 10 (by decide) 63 (n / 10 / 10) _ (by omega)]
  unfold basedV
  rw [basedL_app]
  congr 1
  rw [basedL, if_neg (by omega)]

theorem dec_len : ∀ (k n : Nat), n < 10 ^ (k + 1) → n < 18446744073709551616 → (basedV false 10 n).length ≤ k + 1 := by
  intro k
  induction k with
  | zero => intro n h _; rw [dec_small (by omega)]; exact Nat.le_refl _
  | succ k ih =>
    intro n h h2
    by_cases h3 : n < 10
    · rw [dec_small h3]; simp
    · rw [dec_big (by omega) h2, List.length_append, List.length_cons, List.length_nil]
      have := ih (n / 10) (by rw [Nat.pow_succ] at h; omega) (by omega)
      omega

/-! Ranges. -/
def In32 (x : Int) : Prop := 0 ≤ x ∧ x ≤ 4294967295

theorem in32_w (x : Int) : In32 (w32 x) := by rw [w32_eq]; unfold In32; omega
theorem in32_tr (b : Bool) : In32 (tr b) := by cases b <;> exact ⟨by decide, by decide⟩
theorem in32_bits (op : BinOp) (x y : Int) (h : ∃ z, bitsA op .u32 x y = w32 z) : In32 (bitsA op .u32 x y) := by
  obtain ⟨z, e⟩ := h
  rw [e]
  exact in32_w z
theorem in32_div {x y : Int} (hx : In32 x) (hy : In32 y) (h : y ≠ 0) : In32 (x.tdiv y) := by
  obtain ⟨a, rfl⟩ : ∃ n : Nat, x = n := ⟨x.toNat, by unfold In32 at hx; omega⟩
  obtain ⟨b, rfl⟩ : ∃ n : Nat, y = n := ⟨y.toNat, by unfold In32 at hy; omega⟩
  have e : (a : Int).tdiv b = ((a / b : Nat) : Int) := (Int.ofNat_tdiv a b).symm
  have h3 := Nat.div_le_self a b
  unfold In32 at *
  rw [e]
  generalize a / b = q at h3
  omega
theorem in32_mod {x y : Int} (hx : In32 x) (hy : In32 y) : In32 (x.tmod y) := by
  obtain ⟨a, rfl⟩ : ∃ n : Nat, x = n := ⟨x.toNat, by unfold In32 at hx; omega⟩
  obtain ⟨b, rfl⟩ : ∃ n : Nat, y = n := ⟨y.toNat, by unfold In32 at hy; omega⟩
  have e : (a : Int).tmod b = ((a % b : Nat) : Int) := (Int.ofNat_tmod a b).symm
  have h3 := Nat.mod_le a b
  unfold In32 at *
  rw [e]
  generalize a % b = q at h3
  omega
theorem in32_shr {x : Int} (hx : In32 x) (k : Nat) : In32 (x.fdiv (2 ^ k)) := by
  obtain ⟨a, rfl⟩ : ∃ n : Nat, x = n := ⟨x.toNat, by unfold In32 at hx; omega⟩
  have e : (a : Int).fdiv (2 ^ k) = ((a / 2 ^ k : Nat) : Int) := by
    rw [show ((2 : Int) ^ k) = ((2 ^ k : Nat) : Int) by simp]
    exact (Int.ofNat_fdiv a (2 ^ k)).symm
  have h3 := Nat.div_le_self a (2 ^ k)
  unfold In32 at *
  rw [e]
  generalize a / 2 ^ k = q at h3
  omega

/-! Expressions and operands. -/
def Stp (us : List Tk) : Prop := betw (sgn us) = 0 ∧ sgn us ≠ sQ
theorem stp_rp (us : List Tk) : Stp (tkSg sRp :: us) := ⟨rfl, by rw [sgn_tk]; decide⟩
theorem stp_end : Stp [tkEnd] := ⟨rfl, by decide⟩

structure ExOk (D L : Nat) (l : List UInt8) (ts : List Tk) (x : Int) : Prop where
  len : l.length ≤ L
  tok : ts.length ≤ l.length
  rng : In32 x
  lx : ∀ r us, noWord r → Lx r us → Lx (l ++ r) (ts ++ us)
  wh : ∀ us, Stp us → WhlOk D (ts ++ us) x us

/-- An operand: a number, or an expression in brackets. -/
structure OpR (D L : Nat) (l : List UInt8) (ts : List Tk) (x : Int) : Prop where
  len : l.length ≤ L
  tok : ts.length ≤ l.length
  rng : In32 x
  lx : ∀ r us, noWord r → Lx r us → Lx (l ++ r) (ts ++ us)
  op : ∀ us, OpdOk D (ts ++ us) x us

/-- One in brackets, after which anything may follow. -/
structure OpB (D L : Nat) (l : List UInt8) (ts : List Tk) (x : Int) : Prop extends OpR D L l ts x where
  lxb : ∀ r us, Lx r us → Lx (l ++ r) (ts ++ us)
  hd : ∃ t, l = 40 :: t

theorem plainW {D : Nat} (hD : D ≤ 8) {ts us : List Tk} {x : Int} (h : OpdOk D ts x us) (hs : Stp us) : WhlOk D ts x us :=
  WhlOk.plain hD h ((RwsOk.stop (.inl hs.1)).le (Nat.zero_le D)) hs.2

theorem opNum (D : Nat) {n : Nat} (h : n < 4294967296) : OpR D 10 (basedV false 10 n) [tkNum n] n where
  len := dec_len 9 n (by omega) (by omega)
  tok := List.length_pos_iff.2 (basedV_ne _ _ _)
  rng := by unfold In32; omega
  lx r us hr hl := Lx.dec (by omega) hr hl
  op us := oN D h us

theorem OpR.ex {D L : Nat} (hD : D ≤ 8) {l : List UInt8} {ts : List Tk} {x : Int} (h : OpR D L l ts x) : ExOk D L l ts x where
  len := h.len
  tok := h.tok
  rng := h.rng
  lx := h.lx
  wh us hs := plainW hD (h.op us) hs

theorem ExOk.par {D L : Nat} {l : List UInt8} {ts : List Tk} {x : Int} (h : ExOk D L l ts x) : OpB (D + 1) (L + 2) (40 :: (l ++ [41])) (tkSg sLp :: (ts ++ [tkSg sRp])) x where
  len := by have := h.len; simp; omega
  tok := by have := h.tok; simp; omega
  rng := h.rng
  lx r us _ hl := by
    have h1 := h.lx (41 :: r) (tkSg sRp :: us) (noWord_plain (by decide) r) (Lx.sg1 (c := 41) (by decide) hl)
    have h2 := Lx.sg1 (c := 40) (by decide) h1
    show Lx ((40 :: (l ++ [41])) ++ r) ((tkSg (B [40]) :: (ts ++ [tkSg sRp])) ++ us)
    simpa using h2
  lxb r us hl := by
    have h1 := h.lx (41 :: r) (tkSg sRp :: us) (noWord_plain (by decide) r) (Lx.sg1 (c := 41) (by decide) hl)
    have h2 := Lx.sg1 (c := 40) (by decide) h1
    show Lx ((40 :: (l ++ [41])) ++ r) ((tkSg (B [40]) :: (ts ++ [tkSg sRp])) ++ us)
    simpa using h2
  op us := by
    have := oP (h.wh (tkSg sRp :: us) (stp_rp us))
    simpa using this
  hd := ⟨_, rfl⟩

theorem ExOk.mono {D D' L L' : Nat} {l : List UInt8} {ts : List Tk} {x : Int} (h : ExOk D L l ts x) (hd : D ≤ D') (hl : L ≤ L') : ExOk D' L' l ts x where
  len := Nat.le_trans h.len hl
  tok := h.tok
  rng := h.rng
  lx := h.lx
  wh us hs := (h.wh us hs).le hd

/-- A sign in front. -/
theorem OpB.front {D L : Nat} (hD : D ≤ 8) {l : List UInt8} {ts : List Tk} {x : Int} (h : OpB D L l ts x) (c : UInt8) (hf : frontV (B [c]) = true) (hc : ∀ t us, Lx (40 :: t) us → Lx (c :: 40 :: t) (tkSg (B [c]) :: us)) (hr : In32 (calcV 0 (B [c]) 0 x)) :
    ExOk D (L + 1) (c :: l) (tkSg (B [c]) :: ts) (calcV 0 (B [c]) 0 x) where
  len := by have := h.len; simp; omega
  tok := by have := h.tok; simp; omega
  rng := hr
  lx r us _ hl := by
    have h1 := h.lxb r us hl
    obtain ⟨t, rfl⟩ := h.hd
    exact hc _ _ h1
  wh us hs := plainW hD (oF (B [c]) hf (h.op us)) hs

/-- A sign between two operands; 'm': as it is written. -/
theorem OpB.bin {D L M : Nat} (hD : D ≤ 8) {l m q : List UInt8} {ts ss : List Tk} {x y : Int} (h : OpB D L l ts x) (s : ByteArray) (k : Nat) (hk : betw s = k) (hk0 : k ≠ 0) (hk1 : k < 11) (hm : ∀ r us, Lx r us → Lx (m ++ r) (tkSg s :: us)) (hne : 1 ≤ m.length) (hml : m.length ≤ 4)
    (h2 : OpR D M q ss y) (hb : by0 s y = false) (hr : In32 (calcV k s x y)) : ExOk D (L + 4 + M) (l ++ m ++ q) (ts ++ tkSg s :: ss) (calcV k s x y) where
  len := by have := h.len; have := h2.len; simp; omega
  tok := by have := h.tok; have := h2.tok; simp; omega
  rng := hr
  lx r us hn hl := by
    have h3 := h.lxb _ _ (hm _ _ (h2.lx r us hn hl))
    simpa using h3
  wh us hs := by
    have h3 := WhlOk.plain hD (h.op (tkSg s :: (ss ++ us))) (rO (m := 11) hD hk hk0 hk1 (h2.op us) ((RwsOk.stop (.inl hs.1)).le (Nat.zero_le D)) hb ((RwsOk.stop (.inl hs.1)).le (Nat.zero_le D))) hs.2
    simpa using h3

/-- A choice, whose last value is 5. -/
theorem OpB.choice {D L M : Nat} (hD : D ≤ 8) {l q : List UInt8} {ts ss : List Tk} {x y : Int} (h : OpB D L l ts x) (h2 : OpB D M q ss y) :
    ExOk D (L + M + 7) (l ++ [32, 63, 32] ++ q ++ [32, 58, 32, 53]) (ts ++ tkSg sQ :: (ss ++ [tkSg sCol, tkNum 5])) (if x ≠ 0 then y else 5) where
  len := by have := h.len; have := h2.len; simp; omega
  tok := by have := h.tok; have := h2.tok; simp; omega
  rng := by
    split
    · exact h2.rng
    · unfold In32; omega
  lx r us hn hl := by
    have e5 : fmtL 5 = [53] := by decide +kernel
    have h3 : Lx (53 :: r) (tkNum 5 :: us) := by
      have := Lx.fmt (n := 5) (by decide) hn hl
      rwa [e5] at this
    have h4 := (Lx.sg (s := [58]) (by decide) h3).sp
    have h5 := h2.lxb _ _ h4
    have h6 := (Lx.sg (s := [63]) (by decide) h5).sp
    have h7 := h.lxb _ _ h6
    show Lx ((l ++ [32, 63, 32] ++ q ++ [32, 58, 32, 53]) ++ r) ((ts ++ tkSg (B [63]) :: (ss ++ [tkSg (B [58]), tkNum 5])) ++ us)
    simpa using h7
  wh us hs := by
    have h5 : WhlOk D (tkNum 5 :: us) 5 us := plainW hD (oN D (n := 5) (by decide) us) hs
    have h4 : WhlOk D (ss ++ tkSg sCol :: tkNum 5 :: us) y (tkSg sCol :: tkNum 5 :: us) := plainW hD (h2.op _) ⟨rfl, by rw [sgn_tk]; decide⟩
    have h3 := WhlOk.choice hD (h.op (tkSg sQ :: (ss ++ tkSg sCol :: tkNum 5 :: us))) ((RwsOk.stop (m := 11) (.inr (by rw [sgn_tk]; decide))).le (Nat.zero_le D)) h4 h5
    simpa using h3

/-- A sign with blanks around it. -/
theorem lxSg {s : List UInt8} (hs : s ∈ signs) : ∀ r us, Lx r us → Lx ((32 :: (s ++ [32])) ++ r) (tkSg (B s) :: us) := fun r us h => by
  have := (Lx.sg hs h).sp
  simpa using this

/-- Its value, computed from its text. -/
theorem ExOk.cmp {D L : Nat} (hD : D ≤ 8) (hL : L ≤ 5000) {l : List UInt8} {ts : List Tk} {x : Int} (h : ExOk D L l ts x) : cmpV (B l) = (x, 0) := by
  have h1 := h.len
  have h2 := h.tok
  have h3 := h.lx [] [] noWord_nil Lx.nil
  rw [List.append_nil, List.append_nil] at h3
  exact cmp_ok (by omega) h3 (by omega) hD (h.wh [tkEnd] stp_end)
end Go.Ab

/- The abstract machine: functions that call themselves. -/
namespace Go.Ab
set_option linter.unusedSectionVars false
variable [Base]

theorem ext_twice (T : Table) (f : FuncId) (s t : Says) : ext (ext T f s) f t = ext T f t := by
  funext g args H
  unfold ext
  cases Nat.beq g f <;> rfl

/-- What is known of a function below a measure. -/
def below (s : Nat → Says) : Nat → Says
  | 0 => fun _ _ => none
  | k + 1 => s k

theorem ext_none {P : Program} {T : Table} (hT : TSound P T) (f : FuncId) : TSound P (ext T f fun _ _ => none) :=
  ext_sound hT fun _ _ _ _ _ h => by cases h

/-- A function that calls itself, with a smaller measure. -/
theorem ext_rec {P : Program} {T : Table} (hT : TSound P T) {f : FuncId} {fn : Func} (hf : P.funcs[f]? = some fn) (hname : (fn.name == "runtime.NumGoroutine") = false) {s : Nat → Says} (ks : List Nat)
    (h : ∀ k args H p r H', s k args H = some (p, r, H') → holdsO p → args.length ≤ fn.ntmps ∧ ∃ L, nodup L = true ∧ (∀ i, i < H.length → L[i]? = some i) ∧ runF ⟨P, ext T f (below s k)⟩ fn ks L args H fun r' H'' => Ends r' H'' r H') (k : Nat) : TSound P (ext T f (s k)) := by
  have hb : TSound P (ext T f (below s k)) := by
    induction k with
    | zero => exact ext_none hT f
    | succ k ih =>
      have := ext_run ih hf hname ks (h k)
      rwa [ext_twice] at this
  have := ext_run hb hf hname ks (h k)
  rwa [ext_twice] at this

/-! What comes behind a part, kept closed. -/
def seqQ (M : Mach) (n : Nat) (ks : List Nat) (y : Code) (K : Exit → Env → List AO → Prop) : Exit → Env → List AO → Prop := fun ex e' H' => match ex with
  | .normal => runC M n ks y e' H' K
  | ex => K ex e' H'
theorem seq_shut {M : Mach} {n : Nat} {ks : List Nat} {x y : Code} {e : Env} {H : List AO} {K : Exit → Env → List AO → Prop} (h : ∀ KK, KK = seqQ M n ks y K → runC M n ks x e H KK) : runC M n ks (.seq x y) e H K := h _ rfl
def endQ (P : Program) (rs : List ResultVar) (L : List Nat) (K : SV → List AO → Prop) : Exit → Env → List AO → Prop := fun ex e H' => match ex with
  | .normal => endA P rs L e H' K
  | .ret => endA P rs L e H' K
  | _ => False
theorem runF_shut {M : Mach} {fn : Func} {ks L : List Nat} {args : List AV} {H : List AO} {K : SV → List AO → Prop} {c : Code} (hb : fn.body = some c) (h : ∀ KK, KK = endQ M.P fn.results.toList L K → runC M fn.ntmps ks c (argEnv 0 args) H KK) : runF M fn ks L args H K := by
  unfold runF
  rw [hb]
  exact h _ rfl
theorem code_shut {M : Mach} {n : Nat} {ks : List Nat} {c : Code} {e : Env} {H : List AO} {K : Exit → Env → List AO → Prop} (h : ∀ KK, KK = K → runC M n ks c e H KK) : runC M n ks c e H K := h K rfl

end Go.Ab
