/- Package expression: whole texts. -/
import Derived.Test.YtjphgbdjdldpjaaDoorTS3toV13
import Derived.Test.YtjphgbdjdldpjaaDoorTS5toS7
import Derived.Test.YtjphgbdjdldpjaaDoorTPtoR1
import Derived.Below
namespace Go.Ab
open Go.Proofs
set_option linter.unusedSectionVars false
set_option maxRecDepth 100000
variable [GlobX]

theorem cmp_ok {l : List UInt8} {ts : List Tk} {x : Int} {D : Nat} (hl : l.length ≤ 16000) (hx : Lx l ts) (hn : ts.length < 6000) (hD : D ≤ 8) (hw : WhlOk D (ts ++ [tkEnd]) x [tkEnd]) : cmpV (B l) = (x, 0) := by
  obtain ⟨h1, h2⟩ := hx 0 6000 (1, 1) [] hn
  rw [← readV_L l 0 hl] at h1 h2
  have h2' : (readV (B l) 0).toks.map tkOf = ts ++ [tkEnd] := by simpa using h2
  have hlen : (readV (B l) 0).toks.length = ts.length + 1 := by
    have := congrArg List.length h2'
    simpa using this
  have h3 := exprV_ok hD h2' hw
  have hk : ((readV (B l) 0).toks.getD (((readV (B l) 0).toks.length : Int) - 1).toNat tkC.dflt).1 = 8 := by
    have e1 : (((readV (B l) 0).toks.length : Int) - 1).toNat = ts.length := by omega
    rw [e1, List.getD_eq_getElem?_getD]
    have h4 := congrArg (fun m : List Tk => m[ts.length]?) h2'
    simp only [List.getElem?_map, List.getElem?_concat_length] at h4
    cases hg : (readV (B l) 0).toks[ts.length]? with
    | none => rw [hg] at h4; cases h4
    | some t =>
      rw [hg] at h4
      have : (tkOf t).1 = 8 := by rw [Option.some.inj h4]
      exact this
  unfold cmpV
  rw [if_pos h1, h3, if_pos rfl]
  simp only
  rw [if_pos hk]

theorem fmtV_L {n : Int} (h0 : 0 ≤ n) (h1 : n ≤ 4294967295) : fmtV n = B (fmtL n.toNat) := by
  unfold fmtV fmtL
  rw [if_neg (by omega)]
  by_cases h : n < 10
  · rw [if_pos h, if_pos (by omega)]
  · rw [if_neg h, if_neg (by omega)]

theorem fmtL_len (n : Nat) : (fmtL n).length ≤ 67 := by
  unfold fmtL
  have h1 := basedV_len false 10 n
  have h2 := basedV_len false 16 n
  split
  · omega
  · simp only [List.length_cons]; omega

theorem fmtV_size (n : Int) : (fmtV n).size ≤ 67 := by
  unfold fmtV
  have h1 := basedV_len false 10 n.toNat
  have h2 := basedV_len false 16 n.toNat
  split
  · exact Nat.zero_le _
  split
  · rw [B_size]; omega
  · rw [B_size]; simp only [List.length_cons]; omega

/-! The examples of the chapter. -/
def aw1T : ByteArray := ⟨#[49, 32, 43, 32, 50, 32, 42, 32, 51, 32, 60, 60, 32, 49]⟩
def aw2T : ByteArray := ⟨#[40, 49, 32, 63, 32, 50, 32, 58, 32, 51, 41, 32, 45, 32, 53]⟩
def aw3T : ByteArray := ⟨#[49, 32, 124, 124, 32, 49, 32, 47, 32, 48]⟩
theorem aw_1 : cmpV aw1T = (14, 0) := by decide +kernel
theorem aw_2 : cmpV aw2T = (4294967293, 0) := by decide +kernel
theorem aw_3 : (cmpV aw3T).2 = 22 := by decide +kernel
theorem aw_4 : fmtV 255 = ⟨#[48, 120, 102, 102]⟩ := by decide +kernel

def X52 : Table := ext X51 7 (fun args H => match args, H with | [], [] => some (none, .bool true, []) | _, _ => none)

theorem x52 : TSound Tryd.prog X52 := by
  refine ext_run x51 (f := 7) (fn := Tryd.f7) rfl rfl [0, 1, 2, 3, 4, 6] fun args H p r H' hs hp => ?_
  split at hs
  · cases hs
    refine ⟨Nat.zero_le _, [], rfl, fun k hk => absurd hk (Nat.not_lt_zero k), ?_⟩
    repeat ((conv => whnf); refine ⟨by first | (unfold inI64; omega) | omega | exact ⟨by omega, by omega⟩ | (intro hg; first | (unfold inI64; omega) | omega | exact ⟨by omega, by omega⟩ | (simp [lit] at hg; unfold inI64; omega) | (simp [lit] at hg; omega) | (simp [lit] at hg; exact ⟨by omega, by omega⟩)) | (show (_ : Nat) + 1 ≤ 1000000000000; omega) | exact rfl | (unfold inI64; dsimp only; omega) | (dsimp only; omega) | (intro hg; simp [lit] at hg; first | (unfold inI64; dsimp only; omega) | (dsimp only; omega)) | decide +kernel, ?_⟩)
    conv => whnf
    refine ends_eq ⟨?_, rfl⟩
    show SV.bool (decide ((cmpV aw1T).2 = 0) && decide ((cmpV aw2T).2 = 0) && decide ((cmpV aw1T).1 = 14) && decide ((cmpV aw2T).1 = 4294967293) && decide ((cmpV aw3T).2 = 22) && decide (fmtV 255 = ⟨#[48, 120, 102, 102]⟩)) = SV.bool true
    rw [aw_1, aw_2, aw_3, aw_4]
    rfl
  · cases hs
end Go.Ab

/- From the abstract machine to the statement of a law: a call that is handed no object. -/
namespace Go.Ab
open Go.RowKit
set_option linter.unusedSectionVars false
/-- A variable of the program's that holds a number. -/
theorem cell_lt {w : World} {b o : Nat} {v : Value} (h : w.at' b o = some v) : b < w.heap.size := by
  rcases Nat.lt_or_ge b w.heap.size with h1 | h1
  · exact h1
  · exfalso
    unfold World.at' World.cell? at h
    simp [h1] at h
/-! Slices of integers that come in. -/
def IsRow (k : IntKind) (w : World) (a : Option Addr) (len cap : Nat) (zs : List Int) : Prop :=
  (a = none ∧ len = 0 ∧ cap = 0 ∧ zs = []) ∨
  ∃ b off, a = some ⟨b, off, none⟩ ∧ len ≤ cap ∧ zs.length = cap ∧ ∀ i, i < zs.length → w.at' b (off + i) = some (.int k (zs.getD i 0))

def RowCells (a : Option Addr) (cap : Nat) : Cells := fun b o => ∃ off, a = some ⟨b, off, none⟩ ∧ off ≤ o ∧ o < off + cap

theorem isRow_of {k : IntKind} {w : World} {x : Addr} {len cap : Nat} {zs : List Int} (hs : x.spot = none) (hl : len ≤ cap) (hz : zs.length = cap) (hc : ∀ i, i < zs.length → w.cell? (x.add i) = some (.int k (zs.getD i 0))) : IsRow k w (some x) len cap zs := by
  obtain ⟨b, off, sp⟩ := x
  simp only at hs
  subst hs
  refine .inr ⟨b, off, rfl, hl, hz, fun i hi => ?_⟩
  have := hc i hi
  have e : (⟨b, off, none⟩ : Addr).add i = ⟨b, off + i, none⟩ := by unfold Addr.add; split <;> simp_all
  rwa [e] at this

theorem slice_spot {P : Program} {w : World} {r : Reach} {base : Nat} {t e : TypeId} {x : Addr} {len cap : Nat} (ht : P.underlying t = some (.slice e)) (h : Value.okWide P w r base t (.slice (some x) len cap)) : x.spot = none := by
  simp only [Value.okWide, ht, Cell.okWide] at h
  simp only [Cell.ok, ht] at h
  exact h.2.2.2.1

theorem isRow_rep {k : IntKind} {w : World} {a : Option Addr} {len cap : Nat} {zs : List Int} {I : Cells} (h : IsRow k w a len cap zs) (hI : ∀ b o, RowCells a cap b o → I b o) : RepV I w (.l (.int k) (zs.take len)) (.slice a len cap) := by
  rcases h with ⟨rfl, rfl, rfl, rfl⟩ | ⟨b, off, rfl, hl, hz, hc⟩
  · exact .inl ⟨rfl, rfl⟩
  · have hlen : (zs.take len).length = len := by rw [List.length_take]; omega
    refine .inr ⟨b, off, cap, by rw [hlen], by omega, fun i z hi => ?_⟩
    have hlt : i < len := by
      rcases Nat.lt_or_ge i len with h1 | h1
      · exact h1
      · rw [List.getElem?_eq_none (by omega)] at hi; cases hi
    refine ⟨[.int k z], rfl, fun j u hj => ?_⟩
    cases j with
    | succ j => simp at hj
    | zero =>
      cases hj
      have hw : off + i * (CT.int k).width + 0 = off + i := by show off + i * 1 + 0 = off + i; omega
      rw [hw]
      refine ⟨hI _ _ ⟨off, rfl, by omega, by omega⟩, ?_⟩
      rw [hc i (by omega)]
      rw [List.getElem?_take, if_pos hlt] at hi
      rw [List.getD_eq_getElem?_getD, hi]
      rfl

theorem isRow_lt {k : IntKind} {w : World} {a : Option Addr} {len cap : Nat} {zs : List Int} (h : IsRow k w a len cap zs) : ∀ b o, RowCells a cap b o → b < w.heap.size := by
  rintro b o ⟨off, ha, h1, h2⟩
  rcases h with ⟨rfl, _⟩ | ⟨b', off', rfl, hl, hz, hc⟩
  · cases ha
  · cases ha
    have := hc (o - off) (by omega)
    exact cell_lt this

variable [Base]

/-- The first view of a world: no object, and cells that nobody writes. -/
def view0 (I : Cells) (w : World) : View := ⟨fun _ => 0, I, [], w⟩

theorem sim0 {I : Cells} {w : World} (hv : ∀ v ∈ Base.vars, VarOk I w v) (hI : ∀ b o, I b o → b < w.heap.size) : Sim (view0 I w) where
  vars := hv
  objs := fun id o h => by cases id <;> cases h
  inj := fun i j b h => by obtain ⟨o, ho, _⟩ := h; cases i <;> cases ho
  ilt := hI

theorem calls_of_ok {P : Program} {f : FuncId} {fn : Func} {c : Code} (hf : P.funcs[f]? = some fn) (hb : fn.body = some c) (hname : (fn.name == "runtime.NumGoroutine") = false) {cargs : List Value} {G : View} {R : Value → View → Prop}
    (h : CallOk P f cargs G R) : Calls P f cargs.toArray G.w fun e w' => ∃ v G', e = .returned v ∧ G'.w = w' ∧ Ext G G' ∧ Sim G' ∧ R v G' := by
  rcases h with ⟨v, G', h1, _⟩ | ⟨_, h2⟩
  · exfalso
    have hn' : ¬ fn.name = "runtime.NumGoroutine" := by simpa using hname
    simp [callFunc, hf, hn', hb] at h1
  · exact h2

theorem law_of {P : Program} {T : Table} (hT : TSound P T) {f : FuncId} {fn : Func} {c : Code} (hf : P.funcs[f]? = some fn) (hb : fn.body = some c) (hname : (fn.name == "runtime.NumGoroutine") = false) {args : List AV} {p : Option Prop}
    (hs : T f args [] = some (p, SV.bool true, [])) (hp : holdsO p) {I : Cells} {w : World} (hv : ∀ v ∈ Base.vars, VarOk I w v) (hI : ∀ b o, I b o → b < w.heap.size) {cargs : List Value} (ha : All2 (RepA (view0 I w)) args cargs) :
    Calls P f cargs.toArray w fun e w' => e = .returned (.bool true) ∧ Below w.heap.size w w' := by
  have h := calls_of_ok hf hb hname (hT f args [] p (SV.bool true) [] hs hp (view0 I w) (sim0 hv hI) rfl cargs ha)
  refine h.mono fun e w' ⟨v, G', he, hw, hx, _, _, hr⟩ => ?_
  subst he hw
  have hr' : v = .bool true := hr.2
  subst hr'
  refine ⟨rfl, hx.os, hx.tape, hx.output, hx.size, fun k hk => hx.frame k hk fun id hid => ?_⟩
  obtain ⟨o, ho, _⟩ := hid
  have ho' : ([] : List AO)[id]? = some o := ho
  simp at ho'

end Go.Ab
