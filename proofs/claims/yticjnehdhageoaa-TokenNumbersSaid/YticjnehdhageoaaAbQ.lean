/- From the abstract machine to the statement of a law: a call that is handed no object. -/
import Derived.Test.YticjnehdhageoaaAbP
import Derived.Below
namespace Go.Ab
open Go.RowKit
set_option linter.unusedSectionVars false
variable [Base]

/-- The first view of a world: no object, and cells that nobody writes. -/
def view0 (I : Cells) (w : World) : View := ⟨fun _ => 0, I, [], w⟩

theorem sim0 {I : Cells} {w : World} (hv : ∀ v ∈ Base.vars, VarOk I w v) (hI : ∀ b o, I b o → b < w.heap.size) : Sim (view0 I w) where
  vars := hv
  objs := fun id o h => by cases id <;> cases h
  inj := fun i j b h => by obtain ⟨o, ho, _⟩ := h; cases i <;> cases ho
  ilt := hI

theorem calls_of_ok {P : Program} {f : FuncId} {fn : Func} {c : Code} (hf : P.funcs[f]? = some fn) (hb : fn.body = some c) (hname : (fn.name == "runtime.NumGoroutine") = false) {cargs : List Value} {G : View} {R : Value → View → Prop}
    (h : CallOk P f cargs G R) : Calls P f cargs.toArray G.w fun e w' => ∃ v G', e = .returned v ∧ G'.w = w' ∧ Ext G G' ∧ Sim G' ∧ R v G' := by
  rcases h with ⟨v, G', h1, _⟩ | ⟨_, h2⟩
  · exfalso
    have hn' : ¬ fn.name = "runtime.NumGoroutine" := by simpa using hname
    simp [callFunc, hf, hn', hb] at h1
  · exact h2

theorem law_of {P : Program} {T : Table} (hT : TSound P T) {f : FuncId} {fn : Func} {c : Code} (hf : P.funcs[f]? = some fn) (hb : fn.body = some c) (hname : (fn.name == "runtime.NumGoroutine") = false) {args : List AV} {p : Option Prop}
    (hs : T f args [] = some (p, SV.bool true, [])) (hp : holdsO p) {I : Cells} {w : World} (hv : ∀ v ∈ Base.vars, VarOk I w v) (hI : ∀ b o, I b o → b < w.heap.size) {cargs : List Value} (ha : All2 (RepA (view0 I w)) args cargs) :
    Calls P f cargs.toArray w fun e w' => e = .returned (.bool true) ∧ Below w.heap.size w w' := by
  have h := calls_of_ok hf hb hname (hT f args [] p (SV.bool true) [] hs hp (view0 I w) (sim0 hv hI) rfl cargs ha)
  refine h.mono fun e w' ⟨v, G', he, hw, hx, _, _, hr⟩ => ?_
  subst he hw
  have hr' : v = .bool true := hr.2
  subst hr'
  refine ⟨rfl, hx.os, hx.tape, hx.output, hx.size, fun k hk => hx.frame k hk fun id hid => ?_⟩
  obtain ⟨o, ho, _⟩ := hid
  have ho' : ([] : List AO)[id]? = some o := ho
  simp at ho'

/-- A variable of the program's that holds a number. -/
theorem cell_lt {w : World} {b o : Nat} {v : Value} (h : w.at' b o = some v) : b < w.heap.size := by
  rcases Nat.lt_or_ge b w.heap.size with h1 | h1
  · exact h1
  · exfalso
    unfold World.at' World.cell? at h
    simp [h1] at h
end Go.Ab
