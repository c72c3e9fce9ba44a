/- The abstract machine: abstract cells, objects, and how they lie in memory. -/
import Derived.Test.YticjnehdhageoaaAbA
namespace Go.Ab

/-- One cell of an abstract value. -/
inductive AC where
  | p (x : PV)
  | ptr (id off : Nat)
  | pp (e : CT) (z : e.den) (k : Nat)
  | own (id : Nat) (e : CT) (zs : List e.den)
  | clo (f : FuncId) (caps : List Nat)

inductive AV where
  | c (x : AC)
  | agg (l : List AC)

inductive SV where
  | none
  | a (v : AV)
  | tup (l : List AV)

/-- What the machine's own memory holds: a variable's cells; the right to append to a slice of so many elements ('z': no memory has been made yet where it has none). -/
inductive AO where
  | row (cells : List AC)
  | tok (t : TypeId) (e : CT) (n : Nat) (z : Bool)

def AO.blocked : AO → Prop
  | .row _ => True
  | .tok _ _ n z => z = false ∨ 0 < n

/-- A view of memory: where each object lies, which cells nobody writes any more. -/
structure View where
  ρ : Nat → Nat
  I : Cells
  H : List AO
  w : World

def View.holds (G : View) (id b : Nat) : Prop := ∃ o, G.H[id]? = some o ∧ o.blocked ∧ G.ρ id = b

def View.tokAt (G : View) (id : Nat) (t : TypeId) (e : CT) (n : Nat) (z : Bool) (v : Value) : Prop :=
  (z = true ∧ n = 0 ∧ v = .slice none 0 0) ∨
  ((z = false ∨ 0 < n) ∧ ∃ cap cur, v = .slice (some ⟨G.ρ id, 0, none⟩) n cap ∧ G.w.heap[G.ρ id]? = some (.cells cur t (0, 0)) ∧ n ≤ cap ∧ cap ≤ maxLen ∧ cur.size = cap * e.width)

def RepC (G : View) : AC → Value → Prop
  | .p x, v => RepV G.I G.w x v
  | .ptr id off, v => v = .pointer (some ⟨G.ρ id, off, none⟩) ∧ ∃ cs, G.H[id]? = some (.row cs)
  | .pp e z k, v => ∃ b off us, v = .pointer (some ⟨b, off + k, none⟩) ∧ Rep G.I G.w e z us ∧
      ∀ j u, us[j]? = some u → G.I b (off + j) ∧ G.w.at' b (off + j) = some u
  | .own id e zs, v => Rep G.I G.w (.list e) zs [v] ∧ ∃ t n z, G.H[id]? = some (.tok t e n z) ∧ zs.length ≤ n ∧ (zs.length = n → G.tokAt id t e n z v)
  | .clo f caps, v => v = .func (.func f) #[] (caps.map fun id => Value.pointer (some ⟨G.ρ id, 0, none⟩)).toArray ∧ ∀ id ∈ caps, ∃ cs, G.H[id]? = some (.row cs)

def RepA (G : View) : AV → Value → Prop
  | .c x, v => RepC G x v
  | .agg l, v => ∃ cs : List Value, v = .agg cs.toArray ∧ All2 (RepC G) l cs

def RepS (G : View) : SV → Value → Prop
  | .none, _ => True
  | .a x, v => RepA G x v
  | .tup l, v => ∃ vs : List Value, v = .tuple vs.toArray ∧ All2 (RepA G) l vs

def AO.next (G G' : View) (id : Nat) : AO → AO → Prop
  | .row c, .row c' => G'.ρ id = G.ρ id ∧ c'.length = c.length
  | .tok t e n z, .tok t' e' n' z' => t' = t ∧ e' = e ∧ z' = z ∧ n ≤ n' ∧
      (n' = n → (z = false ∨ 0 < n) → G'.ρ id = G.ρ id ∧ ∀ cur, G.w.heap[G.ρ id]? = some (.cells cur t (0, 0)) → ∃ cur', G'.w.heap[G.ρ id]? = some (.cells cur' t (0, 0)) ∧ cur'.size = cur.size)
  | _, _ => False

structure Ext (G G' : View) : Prop where
  stays : Stays G.I G.w G'.I G'.w
  size : G.w.heap.size ≤ G'.w.heap.size
  os : G'.w.os = G.w.os
  tape : G'.w.tape = G.w.tape
  output : G'.w.output = G.w.output
  objs : ∀ (id : Nat) (o : AO), G.H[id]? = some o → ∃ o', G'.H[id]? = some o' ∧ o.next G G' id o'
  frame : ∀ b, b < G.w.heap.size → (∀ id, ¬ G.holds id b) → G'.w.heap[b]? = G.w.heap[b]?
  news : ∀ id b, G'.holds id b → G.holds id b ∨ G.w.heap.size ≤ b
  inew : ∀ b o, G'.I b o → G.I b o ∨ G.w.heap.size ≤ b ∨ ∃ id, G.holds id b

def ObjOk (G : View) (id : Nat) : AO → Prop
  | .row cells => ∃ cs T, G.w.heap[G.ρ id]? = some (.cells cs T (0, 0)) ∧ (∀ o, ¬ G.I (G.ρ id) o) ∧ All2 (RepC G) cells cs.toList
  | .tok t e n _ => ∃ cur, G.w.heap[G.ρ id]? = some (.cells cur t (0, 0)) ∧ n * e.width ≤ cur.size ∧ ∀ o, n * e.width ≤ o → ¬ G.I (G.ρ id) o

/-- Package-level variables that nobody writes: block, offset, what they hold. -/
structure Var where
  block : Nat
  off : Nat
  e : CT
  z : e.den

class Base where
  vars : List Var

def VarOk (I : Cells) (w : World) (v : Var) : Prop := ∃ us, Rep I w v.e v.z us ∧ ∀ j u, us[j]? = some u → I v.block (v.off + j) ∧ w.at' v.block (v.off + j) = some u

theorem VarOk.mono {I w I' w'} (h : Stays I w I' w') {v : Var} (hv : VarOk I w v) : VarOk I' w' v := by
  obtain ⟨us, hz, hu⟩ := hv
  exact ⟨us, Rep.mono h _ _ _ hz, fun j u hj => ⟨h.keep _ _ (hu j u hj).1, (h.same _ _ (hu j u hj).1).trans (hu j u hj).2⟩⟩

set_option linter.unusedSectionVars false
variable [Base]

structure Sim (G : View) : Prop where
  vars : ∀ v ∈ Base.vars, VarOk G.I G.w v
  objs : ∀ (id : Nat) (o : AO), G.H[id]? = some o → o.blocked → ObjOk G id o
  inj : ∀ i j b, G.holds i b → G.holds j b → i = j
  ilt : ∀ b o, G.I b o → b < G.w.heap.size

theorem Sim.lt {G : View} (h : Sim G) {id b : Nat} (hb : G.holds id b) : b < G.w.heap.size := by
  obtain ⟨o, ho, hbl, rfl⟩ := hb
  have hok := h.objs id o ho hbl
  cases o with
  | row c => obtain ⟨cs, T, hh, _⟩ := hok; exact (Array.getElem?_eq_some_iff.1 hh).1
  | tok t e n z => obtain ⟨cur, hh, _⟩ := hok; exact (Array.getElem?_eq_some_iff.1 hh).1

theorem AO.next_refl (G : View) (id : Nat) (o : AO) : o.next G G id o := by
  cases o with
  | row c => exact ⟨rfl, rfl⟩
  | tok t e n z => exact ⟨rfl, rfl, rfl, Nat.le_refl _, fun _ _ => ⟨rfl, fun cur h => ⟨cur, h, rfl⟩⟩⟩

theorem Ext.refl (G : View) : Ext G G :=
  ⟨Stays.refl _ _, Nat.le_refl _, rfl, rfl, rfl, fun id o h => ⟨o, h, o.next_refl G id⟩, fun _ _ _ => rfl, fun _ _ h => .inl h, fun _ _ h => .inl h⟩

theorem AO.next_blocked {G G' : View} {id : Nat} {o o' : AO} (h : o.next G G' id o') (hb : o.blocked) : o'.blocked := by
  cases o <;> cases o' <;> simp only [AO.next, AO.blocked] at *
  · obtain ⟨_, _, rfl, hn, _⟩ := h
    rcases hb with hb | hb
    · exact .inl hb
    · exact .inr (by omega)

theorem AO.next_trans {G G' G'' : View} {id : Nat} {o o' o'' : AO} (h : o.next G G' id o') (k : o'.next G' G'' id o'') : o.next G G'' id o'' := by
  cases o <;> cases o' <;> cases o'' <;> simp only [AO.next] at *
  · exact ⟨k.1.trans h.1, k.2.trans h.2⟩
  · obtain ⟨rfl, rfl, rfl, hn, hs⟩ := h
    obtain ⟨rfl, rfl, rfl, kn, ks⟩ := k
    refine ⟨rfl, rfl, rfl, by omega, fun he hb => ?_⟩
    obtain ⟨hρ, hc⟩ := hs (by omega) hb
    obtain ⟨kρ, kc⟩ := ks (by omega) (by rcases hb with hb | hb; exact .inl hb; exact .inr (by omega))
    refine ⟨kρ.trans hρ, fun cur hcur => ?_⟩
    obtain ⟨cur', h1, h2⟩ := hc cur hcur
    rw [hρ] at kc
    obtain ⟨cur'', h3, h4⟩ := kc cur' h1
    exact ⟨cur'', h3, h4.trans h2⟩

theorem Ext.trans {G G' G'' : View} (h : Ext G G') (k : Ext G' G'') : Ext G G'' where
  stays := h.stays.trans k.stays
  size := Nat.le_trans h.size k.size
  os := k.os.trans h.os
  tape := k.tape.trans h.tape
  output := k.output.trans h.output
  objs := fun id o ho => by
    obtain ⟨o', ho', hn⟩ := h.objs id o ho
    obtain ⟨o'', ho'', kn⟩ := k.objs id o' ho'
    exact ⟨o'', ho'', AO.next_trans hn kn⟩
  frame := fun b hb hno => by
    refine (k.frame b (Nat.lt_of_lt_of_le hb h.size) fun id hid => ?_).trans (h.frame b hb hno)
    rcases h.news id b hid with h' | h'
    · exact hno id h'
    · omega
  news := fun id b hid => by
    rcases k.news id b hid with h' | h'
    · exact h.news id b h'
    · exact .inr (Nat.le_trans h.size h')
  inew := fun b o hI => by
    rcases k.inew b o hI with h' | h' | ⟨id, h'⟩
    · exact h.inew b o h'
    · exact .inr (.inl (Nat.le_trans h.size h'))
    · rcases h.news id b h' with h'' | h''
      · exact .inr (.inr ⟨id, h''⟩)
      · exact .inr (.inl h'')

theorem Ext.row {G G' : View} (h : Ext G G') {id : Nat} {cs : List AC} (ho : G.H[id]? = some (.row cs)) : G'.ρ id = G.ρ id ∧ ∃ cs', G'.H[id]? = some (.row cs') := by
  obtain ⟨o', ho', hn⟩ := h.objs id _ ho
  cases o' with
  | row c' => exact ⟨hn.1, c', ho'⟩
  | tok => exact hn.elim

theorem RepC.mono {G G' : View} (h : Ext G G') {x : AC} {v : Value} (hr : RepC G x v) : RepC G' x v := by
  cases x with
  | p x => exact RepV.mono h.stays hr
  | ptr id off =>
    obtain ⟨rfl, cs, ho⟩ := hr
    obtain ⟨hρ, ho'⟩ := h.row ho
    exact ⟨by rw [hρ], ho'⟩
  | pp e z k =>
    obtain ⟨b, off, us, rfl, hz, hu⟩ := hr
    exact ⟨b, off, us, rfl, Rep.mono h.stays _ _ _ hz, fun j u hj => ⟨h.stays.keep _ _ (hu j u hj).1, (h.stays.same _ _ (hu j u hj).1).trans (hu j u hj).2⟩⟩
  | own id e zs =>
    obtain ⟨hz, t, n, z, ho, hle, ht⟩ := hr
    obtain ⟨o', ho', hn⟩ := h.objs id _ ho
    refine ⟨Rep.mono h.stays _ _ _ hz, ?_⟩
    cases o' with
    | row c' => exact hn.elim
    | tok t' e' n' z' =>
      obtain ⟨rfl, rfl, rfl, hnn, hs⟩ := hn
      refine ⟨t', n', z', ho', by omega, fun he => ?_⟩
      have hnn' : n' = n := by omega
      subst hnn'
      rcases ht he with h1 | ⟨hb, cap, cur, rfl, hh, h2, h3, h4⟩
      · exact .inl h1
      · obtain ⟨hρ, hc⟩ := hs rfl hb
        obtain ⟨cur', h5, h6⟩ := hc cur hh
        exact .inr ⟨hb, cap, cur', by rw [hρ], by rw [hρ]; exact h5, h2, h3, h6.trans h4⟩
  | clo f caps =>
    obtain ⟨rfl, ho⟩ := hr
    refine ⟨?_, fun id hid => ?_⟩
    · congr 2
      apply List.map_congr_left
      intro id hid
      obtain ⟨cs, hcs⟩ := ho id hid
      rw [(h.row hcs).1]
    · obtain ⟨cs, hcs⟩ := ho id hid
      exact (h.row hcs).2

theorem RepA.mono {G G' : View} (h : Ext G G') {x : AV} {v : Value} (hr : RepA G x v) : RepA G' x v := by
  cases x with
  | c x => exact RepC.mono h hr
  | agg l =>
    obtain ⟨cs, rfl, hc⟩ := hr
    exact ⟨cs, rfl, hc.mono fun _ _ => RepC.mono h⟩

theorem RepS.mono {G G' : View} (h : Ext G G') {x : SV} {v : Value} (hr : RepS G x v) : RepS G' x v := by
  cases x with
  | none => trivial
  | a x => exact RepA.mono h hr
  | tup l =>
    obtain ⟨cs, rfl, hc⟩ := hr
    exact ⟨cs, rfl, hc.mono fun _ _ => RepA.mono h⟩

end Go.Ab
