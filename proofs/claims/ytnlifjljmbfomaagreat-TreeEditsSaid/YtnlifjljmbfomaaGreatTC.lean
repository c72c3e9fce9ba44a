/- The abstract machine: what may happen to memory. -/
import Derived.Test.YtnlifjljmbfomaaGreatTAtoB
namespace Go.Ab
set_option linter.unusedSectionVars false
variable [Base]
theorem at_of_block {w w' : World} {b : Nat} (h : w'.heap[b]? = w.heap[b]?) (o : Nat) : w'.at' b o = w.at' b o := by
 simp [World.at', World.cell?, h]
theorem View.holds_of_row {G : View} {id : Nat} {cs : List AC} (h : G.H[id]? = some (.row cs)) : G.holds id (G.ρ id) := ⟨_, h, trivial, rfl⟩
theorem ObjOk.mono {G G' : View} (he : Ext G G') {id : Nat} {o : AO} (h : ObjOk G id o) (hρ : G'.ρ id = G.ρ id) (hb : G'.w.heap[G.ρ id]? = G.w.heap[G.ρ id]?)
  (hI : ∀ x, G'.I (G.ρ id) x → G.I (G.ρ id) x) : ObjOk G' id o := by
 cases o with
 | row cells =>
  obtain ⟨cs, T, hh, hn, hc⟩ := h
  exact ⟨cs, T, by rw [hρ, hb, hh], fun x hx => hn x (hI x (hρ ▸ hx)), hc.mono fun _ _ => RepC.mono he⟩
 | tok t e n z =>
  obtain ⟨cur, hh, hle, hn⟩ := h
  exact ⟨cur, by rw [hρ, hb, hh], hle, fun x hx hx' => hn x hx (hI x (hρ ▸ hx'))⟩
 | arr t e zs ver =>
  obtain ⟨vs, rest, hh, hn, hr⟩ := h
  exact ⟨vs, rest, by rw [hρ, hb, hh], fun x hx => hn x (hI x (hρ ▸ hx)), hr.mono he.stays⟩
 | map k v es =>
  obtain ⟨ens, clock, hh, hn, hr⟩ := h
  exact ⟨ens, clock, by rw [hρ, hb, hh], fun x hx => hn x (hI x (hρ ▸ hx)), hr.mono he.stays⟩
 | dead => trivial
 | vec t e zs i k x =>
  obtain ⟨vs, rest, v, hh, hn, h1, h2, h4, h5⟩ := h
  exact ⟨vs, rest, v, by rw [hρ, hb, hh], fun x hx => hn x (hI x (hρ ▸ hx)), h1, h2, RepC.mono he h4, h5.mono he.stays⟩
 | gvec t e zs i k x ver =>
  obtain ⟨vs, rest, v, hh, hn, h1, h2, h4, h5⟩ := h
  exact ⟨vs, rest, v, by rw [hρ, hb, hh], fun x hx => hn x (hI x (hρ ▸ hx)), h1, h2, RepC.mono he h4, h5.mono he.stays⟩
def View.drew (G : View) : View := { G with w := G.w.drew }
theorem Ext.drew (G : View) : Ext G G.drew :=
 ⟨⟨fun _ _ h => h, fun _ _ _ => rfl, fun _ _ _ _ _ h => h⟩, nR9 _, rfl, rfl, rfl, fun id o h => ⟨o, h, o.next_refl G id⟩, fun _ _ _ => rfl, fun _ _ h => .inl h, fun _ _ h => .inl h⟩
theorem Sim.drew {G : View} (h : Sim G) : Sim G.drew :=
 ⟨fun v hv => (h.vars v hv).mono (Ext.drew G).stays, fun id o ho hb => (h.objs id o ho hb).mono (Ext.drew G) rfl rfl (fun _ h => h), fun i j b hi hj => h.inj i j b hi hj, h.ilt⟩
def View.push (G : View) (J : Nat → Prop) (o : Obj) : View :=
 { ρ := G.ρ, I := fun b x => G.I b x ∨ (b = G.w.heap.size ∧ J x), H := G.H, w := G.w.alloc o }
theorem alloc_heap_old (w : World) (o : Obj) (b : Nat) (h : b < w.heap.size) : (w.alloc o).heap[b]? = w.heap[b]? := by
 show (w.heap.push o)[b]? = w.heap[b]?
 rw [Array.getElem?_push, if_neg (Nat.ne_of_lt h)]
theorem alloc_heap_new (w : World) (o : Obj) : (w.alloc o).heap[w.heap.size]? = some o := by
 show (w.heap.push o)[w.heap.size]? = some o
 simp
theorem Ext.push {G : View} (hS : Sim G) (J : Nat → Prop) (o : Obj) : Ext G (G.push J o) where
 stays := ⟨fun _ _ h => .inl h, fun b x h => at_of_block (alloc_heap_old _ _ _ (hS.ilt b x h)) x, fun b x es c h hm => (alloc_heap_old _ _ _ (hS.ilt b x h)).trans hm⟩
 size := by simp [View.push]
 os := rfl
 tape := rfl
 output := rfl
 objs := fun id ob h => ⟨ob, h, AO.next_keep ob fun hb => ⟨rfl, alloc_heap_old _ _ _ (hS.lt ⟨ob, h, hb, rfl⟩)⟩⟩
 frame := fun b hb _ => alloc_heap_old _ _ _ hb
 news := fun _ _ h => .inl h
 inew := fun b x h => by
  rcases h with h | ⟨rfl, _⟩
  ·exact .inl h
  ·exact .inr (.inl (nR9 _))
theorem Sim.push {G : View} (hS : Sim G) (J : Nat → Prop) (o : Obj) : Sim (G.push J o) where
 vars := fun v hv => (hS.vars v hv).mono (Ext.push hS J o).stays
 objs := fun id ob ho hb => by
  have hlt : G.ρ id < G.w.heap.size := hS.lt ⟨ob, ho, hb, rfl⟩
  refine (hS.objs id ob ho hb).mono (Ext.push hS J o) rfl (alloc_heap_old _ _ _ hlt) fun x hx => ?_
  rcases hx with h | ⟨h, _⟩
  ·exact h
  ·omega
 inj := fun i j b hi hj => hS.inj i j b hi hj
 ilt := fun b x h => by
  rcases h with h | ⟨rfl, _⟩
  ·have := hS.ilt b x h; simp [View.push]; omega
  ·simp [View.push]
def View.obj (G : View) (b : Nat) (o : AO) : View :=
 { ρ := fun i => if i = G.H.length then b else G.ρ i, I := G.I, H := G.H ++ [o], w := G.w }
theorem View.obj_get {G : View} {b : Nat} {o : AO} {id : Nat} {ob : AO} (h : G.H[id]? = some ob) : (G.obj b o).H[id]? = some ob ∧ (G.obj b o).ρ id = G.ρ id := by
 have hlt : id < G.H.length := (List.getElem?_eq_some_iff.1 h).1
 refine ⟨?_, ?_⟩
 ·show (G.H ++ [o])[id]? = some ob
  rw [List.getElem?_append_left hlt, h]
 ·show (if id = G.H.length then b else G.ρ id) = G.ρ id
  rw [if_neg (by omega)]
theorem View.obj_last (G : View) (b : Nat) (o : AO) : (G.obj b o).H[G.H.length]? = some o ∧ (G.obj b o).ρ G.H.length = b := by
 refine ⟨?_, ?_⟩
 ·show (G.H ++ [o])[G.H.length]? = some o
  simp
 ·show (if G.H.length = G.H.length then b else G.ρ G.H.length) = b
  simp
theorem View.obj_cases {G : View} {b : Nat} {o : AO} {id : Nat} {ob : AO} (h : (G.obj b o).H[id]? = some ob) : (G.H[id]? = some ob ∧ (G.obj b o).ρ id = G.ρ id) ∨ (id = G.H.length ∧ ob = o) := by
 have h' : (G.H ++ [o])[id]? = some ob := h
 rcases Nat.lt_trichotomy id G.H.length with hlt | he | hgt
 ·rw [List.getElem?_append_left hlt] at h'
  exact .inl ⟨h', (View.obj_get (b := b) (o := o) h').2⟩
 ·subst he
  simp at h'
  exact .inr ⟨rfl, h'.symm⟩
 ·rw [List.getElem?_eq_none (by simp; omega)] at h'
  cases h'
theorem Ext.obj {G0 G : View} (h : Ext G0 G) {b : Nat} {o : AO} (hb : o.blocked → G0.w.heap.size ≤ b) : Ext G0 (G.obj b o) where
 stays := h.stays
 size := h.size
 os := h.os
 tape := h.tape
 output := h.output
 objs := fun id ob ho => by
  obtain ⟨o', ho', hn⟩ := h.objs id ob ho
  obtain ⟨h1, h2⟩ := View.obj_get (b := b) (o := o) ho'
  refine ⟨o', h1, ?_⟩
  cases ob <;> cases o' <;> simp only [AO.next] at *
  ·exact ⟨h2.trans hn.1, hn.2⟩
  ·exact ⟨hn.1, hn.2.1, hn.2.2.1, hn.2.2.2.1, fun a c => ⟨h2.trans (hn.2.2.2.2 a c).1, (hn.2.2.2.2 a c).2⟩⟩
  ·exact ⟨hn.1, hn.2.1, hn.2.2.1, fun a => ⟨(hn.2.2.2 a).1, fun c => ⟨h2.trans ((hn.2.2.2 a).2 c).1, ((hn.2.2.2 a).2 c).2⟩⟩⟩
  ·exact ⟨hn.1, hn.2.1, h2.trans hn.2.2⟩
  ·exact ⟨hn.1, hn.2.1, hn.2.2.1, h2.trans hn.2.2.2⟩
  ·exact ⟨hn.1, hn.2.1, hn.2.2.1, fun a => ⟨(hn.2.2.2 a).1, h2.trans (hn.2.2.2 a).2.1, (hn.2.2.2 a).2.2⟩⟩
 frame := h.frame
 news := fun id c ⟨ob, ho, hbl, hρ⟩ => by
  rcases View.obj_cases ho with ⟨h1, h2⟩ | ⟨rfl, rfl⟩
  ·exact h.news id c ⟨ob, h1, hbl, h2 ▸ hρ⟩
  ·have := (View.obj_last G b ob).2
   rw [this] at hρ
   subst hρ
   exact .inr (hb hbl)
 inew := h.inew
theorem Ext.obj_self (G : View) {b : Nat} {o : AO} (hb : o.blocked → G.w.heap.size ≤ b) : Ext G (G.obj b o) := (Ext.refl G).obj hb
theorem RepC.obj {G : View} {b : Nat} {o : AO} {x : AC} {v : Value} (h : RepC G x v) : RepC (G.obj b o) x v := by
 cases x with
 | p x => exact h
 | ptr id off =>
  obtain ⟨rfl, cs, ho⟩ := h
  obtain ⟨h1, h2⟩ := View.obj_get (b := b) (o := o) ho
  exact ⟨by rw [h2], cs, h1⟩
 | pp e z k => exact h
 | own id e zs =>
  obtain ⟨hz, t, n, z, ho, hle, ht⟩ := h
  obtain ⟨h1, h2⟩ := View.obj_get (b := b) (o := o) ho
  refine ⟨hz, t, n, z, h1, hle, fun he => ?_⟩
  rcases ht he with h3 | ⟨hb, cap, cur, rfl, hh, h4⟩
  ·exact .inl h3
  ·exact .inr ⟨hb, cap, cur, by rw [h2], by rw [h2]; exact hh, h4⟩
 | clo bo f caps =>
  obtain ⟨rfl, ho⟩ := h
  refine ⟨?_, fun id hid => ?_⟩
  ·congr 1
   apply List.map_congr_left
   intro id hid
   obtain ⟨cs, hcs⟩ := ho id hid
   rw [(View.obj_get (b := b) (o := o) hcs).2]
  ·obtain ⟨cs, hcs⟩ := ho id hid
   exact ⟨cs, (View.obj_get (b := b) (o := o) hcs).1⟩
 | sl id e ver len =>
  obtain ⟨h1, ho | ⟨t, zs, ver', ho, hle, hv⟩⟩ := h
  ·exact ⟨h1, .inl (View.obj_get (b := b) (o := o) ho).1⟩
  ·obtain ⟨h2, h3⟩ := View.obj_get (b := b) (o := o) ho
   refine ⟨h1, .inr ⟨t, zs, ver', h2, hle, fun he => ⟨(hv he).1, ?_⟩⟩⟩
   rcases (hv he).2 with h4 | ⟨h4, cap, cur, h5, h6⟩
   ·exact .inl h4
   ·exact .inr ⟨h4, cap, cur, by rw [h3]; exact h5, by rw [h3]; exact h6⟩
 | ep id e ver i k =>
  obtain ⟨h1, ho | ⟨t, zs, ver', ho, hle, hv⟩⟩ := h
  ·exact ⟨h1, .inl (View.obj_get (b := b) (o := o) ho).1⟩
  ·obtain ⟨h2, h3⟩ := View.obj_get (b := b) (o := o) ho
   exact ⟨h1, .inr ⟨t, zs, ver', h2, hle, fun he => by rw [h3]; exact hv he⟩⟩
 | mp id =>
  obtain ⟨h1, ho | ⟨k, t, es, ho, hv⟩⟩ := h
  ·exact ⟨h1, .inl (View.obj_get (b := b) (o := o) ho).1⟩
  ·obtain ⟨h2, h3⟩ := View.obj_get (b := b) (o := o) ho
   exact ⟨h1, .inr ⟨k, t, es, h2, by rw [h3]; exact hv⟩⟩
 | any => exact h
 | may x => exact h
 | fl e zs => exact h
 | nl c z k => exact h
 | vs id len =>
  obtain ⟨h1, ho | ⟨t, e, zs, i, k, x, ho, hle, cap, hv, hc⟩⟩ := h
  ·exact ⟨h1, .inl (View.obj_get (b := b) (o := o) ho).1⟩
  ·obtain ⟨h2, h3⟩ := View.obj_get (b := b) (o := o) ho
   exact ⟨h1, .inr ⟨t, e, zs, i, k, x, h2, hle, cap, by rw [h3]; exact hv, hc⟩⟩
 | ve id j l =>
  obtain ⟨h1, ho | ⟨t, e, zs, i, k, x, ho, hle, hv⟩⟩ := h
  ·exact ⟨h1, .inl (View.obj_get (b := b) (o := o) ho).1⟩
  ·obtain ⟨h2, h3⟩ := View.obj_get (b := b) (o := o) ho
   exact ⟨h1, .inr ⟨t, e, zs, i, k, x, h2, hle, by rw [h3]; exact hv⟩⟩
 | gs id ver len =>
  obtain ⟨h1, ho | ⟨t, e, zs, i, k, x, ver', ho, hle, hv⟩⟩ := h
  ·exact ⟨h1, .inl (View.obj_get (b := b) (o := o) ho).1⟩
  ·obtain ⟨h2, h3⟩ := View.obj_get (b := b) (o := o) ho
   exact ⟨h1, .inr ⟨t, e, zs, i, k, x, ver', h2, hle, fun he => by rw [h3]; exact hv he⟩⟩
 | ge id ver j l =>
  obtain ⟨h1, ho | ⟨t, e, zs, i, k, x, ver', ho, hle, hv⟩⟩ := h
  ·exact ⟨h1, .inl (View.obj_get (b := b) (o := o) ho).1⟩
  ·obtain ⟨h2, h3⟩ := View.obj_get (b := b) (o := o) ho
   exact ⟨h1, .inr ⟨t, e, zs, i, k, x, ver', h2, hle, fun he => by rw [h3]; exact hv he⟩⟩
theorem ObjOk.obj {G : View} {b : Nat} {o ob : AO} {id : Nat} (h : ObjOk G id ob) (h2 : (G.obj b o).ρ id = G.ρ id) : ObjOk (G.obj b o) id ob := by
 cases ob with
 | row cells =>
  obtain ⟨cs, T, hh, hn, hc⟩ := h
  exact ⟨cs, T, by rw [h2]; exact hh, by rw [h2]; exact hn, hc.mono fun _ _ => RepC.obj⟩
 | tok t e n z =>
  obtain ⟨cur, hh, hle, hn⟩ := h
  exact ⟨cur, by rw [h2]; exact hh, hle, by rw [h2]; exact hn⟩
 | arr t e zs ver =>
  obtain ⟨vs, rest, hh, hn, hr⟩ := h
  exact ⟨vs, rest, by rw [h2]; exact hh, by rw [h2]; exact hn, hr⟩
 | map k v es =>
  obtain ⟨ens, clock, hh, hn, hr⟩ := h
  exact ⟨ens, clock, by rw [h2]; exact hh, by rw [h2]; exact hn, hr⟩
 | dead => trivial
 | vec t e zs i k x =>
  obtain ⟨vs, rest, v, hh, hn, h3, h4, h6, h7⟩ := h
  exact ⟨vs, rest, v, by rw [h2]; exact hh, by rw [h2]; exact hn, h3, h4, RepC.obj h6, h7⟩
 | gvec t e zs i k x ver =>
  obtain ⟨vs, rest, v, hh, hn, h3, h4, h6, h7⟩ := h
  exact ⟨vs, rest, v, by rw [h2]; exact hh, by rw [h2]; exact hn, h3, h4, RepC.obj h6, h7⟩
theorem Sim.obj {G : View} (hS : Sim G) {b : Nat} {o : AO} (hfree : ∀ id, ¬ G.holds id b) (hok : o.blocked → ObjOk (G.obj b o) G.H.length o) : Sim (G.obj b o) where
 vars := hS.vars
 objs := fun id ob ho hb => by
  rcases View.obj_cases ho with ⟨h1, h2⟩ | ⟨rfl, rfl⟩
  ·exact (hS.objs id ob h1 hb).obj h2
  ·exact hok hb
 inj := fun i j c ⟨oi, hi, hbi, hρi⟩ ⟨oj, hj, hbj, hρj⟩ => by
  rcases View.obj_cases hi with ⟨h1, h2⟩ | ⟨rfl, rfl⟩ <;> rcases View.obj_cases hj with ⟨h3, h4⟩ | ⟨rfl, rfl⟩
  ·exact hS.inj i j c ⟨oi, h1, hbi, h2 ▸ hρi⟩ ⟨oj, h3, hbj, h4 ▸ hρj⟩
  ·rw [(View.obj_last G b oj).2] at hρj
   subst hρj
   exact (hfree i ⟨oi, h1, hbi, h2 ▸ hρi⟩).elim
  ·rw [(View.obj_last G b oi).2] at hρi
   subst hρi
   exact (hfree j ⟨oj, h3, hbj, h4 ▸ hρj⟩).elim
  ·rfl
 ilt := hS.ilt
def View.setRow (G : View) (id : Nat) (cells : List AC) (cs : Array Value) : View :=
 { G with H := G.H.set id (.row cells), w := G.w.setRow (G.ρ id) cs }
theorem View.setRow_get {G : View} {id : Nat} {cells old : List AC} {cs : Array Value} (ho : G.H[id]? = some (.row old)) (i : Nat) :
  (G.setRow id cells cs).H[i]? = if i = id then some (.row cells) else G.H[i]? := by
 have hlt : id < G.H.length := (List.getElem?_eq_some_iff.1 ho).1
 show (G.H.set id (.row cells))[i]? = _
 rw [List.getElem?_set]
 by_cases h : id = i
 ·subst h; simp [hlt]
 ·simp [h, Ne.symm h]
theorem Ext.setRow {G : View} (hS : Sim G) {id : Nat} {cells old : List AC} {cs : Array Value} (ho : G.H[id]? = some (.row old)) (hl : cells.length = old.length) : Ext G (G.setRow id cells cs) where
 stays := ⟨fun _ _ h => h, fun b x h => at_of_block (setRow_other _ _ _ _ (fun e => by
  obtain ⟨_, _, _, hn, _⟩ := hS.objs id _ ho trivial
  subst e
  exact hn x h)) x, fun b x es c h hm => (setRow_other _ _ _ _ (fun e => by
  obtain ⟨_, _, _, hn, _⟩ := hS.objs id _ ho trivial
  subst e
  exact hn x h)).trans hm⟩
 size := by simp [View.setRow]
 os := rfl
 tape := rfl
 output := rfl
 objs := fun i o hi => by
  rw [View.setRow_get ho]
  by_cases h : i = id
  ·subst h
   rw [ho] at hi
   cases hi
   exact ⟨.row cells, by simp, rfl, hl⟩
  ·exact ⟨o, by simp [h, hi], AO.next_keep o fun hb => ⟨rfl, setRow_other _ _ _ _ fun e => h (hS.inj i id _ ⟨_, hi, hb, rfl⟩ (e ▸ View.holds_of_row ho))⟩⟩
 frame := fun b hb hno => setRow_other _ _ _ _ fun e => hno id (e ▸ View.holds_of_row ho)
 news := fun i b ⟨o, hi, hbl, hρ⟩ => by
  rw [View.setRow_get ho] at hi
  by_cases h : i = id
  ·subst h
   simp at hi
   exact .inl ⟨_, ho, trivial, hρ⟩
  ·simp [h] at hi
   exact .inl ⟨o, hi, hbl, hρ⟩
 inew := fun _ _ h => .inl h
theorem Sim.setRow {G : View} (hS : Sim G) {id : Nat} {cells old : List AC} {cs : Array Value} (ho : G.H[id]? = some (.row old)) (hl : cells.length = old.length)
  (hr : All2 (RepC G) cells cs.toList) : Sim (G.setRow id cells cs) where
 vars := fun v hv => (hS.vars v hv).mono (Ext.setRow hS ho hl).stays
 objs := fun i o hi hb => by
  have he : Ext G (G.setRow id cells cs) := Ext.setRow hS ho hl
  rw [View.setRow_get ho] at hi
  obtain ⟨cs0, T, hh, hn, _⟩ := hS.objs id _ ho trivial
  by_cases h : i = id
  ·subst h
   simp at hi
   subst hi
   exact ⟨cs, T, setRow_heap _ _ _ _ _ _ hh, hn, hr.mono fun _ _ => RepC.mono he⟩
  ·simp [h] at hi
   refine (hS.objs i o hi hb).mono he rfl (setRow_other _ _ _ _ fun e => ?_) fun _ h => h
   exact h (hS.inj i id _ ⟨o, hi, hb, rfl⟩ (e ▸ View.holds_of_row ho))
 inj := fun i j b ⟨oi, hi, hbi, hρi⟩ ⟨oj, hj, hbj, hρj⟩ => by
  rw [View.setRow_get ho] at hi hj
  have key : ∀ (k : Nat) (ok : AO), (if k = id then some (AO.row cells) else G.H[k]?) = some ok → ok.blocked → G.ρ k = b → G.holds k b := by
   intro k ok hk hbk hρ
   by_cases h : k = id
   ·subst h; exact ⟨_, ho, trivial, hρ⟩
   ·simp [h] at hk; exact ⟨ok, hk, hbk, hρ⟩
  exact hS.inj i j b (key i oi hi hbi hρi) (key j oj hj hbj hρj)
 ilt := fun b x h => by
  have := hS.ilt b x h
  simpa [View.setRow] using this
def View.grow (G : View) (id b : Nat) (t : TypeId) (e : CT) (n : Nat) (z : Bool) (w' : World) : View :=
 { ρ := fun i => if i = id then b else G.ρ i, I := fun c x => G.I c x ∨ (c = b ∧ x < n * e.width), H := G.H.set id (.tok t e n z), w := w' }
theorem View.grow_get {G : View} {id b : Nat} {t : TypeId} {e : CT} {n n' : Nat} {z : Bool} {w' : World} (ho : G.H[id]? = some (.tok t e n z)) (i : Nat) :
  (G.grow id b t e n' z w').H[i]? = if i = id then some (.tok t e n' z) else G.H[i]? := by
 have hlt : id < G.H.length := (List.getElem?_eq_some_iff.1 ho).1
 show (G.H.set id _)[i]? = _
 rw [List.getElem?_set]
 by_cases h : id = i
 ·subst h; simp [hlt]
 ·simp [h, Ne.symm h]
structure Grown (G : View) (id b : Nat) (t : TypeId) (e : CT) (n n' : Nat) (z : Bool) (w' : World) : Prop where
 ho : G.H[id]? = some (.tok t e n z)
 hn : n < n'
 size : G.w.heap.size ≤ w'.heap.size
 os : w'.os = G.w.os
 tape : w'.tape = G.w.tape
 output : w'.output = G.w.output
 rest : ∀ c, c < G.w.heap.size → c ≠ b → w'.heap[c]? = G.w.heap[c]?
 hb : G.w.heap.size ≤ b ∨ G.holds id b
 blt : b < w'.heap.size
 old : ∀ x, G.I b x → w'.at' b x = G.w.at' b x
 now : ∃ cur, w'.heap[b]? = some (.cells cur t (0, 0)) ∧ n' * e.width ≤ cur.size
theorem Grown.free {G : View} {id b : Nat} {t e n n' z w'} (hS : Sim G) (g : Grown G id b t e n n' z w') {i c : Nat} (hi : i ≠ id) (hh : G.holds i c) : c ≠ b := by
 intro e'
 subst e'
 rcases g.hb with h | h
 ·exact absurd (hS.lt hh) (by omega)
 ·exact hi (hS.inj _ _ _ hh h)
theorem Ext.grow {G : View} (hS : Sim G) {id b t e n n' z w'} (g : Grown G id b t e n n' z w') : Ext G (G.grow id b t e n' z w') where
 stays := ⟨fun _ _ h => .inl h, fun c x h => by
  by_cases hc : c = b
  ·subst hc; exact g.old x h
  ·exact at_of_block (g.rest c (hS.ilt c x h) hc) x, fun c x es cl h hm => by
  by_cases hc : c = b
  ·subst hc
   rcases g.hb with h' | ⟨o, h1, h2, h3⟩
   ·exact absurd (hS.ilt c x h) (Nat.not_lt.2 h')
   ·rw [g.ho] at h1
    cases h1
    obtain ⟨cur, h4, _⟩ := hS.objs id _ g.ho h2
    rw [h3, hm] at h4
    cases h4
  ·exact (g.rest c (hS.ilt c x h) hc).trans hm⟩
 size := g.size
 os := g.os
 tape := g.tape
 output := g.output
 objs := fun i o hi => by
  rw [View.grow_get g.ho]
  by_cases h : i = id
  ·subst h
   rw [g.ho] at hi
   cases hi
   exact ⟨.tok t e n' z, by simp, rfl, rfl, rfl, Nat.le_of_lt g.hn, fun he => absurd he (by have := g.hn; omega)⟩
  ·refine ⟨o, by simp [h, hi], ?_⟩
   have hρ : (G.grow id b t e n' z w').ρ i = G.ρ i := by show (if i = id then b else G.ρ i) = _; rw [if_neg h]
   refine AO.next_keep o fun hb => ⟨hρ, ?_⟩
   have hh : G.holds i (G.ρ i) := ⟨_, hi, hb, rfl⟩
   exact g.rest _ (hS.lt hh) (g.free hS h hh)
 frame := fun c hc hno => g.rest c hc fun e' => by
  subst e'
  rcases g.hb with h | h
  ·omega
  ·exact hno _ h
 news := fun i c ⟨o, hi, hbl, hρ⟩ => by
  rw [View.grow_get g.ho] at hi
  by_cases h : i = id
  ·subst h
   have hρ' : b = c := by
    have : (if i = i then b else G.ρ i) = c := hρ
    simpa using this
   subst hρ'
   rcases g.hb with h | h
   ·exact .inr h
   ·exact .inl h
  ·simp [h] at hi
   have hρ' : G.ρ i = c := by
    have : (if i = id then b else G.ρ i) = c := hρ
    simpa [h] using this
   exact .inl ⟨o, hi, hbl, hρ'⟩
 inew := fun c x h => by
  rcases h with h | ⟨rfl, _⟩
  ·exact .inl h
  ·rcases g.hb with h | h
   ·exact .inr (.inl h)
   ·exact .inr (.inr ⟨_, h⟩)
theorem Sim.grow {G : View} (hS : Sim G) {id b t e n n' z w'} (g : Grown G id b t e n n' z w') : Sim (G.grow id b t e n' z w') where
 vars := fun v hv => (hS.vars v hv).mono (Ext.grow hS g).stays
 objs := fun i o hi hb => by
  have he := Ext.grow hS g
  rw [View.grow_get g.ho] at hi
  by_cases h : i = id
  ·subst h
   simp at hi
   subst hi
   have hρ : (G.grow i b t e n' z w').ρ i = b := by show (if i = i then b else G.ρ i) = _; simp
   obtain ⟨cur, hc, hle⟩ := g.now
   refine ⟨cur, by rw [hρ]; exact hc, hle, fun x hx hI => ?_⟩
   rw [hρ] at hI
   rcases hI with hI | ⟨_, hI⟩
   ·rcases g.hb with h | h
    ·exact absurd (hS.ilt b x hI) (by omega)
    ·obtain ⟨o', ho', hbl', hρ'⟩ := h
     rw [g.ho] at ho'
     cases ho'
     obtain ⟨_, _, _, hno⟩ := hS.objs i _ g.ho hbl'
     refine hno x ?_ (hρ' ▸ hI)
     exact Nat.le_trans (Nat.mul_le_mul_right _ (Nat.le_of_lt g.hn)) hx
   ·omega
  ·simp [h] at hi
   have hρ : (G.grow id b t e n' z w').ρ i = G.ρ i := by show (if i = id then b else G.ρ i) = _; rw [if_neg h]
   have hh : G.holds i (G.ρ i) := ⟨_, hi, hb, rfl⟩
   refine (hS.objs i o hi hb).mono he hρ (g.rest _ (hS.lt hh) (g.free hS h hh)) fun x hx => ?_
   rcases hx with hx | ⟨hx, _⟩
   ·exact hx
   ·exact absurd hx (g.free hS h hh)
 inj := fun i j c ⟨oi, hi, hbi, hρi⟩ ⟨oj, hj, hbj, hρj⟩ => by
  rw [View.grow_get g.ho] at hi hj
  by_cases h : i = id <;> by_cases h' : j = id
  ·rw [h, h']
  ·subst h
   simp [h'] at hj
   have e1 : b = c := by have : (if i = i then b else G.ρ i) = c := hρi; simpa using this
   have e2 : G.ρ j = c := by have : (if j = i then b else G.ρ j) = c := hρj; simpa [h'] using this
   exact absurd e1.symm (g.free hS h' ⟨oj, hj, hbj, e2⟩)
  ·subst h'
   simp [h] at hi
   have e1 : b = c := by have : (if j = j then b else G.ρ j) = c := hρj; simpa using this
   have e2 : G.ρ i = c := by have : (if i = j then b else G.ρ i) = c := hρi; simpa [h] using this
   exact absurd e1.symm (g.free hS h ⟨oi, hi, hbi, e2⟩)
  ·simp [h] at hi
   simp [h'] at hj
   have e1 : G.ρ i = c := by have : (if i = id then b else G.ρ i) = c := hρi; simpa [h] using this
   have e2 : G.ρ j = c := by have : (if j = id then b else G.ρ j) = c := hρj; simpa [h'] using this
   exact hS.inj i j c ⟨oi, hi, hbi, e1⟩ ⟨oj, hj, hbj, e2⟩
 ilt := fun c x h => by
  rcases h with h | ⟨rfl, _⟩
  ·exact Nat.lt_of_lt_of_le (hS.ilt c x h) g.size
  ·exact g.blt
def View.upd (G : View) (id b : Nat) (o : AO) (J : Nat → Prop) (w' : World) : View :=
 { ρ := fun i => if i = id then b else G.ρ i, I := fun c x => G.I c x ∨ (c = b ∧ J x), H := G.H.set id o, w := w' }
structure Upd (G : View) (id b : Nat) (o o' : AO) (J : Nat → Prop) (w' : World) : Prop where
 ho : G.H[id]? = some o
 hnx : o.next G (G.upd id b o' J w') id o'
 size : G.w.heap.size ≤ w'.heap.size
 os : w'.os = G.w.os
 tape : w'.tape = G.w.tape
 output : w'.output = G.w.output
 rest : ∀ c, c < G.w.heap.size → c ≠ b → w'.heap[c]? = G.w.heap[c]?
 hb : G.w.heap.size ≤ b ∨ G.holds id b
 blt : b < w'.heap.size
 old : ∀ x, ¬ G.I b x
section
variable {G : View} {id b : Nat} {o o' : AO} {J : Nat → Prop} {w' : World}
theorem View.upd_get (ho : G.H[id]? = some o) (i : Nat) : (G.upd id b o' J w').H[i]? = if i = id then some o' else G.H[i]? := by
 have hlt : id < G.H.length := (List.getElem?_eq_some_iff.1 ho).1
 show (G.H.set id _)[i]? = _
 rw [List.getElem?_set]
 by_cases h : id = i
 ·subst h; simp [hlt]
 ·simp [h, Ne.symm h]
theorem View.upd_ρ (i : Nat) : (G.upd id b o' J w').ρ i = if i = id then b else G.ρ i := rfl
theorem Upd.free (hS : Sim G) (g : Upd G id b o o' J w') {i c : Nat} (hi : i ≠ id) (hh : G.holds i c) : c ≠ b := by
 intro e'
 subst e'
 rcases g.hb with h | h
 ·exact absurd (hS.lt hh) (by omega)
 ·exact hi (hS.inj _ _ _ hh h)
theorem Ext.upd (hS : Sim G) (g : Upd G id b o o' J w') : Ext G (G.upd id b o' J w') where
 stays := ⟨fun _ _ h => .inl h, fun c x h => by
  by_cases hc : c = b
  ·subst hc; exact absurd h (g.old x)
  ·exact at_of_block (g.rest c (hS.ilt c x h) hc) x, fun c x es cl h hm => by
  by_cases hc : c = b
  ·subst hc; exact absurd h (g.old x)
  ·exact (g.rest c (hS.ilt c x h) hc).trans hm⟩
 size := g.size
 os := g.os
 tape := g.tape
 output := g.output
 objs := fun i oi hi => by
  rw [View.upd_get g.ho]
  by_cases h : i = id
  ·subst h
   rw [g.ho] at hi
   cases hi
   exact ⟨o', by simp, g.hnx⟩
  ·refine ⟨oi, by simp [h, hi], AO.next_keep oi fun hb => ⟨by rw [View.upd_ρ, if_neg h], ?_⟩⟩
   have hh : G.holds i (G.ρ i) := ⟨_, hi, hb, rfl⟩
   exact g.rest _ (hS.lt hh) (g.free hS h hh)
 frame := fun c hc hno => g.rest c hc fun e' => by
  subst e'
  rcases g.hb with h | h
  ·omega
  ·exact hno _ h
 news := fun i c ⟨oi, hi, hbl, hρ⟩ => by
  rw [View.upd_get g.ho] at hi
  rw [View.upd_ρ] at hρ
  by_cases h : i = id
  ·subst h
   simp only [if_true] at hρ
   subst hρ
   rcases g.hb with h | h
   ·exact .inr h
   ·exact .inl h
  ·simp only [h, if_false] at hi hρ
   exact .inl ⟨oi, hi, hbl, hρ⟩
 inew := fun c x h => by
  rcases h with h | ⟨rfl, _⟩
  ·exact .inl h
  ·rcases g.hb with h | h
   ·exact .inr (.inl h)
   ·exact .inr (.inr ⟨_, h⟩)
theorem Sim.upd (hS : Sim G) (g : Upd G id b o o' J w') (hok : o'.blocked → ObjOk (G.upd id b o' J w') id o') : Sim (G.upd id b o' J w') where
 vars := fun v hv => (hS.vars v hv).mono (Ext.upd hS g).stays
 objs := fun i oi hi hb => by
  have he := Ext.upd hS g
  rw [View.upd_get g.ho] at hi
  by_cases h : i = id
  ·subst h
   simp at hi
   subst hi
   exact hok hb
  ·simp [h] at hi
   have hρ : (G.upd id b o' J w').ρ i = G.ρ i := by rw [View.upd_ρ, if_neg h]
   have hh : G.holds i (G.ρ i) := ⟨_, hi, hb, rfl⟩
   refine (hS.objs i oi hi hb).mono he hρ (g.rest _ (hS.lt hh) (g.free hS h hh)) fun x hx => ?_
   rcases hx with hx | ⟨hx, _⟩
   ·exact hx
   ·exact absurd hx (g.free hS h hh)
 inj := fun i j c ⟨oi, hi, hbi, hρi⟩ ⟨oj, hj, hbj, hρj⟩ => by
  rw [View.upd_get g.ho] at hi hj
  rw [View.upd_ρ] at hρi hρj
  by_cases h : i = id <;> by_cases h' : j = id
  ·rw [h, h']
  ·subst h
   simp only [h', if_false, if_true] at hj hρi hρj
   exact absurd hρi.symm (g.free hS h' ⟨oj, hj, hbj, hρj⟩)
  ·subst h'
   simp only [h, if_false, if_true] at hi hρi hρj
   exact absurd hρj.symm (g.free hS h ⟨oi, hi, hbi, hρi⟩)
  ·simp only [h, h', if_false] at hi hj hρi hρj
   exact hS.inj i j c ⟨oi, hi, hbi, hρi⟩ ⟨oj, hj, hbj, hρj⟩
 ilt := fun c x h => by
  rcases h with h | ⟨rfl, _⟩
  ·exact Nat.lt_of_lt_of_le (hS.ilt c x h) g.size
  ·exact g.blt
end
end Go.Ab
