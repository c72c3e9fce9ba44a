/- The abstract machine: what a call is handed of the caller's objects, and what it gives back. -/
import Derived.Test.YtnlifjljmbfomaaGreatTI3htoI4
namespace Go.Ab
set_option linter.unusedSectionVars false
variable [Base]
set_option linter.unusedSectionVars false
def idx : List Nat → Nat → Option Nat
 | [], _ => none
 | x :: r, y => match Nat.beq x y with | true => some 0 | false => match idx r y with | some k => some (k + 1) | none => none
def idxs (L : List Nat) : List Nat → Option (List Nat)
 | [] => some []
 | x :: r => match idx L x, idxs L r with | some k, some ks => some (k :: ks) | _, _ => none
def renC (L : List Nat) : AC → Option AC
 | .p x => some (.p x)
 | .pp e z k => some (.pp e z k)
 | .ptr id off => match idx L id with | some k => some (.ptr k off) | none => none
 | .own id e zs => match idx L id with | some k => some (.own k e zs) | none => some (.p (.l e zs))
 | .clo b f caps => match idxs L caps with | some ks => some (.clo b f ks) | none => none
 | .sl id e ver len => match idx L id with | some k => some (.sl k e ver len) | none => some .any
 | .ep id e ver i j => match idx L id with | some k => some (.ep k e ver i j) | none => some .any
 | .mp id => match idx L id with | some k => some (.mp k) | none => some .any
 | .any => some .any
 | .may x => some (.may x)
 | .fl e zs => some (.fl e zs)
 | .nl c z k => some (.nl c z k)
 | .vs id len => match idx L id with | some k => some (.vs k len) | none => some .any
 | .ve id i j => match idx L id with | some k => some (.ve k i j) | none => some .any
 | .gs id v n => match idx L id with | some k => some (.gs k v n) | none => some .any
 | .ge id v i j => match idx L id with | some k => some (.ge k v i j) | none => some .any
def renCs (L : List Nat) : List AC → Option (List AC)
 | [] => some []
 | x :: r => match renC L x, renCs L r with | some y, some ys => some (y :: ys) | _, _ => none
def renA (L : List Nat) : AV → Option AV
 | .c x => match renC L x with | some y => some (.c y) | none => none
 | .agg l => match renCs L l with | some ys => some (.agg ys) | none => none
def renAs (L : List Nat) : List AV → Option (List AV)
 | [] => some []
 | x :: r => match renA L x, renAs L r with | some y, some ys => some (y :: ys) | _, _ => none
def renS (L : List Nat) : SV → Option SV
 | .none => some .none
 | .a x => match renA L x with | some y => some (.a y) | none => none
 | .tup l => match renAs L l with | some y => some (.tup y) | none => none
def renO (L : List Nat) : AO → Option AO
 | .row cs => match renCs L cs with | some ys => some (.row ys) | none => none
 | .tok t e n z => some (.tok t e n z)
 | .arr t e zs ver => some (.arr t e zs ver)
 | .map k v es => some (.map k v es)
 | .dead => some .dead
 | .vec t e zs i k x => match renC L x with | some y => some (.vec t e zs i k y) | none => none
 | .gvec t e zs i k x v => match renC L x with | some y => some (.gvec t e zs i k y v) | none => none
def subH (L : List Nat) (H : List AO) : List Nat → Option (List AO)
 | [] => some []
 | id :: r => match H[id]? with
  | some o => match renO L o, subH L H r with | some y, some ys => some (y :: ys) | _, _ => none
  | none => none
def unC (u : Nat → Nat) : AC → AC
 | .p x => .p x
 | .pp e z k => .pp e z k
 | .ptr id off => .ptr (u id) off
 | .own id e zs => .own (u id) e zs
 | .clo b f caps => .clo b f (caps.map u)
 | .sl id e ver len => .sl (u id) e ver len
 | .ep id e ver i j => .ep (u id) e ver i j
 | .mp id => .mp (u id)
 | .any => .any
 | .may x => .may x
 | .fl e zs => .fl e zs
 | .nl c z k => .nl c z k
 | .vs id len => .vs (u id) len
 | .ve id i j => .ve (u id) i j
 | .gs id v n => .gs (u id) v n
 | .ge id v i j => .ge (u id) v i j
def unV (u : Nat → Nat) : AV → AV
 | .c x => .c (unC u x)
 | .agg l => .agg (l.map (unC u))
def unS (u : Nat → Nat) : SV → SV
 | .none => .none
 | .a x => .a (unV u x)
 | .tup l => .tup (l.map (unV u))
def unO (u : Nat → Nat) : AO → AO
 | .row cs => .row (cs.map (unC u))
 | .tok t e n z => .tok t e n z
 | .arr t e zs ver => .arr t e zs ver
 | .map k v es => .map k v es
 | .dead => .dead
 | .vec t e zs i k x => .vec t e zs i k (unC u x)
 | .gvec t e zs i k x v => .gvec t e zs i k (unC u x) v
def back (L : List Nat) (n : Nat) (k : Nat) : Nat := match L[k]? with | some id => id | none => n + (k - L.length)
def putAll (u : Nat → Nat) : List Nat → List AO → List AO → List AO
 | id :: L, o :: r, H => putAll u L r (H.set id (unO u o))
 | _, r, H => H ++ r.map (unO u)
def nodup : List Nat → Bool
 | [] => true
 | x :: r => match idx r x with | none => nodup r | some _ => false
theorem idx_some : ∀ {L : List Nat} {x k : Nat}, idx L x = some k → L[k]? = some x := by
 intro L
 induction L with
 | nil => intro x k h; simp [idx] at h
 | cons a L ih =>
  intro x k h
  simp only [idx] at h
  split at h
  ·rename_i he
   cases h
   have : a = x := by simpa using he
   simp [this]
  ·split at h
   ·rename_i k' hk
    cases h
    simpa using ih hk
   ·cases h
theorem idx_none : ∀ {L : List Nat} {x : Nat}, idx L x = none → ∀ k : Nat, L[k]? ≠ some x := by
 intro L
 induction L with
 | nil => intro x h k; simp
 | cons a L ih =>
  intro x h k
  simp only [idx] at h
  split at h
  ·cases h
  ·rename_i he
   split at h
   ·cases h
   ·rename_i hn
    cases k with
    | zero =>
     simp
     intro e
     subst e
     simp at he
    | succ k => simpa using ih hn k
theorem nodup_inj : ∀ {L : List Nat}, nodup L = true → ∀ {i j x : Nat}, L[i]? = some x → L[j]? = some x → i = j := by
 intro L
 induction L with
 | nil => intro _ i j x h; simp at h
 | cons a L ih =>
  intro h i j x hi hj
  simp only [nodup] at h
  split at h
  ·rename_i hn
   cases i with
   | zero =>
    cases j with
    | zero => rfl
    | succ j =>
     simp at hi hj
     subst hi
     exact absurd hj (idx_none hn j)
   | succ i =>
    cases j with
    | zero =>
     simp at hi hj
     subst hj
     exact absurd hi (idx_none hn i)
    | succ j =>
     simp at hi hj
     rw [ih h hi hj]
  ·cases h
theorem subH_get {L : List Nat} {H : List AO} : ∀ {R : List Nat} {Hs : List AO}, subH L H R = some Hs → Hs.length = R.length ∧ ∀ (k : Nat) (o : AO), Hs[k]? = some o → ∃ (id : Nat) (o' : AO), R[k]? = some id ∧ H[id]? = some o' ∧ renO L o' = some o := by
 intro R
 induction R with
 | nil => intro Hs h; simp only [subH] at h; cases h; exact ⟨rfl, fun k o h => by simp at h⟩
 | cons id R ih =>
  intro Hs h
  simp only [subH] at h
  split at h
  ·rename_i o ho
   split at h
   ·rename_i y ys hy hys
    cases h
    obtain ⟨h1, h2⟩ := ih hys
    refine ⟨by simp [h1], fun k o' hk => ?_⟩
    cases k with
    | zero => simp at hk; subst hk; exact ⟨id, o, rfl, ho, hy⟩
    | succ k => simp at hk; simpa using h2 k o' hk
   ·cases h
  ·cases h
def View.sub (G : View) (L : List Nat) (Hs : List AO) : View := { ρ := fun k => match L[k]? with | some id => G.ρ id | none => 0, I := G.I, H := Hs, w := G.w }
section
variable {G : View} {L : List Nat} {Hs : List AO} (hsub : subH L G.H L = some Hs)
include hsub
theorem sub_obj {id k : Nat} {o : AO} (ho : G.H[id]? = some o) (hk : L[k]? = some id) : ∃ o', Hs[k]? = some o' ∧ renO L o = some o' ∧ (G.sub L Hs).ρ k = G.ρ id := by
 obtain ⟨hl, hg⟩ := subH_get hsub
 have hlt : k < Hs.length := by rw [hl]; exact (List.getElem?_eq_some_iff.1 hk).1
 obtain ⟨id', o', h1, h2, h3⟩ := hg k _ (List.getElem?_eq_getElem hlt)
 rw [hk] at h1
 cases h1
 rw [ho] at h2
 cases h2
 refine ⟨_, List.getElem?_eq_getElem hlt, h3, ?_⟩
 show (match L[k]? with | some id => G.ρ id | none => 0) = G.ρ id
 rw [hk]
theorem sub_row {id k : Nat} {cs : List AC} (ho : G.H[id]? = some (.row cs)) (hk : L[k]? = some id) : (∃ cs', Hs[k]? = some (.row cs')) ∧ (G.sub L Hs).ρ k = G.ρ id := by
 obtain ⟨o', h1, h2, h3⟩ := sub_obj hsub ho hk
 refine ⟨?_, h3⟩
 simp only [renO] at h2
 split at h2
 ·rename_i ys _; cases h2; exact ⟨ys, h1⟩
 ·cases h2
theorem ren_rep {x y : AC} (h : renC L x = some y) {v : Value} (hr : RepC G x v) : RepC (G.sub L Hs) y v := by
 cases x with
 | p x => cases h; exact hr
 | pp e z k => cases h; exact hr
 | ptr id off =>
  simp only [renC] at h
  split at h
  ·rename_i k hk
   cases h
   obtain ⟨rfl, cs, ho⟩ := hr
   obtain ⟨h1, h2⟩ := sub_row hsub ho (idx_some hk)
   exact ⟨by rw [h2], h1⟩
  ·cases h
 | own id e zs =>
  simp only [renC] at h
  split at h
  ·rename_i k hk
   cases h
   obtain ⟨hz, t, n, z, ho, hle, ht⟩ := hr
   obtain ⟨o', h1, h2, h3⟩ := sub_obj hsub ho (idx_some hk)
   simp only [renO] at h2
   cases h2
   refine ⟨hz, t, n, z, h1, hle, fun he => ?_⟩
   rcases ht he with h4 | ⟨hb, cap, cur, rfl, hh, h5⟩
   ·exact .inl h4
   ·exact .inr ⟨hb, cap, cur, by rw [h3], by rw [h3]; exact hh, h5⟩
  ·cases h; exact hr.1
 | clo b f caps =>
  simp only [renC] at h
  split at h
  ·rename_i ks hks
   cases h
   obtain ⟨rfl, ho⟩ := hr
   have : ∀ (caps ks : List Nat), idxs L caps = some ks → (∀ id ∈ caps, ∃ cs, G.H[id]? = some (.row cs)) →
     ks.map (fun k => Value.pointer (some ⟨(G.sub L Hs).ρ k, 0, none⟩)) = caps.map (fun id => Value.pointer (some ⟨G.ρ id, 0, none⟩)) ∧ ∀ k ∈ ks, ∃ cs, Hs[k]? = some (.row cs) := by
    intro caps
    induction caps with
    | nil => intro ks h _; simp only [idxs] at h; cases h; exact ⟨rfl, fun k h => by simp at h⟩
    | cons c caps ih =>
     intro ks h ho
     simp only [idxs] at h
     split at h
     ·rename_i k ks' hk hks'
      cases h
      obtain ⟨h1, h2⟩ := ih ks' hks' fun id hid => ho id (by simp [hid])
      obtain ⟨cs, hcs⟩ := ho c (by simp)
      obtain ⟨h3, h4⟩ := sub_row hsub hcs (idx_some hk)
      refine ⟨by simp [h1, h4], fun k' hk' => ?_⟩
      rcases List.mem_cons.1 hk' with rfl | hk'
      ·exact h3
      ·exact h2 k' hk'
     ·cases h
   obtain ⟨h1, h2⟩ := this caps ks hks ho
   exact ⟨by rw [h1], h2⟩
  ·cases h
 | sl id e ver len =>
  simp only [renC] at h
  split at h
  ·rename_i k hk
   cases h
   obtain ⟨h0, hd | ⟨t, zs, ver', ho, hle, hv⟩⟩ := hr
   ·obtain ⟨o', h1, h2, _⟩ := sub_obj hsub hd (idx_some hk)
    cases h2
    exact ⟨h0, .inl h1⟩
   ·obtain ⟨o', h1, h2, h3⟩ := sub_obj hsub ho (idx_some hk)
    cases h2
    refine ⟨h0, .inr ⟨t, zs, ver', h1, hle, fun he => ⟨(hv he).1, ?_⟩⟩⟩
    rcases (hv he).2 with h4 | ⟨h4, cap, cur, h5, h6⟩
    ·exact .inl h4
    ·exact .inr ⟨h4, cap, cur, by rw [h3]; exact h5, by rw [h3]; exact h6⟩
  ·cases h; exact hr.1
 | ep id e ver i j =>
  simp only [renC] at h
  split at h
  ·rename_i k hk
   cases h
   obtain ⟨h0, hd | ⟨t, zs, ver', ho, hle, hv⟩⟩ := hr
   ·obtain ⟨o', h1, h2, _⟩ := sub_obj hsub hd (idx_some hk)
    cases h2
    exact ⟨h0, .inl h1⟩
   ·obtain ⟨o', h1, h2, h3⟩ := sub_obj hsub ho (idx_some hk)
    cases h2
    exact ⟨h0, .inr ⟨t, zs, ver', h1, hle, fun he => by rw [h3]; exact hv he⟩⟩
  ·cases h; exact hr.1
 | mp id =>
  simp only [renC] at h
  split at h
  ·rename_i k hk
   cases h
   obtain ⟨h0, hd | ⟨k', t, es, ho, hv⟩⟩ := hr
   ·obtain ⟨o', h1, h2, _⟩ := sub_obj hsub hd (idx_some hk)
    cases h2
    exact ⟨h0, .inl h1⟩
   ·obtain ⟨o', h1, h2, h3⟩ := sub_obj hsub ho (idx_some hk)
    cases h2
    exact ⟨h0, .inr ⟨k', t, es, h1, by rw [h3]; exact hv⟩⟩
  ·cases h; exact hr.1
 | any => cases h; exact hr
 | may x => cases h; exact hr
 | fl e zs => cases h; exact hr
 | nl c z k => cases h; exact hr
 | vs id len =>
  simp only [renC] at h
  split at h
  ·rename_i k hk
   cases h
   obtain ⟨h0, hd | ⟨t, e, zs, i, k', x, ho, hle, cap, hv, hc⟩⟩ := hr
   ·obtain ⟨o', h1, h2, _⟩ := sub_obj hsub hd (idx_some hk)
    cases h2
    exact ⟨h0, .inl h1⟩
   ·obtain ⟨o', h1, h2, h3⟩ := sub_obj hsub ho (idx_some hk)
    simp only [renO] at h2
    split at h2
    ·rename_i y hy
     cases h2
     exact ⟨h0, .inr ⟨t, e, zs, i, k', y, h1, hle, cap, by rw [h3]; exact hv, hc⟩⟩
    ·cases h2
  ·cases h; exact hr.1
 | ve id j l =>
  simp only [renC] at h
  split at h
  ·rename_i k hk
   cases h
   obtain ⟨h0, hd | ⟨t, e, zs, i, k', x, ho, hle, hv⟩⟩ := hr
   ·obtain ⟨o', h1, h2, _⟩ := sub_obj hsub hd (idx_some hk)
    cases h2
    exact ⟨h0, .inl h1⟩
   ·obtain ⟨o', h1, h2, h3⟩ := sub_obj hsub ho (idx_some hk)
    simp only [renO] at h2
    split at h2
    ·rename_i y hy
     cases h2
     exact ⟨h0, .inr ⟨t, e, zs, i, k', y, h1, hle, by rw [h3]; exact hv⟩⟩
    ·cases h2
  ·cases h; exact hr.1
 | gs id ver len =>
  simp only [renC] at h
  split at h
  ·rename_i k hk
   cases h
   obtain ⟨h0, hd | ⟨t, e, zs, i, k', x, ver', ho, hle, hv⟩⟩ := hr
   ·obtain ⟨o', h1, h2, _⟩ := sub_obj hsub hd (idx_some hk)
    cases h2
    exact ⟨h0, .inl h1⟩
   ·obtain ⟨o', h1, h2, h3⟩ := sub_obj hsub ho (idx_some hk)
    simp only [renO] at h2
    split at h2
    ·rename_i y hy
     cases h2
     exact ⟨h0, .inr ⟨t, e, zs, i, k', y, ver', h1, hle, fun he => by rw [h3]; exact hv he⟩⟩
    ·cases h2
  ·cases h; exact hr.1
 | ge id ver j l =>
  simp only [renC] at h
  split at h
  ·rename_i k hk
   cases h
   obtain ⟨h0, hd | ⟨t, e, zs, i, k', x, ver', ho, hle, hv⟩⟩ := hr
   ·obtain ⟨o', h1, h2, _⟩ := sub_obj hsub hd (idx_some hk)
    cases h2
    exact ⟨h0, .inl h1⟩
   ·obtain ⟨o', h1, h2, h3⟩ := sub_obj hsub ho (idx_some hk)
    simp only [renO] at h2
    split at h2
    ·rename_i y hy
     cases h2
     exact ⟨h0, .inr ⟨t, e, zs, i, k', y, ver', h1, hle, fun he => by rw [h3]; exact hv he⟩⟩
    ·cases h2
  ·cases h; exact hr.1
theorem rens_rep : ∀ {xs ys : List AC}, renCs L xs = some ys → ∀ {vs : List Value}, All2 (RepC G) xs vs → All2 (RepC (G.sub L Hs)) ys vs := by
 intro xs
 induction xs with
 | nil => intro ys h vs hv; simp only [renCs] at h; cases h; cases hv; exact .nil
 | cons x xs ih =>
  intro ys h vs hv
  simp only [renCs] at h
  split at h
  ·rename_i y ys' hy hys
   cases h
   cases hv with
   | cons h1 t => exact .cons (ren_rep hsub hy h1) (ih hys t)
  ·cases h
theorem renA_rep {x y : AV} (h : renA L x = some y) {v : Value} (hr : RepA G x v) : RepA (G.sub L Hs) y v := by
 cases x with
 | c x =>
  simp only [renA] at h
  split at h
  ·rename_i y hy; cases h; exact ren_rep hsub hy hr
  ·cases h
 | agg l =>
  simp only [renA] at h
  split at h
  ·rename_i ys hy
   cases h
   obtain ⟨cs, rfl, hc⟩ := hr
   exact ⟨cs, rfl, rens_rep hsub hy hc⟩
  ·cases h
theorem renAs_rep : ∀ {xs ys : List AV}, renAs L xs = some ys → ∀ {vs : List Value}, All2 (RepA G) xs vs → All2 (RepA (G.sub L Hs)) ys vs := by
 intro xs
 induction xs with
 | nil => intro ys h vs hv; simp only [renAs] at h; cases h; cases hv; exact .nil
 | cons x xs ih =>
  intro ys h vs hv
  simp only [renAs] at h
  split at h
  ·rename_i y ys' hy hys
   cases h
   cases hv with
   | cons h1 t => exact .cons (renA_rep hsub hy h1) (ih hys t)
  ·cases h
theorem renS_rep {x y : SV} (h : renS L x = some y) {v : Value} (hr : RepS G x v) : RepS (G.sub L Hs) y v := by
 cases x with
 | none => cases h; trivial
 | a x =>
  simp only [renS] at h
  split at h
  ·rename_i y hy; cases h; exact renA_rep hsub hy hr
  ·cases h
 | tup l =>
  simp only [renS] at h
  split at h
  ·rename_i ys hy
   cases h
   obtain ⟨cs, rfl, hc⟩ := hr
   exact ⟨cs, rfl, renAs_rep hsub hy hc⟩
  ·cases h
theorem sub_holds {k b : Nat} (h : (G.sub L Hs).holds k b) : ∃ id, L[k]? = some id ∧ G.holds id b := by
 obtain ⟨o, ho, hb, hρ⟩ := h
 obtain ⟨_, hg⟩ := subH_get hsub
 obtain ⟨id, o', h1, h2, h3⟩ := hg k o ho
 refine ⟨id, h1, o', h2, ?_, ?_⟩
 ·cases o' with
  | row cs => trivial
  | tok t e n z => simp only [renO] at h3; cases h3; exact hb
  | arr t e zs ver => simp only [renO] at h3; cases h3; exact hb
  | map k v es => trivial
  | dead => simp only [renO] at h3; cases h3; exact hb
  | vec t e zs i k x => trivial
  | gvec t e zs i k x v => trivial
 ·have : (match L[k]? with | some id => G.ρ id | none => 0) = b := hρ
  rwa [h1] at this
theorem Sim.sub (hS : Sim G) (hL : nodup L = true) : Sim (G.sub L Hs) where
 vars := hS.vars
 objs := fun k o ho hb => by
  obtain ⟨_, hg⟩ := subH_get hsub
  obtain ⟨id, o', h1, h2, h3⟩ := hg k o ho
  obtain ⟨o'', h4, h5, h6⟩ := sub_obj hsub h2 h1
  cases o' with
  | row cs =>
   obtain ⟨cur, T, hh, hn, hc⟩ := hS.objs id _ h2 trivial
   simp only [renO] at h3
   split at h3
   ·rename_i ys hys
    cases h3
    exact ⟨cur, T, by rw [h6]; exact hh, by rw [h6]; exact hn, rens_rep hsub hys hc⟩
   ·cases h3
  | tok t e n z =>
   simp only [renO] at h3
   cases h3
   obtain ⟨cur, hh, hle, hn⟩ := hS.objs id _ h2 hb
   exact ⟨cur, by rw [h6]; exact hh, hle, by rw [h6]; exact hn⟩
  | arr t e zs ver =>
   simp only [renO] at h3
   cases h3
   obtain ⟨vs, rest, hh, hn, hr⟩ := hS.objs id _ h2 hb
   exact ⟨vs, rest, by rw [h6]; exact hh, by rw [h6]; exact hn, hr⟩
  | map k v es =>
   simp only [renO] at h3
   cases h3
   obtain ⟨ens, clock, hh, hn, hr⟩ := hS.objs id _ h2 trivial
   exact ⟨ens, clock, by rw [h6]; exact hh, by rw [h6]; exact hn, hr⟩
  | dead => simp only [renO] at h3; cases h3; trivial
  | vec t e zs i k' x =>
   simp only [renO] at h3
   split at h3
   ·rename_i y hy
    cases h3
    obtain ⟨vs, rest, v, hh, hn, q1, q2, q4, q5⟩ := hS.objs id _ h2 trivial
    exact ⟨vs, rest, v, by rw [h6]; exact hh, by rw [h6]; exact hn, q1, q2, ren_rep hsub hy q4, q5⟩
   ·cases h3
  | gvec t e zs i k' x ver =>
   simp only [renO] at h3
   split at h3
   ·rename_i y hy
    cases h3
    obtain ⟨vs, rest, v, hh, hn, q1, q2, q4, q5⟩ := hS.objs id _ h2 trivial
    exact ⟨vs, rest, v, by rw [h6]; exact hh, by rw [h6]; exact hn, q1, q2, ren_rep hsub hy q4, q5⟩
   ·cases h3
 inj := fun i j b hi hj => by
  obtain ⟨x, hx, hgx⟩ := sub_holds hsub hi
  obtain ⟨y, hy, hgy⟩ := sub_holds hsub hj
  have := hS.inj x y b hgx hgy
  subst this
  exact nodup_inj hL hx hy
 ilt := hS.ilt
end
def slotOf (L : List Nat) (n id : Nat) : Option Nat := match idx L id with | some k => some k | none => if id < n then none else some (id - n + L.length)
def View.merge (G G2 : View) (L : List Nat) : View :=
 { ρ := fun id => match slotOf L G.H.length id with | some k => G2.ρ k | none => G.ρ id, I := G2.I, H := putAll (back L G.H.length) L G2.H G.H, w := G2.w }
theorem putAll_get (u : Nat → Nat) : ∀ (L : List Nat) (H2 H : List AO), nodup L = true → (∀ id ∈ L, id < H.length) → L.length ≤ H2.length → ∀ id : Nat,
  (putAll u L H2 H)[id]? = match slotOf L H.length id with | some k => (H2[k]?).map (unO u) | none => H[id]? := by
 intro L
 induction L with
 | nil =>
  intro H2 H _ _ _ id
  simp only [putAll, slotOf, idx]
  by_cases h : id < H.length
  ·simp only [h, if_true]
   rw [List.getElem?_append_left h]
  ·simp only [h, if_false]
   rw [List.getElem?_append_right (by omega)]
   simp
 | cons a L ih =>
  intro H2 H hL hr hl id
  cases H2 with
  | nil => simp at hl
  | cons o H2 =>
   simp only [nodup] at hL
   split at hL
   ·rename_i hna
    have hia : a < H.length := hr a (by simp)
    simp only [putAll]
    rw [ih H2 _ hL (fun x hx => by simp; exact hr x (by simp [hx])) (by simpa using hl)]
    simp only [List.length_set, slotOf, idx]
    by_cases ha : a = id
    ·subst ha
     simp only [Nat.beq_refl, hna, hia, if_true]
     simp [hia]
    ·have : Nat.beq a id = false := by
      cases hb : Nat.beq a id with
      | false => rfl
      | true => exact absurd (by simpa using hb) ha
     simp only [this]
     cases hid : idx L id with
     | some k => simp
     | none =>
      by_cases hlt : id < H.length
      ·simp [hlt, ha]
      ·simp only [hlt, if_false]
       have : id - H.length + (a :: L).length = (id - H.length + L.length) + 1 := by simp; omega
       rw [this]
       simp
   ·cases hL
section
variable {G G2 : View} {L : List Nat} {Hs : List AO} (hsub : subH L G.H L = some Hs) (hL : nodup L = true) (hS : Sim G) (he : Ext (G.sub L Hs) G2) (hS2 : Sim G2)
theorem sub_ids (hsub : subH L G.H L = some Hs) : ∀ id ∈ L, id < G.H.length := by
 intro id hid
 obtain ⟨k, hk⟩ := List.getElem?_of_mem hid
 obtain ⟨hl, hg⟩ := subH_get hsub
 have hlt : k < Hs.length := by rw [hl]; exact (List.getElem?_eq_some_iff.1 hk).1
 obtain ⟨id', o', h1, h2, _⟩ := hg k _ (List.getElem?_eq_getElem hlt)
 rw [hk] at h1
 cases h1
 exact (List.getElem?_eq_some_iff.1 h2).1
theorem ext_length {G G' : View} (he : Ext G G') : G.H.length ≤ G'.H.length := by
 rcases Nat.lt_or_ge G'.H.length G.H.length with h | h
 ·obtain ⟨o', ho', _⟩ := he.objs _ _ (List.getElem?_eq_getElem h)
  rw [List.getElem?_eq_none (nR9 _)] at ho'
  cases ho'
 ·exact h
include hsub hL he in
theorem merge_get (id : Nat) : (G.merge G2 L).H[id]? = match slotOf L G.H.length id with | some k => (G2.H[k]?).map (unO (back L G.H.length)) | none => G.H[id]? := by
 refine putAll_get _ L G2.H G.H hL (sub_ids hsub) ?_ id
 obtain ⟨hl, _⟩ := subH_get hsub
 have : (G.sub L Hs).H.length ≤ G2.H.length := ext_length he
 have h2 : (G.sub L Hs).H = Hs := rfl
 rw [h2] at this
 omega
include hsub in
theorem slot_back (hL : nodup L = true) (k : Nat) : slotOf L G.H.length (back L G.H.length k) = some k := by
 unfold back
 split
 ·rename_i id hid
  unfold slotOf
  cases hi : idx L id with
  | some j => simp only; rw [nodup_inj hL (idx_some hi) hid]
  | none => exact absurd hid (idx_none hi k)
 ·rename_i hk
  unfold slotOf
  have hn : idx L (G.H.length + (k - L.length)) = none := by
   cases hi : idx L (G.H.length + (k - L.length)) with
   | none => rfl
   | some j =>
    have h1 := idx_some hi
    have := sub_ids hsub _ (List.mem_of_getElem? h1)
    omega
  rw [hn]
  simp only
  rw [if_neg (by omega)]
  have : L.length ≤ k := by
   rcases Nat.lt_or_ge k L.length with h | h
   ·rw [List.getElem?_eq_getElem h] at hk; cases hk
   ·exact h
  congr 1
  omega
include hsub hL he in
theorem merge_ρ (k : Nat) : (G.merge G2 L).ρ (back L G.H.length k) = G2.ρ k := by
 show (match slotOf L G.H.length (back L G.H.length k) with | some k => G2.ρ k | none => _) = _
 rw [slot_back hsub hL]
include hsub hL he in
theorem merge_H (k : Nat) : (G.merge G2 L).H[back L G.H.length k]? = (G2.H[k]?).map (unO (back L G.H.length)) := by
 rw [merge_get hsub hL he, slot_back hsub hL]
include hsub hL he in
theorem un_rep {x : AC} {v : Value} (hr : RepC G2 x v) : RepC (G.merge G2 L) (unC (back L G.H.length) x) v := by
 have row : ∀ {k : Nat} {cs : List AC}, G2.H[k]? = some (.row cs) → ∃ cs', (G.merge G2 L).H[back L G.H.length k]? = some (.row cs') := by
  intro k cs h
  rw [merge_H hsub hL he, h]
  exact ⟨_, rfl⟩
 cases x with
 | p x => exact hr
 | pp e z k => exact hr
 | ptr id off =>
  obtain ⟨rfl, cs, ho⟩ := hr
  exact ⟨by rw [merge_ρ hsub hL he], row ho⟩
 | own id e zs =>
  obtain ⟨hz, t, n, z, ho, hle, ht⟩ := hr
  refine ⟨hz, t, n, z, by rw [merge_H hsub hL he, ho]; rfl, hle, fun hn => ?_⟩
  rcases ht hn with h4 | ⟨hb, cap, cur, rfl, hh, h5⟩
  ·exact .inl h4
  ·exact .inr ⟨hb, cap, cur, by rw [merge_ρ hsub hL he], by rw [merge_ρ hsub hL he]; exact hh, h5⟩
 | clo b f caps =>
  obtain ⟨rfl, ho⟩ := hr
  refine ⟨?_, fun id hid => ?_⟩
  ·congr 1
   rw [List.map_map]
   apply List.map_congr_left
   intro id _
   simp only [Function.comp]
   rw [merge_ρ hsub hL he]
  ·obtain ⟨k, hk, rfl⟩ := List.mem_map.1 hid
   obtain ⟨cs, hcs⟩ := ho k hk
   exact row hcs
 | sl id e ver len =>
  obtain ⟨h0, hd | ⟨t, zs, ver', ho, hle, hv⟩⟩ := hr
  ·exact ⟨h0, .inl (by rw [merge_H hsub hL he, hd]; rfl)⟩
  ·refine ⟨h0, .inr ⟨t, zs, ver', by rw [merge_H hsub hL he, ho]; rfl, hle, fun hn => ⟨(hv hn).1, ?_⟩⟩⟩
   rcases (hv hn).2 with h4 | ⟨h4, cap, cur, h5, h6⟩
   ·exact .inl h4
   ·exact .inr ⟨h4, cap, cur, by rw [merge_ρ hsub hL he]; exact h5, by rw [merge_ρ hsub hL he]; exact h6⟩
 | ep id e ver i j =>
  obtain ⟨h0, hd | ⟨t, zs, ver', ho, hle, hv⟩⟩ := hr
  ·exact ⟨h0, .inl (by rw [merge_H hsub hL he, hd]; rfl)⟩
  ·exact ⟨h0, .inr ⟨t, zs, ver', by rw [merge_H hsub hL he, ho]; rfl, hle, fun hn => by rw [merge_ρ hsub hL he]; exact hv hn⟩⟩
 | mp id =>
  obtain ⟨h0, hd | ⟨k', t, es, ho, hv⟩⟩ := hr
  ·exact ⟨h0, .inl (by rw [merge_H hsub hL he, hd]; rfl)⟩
  ·exact ⟨h0, .inr ⟨k', t, es, by rw [merge_H hsub hL he, ho]; rfl, by rw [merge_ρ hsub hL he]; exact hv⟩⟩
 | any => exact hr
 | may x => exact hr
 | fl e zs => exact hr
 | nl c z k => exact hr
 | vs id len =>
  obtain ⟨h0, hd | ⟨t, e, zs, i, k', x, ho, hle, cap, hv, hc⟩⟩ := hr
  ·exact ⟨h0, .inl (by rw [merge_H hsub hL he, hd]; rfl)⟩
  ·exact ⟨h0, .inr ⟨t, e, zs, i, k', _, by rw [merge_H hsub hL he, ho]; rfl, hle, cap, by rw [merge_ρ hsub hL he]; exact hv, hc⟩⟩
 | ve id j l =>
  obtain ⟨h0, hd | ⟨t, e, zs, i, k', x, ho, hle, hv⟩⟩ := hr
  ·exact ⟨h0, .inl (by rw [merge_H hsub hL he, hd]; rfl)⟩
  ·exact ⟨h0, .inr ⟨t, e, zs, i, k', _, by rw [merge_H hsub hL he, ho]; rfl, hle, by rw [merge_ρ hsub hL he]; exact hv⟩⟩
 | gs id ver len =>
  obtain ⟨h0, hd | ⟨t, e, zs, i, k', x, ver', ho, hle, hv⟩⟩ := hr
  ·exact ⟨h0, .inl (by rw [merge_H hsub hL he, hd]; rfl)⟩
  ·exact ⟨h0, .inr ⟨t, e, zs, i, k', _, ver', by rw [merge_H hsub hL he, ho]; rfl, hle, fun hn => by rw [merge_ρ hsub hL he]; exact hv hn⟩⟩
 | ge id ver j l =>
  obtain ⟨h0, hd | ⟨t, e, zs, i, k', x, ver', ho, hle, hv⟩⟩ := hr
  ·exact ⟨h0, .inl (by rw [merge_H hsub hL he, hd]; rfl)⟩
  ·exact ⟨h0, .inr ⟨t, e, zs, i, k', _, ver', by rw [merge_H hsub hL he, ho]; rfl, hle, fun hn => by rw [merge_ρ hsub hL he]; exact hv hn⟩⟩
include hsub hL he in
theorem unV_rep {x : AV} {v : Value} (hr : RepA G2 x v) : RepA (G.merge G2 L) (unV (back L G.H.length) x) v := by
 cases x with
 | c x => exact un_rep hsub hL he hr
 | agg l =>
  obtain ⟨cs, rfl, hc⟩ := hr
  exact ⟨cs, rfl, All2.map_left (hc.mono fun _ _ h => un_rep hsub hL he h)⟩
include hsub hL he in
theorem unS_rep {x : SV} {v : Value} (hr : RepS G2 x v) : RepS (G.merge G2 L) (unS (back L G.H.length) x) v := by
 cases x with
 | none => trivial
 | a x => exact unV_rep hsub hL he hr
 | tup l =>
  obtain ⟨cs, rfl, hc⟩ := hr
  exact ⟨cs, rfl, All2.map_left (hc.mono fun _ _ h => unV_rep hsub hL he h)⟩
theorem slot_lt {id k : Nat} (h : slotOf L G.H.length id = some k) : L[k]? = some id ∨ (L[k]? = none ∧ ¬ id < G.H.length) := by
 unfold slotOf at h
 split at h
 ·rename_i k' hk
  cases h
  exact .inl (idx_some hk)
 ·split at h
  ·cases h
  ·rename_i hlt
   cases h
   exact .inr ⟨List.getElem?_eq_none (by omega), hlt⟩
theorem slot_none {id : Nat} (h : slotOf L G.H.length id = none) : id < G.H.length ∧ ∀ k : Nat, L[k]? ≠ some id := by
 unfold slotOf at h
 split at h
 ·cases h
 ·rename_i hn
  split at h
  ·rename_i hlt; exact ⟨hlt, idx_none hn⟩
  ·cases h
include hsub hL he in
theorem merge_holds {id b : Nat} (h : (G.merge G2 L).holds id b) : (∃ k, slotOf L G.H.length id = some k ∧ G2.holds k b) ∨ (slotOf L G.H.length id = none ∧ G.holds id b) := by
 obtain ⟨o, ho, hb, hρ⟩ := h
 rw [merge_get hsub hL he] at ho
 cases hs : slotOf L G.H.length id with
 | some k =>
  rw [hs] at ho
  simp only [Option.map_eq_some_iff] at ho
  obtain ⟨o2, ho2, rfl⟩ := ho
  refine .inl ⟨k, rfl, o2, ho2, ?_, ?_⟩
  ·cases o2 <;> exact hb
  ·have : (match slotOf L G.H.length id with | some k => G2.ρ k | none => G.ρ id) = b := hρ
   rwa [hs] at this
 | none =>
  rw [hs] at ho
  refine .inr ⟨rfl, o, ho, hb, ?_⟩
  have : (match slotOf L G.H.length id with | some k => G2.ρ k | none => G.ρ id) = b := hρ
  rwa [hs] at this
include hsub hL hS he in
theorem not_sub {id b : Nat} (hn : slotOf L G.H.length id = none) (h : G.holds id b) : ∀ k, ¬ (G.sub L Hs).holds k b := by
 intro k hk
 obtain ⟨id', h1, h2⟩ := sub_holds hsub hk
 have := hS.inj id id' b h h2
 subst this
 exact (slot_none hn).2 k h1
theorem ren_length {L : List Nat} : ∀ {xs ys : List AC}, renCs L xs = some ys → ys.length = xs.length := by
 intro xs
 induction xs with
 | nil => intro ys h; simp only [renCs] at h; cases h; rfl
 | cons x xs ih =>
  intro ys h
  simp only [renCs] at h
  split at h
  ·rename_i y ys' hy hys; cases h; simp [ih hys]
  ·cases h
include hsub hL hS he hS2 in
theorem Ext.merge : Ext G (G.merge G2 L) where
 stays := ⟨he.stays.keep, he.stays.same, he.stays.maps⟩
 size := he.size
 os := he.os
 tape := he.tape
 output := he.output
 objs := fun id o ho => by
  rw [merge_get hsub hL he]
  have hlt : id < G.H.length := (List.getElem?_eq_some_iff.1 ho).1
  cases hs : slotOf L G.H.length id with
  | some k =>
   have hk : L[k]? = some id := by
    rcases slot_lt hs with h | ⟨_, h⟩
    ·exact h
    ·exact absurd hlt h
   obtain ⟨o1, h1, h2, h3⟩ := sub_obj hsub ho hk
   obtain ⟨o2, h4, h5⟩ := he.objs k o1 h1
   refine ⟨unO (back L G.H.length) o2, by simp [h4], ?_⟩
   have hρm : (G.merge G2 L).ρ id = G2.ρ k := by
    show (match slotOf L G.H.length id with | some k => G2.ρ k | none => G.ρ id) = _
    rw [hs]
   cases o with
   | row cs =>
    simp only [renO] at h2
    split at h2
    ·rename_i ys hys
     cases h2
     cases o2 with
     | row c2 =>
      simp only [AO.next] at h5
      refine ⟨hρm.trans (h5.1.trans h3), ?_⟩
      simp only [List.length_map]
      rw [h5.2, ren_length hys]
     | _ => exact h5.elim
    ·cases h2
   | tok t e n z =>
    simp only [renO] at h2
    cases h2
    cases o2 with
    | tok t' e' n' z' =>
     obtain ⟨rfl, rfl, rfl, hn, hc⟩ := h5
     refine ⟨rfl, rfl, rfl, hn, fun hnn hb => ?_⟩
     obtain ⟨h6, h7⟩ := hc hnn hb
     refine ⟨hρm.trans (h6.trans h3), fun cur hcur => ?_⟩
     have h8 : (G.sub L Hs).w.heap[(G.sub L Hs).ρ k]? = some (.cells cur t' (0, 0)) := by rw [h3]; exact hcur
     obtain ⟨cur', h9, h10⟩ := h7 cur h8
     rw [h3] at h9
     exact ⟨cur', h9, h10⟩
    | _ => exact h5.elim
   | arr t e zs ver =>
    simp only [renO] at h2
    cases h2
    cases o2 with
    | arr t' e' zs' ver' =>
     obtain ⟨rfl, rfl, hn, hc⟩ := h5
     refine ⟨rfl, rfl, hn, fun hnn => ⟨(hc hnn).1, fun hb => ?_⟩⟩
     obtain ⟨h6, h7⟩ := (hc hnn).2 hb
     refine ⟨hρm.trans (h6.trans h3), fun cur hcur => ?_⟩
     have h8 : (G.sub L Hs).w.heap[(G.sub L Hs).ρ k]? = some (.cells cur t' (0, 0)) := by rw [h3]; exact hcur
     obtain ⟨cur', h9, h10⟩ := h7 cur h8
     rw [h3] at h9
     exact ⟨cur', h9, h10⟩
    | dead => trivial
    | _ => exact h5.elim
   | map k' v es =>
    simp only [renO] at h2
    cases h2
    cases o2 with
    | map k2 v2 es2 =>
     obtain ⟨rfl, rfl, h6⟩ := h5
     exact ⟨rfl, rfl, hρm.trans (h6.trans h3)⟩
    | dead => trivial
    | _ => exact h5.elim
   | dead =>
    simp only [renO] at h2
    cases h2
    cases o2 with
    | dead => trivial
    | _ => exact h5.elim
   | vec t e zs i k' x =>
    simp only [renO] at h2
    split at h2
    ·cases h2
     cases o2 with
     | vec t2 e2 zs2 i2 k2 x2 =>
      obtain ⟨rfl, rfl, h6, h7⟩ := h5
      exact ⟨rfl, rfl, h6, hρm.trans (h7.trans h3)⟩
     | dead => trivial
     | _ => exact h5.elim
    ·cases h2
   | gvec t e zs i k' x ver =>
    simp only [renO] at h2
    split at h2
    ·cases h2
     cases o2 with
     | gvec t2 e2 zs2 i2 k2 x2 ver2 =>
      obtain ⟨rfl, rfl, hn, hc⟩ := h5
      refine ⟨rfl, rfl, hn, fun hnn => ⟨(hc hnn).1, ?_⟩⟩
      obtain ⟨h6, h7⟩ := (hc hnn).2
      refine ⟨hρm.trans (h6.trans h3), fun cur hcur => ?_⟩
      have h8 : (G.sub L Hs).w.heap[(G.sub L Hs).ρ k]? = some (.cells cur t2 (0, 0)) := by rw [h3]; exact hcur
      obtain ⟨cur', h9, h10⟩ := h7 cur h8
      rw [h3] at h9
      exact ⟨cur', h9, h10⟩
     | dead => trivial
     | _ => exact h5.elim
    ·cases h2
  | none =>
   refine ⟨o, ho, ?_⟩
   have hρm : (G.merge G2 L).ρ id = G.ρ id := by
    show (match slotOf L G.H.length id with | some k => G2.ρ k | none => G.ρ id) = _
    rw [hs]
   exact AO.next_keep o fun hb => ⟨hρm, he.frame _ (hS.lt ⟨_, ho, hb, rfl⟩) (not_sub hsub hL hS he hs ⟨_, ho, hb, rfl⟩)⟩
 frame := fun b hb hno => he.frame b hb fun k hk => by
  obtain ⟨id, _, h⟩ := sub_holds hsub hk
  exact hno id h
 news := fun id b h => by
  rcases merge_holds hsub hL he h with ⟨k, _, h1⟩ | ⟨_, h1⟩
  ·rcases he.news k b h1 with h2 | h2
   ·obtain ⟨id', h3, h4⟩ := sub_holds hsub h2
    rename_i hs
    rcases slot_lt hs with h5 | ⟨h5, _⟩
    ·rw [h3] at h5
     cases h5
     exact .inl h4
    ·rw [h3] at h5
     cases h5
   ·exact .inr h2
  ·exact .inl h1
 inew := fun b o h => by
  rcases he.inew b o h with h1 | h1 | ⟨k, h1⟩
  ·exact .inl h1
  ·exact .inr (.inl h1)
  ·obtain ⟨id, _, h2⟩ := sub_holds hsub h1
   exact .inr (.inr ⟨id, h2⟩)
include hsub hL hS he hS2 in
theorem Sim.merge : Sim (G.merge G2 L) where
 vars := hS2.vars
 objs := fun id o ho hb => by
  have hem := Ext.merge hsub hL hS he hS2
  have hh : (G.merge G2 L).holds id ((G.merge G2 L).ρ id) := ⟨o, ho, hb, rfl⟩
  rw [merge_get hsub hL he] at ho
  cases hs : slotOf L G.H.length id with
  | some k =>
   rw [hs] at ho
   simp only [Option.map_eq_some_iff] at ho
   obtain ⟨o2, ho2, rfl⟩ := ho
   have hρm : (G.merge G2 L).ρ id = G2.ρ k := by
    show (match slotOf L G.H.length id with | some k => G2.ρ k | none => G.ρ id) = _
    rw [hs]
   cases o2 with
   | row cs =>
    obtain ⟨cur, T, h1, h2, h3⟩ := hS2.objs k _ ho2 trivial
    exact ⟨cur, T, by rw [hρm]; exact h1, by rw [hρm]; exact h2, All2.map_left (h3.mono fun _ _ h => un_rep hsub hL he h)⟩
   | tok t e n z =>
    obtain ⟨cur, h1, h2, h3⟩ := hS2.objs k _ ho2 hb
    exact ⟨cur, by rw [hρm]; exact h1, h2, by rw [hρm]; exact h3⟩
   | arr t e zs ver =>
    obtain ⟨vs, rest, h1, h2, h3⟩ := hS2.objs k _ ho2 hb
    exact ⟨vs, rest, by rw [hρm]; exact h1, by rw [hρm]; exact h2, h3⟩
   | map k' v es =>
    obtain ⟨ens, clock, h1, h2, h3⟩ := hS2.objs k _ ho2 trivial
    exact ⟨ens, clock, by rw [hρm]; exact h1, by rw [hρm]; exact h2, h3⟩
   | dead => trivial
   | vec t e zs i k' x =>
    obtain ⟨vs, rest, v, h1, h2, q1, q2, q4, q5⟩ := hS2.objs k _ ho2 trivial
    exact ⟨vs, rest, v, by rw [hρm]; exact h1, by rw [hρm]; exact h2, q1, q2, un_rep hsub hL he q4, q5⟩
   | gvec t e zs i k' x ver =>
    obtain ⟨vs, rest, v, h1, h2, q1, q2, q4, q5⟩ := hS2.objs k _ ho2 trivial
    exact ⟨vs, rest, v, by rw [hρm]; exact h1, by rw [hρm]; exact h2, q1, q2, un_rep hsub hL he q4, q5⟩
  | none =>
   rw [hs] at ho
   have hρm : (G.merge G2 L).ρ id = G.ρ id := by
    show (match slotOf L G.H.length id with | some k => G2.ρ k | none => G.ρ id) = _
    rw [hs]
   have hg : G.holds id (G.ρ id) := ⟨o, ho, hb, rfl⟩
   have hns := not_sub hsub hL hS he hs hg
   refine (hS.objs id o ho hb).mono hem hρm (he.frame _ (hS.lt hg) hns) fun x hx => ?_
   rcases he.inew _ x hx with h1 | h1 | ⟨k, h1⟩
   ·exact h1
   ·exact absurd (hS.lt hg) (Nat.not_lt.2 h1)
   ·exact absurd h1 (hns k)
 inj := fun i j b hi hj => by
  have two : ∀ {i j k : Nat}, slotOf L G.H.length i = some k → G2.holds k b → slotOf L G.H.length j = none → G.holds j b → False := by
   intro i j k hs hk hn hj
   rcases he.news k b hk with h1 | h1
   ·exact not_sub hsub hL hS he hn hj k h1
   ·exact absurd (hS.lt hj) (Nat.not_lt.2 h1)
  rcases merge_holds hsub hL he hi with ⟨k, hs, hk⟩ | ⟨hs, hk⟩ <;> rcases merge_holds hsub hL he hj with ⟨l, hs', hl⟩ | ⟨hs', hl⟩
  ·have := hS2.inj k l b hk hl
   subst this
   have key : ∀ {i : Nat}, slotOf L G.H.length i = some k → i = back L G.H.length k := by
    intro i h
    unfold back
    rcases slot_lt h with h1 | ⟨h1, h2⟩
    ·rw [h1]
    ·rw [h1]
     unfold slotOf at h
     split at h
     ·rename_i k' hk'
      cases h
      rw [idx_some hk'] at h1
      cases h1
     ·rw [if_neg h2] at h
      cases h
      omega
   rw [key hs, key hs']
  ·exact (two hs hk hs' hl).elim
  ·exact (two hs' hl hs hk).elim
  ·exact hS.inj i j b hk hl
 ilt := hS2.ilt
end
end Go.Ab
