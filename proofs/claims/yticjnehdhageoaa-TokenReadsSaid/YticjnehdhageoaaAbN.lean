/- The abstract machine: code, functions. -/
import Derived.Test.YticjnehdhageoaaAbM3
namespace Go.Ab
set_option linter.unusedSectionVars false
variable [Base]
set_option linter.unusedSectionVars false

theorem EnvRep.know {G : View} {e : Env} {n : Nat} {a : Act} (hr : EnvRep G e n a) (d : Nat) {x : XV} (h : RepX G x (a.tmps.getD d undef)) : EnvRep G ((d, x) :: e) n a := by
  refine ⟨fun t => ?_, hr.size, hr.defers⟩
  rw [Env.get_cons]
  split
  · rename_i he; subst he; exact h
  · exact hr.get t

abbrev Body := Env → List AO → (Exit → Env → List AO → Prop) → Prop

/-- Less is said of the same world, or it is said otherwise; 'm': how many objects must stay. -/
def Weak (n m : Nat) (e : Env) (H : List AO) (e' : Env) (H' : List AO) : Prop :=
  ∀ G0 G a, Ext G0 G → G0.H.length ≤ m → Sim G → G.H = H → EnvRep G e n a → ∃ G', G'.w = G.w ∧ Ext G0 G' ∧ Sim G' ∧ G'.H = H' ∧ EnvRep G' e' n a

/-- A loop: something that holds at the head of every round, and a number that every round lowers. -/
def LoopA (n : Nat) (B : Body) : Body := fun e H K =>
  ∃ (I : Env → List AO → Prop) (μ : Env → List AO → Nat), (∃ e1 H1, Weak n H.length e H e1 H1 ∧ I e1 H1) ∧ ∀ e' H', I e' H' → B e' H' fun ex e'' H'' =>
    match ex with
    | .normal => ∃ e1 H1, Weak n H.length e'' H'' e1 H1 ∧ I e1 H1 ∧ μ e1 H1 < μ e' H'
    | ex => K ex e'' H''

/-- What is known of some slots behind a region; each value is looked at. -/
def onlyK (e : Env) : List Nat → (Env → Prop) → Prop
  | [], k => k []
  | t :: ts, k => match e.get t with
    | .s .none => onlyK e ts fun r => k ((t, .s .none) :: r)
    | .s (.a (.c x)) => cellK x fun x => onlyK e ts fun r => k ((t, .s (.a (.c x))) :: r)
    | .s (.a (.agg l)) => cellsK l fun l => onlyK e ts fun r => k ((t, .s (.a (.agg l))) :: r)
    | .s (.tup l) => onlyK e ts fun r => k ((t, .s (.tup l)) :: r)
    | .g _ _ _ => onlyK e ts fun r => k ((t, .s .none) :: r)

theorem onlyK_rep {G : View} {e : Env} {n : Nat} {a : Act} (hr : EnvRep G e n a) : ∀ (ks : List Nat) (k : Env → Prop), onlyK e ks k → ∃ e', k e' ∧ EnvRep G e' n a := by
  intro ks
  induction ks with
  | nil => intro k h; exact ⟨[], h, fun t => trivial, hr.size, hr.defers⟩
  | cons t ts ih =>
    intro k h
    have add : ∀ (x : XV), (x = e.get t ∨ x = .s .none) → onlyK e ts (fun r => k ((t, x) :: r)) → ∃ e', k e' ∧ EnvRep G e' n a := by
      intro x hx h
      obtain ⟨e', hk, hE⟩ := ih _ h
      refine ⟨_, hk, fun u => ?_, hr.size, hr.defers⟩
      rw [Env.get_cons]
      split
      · rename_i he
        subst he
        rcases hx with hx | hx
        · rw [hx]; exact hr.get _
        · rw [hx]; trivial
      · exact hE.get u
    simp only [onlyK, cellK_eq, cellsK_eq] at h
    split at h
    · exact add _ (.inr rfl) h
    · rename_i x hx; exact add _ (.inl hx.symm) h
    · rename_i x hx; exact add _ (.inl hx.symm) h
    · rename_i x hx; exact add _ (.inl hx.symm) h
    · exact add _ (.inr rfl) h

theorem onlyK_congr {e e' : Env} (h : ∀ t, e.get t = e'.get t) : ∀ {ks : List Nat} {k : Env → Prop}, onlyK e ks k → onlyK e' ks k := by
  intro ks
  induction ks with
  | nil => intro k h; exact h
  | cons t ks ih =>
    intro k hk
    simp only [onlyK, cellK_eq, cellsK_eq, ← h t] at hk ⊢
    split at hk <;> exact ih hk

/-- 'n': how many slots; 'ks': the slots that are read in another region than that in which they are written. -/
def runC (M : Mach) (n : Nat) (ks : List Nat) : Code → Body
  | .skip, e, H, K => K .normal e H
  | .label _, e, H, K => K .normal e H
  | .ret, e, H, K => K .ret e H
  | .exit id, e, H, K => K (.exit id) e H
  | .seq x y, e, H, K => runC M n ks x e H fun ex e' H' => match ex with
    | .normal => runC M n ks y e' H' K
    | ex => K ex e' H'
  | .cond c x y, e, H, K => match evalX e c with
    | .s (.bool t) => match c with
      | .tmp d => cond t (onlyK ((d, .s (.bool true)) :: e) ks fun e' => runC M n ks x e' H K) (onlyK ((d, .s (.bool false)) :: e) ks fun e' => runC M n ks y e' H K)
      | _ => cond t (runC M n ks x e H K) (runC M n ks y e H K)
    | _ => False
  | .block id x, e, H, K => runC M n ks x e H fun ex e' H' => match ex with
    | .exit i => (match Nat.beq i id with | true => K .normal e' H' | false => K (.exit i) e' H')
    | ex => K ex e' H'
  | .loop x, e, H, K => LoopA n (runC M n ks x) e H K
  | .region _ ops draw, e, H, K => match plainE e && nodup (dsts ops.toList), draw with
    | true, false => runOps M n ops.toList ops.toList 0 e H fun e' H' => onlyK e' ks fun e'' => heapK H' fun H'' => K .normal e'' H''
    | true, true => match M.P.follows .mixedOrders with
      | true => runOpsD M n ops.toList ops.toList 0 e H [] fun e' H' => onlyK e' ks fun e'' => heapK H' fun H'' => K .normal e'' H''
      | false => False
    | _, _ => False
  | _, _, _, _ => False

/-- The least number of which something holds. -/
noncomputable def sInf' (R : Nat → Prop) : Nat := Classical.epsilon fun k => R k ∧ ∀ j, R j → k ≤ j

theorem least_exists (R : Nat → Prop) : ∀ n, R n → ∃ k, R k ∧ ∀ j, R j → k ≤ j := by
  intro n
  induction n using Nat.strongRecOn with
  | _ n ih =>
    intro hn
    by_cases h : ∃ m, m < n ∧ R m
    · obtain ⟨m, hm, hR⟩ := h
      exact ih m hm hR
    · refine ⟨n, hn, fun j hj => ?_⟩
      rcases Nat.lt_or_ge j n with h1 | h1
      · exact absurd ⟨j, h1, hj⟩ h
      · exact h1

theorem sInf'_spec (R : Nat → Prop) (h : ∃ k, R k) : R (sInf' R) ∧ ∀ j, R j → sInf' R ≤ j := by
  obtain ⟨n, hn⟩ := h
  exact Classical.epsilon_spec (least_exists R n hn)

theorem sInf'_mem (R : Nat → Prop) (h : ∃ k, R k) : R (sInf' R) := (sInf'_spec R h).1
theorem sInf'_le (R : Nat → Prop) {j : Nat} (h : R j) : sInf' R ≤ j := (sInf'_spec R ⟨j, h⟩).2 j h

structure Post (G : View) (n : Nat) (K : Exit → Env → List AO → Prop) (ex : Exit) (a : Act) (w : World) : Prop where
  out : ∃ G' e, G'.w = w ∧ K ex e G'.H ∧ Ext G G' ∧ Sim G' ∧ EnvRep G' e n a

theorem Post.mono {G G1 : View} (h : Ext G G1) {n K ex a w} (p : Post G1 n K ex a w) : Post G n K ex a w := by
  obtain ⟨G', e, h1, h2, h3, h4, h5⟩ := p.out
  exact ⟨G', e, h1, h2, h.trans h3, h4, h5⟩

theorem runC_sound {M : Mach} (hT : TSound M.P M.T) {n : Nat} {ks : List Nat} : ∀ (c : Code) {e : Env} {K : Exit → Env → List AO → Prop} {G : View} {a : Act}, runC M n ks c e G.H K → Sim G → EnvRep G e n a →
    c.wp M.P (fun ex a' w' => Post G n K ex a' w') a G.w := by
  intro c
  induction c with
  | skip => intro e K G a h hS hE; exact wp_skip ⟨G, e, rfl, h, Ext.refl G, hS, hE⟩
  | label l => intro e K G a h hS hE; exact wp_label ⟨G, e, rfl, h, Ext.refl G, hS, hE⟩
  | ret => intro e K G a h hS hE; exact wp_ret ⟨G, e, rfl, h, Ext.refl G, hS, hE⟩
  | exit id => intro e K G a h hS hE; exact wp_exit ⟨G, e, rfl, h, Ext.refl G, hS, hE⟩
  | seq x y ihx ihy =>
    intro e K G a h hS hE
    refine wp_seq (wp_mono (ihx h hS hE) fun ex a' w' p => ?_)
    obtain ⟨G', e', rfl, hk, he, hs, hE'⟩ := p.out
    cases ex with
    | normal => exact wp_mono (ihy hk hs hE') fun ex a'' w'' p => p.mono he
    | _ => exact ⟨G', e', rfl, hk, he, hs, hE'⟩
  | cond c x y ihx ihy =>
    intro e K G a h hS hE
    simp only [runC] at h
    split at h
    · rename_i t ht
      have hc := evalX_rep hE c
      rw [ht] at hc
      obtain ⟨_, hc⟩ := hc
      split at h
      · rename_i d
        have hd : evalX e (.tmp d) = .s (.bool t) := ht
        have hk : EnvRep G ((d, .s (.bool t)) :: e) n a := hE.know d (by
          have := hE.get d
          have hg : e.get d = .s (.bool t) := hd
          rwa [hg] at this)
        refine wp_cond hc ?_
        cases t with
        | true =>
          obtain ⟨e', h, hE'⟩ := onlyK_rep hk ks _ h
          exact ihx h hS hE'
        | false =>
          obtain ⟨e', h, hE'⟩ := onlyK_rep hk ks _ h
          exact ihy h hS hE'
      · refine wp_cond hc ?_
        cases t with
        | true => exact ihx h hS hE
        | false => exact ihy h hS hE
    · exact h.elim
  | block id x ih =>
    intro e K G a h hS hE
    refine wp_block (wp_mono (ih h hS hE) fun ex a' w' p => ?_)
    obtain ⟨G', e', rfl, hk, he, hs, hE'⟩ := p.out
    cases ex with
    | exit i =>
      simp only [Exit.inBlock]
      simp only at hk
      split at hk
      · rename_i hb
        have : i = id := by simpa using hb
        rw [if_pos this]
        exact ⟨G', e', rfl, hk, he, hs, hE'⟩
      · rename_i hb
        have : ¬ i = id := by intro e; subst e; simp at hb
        rw [if_neg this]
        exact ⟨G', e', rfl, hk, he, hs, hE'⟩
    | _ => exact ⟨G', e', rfl, hk, he, hs, hE'⟩
  | loop x ih =>
    intro e K G a h hS hE
    obtain ⟨I, μ, ⟨e1, H1, hw0, h0⟩, hstep⟩ := h
    obtain ⟨G1, hwG, heG, hsG, rfl, hE1⟩ := hw0 G G a (Ext.refl G) (Nat.le_refl _) hS rfl hE
    let R : Act → World → Nat → Prop := fun a' w' m => ∃ G' e', G'.w = w' ∧ I e' G'.H ∧ Ext G G' ∧ Sim G' ∧ EnvRep G' e' n a' ∧ μ e' G'.H = m
    let m : Act → World → Nat := fun a' w' => sInf' (R a' w')
    refine wp_loop (fun a' w' => ∃ k, R a' w' k) m ⟨_, G1, e1, hwG, h0, heG, hsG, hE1, rfl⟩ fun a' w' hI => ?_
    obtain ⟨G', e', rfl, hi, he, hs, hE', hm⟩ := sInf'_mem (R a' w') hI
    refine wp_mono (ih (hstep e' G'.H hi) hs hE') fun ex a'' w'' p => ?_
    obtain ⟨G'', e'', rfl, hk, he', hs', hE''⟩ := p.out
    cases ex with
    | normal =>
      obtain ⟨e2, H2, hw2, hI2, hlt⟩ := hk
      obtain ⟨G2, hwG2, heG2, hsG2, rfl, hE2⟩ := hw2 G G'' a'' (he.trans he') (Nat.le_refl _) hs' rfl hE''
      have hR : R a'' G''.w (μ e2 G2.H) := ⟨G2, e2, hwG2, hI2, heG2, hsG2, hE2, rfl⟩
      refine ⟨⟨_, hR⟩, ?_⟩
      have h1 : m a'' G''.w ≤ μ e2 G2.H := sInf'_le _ hR
      have h2 : μ e' G'.H = m a' G'.w := hm
      omega
    | _ => exact ⟨G'', e'', rfl, hk, he.trans he', hs', hE''⟩
  | region id ops draw =>
    intro e K G a h hS hE
    simp only [runC] at h
    have hend : ∀ e' G' a', (onlyK e' ks fun e'' => heapK G'.H fun H'' => K .normal e'' H'') → Ext G G' → Sim G' → EnvRep G' e' n a' → Post G n K .normal a' G'.w := by
      intro e' G' a' hk he hs hE'
      obtain ⟨e'', hk, hE''⟩ := onlyK_rep hE' ks _ hk
      rw [heapK_eq] at hk
      exact ⟨G', e'', rfl, hk, he, hs, hE''⟩
    split at h
    · rename_i hb
      simp only [Bool.and_eq_true] at hb
      exact wp_region_list (runOps_sound hT hb.2 ops.toList 0 (fun j => by simp) hS hE (plain_inv hb.1) h hend)
    · rename_i hb
      simp only [Bool.and_eq_true] at hb
      split at h
      · rename_i hm
        exact drawn_sound (K := fun e' H' => onlyK e' ks fun e'' => heapK H' fun H'' => K .normal e'' H'') hT hm hb.2 hS hE hb.1 (fun e e' H hg hk => onlyK_congr hg hk) h hend
      · exact h.elim
    · exact h.elim
  | rangeFunc f ps x y _ _ => intro e K G a h; exact h.elim
  | scope x _ => intro e K G a h; exact h.elim
  | goto l => intro e K G a h; exact h.elim
  | refuse w => intro e K G a h; exact h.elim

end Go.Ab
