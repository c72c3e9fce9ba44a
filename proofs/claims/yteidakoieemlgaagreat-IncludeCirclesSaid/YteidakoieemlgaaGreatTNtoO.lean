/- The abstract machine: code, functions. -/
import Derived.Test.YteidakoieemlgaaGreatTM3
namespace Go.Ab
set_option linter.unusedSectionVars false
variable [Base]
set_option linter.unusedSectionVars false

theorem EnvRep.know {G : View} {e : Env} {n : Nat} {a : Act} (hr : EnvRep G e n a) (d : Nat) {x : XV} (h : RepX G x (a.tmps.getD d undef)) : EnvRep G ((d, x) :: e) n a := by
  refine ⟨fun t => ?_, hr.size, hr.defers⟩
  rw [Env.get_cons]
  split
  · rename_i he; subst he; exact h
  · exact hr.get t

abbrev Body := Env → List AO → (Exit → Env → List AO → Prop) → Prop

/-- Less is said of the same world, or it is said otherwise; 'm': how many objects must stay. -/
def Weak (n m : Nat) (e : Env) (H : List AO) (e' : Env) (H' : List AO) : Prop :=
  ∀ G0 G a, Ext G0 G → G0.H.length ≤ m → Sim G → G.H = H → EnvRep G e n a → ∃ G', G'.w = G.w ∧ Ext G0 G' ∧ Sim G' ∧ G'.H = H' ∧ EnvRep G' e' n a

/-- A loop: something that holds at the head of every round, and a number that every round lowers. -/
def LoopA (n : Nat) (B : Body) : Body := fun e H K =>
  ∃ (I : Env → List AO → Prop) (μ : Env → List AO → Nat), (∃ e1 H1, Weak n H.length e H e1 H1 ∧ I e1 H1) ∧ ∀ e' H', I e' H' → B e' H' fun ex e'' H'' =>
    match ex with
    | .normal => ∃ e1 H1, Weak n H.length e'' H'' e1 H1 ∧ I e1 H1 ∧ μ e1 H1 < μ e' H'
    | ex => K ex e'' H''

/-- What is known of some slots behind a region; each value is looked at. -/
def onlyK (e : Env) : List Nat → (Env → Prop) → Prop
  | [], k => k []
  | t :: ts, k => match e.get t with
    | .s .none => onlyK e ts fun r => k ((t, .s .none) :: r)
    | .s (.a (.c x)) => cellK x fun x => onlyK e ts fun r => k ((t, .s (.a (.c x))) :: r)
    | .s (.a (.agg l)) => cellsK l fun l => onlyK e ts fun r => k ((t, .s (.a (.agg l))) :: r)
    | .s (.tup l) => onlyK e ts fun r => k ((t, .s (.tup l)) :: r)
    | .g _ _ _ => onlyK e ts fun r => k ((t, .s .none) :: r)

theorem onlyK_rep {G : View} {e : Env} {n : Nat} {a : Act} (hr : EnvRep G e n a) : ∀ (ks : List Nat) (k : Env → Prop), onlyK e ks k → ∃ e', k e' ∧ EnvRep G e' n a := by
  intro ks
  induction ks with
  | nil => intro k h; exact ⟨[], h, fun t => trivial, hr.size, hr.defers⟩
  | cons t ts ih =>
    intro k h
    have add : ∀ (x : XV), (x = e.get t ∨ x = .s .none) → onlyK e ts (fun r => k ((t, x) :: r)) → ∃ e', k e' ∧ EnvRep G e' n a := by
      intro x hx h
      obtain ⟨e', hk, hE⟩ := ih _ h
      refine ⟨_, hk, fun u => ?_, hr.size, hr.defers⟩
      rw [Env.get_cons]
      split
      · rename_i he
        subst he
        rcases hx with hx | hx
        · rw [hx]; exact hr.get _
        · rw [hx]; trivial
      · exact hE.get u
    simp only [onlyK, cellK_eq, cellsK_eq] at h
    split at h
    · exact add _ (.inr rfl) h
    · rename_i x hx; exact add _ (.inl hx.symm) h
    · rename_i x hx; exact add _ (.inl hx.symm) h
    · rename_i x hx; exact add _ (.inl hx.symm) h
    · exact add _ (.inr rfl) h

theorem onlyK_congr {e e' : Env} (h : ∀ t, e.get t = e'.get t) : ∀ {ks : List Nat} {k : Env → Prop}, onlyK e ks k → onlyK e' ks k := by
  intro ks
  induction ks with
  | nil => intro k h; exact h
  | cons t ks ih =>
    intro k hk
    simp only [onlyK, cellK_eq, cellsK_eq, ← h t] at hk ⊢
    split at hk <;> exact ih hk

/-- 'n': how many slots; 'ks': the slots that are read in another region than that in which they are written. -/
def runC (M : Mach) (n : Nat) (ks : List Nat) : Code → Body
  | .skip, e, H, K => K .normal e H
  | .label _, e, H, K => K .normal e H
  | .ret, e, H, K => K .ret e H
  | .exit id, e, H, K => K (.exit id) e H
  | .seq x y, e, H, K => runC M n ks x e H fun ex e' H' => match ex with
    | .normal => runC M n ks y e' H' K
    | ex => K ex e' H'
  | .cond c x y, e, H, K => match evalX e c with
    | .s (.bool t) => match c with
      | .tmp d => cond t (onlyK ((d, .s (.bool true)) :: e) ks fun e' => runC M n ks x e' H K) (onlyK ((d, .s (.bool false)) :: e) ks fun e' => runC M n ks y e' H K)
      | _ => cond t (runC M n ks x e H K) (runC M n ks y e H K)
    | _ => False
  | .block id x, e, H, K => runC M n ks x e H fun ex e' H' => match ex with
    | .exit i => (match Nat.beq i id with | true => K .normal e' H' | false => K (.exit i) e' H')
    | ex => K ex e' H'
  | .loop x, e, H, K => LoopA n (runC M n ks x) e H K
  | .region _ ops draw, e, H, K => match plainE e && nodup (dsts ops.toList), draw with
    | true, false => runOps M n ops.toList ops.toList 0 e H fun e' H' => onlyK e' ks fun e'' => heapK H' fun H'' => K .normal e'' H''
    | true, true => match M.P.follows .mixedOrders with
      | true => runOpsD M n ops.toList ops.toList 0 e H [] [] fun e' H' => onlyK e' ks fun e'' => heapK H' fun H'' => K .normal e'' H''
      | false => False
    | _, _ => False
  | _, _, _, _ => False

/-- The least number of which something holds. -/
noncomputable def sInf' (R : Nat → Prop) : Nat := Classical.epsilon fun k => R k ∧ ∀ j, R j → k ≤ j

theorem least_exists (R : Nat → Prop) : ∀ n, R n → ∃ k, R k ∧ ∀ j, R j → k ≤ j := by
  intro n
  induction n using Nat.strongRecOn with
  | _ n ih =>
    intro hn
    by_cases h : ∃ m, m < n ∧ R m
    · obtain ⟨m, hm, hR⟩ := h
      exact ih m hm hR
    · refine ⟨n, hn, fun j hj => ?_⟩
      rcases Nat.lt_or_ge j n with h1 | h1
      · exact absurd ⟨j, h1, hj⟩ h
      · exact h1

theorem sInf'_spec (R : Nat → Prop) (h : ∃ k, R k) : R (sInf' R) ∧ ∀ j, R j → sInf' R ≤ j := by
  obtain ⟨n, hn⟩ := h
  exact Classical.epsilon_spec (least_exists R n hn)

theorem sInf'_mem (R : Nat → Prop) (h : ∃ k, R k) : R (sInf' R) := (sInf'_spec R h).1
theorem sInf'_le (R : Nat → Prop) {j : Nat} (h : R j) : sInf' R ≤ j := (sInf'_spec R ⟨j, h⟩).2 j h

structure Post (G : View) (n : Nat) (K : Exit → Env → List AO → Prop) (ex : Exit) (a : Act) (w : World) : Prop where
  out : ∃ G' e, G'.w = w ∧ K ex e G'.H ∧ Ext G G' ∧ Sim G' ∧ EnvRep G' e n a

theorem Post.mono {G G1 : View} (h : Ext G G1) {n K ex a w} (p : Post G1 n K ex a w) : Post G n K ex a w := by
  obtain ⟨G', e, h1, h2, h3, h4, h5⟩ := p.out
  exact ⟨G', e, h1, h2, h.trans h3, h4, h5⟩

theorem runC_sound {M : Mach} (hT : TSound M.P M.T) {n : Nat} {ks : List Nat} : ∀ (c : Code) {e : Env} {K : Exit → Env → List AO → Prop} {G : View} {a : Act}, runC M n ks c e G.H K → Sim G → EnvRep G e n a →
    c.wp M.P (fun ex a' w' => Post G n K ex a' w') a G.w := by
  intro c
  induction c with
  | skip => intro e K G a h hS hE; exact wp_skip ⟨G, e, rfl, h, Ext.refl G, hS, hE⟩
  | label l => intro e K G a h hS hE; exact wp_label ⟨G, e, rfl, h, Ext.refl G, hS, hE⟩
  | ret => intro e K G a h hS hE; exact wp_ret ⟨G, e, rfl, h, Ext.refl G, hS, hE⟩
  | exit id => intro e K G a h hS hE; exact wp_exit ⟨G, e, rfl, h, Ext.refl G, hS, hE⟩
  | seq x y ihx ihy =>
    intro e K G a h hS hE
    refine wp_seq (wp_mono (ihx h hS hE) fun ex a' w' p => ?_)
    obtain ⟨G', e', rfl, hk, he, hs, hE'⟩ := p.out
    cases ex with
    | normal => exact wp_mono (ihy hk hs hE') fun ex a'' w'' p => p.mono he
    | _ => exact ⟨G', e', rfl, hk, he, hs, hE'⟩
  | cond c x y ihx ihy =>
    intro e K G a h hS hE
    simp only [runC] at h
    split at h
    · rename_i t ht
      have hc := evalX_rep hE c
      rw [ht] at hc
      obtain ⟨_, hc⟩ := hc
      split at h
      · rename_i d
        have hd : evalX e (.tmp d) = .s (.bool t) := ht
        have hk : EnvRep G ((d, .s (.bool t)) :: e) n a := hE.know d (by
          have := hE.get d
          have hg : e.get d = .s (.bool t) := hd
          rwa [hg] at this)
        refine wp_cond hc ?_
        cases t with
        | true =>
          obtain ⟨e', h, hE'⟩ := onlyK_rep hk ks _ h
          exact ihx h hS hE'
        | false =>
          obtain ⟨e', h, hE'⟩ := onlyK_rep hk ks _ h
          exact ihy h hS hE'
      · refine wp_cond hc ?_
        cases t with
        | true => exact ihx h hS hE
        | false => exact ihy h hS hE
    · exact h.elim
  | block id x ih =>
    intro e K G a h hS hE
    refine wp_block (wp_mono (ih h hS hE) fun ex a' w' p => ?_)
    obtain ⟨G', e', rfl, hk, he, hs, hE'⟩ := p.out
    cases ex with
    | exit i =>
      simp only [Exit.inBlock]
      simp only at hk
      split at hk
      · rename_i hb
        have : i = id := by simpa using hb
        rw [if_pos this]
        exact ⟨G', e', rfl, hk, he, hs, hE'⟩
      · rename_i hb
        have : ¬ i = id := by intro e; subst e; simp at hb
        rw [if_neg this]
        exact ⟨G', e', rfl, hk, he, hs, hE'⟩
    | _ => exact ⟨G', e', rfl, hk, he, hs, hE'⟩
  | loop x ih =>
    intro e K G a h hS hE
    obtain ⟨I, μ, ⟨e1, H1, hw0, h0⟩, hstep⟩ := h
    obtain ⟨G1, hwG, heG, hsG, rfl, hE1⟩ := hw0 G G a (Ext.refl G) (Nat.le_refl _) hS rfl hE
    let R : Act → World → Nat → Prop := fun a' w' m => ∃ G' e', G'.w = w' ∧ I e' G'.H ∧ Ext G G' ∧ Sim G' ∧ EnvRep G' e' n a' ∧ μ e' G'.H = m
    let m : Act → World → Nat := fun a' w' => sInf' (R a' w')
    refine wp_loop (fun a' w' => ∃ k, R a' w' k) m ⟨_, G1, e1, hwG, h0, heG, hsG, hE1, rfl⟩ fun a' w' hI => ?_
    obtain ⟨G', e', rfl, hi, he, hs, hE', hm⟩ := sInf'_mem (R a' w') hI
    refine wp_mono (ih (hstep e' G'.H hi) hs hE') fun ex a'' w'' p => ?_
    obtain ⟨G'', e'', rfl, hk, he', hs', hE''⟩ := p.out
    cases ex with
    | normal =>
      obtain ⟨e2, H2, hw2, hI2, hlt⟩ := hk
      obtain ⟨G2, hwG2, heG2, hsG2, rfl, hE2⟩ := hw2 G G'' a'' (he.trans he') (Nat.le_refl _) hs' rfl hE''
      have hR : R a'' G''.w (μ e2 G2.H) := ⟨G2, e2, hwG2, hI2, heG2, hsG2, hE2, rfl⟩
      refine ⟨⟨_, hR⟩, ?_⟩
      have h1 : m a'' G''.w ≤ μ e2 G2.H := sInf'_le _ hR
      have h2 : μ e' G'.H = m a' G'.w := hm
      omega
    | _ => exact ⟨G'', e'', rfl, hk, he.trans he', hs', hE''⟩
  | region id ops draw =>
    intro e K G a h hS hE
    simp only [runC] at h
    have hend : ∀ e' G' a', (onlyK e' ks fun e'' => heapK G'.H fun H'' => K .normal e'' H'') → Ext G G' → Sim G' → EnvRep G' e' n a' → Post G n K .normal a' G'.w := by
      intro e' G' a' hk he hs hE'
      obtain ⟨e'', hk, hE''⟩ := onlyK_rep hE' ks _ hk
      rw [heapK_eq] at hk
      exact ⟨G', e'', rfl, hk, he, hs, hE''⟩
    split at h
    · rename_i hb
      simp only [Bool.and_eq_true] at hb
      exact wp_region_list (runOps_sound hT hb.2 ops.toList 0 (fun j => by simp) hS hE (plain_inv hb.1) h hend)
    · rename_i hb
      simp only [Bool.and_eq_true] at hb
      split at h
      · rename_i hm
        exact drawn_sound (K := fun e' H' => onlyK e' ks fun e'' => heapK H' fun H'' => K .normal e'' H'') hT hm hb.2 hS hE hb.1 (fun e e' H hg hk => onlyK_congr hg hk) h hend
      · exact h.elim
    · exact h.elim
  | rangeFunc f ps x y _ _ => intro e K G a h; exact h.elim
  | scope x _ => intro e K G a h; exact h.elim
  | goto l => intro e K G a h; exact h.elim
  | refuse w => intro e K G a h; exact h.elim

end Go.Ab

/- The abstract machine: functions, and tables of what they do. -/
namespace Go.Ab
set_option linter.unusedSectionVars false
variable [Base]
set_option linter.unusedSectionVars false

def argEnv : Nat → List AV → Env
  | _, [] => []
  | i, x :: r => (i, .s (.a x)) :: argEnv (i + 1) r

def resOne (P : Program) (e : Env) (H : List AO) : ResultVar → Option AV
  | .tmp t => match e.get t with | .s (.a v) => some v | _ => none
  | .cell a ty => match e.get a with
    | .s (.a (.c (.ptr id off))) => match H[id]? with
      | some (.row cs) => ofCells P ty cs off
      | _ => none
    | _ => none

def resAll (P : Program) (e : Env) (H : List AO) : List ResultVar → Option (List AV)
  | [] => some []
  | x :: r => match resOne P e H x, resAll P e H r with | some v, some vs => some (v :: vs) | _, _ => none

def resS : List AV → SV
  | [v] => .a v
  | vs => .tup vs

/-- What a function returns, and what it leaves of some objects: those that it was handed, and 'L' more. -/
def endA (P : Program) (rs : List ResultVar) (L : List Nat) (e : Env) (H : List AO) (K : SV → List AO → Prop) : Prop :=
  match resAll P e H rs with
  | some vs => match renS L (resS vs), subH L H L with
    | some r, some H' => K r H'
    | _, _ => False
  | none => False

def runF (M : Mach) (fn : Func) (ks L : List Nat) (args : List AV) (H : List AO) (K : SV → List AO → Prop) : Prop :=
  match fn.body with
  | some c => runC M fn.ntmps ks c (argEnv 0 args) H fun ex e H' => match ex with
    | .normal => endA M.P fn.results.toList L e H' K
    | .ret => endA M.P fn.results.toList L e H' K
    | _ => False
  | none => False

theorem argEnv_rep {G : View} : ∀ {args : List AV} {cargs : List Value} (i : Nat) (pre : List Value), pre.length = i → All2 (RepA G) args cargs → ∀ (rest : List Value) (t : Nat), RepX G ((argEnv i args).get t) ((pre ++ cargs ++ rest).toArray.getD t undef) := by
  intro args
  induction args with
  | nil => intro cargs i pre _ h rest t; cases h; trivial
  | cons x args ih =>
    intro cargs i pre hp h rest t
    cases h with
    | cons h1 t1 =>
      rename_i c cs
      show RepX G (Env.get ((i, .s (.a x)) :: argEnv (i + 1) args) t) _
      rw [Env.get_cons]
      by_cases he : i = t
      · subst he
        simp only [if_true]
        have : ((pre ++ c :: cs ++ rest).toArray.getD i undef) = c := by
          simp [← hp]
        rw [this]
        exact h1
      · simp only [he, if_false]
        have := ih (i + 1) (pre ++ [c]) (by simp [hp]) t1 rest t
        simpa using this

def resRun (tmps : Array Value) : ResultVar → Sem Value
  | .tmp t => pure (tmps.getD t undef)
  | .cell b t => do loadVar t (← asAddr (tmps.getD b undef))

theorem resOne_sound {P : Program} {G : View} (hS : Sim G) {e : Env} {n : Nat} {a : Act} (hE : EnvRep G e n a) {x : ResultVar} {v : AV} (h : resOne P e G.H x = some v) :
    ∃ u, (resRun a.tmps x).run P G.w = .ok u G.w ∧ RepA G v u := by
  cases x with
  | tmp t =>
    simp only [resOne] at h
    have hg := hE.get t
    split at h
    · rename_i v' hv
      cases h
      rw [hv] at hg
      exact ⟨_, rfl, hg⟩
    · cases h
  | cell b ty =>
    simp only [resOne] at h
    have hg := hE.get b
    split at h
    · rename_i id off hid
      rw [hid] at hg
      obtain ⟨hv, cs, ho⟩ := hg
      rw [ho] at h
      simp only at h
      obtain ⟨ca, T, hh, _, hrc⟩ := hS.objs id _ ho trivial
      obtain ⟨u, hu, hru⟩ := load_sound (P := P) (b := G.ρ id) (base := 0) h hrc (fun j u hj => by
        simp only [Nat.zero_add]
        show G.w.cell? _ = _
        rw [cell_of_row G.w (G.ρ id) j ca T (0, 0) hh]
        simpa using hj)
      simp only [Nat.zero_add] at hu
      exact ⟨u, by simp only [resRun, hv]; simp [asAddr, hu], hru⟩
    · cases h

theorem resAll_sound {P : Program} {G : View} (hS : Sim G) {e : Env} {n : Nat} {a : Act} (hE : EnvRep G e n a) : ∀ {rs : List ResultVar} {vs : List AV}, resAll P e G.H rs = some vs →
    ∃ us, (rs.mapM (resRun a.tmps)).run P G.w = .ok us G.w ∧ All2 (RepA G) vs us := by
  intro rs
  induction rs with
  | nil => intro vs h; simp only [resAll] at h; cases h; exact ⟨[], rfl, .nil⟩
  | cons x rs ih =>
    intro vs h
    simp only [resAll] at h
    split at h
    · rename_i v vs' hv hvs
      cases h
      obtain ⟨u, hu, hru⟩ := resOne_sound hS hE hv
      obtain ⟨us, hus, hrus⟩ := ih hvs
      refine ⟨u :: us, ?_, .cons hru hrus⟩
      rw [List.mapM_cons, Sem.run_bind]
      rw [hu]
      simp only [Result.andThen_ok, Sem.run_bind]
      rw [hus]
      rfl
    · cases h

theorem results_sound {P : Program} {G : View} (hS : Sim G) {e : Env} {n : Nat} {a : Act} (hE : EnvRep G e n a) {fn : Func} {vs : List AV} (h : resAll P e G.H fn.results.toList = some vs) :
    ∃ u, (results fn a.tmps).run P G.w = .ok u G.w ∧ RepS G (resS vs) u := by
  obtain ⟨us, hus, hr⟩ := resAll_sound (P := P) hS hE h
  have hrun : (results fn a.tmps).run P G.w = .ok (if h : us.toArray.size = 1 then us.toArray[0] else .tuple us.toArray) G.w := by
    have he : results fn a.tmps = (do let vs ← fn.results.mapM (resRun a.tmps); pure (if h : vs.size = 1 then vs[0] else .tuple vs)) := by
      unfold results
      congr 1
    rw [he, Array.mapM_eq_mapM_toList]
    simp only [bind_pure_comp, Sem.run_map, hus, Result.andThen_ok]
  refine ⟨_, hrun, ?_⟩
  have hlen := hr.length
  match vs, us, hr, hlen with
  | [v], [u], .cons h1 .nil, _ => exact h1
  | [], [], _, _ => exact ⟨[], rfl, .nil⟩
  | v :: v' :: vs, u :: u' :: us, hr, _ => exact ⟨u :: u' :: us, by simp, hr⟩

/-- Of what is there at the end only some objects are kept. -/
theorem Ext.keep {G G' : View} (he : Ext G G') {L : List Nat} {Hs : List AO} (hsub : subH L G'.H L = some Hs) (hL : nodup L = true) (hid : ∀ k, k < G.H.length → L[k]? = some k) : Ext G (G'.sub L Hs) where
  stays := he.stays
  size := he.size
  os := he.os
  tape := he.tape
  output := he.output
  objs := fun id o ho => by
    obtain ⟨o', ho', hn⟩ := he.objs id o ho
    obtain ⟨o2, h1, h2, h3⟩ := sub_obj hsub ho' (hid id (List.getElem?_eq_some_iff.1 ho).1)
    refine ⟨o2, h1, ?_⟩
    cases o' with
    | row cs' =>
      simp only [renO] at h2
      split at h2
      · rename_i ys hys
        cases h2
        cases o with
        | row cs => exact ⟨h3.trans hn.1, by rw [ren_length hys]; exact hn.2⟩
        | _ => exact hn.elim
      · cases h2
    | tok t' e' n' z' =>
      simp only [renO] at h2
      cases h2
      cases o with
      | tok t e n z =>
        obtain ⟨h4, h5, h6, h7, h8⟩ := hn
        exact ⟨h4, h5, h6, h7, fun a b => ⟨h3.trans (h8 a b).1, (h8 a b).2⟩⟩
      | _ => exact hn.elim
    | arr t' e' zs' v' =>
      simp only [renO] at h2
      cases h2
      cases o with
      | arr t e zs v =>
        obtain ⟨h4, h5, h6, h7⟩ := hn
        exact ⟨h4, h5, h6, fun a => ⟨(h7 a).1, fun b => ⟨h3.trans ((h7 a).2 b).1, ((h7 a).2 b).2⟩⟩⟩
      | _ => exact hn.elim
    | map k' v' es' =>
      simp only [renO] at h2
      cases h2
      cases o with
      | map k v es => exact ⟨hn.1, hn.2.1, h3.trans hn.2.2⟩
      | _ => exact hn.elim
    | dead =>
      simp only [renO] at h2
      cases h2
      cases o with
      | arr t e zs v => trivial
      | map k v es => trivial
      | dead => trivial
      | _ => exact hn.elim
  frame := he.frame
  news := fun k b h => by
    obtain ⟨id, hk, h2⟩ := sub_holds hsub h
    rcases he.news id b h2 with h3 | h3
    · have hlt : id < G.H.length := by
        obtain ⟨o, ho, _⟩ := h3
        exact (List.getElem?_eq_some_iff.1 ho).1
      have := nodup_inj hL hk (hid id hlt)
      subst this
      exact .inl h3
    · exact .inr h3
  inew := he.inew

/-- The end: what is returned, and what is left. -/
@[irreducible] def Ends (r : SV) (H : List AO) (r' : SV) (H' : List AO) : Prop := (∀ G v, RepS G r v → RepS G r' v) ∧ H = H'

theorem ends_of {r H r' H'} (h1 : ∀ G v, RepS G r v → RepS G r' v) (h2 : H = H') : Ends r H r' H' := by unfold Ends; exact ⟨h1, h2⟩

theorem ends_eq {r H r' H'} (h : r = r' ∧ H = H') : Ends r H r' H' := ends_of (fun _ _ hr => h.1 ▸ hr) h.2

theorem fun_sound {M : Mach} (hT : TSound M.P M.T) {f : FuncId} {fn : Func} {ks L : List Nat} {args : List AV} {H H2 : List AO} {r : SV} (hf : M.P.funcs[f]? = some fn) (hname : (fn.name == "runtime.NumGoroutine") = false)
    (hn : args.length ≤ fn.ntmps) (hL : nodup L = true) (hid : ∀ k, k < H.length → L[k]? = some k) (h : runF M fn ks L args H fun r' H' => Ends r' H' r H2) {G : View} (hS : Sim G) (hH : G.H = H) {cargs : List Value} (ha : All2 (RepA G) args cargs) :
    CallOk M.P f cargs G fun v G' => G'.H = H2 ∧ RepS G' r v := by
  subst hH
  unfold runF at h
  split at h
  · rename_i c hb
    refine .inr ⟨by
      have hn' : ¬ fn.name = "runtime.NumGoroutine" := by simpa using hname
      simp [callFunc, hf, hn', hb], ?_⟩
    refine calls_of_wp hf hb (wp_mono (runC_sound hT c h hS ?_) fun ex a' w' p => ?_)
    · have hlen := ha.length
      refine ⟨fun t => ?_, ?_, rfl⟩
      · have := argEnv_rep (G := G) 0 [] rfl ha (List.replicate (fn.ntmps - args.length) undef) t
        have e1 : (([] : List Value) ++ cargs ++ List.replicate (fn.ntmps - args.length) undef).toArray = cargs.toArray ++ Array.replicate (fn.ntmps - cargs.toArray.size) undef := by
          apply Array.ext'
          simp [hlen]
        rw [e1] at this
        exact this
      · simp; omega
    · obtain ⟨G', e, rfl, hk, he, hs, hE⟩ := p.out
      have fin : endA M.P fn.results.toList L e G'.H (fun r' H' => Ends r' H' r H2) → a'.defers = [] ∧ ∃ v, (results fn a'.tmps).run M.P G'.w = .ok v G'.w ∧
          ∃ u G'', Ending.returned v = .returned u ∧ G''.w = G'.w ∧ Ext G G'' ∧ Sim G'' ∧ (G''.H = H2 ∧ RepS G'' r u) := by
        intro hend
        refine ⟨hE.defers, ?_⟩
        unfold endA at hend
        split at hend
        · rename_i vs hvs
          obtain ⟨u, hu, hru⟩ := results_sound (P := M.P) hs hE hvs
          split at hend
          · rename_i r' H' hren hsub
            unfold Ends at hend
            obtain ⟨hle, rfl⟩ := hend
            exact ⟨u, hu, u, G'.sub L _, rfl, rfl, he.keep hsub hL hid, Sim.sub hsub hs hL, rfl, hle _ _ (renS_rep hsub hren hru)⟩
          · exact hend.elim
        · exact hend.elim
      cases ex with
      | normal => exact fin hk
      | ret => exact fin hk
      | _ => exact hk.elim
  · exact h.elim

/-! Tables. -/
abbrev Says := List AV → List AO → Option (Option Prop × SV × List AO)

def noTable : Table := fun _ _ _ => none

def ext (T : Table) (f : FuncId) (s : Says) : Table := fun g args H => match Nat.beq g f with | true => s args H | false => T g args H

theorem noTable_sound (P : Program) : TSound P noTable := fun _ _ _ _ _ _ h => by cases h

theorem ext_sound {P : Program} {T : Table} (hT : TSound P T) {f : FuncId} {s : Says}
    (h : ∀ args H p r H', s args H = some (p, r, H') → holdsO p → ∀ G : View, Sim G → G.H = H → ∀ cargs : List Value, All2 (RepA G) args cargs → CallOk P f cargs G fun v G' => G'.H = H' ∧ RepS G' r v) : TSound P (ext T f s) := by
  intro g args H p r H' hg hp G hS hH cargs ha
  unfold ext at hg
  split at hg
  · rename_i hb
    have : g = f := by simpa using hb
    subst this
    have := (h args H p r H' hg hp G hS hH cargs ha).norm
    rwa [hH] at this
  · exact hT g args H p r H' hg hp G hS hH cargs ha

/-- A function that changes none of its objects. -/
def looks (s : List AV → List AO → Option (Option Prop × SV)) : Says := fun args H => match s args H with | some (p, r) => some (p, r, []) | none => none

theorem ext_look {P : Program} {T : Table} (hT : TSound P T) {f : FuncId} {fn : Func} (hf : P.funcs[f]? = some fn) (hname : (fn.name == "runtime.NumGoroutine") = false) {s : List AV → List AO → Option (Option Prop × SV)} (ks : List Nat)
    (h : ∀ args H p r, s args H = some (p, r) → holdsO p → args.length ≤ fn.ntmps ∧ ∃ L, nodup L = true ∧ (∀ k, k < H.length → L[k]? = some k) ∧ runF ⟨P, T⟩ fn ks L args H fun r' H'' => Ends r' H'' r H) : TSound P (ext T f (looks s)) := by
  intro g args H p r H' hg hp G hS hH cargs ha
  unfold ext at hg
  split at hg
  · rename_i hb
    have : g = f := by simpa using hb
    subst this
    unfold looks at hg
    split at hg
    · rename_i p' r' hs
      cases hg
      obtain ⟨hn, L, hL, hid, hrun⟩ := h args H p r hs hp
      exact fun_sound (M := ⟨P, T⟩) hT hf hname hn hL hid hrun hS hH ha
    · cases hg
  · exact hT g args H p r H' hg hp G hS hH cargs ha

/-- A function's line in a table, by running its text. -/
theorem ext_run {P : Program} {T : Table} (hT : TSound P T) {f : FuncId} {fn : Func} (hf : P.funcs[f]? = some fn) (hname : (fn.name == "runtime.NumGoroutine") = false) {s : Says} (ks : List Nat)
    (h : ∀ args H p r H', s args H = some (p, r, H') → holdsO p → args.length ≤ fn.ntmps ∧ ∃ L, nodup L = true ∧ (∀ k, k < H.length → L[k]? = some k) ∧ runF ⟨P, T⟩ fn ks L args H fun r' H'' => Ends r' H'' r H') : TSound P (ext T f s) :=
  ext_sound hT fun args H p r H' hs hp G hS hH cargs ha => by
    obtain ⟨hn, L, hL, hid, hrun⟩ := h args H p r H' hs hp
    exact fun_sound (M := ⟨P, T⟩) hT hf hname hn hL hid hrun hS hH ha

end Go.Ab
