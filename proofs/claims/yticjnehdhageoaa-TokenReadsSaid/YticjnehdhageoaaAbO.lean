/- The abstract machine: functions, and tables of what they do. -/
import Derived.Test.YticjnehdhageoaaAbN
namespace Go.Ab
set_option linter.unusedSectionVars false
variable [Base]
set_option linter.unusedSectionVars false

def argEnv : Nat → List AV → Env
  | _, [] => []
  | i, x :: r => (i, .s (.a x)) :: argEnv (i + 1) r

def resOne (P : Program) (e : Env) (H : List AO) : ResultVar → Option AV
  | .tmp t => match e.get t with | .s (.a v) => some v | _ => none
  | .cell a ty => match e.get a with
    | .s (.a (.c (.ptr id off))) => match H[id]? with
      | some (.row cs) => ofCells P ty cs off
      | _ => none
    | _ => none

def resAll (P : Program) (e : Env) (H : List AO) : List ResultVar → Option (List AV)
  | [] => some []
  | x :: r => match resOne P e H x, resAll P e H r with | some v, some vs => some (v :: vs) | _, _ => none

def resS : List AV → SV
  | [v] => .a v
  | vs => .tup vs

/-- What a function returns, and what it leaves of some objects: those that it was handed, and 'L' more. -/
def endA (P : Program) (rs : List ResultVar) (L : List Nat) (e : Env) (H : List AO) (K : SV → List AO → Prop) : Prop :=
  match resAll P e H rs with
  | some vs => match renS L (resS vs), subH L H L with
    | some r, some H' => K r H'
    | _, _ => False
  | none => False

def runF (M : Mach) (fn : Func) (ks L : List Nat) (args : List AV) (H : List AO) (K : SV → List AO → Prop) : Prop :=
  match fn.body with
  | some c => runC M fn.ntmps ks c (argEnv 0 args) H fun ex e H' => match ex with
    | .normal => endA M.P fn.results.toList L e H' K
    | .ret => endA M.P fn.results.toList L e H' K
    | _ => False
  | none => False

theorem argEnv_rep {G : View} : ∀ {args : List AV} {cargs : List Value} (i : Nat) (pre : List Value), pre.length = i → All2 (RepA G) args cargs → ∀ (rest : List Value) (t : Nat), RepX G ((argEnv i args).get t) ((pre ++ cargs ++ rest).toArray.getD t undef) := by
  intro args
  induction args with
  | nil => intro cargs i pre _ h rest t; cases h; trivial
  | cons x args ih =>
    intro cargs i pre hp h rest t
    cases h with
    | cons h1 t1 =>
      rename_i c cs
      show RepX G (Env.get ((i, .s (.a x)) :: argEnv (i + 1) args) t) _
      rw [Env.get_cons]
      by_cases he : i = t
      · subst he
        simp only [if_true]
        have : ((pre ++ c :: cs ++ rest).toArray.getD i undef) = c := by
          simp [← hp]
        rw [this]
        exact h1
      · simp only [he, if_false]
        have := ih (i + 1) (pre ++ [c]) (by simp [hp]) t1 rest t
        simpa using this

def resRun (tmps : Array Value) : ResultVar → Sem Value
  | .tmp t => pure (tmps.getD t undef)
  | .cell b t => do loadVar t (← asAddr (tmps.getD b undef))

theorem resOne_sound {P : Program} {G : View} (hS : Sim G) {e : Env} {n : Nat} {a : Act} (hE : EnvRep G e n a) {x : ResultVar} {v : AV} (h : resOne P e G.H x = some v) :
    ∃ u, (resRun a.tmps x).run P G.w = .ok u G.w ∧ RepA G v u := by
  cases x with
  | tmp t =>
    simp only [resOne] at h
    have hg := hE.get t
    split at h
    · rename_i v' hv
      cases h
      rw [hv] at hg
      exact ⟨_, rfl, hg⟩
    · cases h
  | cell b ty =>
    simp only [resOne] at h
    have hg := hE.get b
    split at h
    · rename_i id off hid
      rw [hid] at hg
      obtain ⟨hv, cs, ho⟩ := hg
      rw [ho] at h
      simp only at h
      obtain ⟨ca, T, hh, _, hrc⟩ := hS.objs id _ ho trivial
      obtain ⟨u, hu, hru⟩ := load_sound (P := P) (b := G.ρ id) (base := 0) h hrc (fun j u hj => by
        simp only [Nat.zero_add]
        show G.w.cell? _ = _
        rw [cell_of_row G.w (G.ρ id) j ca T (0, 0) hh]
        simpa using hj)
      simp only [Nat.zero_add] at hu
      exact ⟨u, by simp only [resRun, hv]; simp [asAddr, hu], hru⟩
    · cases h

theorem resAll_sound {P : Program} {G : View} (hS : Sim G) {e : Env} {n : Nat} {a : Act} (hE : EnvRep G e n a) : ∀ {rs : List ResultVar} {vs : List AV}, resAll P e G.H rs = some vs →
    ∃ us, (rs.mapM (resRun a.tmps)).run P G.w = .ok us G.w ∧ All2 (RepA G) vs us := by
  intro rs
  induction rs with
  | nil => intro vs h; simp only [resAll] at h; cases h; exact ⟨[], rfl, .nil⟩
  | cons x rs ih =>
    intro vs h
    simp only [resAll] at h
    split at h
    · rename_i v vs' hv hvs
      cases h
      obtain ⟨u, hu, hru⟩ := resOne_sound hS hE hv
      obtain ⟨us, hus, hrus⟩ := ih hvs
      refine ⟨u :: us, ?_, .cons hru hrus⟩
      rw [List.mapM_cons, Sem.run_bind]
      rw [hu]
      simp only [Result.andThen_ok, Sem.run_bind]
      rw [hus]
      rfl
    · cases h

theorem results_sound {P : Program} {G : View} (hS : Sim G) {e : Env} {n : Nat} {a : Act} (hE : EnvRep G e n a) {fn : Func} {vs : List AV} (h : resAll P e G.H fn.results.toList = some vs) :
    ∃ u, (results fn a.tmps).run P G.w = .ok u G.w ∧ RepS G (resS vs) u := by
  obtain ⟨us, hus, hr⟩ := resAll_sound (P := P) hS hE h
  have hrun : (results fn a.tmps).run P G.w = .ok (if h : us.toArray.size = 1 then us.toArray[0] else .tuple us.toArray) G.w := by
    have he : results fn a.tmps = (do let vs ← fn.results.mapM (resRun a.tmps); pure (if h : vs.size = 1 then vs[0] else .tuple vs)) := by
      unfold results
      congr 1
    rw [he, Array.mapM_eq_mapM_toList]
    simp only [bind_pure_comp, Sem.run_map, hus, Result.andThen_ok]
  refine ⟨_, hrun, ?_⟩
  have hlen := hr.length
  match vs, us, hr, hlen with
  | [v], [u], .cons h1 .nil, _ => exact h1
  | [], [], _, _ => exact ⟨[], rfl, .nil⟩
  | v :: v' :: vs, u :: u' :: us, hr, _ => exact ⟨u :: u' :: us, by simp, hr⟩

/-- Of what is there at the end only some objects are kept. -/
theorem Ext.keep {G G' : View} (he : Ext G G') {L : List Nat} {Hs : List AO} (hsub : subH L G'.H L = some Hs) (hL : nodup L = true) (hid : ∀ k, k < G.H.length → L[k]? = some k) : Ext G (G'.sub L Hs) where
  stays := he.stays
  size := he.size
  os := he.os
  tape := he.tape
  output := he.output
  objs := fun id o ho => by
    obtain ⟨o', ho', hn⟩ := he.objs id o ho
    obtain ⟨o2, h1, h2, h3⟩ := sub_obj hsub ho' (hid id (List.getElem?_eq_some_iff.1 ho).1)
    refine ⟨o2, h1, ?_⟩
    cases o' with
    | row cs' =>
      simp only [renO] at h2
      split at h2
      · rename_i ys hys
        cases h2
        cases o with
        | row cs => exact ⟨h3.trans hn.1, by rw [ren_length hys]; exact hn.2⟩
        | tok => exact hn.elim
      · cases h2
    | tok t' e' n' z' =>
      simp only [renO] at h2
      cases h2
      cases o with
      | row cs => exact hn.elim
      | tok t e n z =>
        obtain ⟨h4, h5, h6, h7, h8⟩ := hn
        exact ⟨h4, h5, h6, h7, fun a b => ⟨h3.trans (h8 a b).1, (h8 a b).2⟩⟩
  frame := he.frame
  news := fun k b h => by
    obtain ⟨id, hk, h2⟩ := sub_holds hsub h
    rcases he.news id b h2 with h3 | h3
    · have hlt : id < G.H.length := by
        obtain ⟨o, ho, _⟩ := h3
        exact (List.getElem?_eq_some_iff.1 ho).1
      have := nodup_inj hL hk (hid id hlt)
      subst this
      exact .inl h3
    · exact .inr h3
  inew := he.inew

/-- The end: what is returned, and what is left. -/
@[irreducible] def Ends (r : SV) (H : List AO) (r' : SV) (H' : List AO) : Prop := (∀ G v, RepS G r v → RepS G r' v) ∧ H = H'

theorem ends_of {r H r' H'} (h1 : ∀ G v, RepS G r v → RepS G r' v) (h2 : H = H') : Ends r H r' H' := by unfold Ends; exact ⟨h1, h2⟩

theorem ends_eq {r H r' H'} (h : r = r' ∧ H = H') : Ends r H r' H' := ends_of (fun _ _ hr => h.1 ▸ hr) h.2

theorem fun_sound {M : Mach} (hT : TSound M.P M.T) {f : FuncId} {fn : Func} {ks L : List Nat} {args : List AV} {H H2 : List AO} {r : SV} (hf : M.P.funcs[f]? = some fn) (hname : (fn.name == "runtime.NumGoroutine") = false)
    (hn : args.length ≤ fn.ntmps) (hL : nodup L = true) (hid : ∀ k, k < H.length → L[k]? = some k) (h : runF M fn ks L args H fun r' H' => Ends r' H' r H2) {G : View} (hS : Sim G) (hH : G.H = H) {cargs : List Value} (ha : All2 (RepA G) args cargs) :
    CallOk M.P f cargs G fun v G' => G'.H = H2 ∧ RepS G' r v := by
  subst hH
  unfold runF at h
  split at h
  · rename_i c hb
    refine .inr ⟨by
      have hn' : ¬ fn.name = "runtime.NumGoroutine" := by simpa using hname
      simp [callFunc, hf, hn', hb], ?_⟩
    refine calls_of_wp hf hb (wp_mono (runC_sound hT c h hS ?_) fun ex a' w' p => ?_)
    · have hlen := ha.length
      refine ⟨fun t => ?_, ?_, rfl⟩
      · have := argEnv_rep (G := G) 0 [] rfl ha (List.replicate (fn.ntmps - args.length) undef) t
        have e1 : (([] : List Value) ++ cargs ++ List.replicate (fn.ntmps - args.length) undef).toArray = cargs.toArray ++ Array.replicate (fn.ntmps - cargs.toArray.size) undef := by
          apply Array.ext'
          simp [hlen]
        rw [e1] at this
        exact this
      · simp; omega
    · obtain ⟨G', e, rfl, hk, he, hs, hE⟩ := p.out
      have fin : endA M.P fn.results.toList L e G'.H (fun r' H' => Ends r' H' r H2) → a'.defers = [] ∧ ∃ v, (results fn a'.tmps).run M.P G'.w = .ok v G'.w ∧
          ∃ u G'', Ending.returned v = .returned u ∧ G''.w = G'.w ∧ Ext G G'' ∧ Sim G'' ∧ (G''.H = H2 ∧ RepS G'' r u) := by
        intro hend
        refine ⟨hE.defers, ?_⟩
        unfold endA at hend
        split at hend
        · rename_i vs hvs
          obtain ⟨u, hu, hru⟩ := results_sound (P := M.P) hs hE hvs
          split at hend
          · rename_i r' H' hren hsub
            unfold Ends at hend
            obtain ⟨hle, rfl⟩ := hend
            exact ⟨u, hu, u, G'.sub L _, rfl, rfl, he.keep hsub hL hid, Sim.sub hsub hs hL, rfl, hle _ _ (renS_rep hsub hren hru)⟩
          · exact hend.elim
        · exact hend.elim
      cases ex with
      | normal => exact fin hk
      | ret => exact fin hk
      | _ => exact hk.elim
  · exact h.elim

/-! Tables. -/
abbrev Says := List AV → List AO → Option (Option Prop × SV × List AO)

def noTable : Table := fun _ _ _ => none

def ext (T : Table) (f : FuncId) (s : Says) : Table := fun g args H => match Nat.beq g f with | true => s args H | false => T g args H

theorem noTable_sound (P : Program) : TSound P noTable := fun _ _ _ _ _ _ h => by cases h

theorem ext_sound {P : Program} {T : Table} (hT : TSound P T) {f : FuncId} {s : Says}
    (h : ∀ args H p r H', s args H = some (p, r, H') → holdsO p → ∀ G : View, Sim G → G.H = H → ∀ cargs : List Value, All2 (RepA G) args cargs → CallOk P f cargs G fun v G' => G'.H = H' ∧ RepS G' r v) : TSound P (ext T f s) := by
  intro g args H p r H' hg hp G hS hH cargs ha
  unfold ext at hg
  split at hg
  · rename_i hb
    have : g = f := by simpa using hb
    subst this
    exact h args H p r H' hg hp G hS hH cargs ha
  · exact hT g args H p r H' hg hp G hS hH cargs ha

/-- A function's line in a table, by running its text. -/
theorem ext_run {P : Program} {T : Table} (hT : TSound P T) {f : FuncId} {fn : Func} (hf : P.funcs[f]? = some fn) (hname : (fn.name == "runtime.NumGoroutine") = false) {s : Says} (ks : List Nat)
    (h : ∀ args H p r H', s args H = some (p, r, H') → holdsO p → args.length ≤ fn.ntmps ∧ ∃ L, nodup L = true ∧ (∀ k, k < H.length → L[k]? = some k) ∧ runF ⟨P, T⟩ fn ks L args H fun r' H'' => Ends r' H'' r H') : TSound P (ext T f s) :=
  ext_sound hT fun args H p r H' hs hp G hS hH cargs ha => by
    obtain ⟨hn, L, hL, hid, hrun⟩ := h args H p r H' hs hp
    exact fun_sound (M := ⟨P, T⟩) hT hf hname hn hL hid hrun hS hH ha

end Go.Ab
