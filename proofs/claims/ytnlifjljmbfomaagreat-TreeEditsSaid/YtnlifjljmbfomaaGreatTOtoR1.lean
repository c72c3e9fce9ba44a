/- The abstract machine: functions, and tables of what they do. -/
import Derived.Test.YtnlifjljmbfomaaGreatTM4toN
import Derived.Test.YtnlifjljmbfomaaGreatShelf
namespace Go.Ab
set_option linter.unusedSectionVars false
variable [Base]
set_option linter.unusedSectionVars false
def argEnv : Nat → List AV → Env
 | _, [] => []
 | i, x :: r => (i, .s (.a x)) :: argEnv (i + 1) r
def resOne (P : Program) (e : Env) (H : List AO) : ResultVar → Option AV
 | .tmp t => match e.get t with | .s (.a v) => some v | _ => none
 | .cell a ty => match e.get a with
  | .s (.a (.c (.ptr id off))) => match H[id]? with
   | some (.row cs) => ofCells P ty cs off
   | _ => none
  | _ => none
def resAll (P : Program) (e : Env) (H : List AO) : List ResultVar → Option (List AV)
 | [] => some []
 | x :: r => match resOne P e H x, resAll P e H r with | some v, some vs => some (v :: vs) | _, _ => none
def resS : List AV → SV
 | [v] => .a v
 | vs => .tup vs
def endA (P : Program) (rs : List ResultVar) (L : List Nat) (e : Env) (H : List AO) (K : SV → List AO → Prop) : Prop :=
 match resAll P e H rs with
 | some vs => match renS L (resS vs), subH L H L with
  | some r, some H' => K r H'
  | _, _ => False
 | none => False
def runF (M : Mach) (fn : Func) (ks L : List Nat) (args : List AV) (H : List AO) (K : SV → List AO → Prop) : Prop :=
 match fn.body with
 | some c => runC M fn.ntmps ks c (argEnv 0 args) H fun ex e H' => match ex with
  | .normal => endA M.P fn.results.toList L e H' K
  | .ret => endA M.P fn.results.toList L e H' K
  | _ => False
 | none => False
theorem argEnv_rep {G : View} : ∀ {args : List AV} {cargs : List Value} (i : Nat) (pre : List Value), pre.length = i → All2 (RepA G) args cargs → ∀ (rest : List Value) (t : Nat), RepX G ((argEnv i args).get t) ((pre ++ cargs ++ rest).toArray.getD t undef) := by
 intro args
 induction args with
 | nil => intro cargs i pre _ h rest t; cases h; trivial
 | cons x args ih =>
  intro cargs i pre hp h rest t
  cases h with
  | cons h1 t1 =>
   rename_i c cs
   show RepX G (Env.get ((i, .s (.a x)) :: argEnv (i + 1) args) t) _
   rw [Env.get_cons]
   by_cases he : i = t
   ·subst he
    simp only [if_true]
    have : ((pre ++ c :: cs ++ rest).toArray.getD i undef) = c := by
     simp [← hp]
    rw [this]
    exact h1
   ·simp only [he, if_false]
    have := ih (i + 1) (pre ++ [c]) (by simp [hp]) t1 rest t
    simpa using this
def resRun (tmps : Array Value) : ResultVar → Sem Value
 | .tmp t => pure (tmps.getD t undef)
 | .cell b t => do loadVar t (← asAddr (tmps.getD b undef))
theorem resOne_sound {P : Program} {G : View} (hS : Sim G) {e : Env} {n : Nat} {a : Act} (hE : EnvRep G e n a) {x : ResultVar} {v : AV} (h : resOne P e G.H x = some v) :
  ∃ u, (resRun a.tmps x).run P G.w = .ok u G.w ∧ RepA G v u := by
 cases x with
 | tmp t =>
  simp only [resOne] at h
  have hg := hE.get t
  split at h
  ·rename_i v' hv
   cases h
   rw [hv] at hg
   exact ⟨_, rfl, hg⟩
  ·cases h
 | cell b ty =>
  simp only [resOne] at h
  have hg := hE.get b
  split at h
  ·rename_i id off hid
   rw [hid] at hg
   obtain ⟨hv, cs, ho⟩ := hg
   rw [ho] at h
   simp only at h
   obtain ⟨ca, T, hh, _, hrc⟩ := hS.objs id _ ho trivial
   obtain ⟨u, hu, hru⟩ := load_sound (P := P) (b := G.ρ id) (base := 0) h hrc (fun j u hj => by
    simp only [Nat.zero_add]
    show G.w.cell? _ = _
    rw [cell_of_row G.w (G.ρ id) j ca T (0, 0) hh]
    simpa using hj)
   simp only [Nat.zero_add] at hu
   exact ⟨u, by simp only [resRun, hv]; simp [asAddr, hu], hru⟩
  ·cases h
theorem resAll_sound {P : Program} {G : View} (hS : Sim G) {e : Env} {n : Nat} {a : Act} (hE : EnvRep G e n a) : ∀ {rs : List ResultVar} {vs : List AV}, resAll P e G.H rs = some vs →
  ∃ us, (rs.mapM (resRun a.tmps)).run P G.w = .ok us G.w ∧ All2 (RepA G) vs us := by
 intro rs
 induction rs with
 | nil => intro vs h; simp only [resAll] at h; cases h; exact ⟨[], rfl, .nil⟩
 | cons x rs ih =>
  intro vs h
  simp only [resAll] at h
  split at h
  ·rename_i v vs' hv hvs
   cases h
   obtain ⟨u, hu, hru⟩ := resOne_sound hS hE hv
   obtain ⟨us, hus, hrus⟩ := ih hvs
   refine ⟨u :: us, ?_, .cons hru hrus⟩
   rw [List.mapM_cons, Sem.run_bind]
   rw [hu]
   simp only [Result.andThen_ok, Sem.run_bind]
   rw [hus]
   rfl
  ·cases h
theorem results_sound {P : Program} {G : View} (hS : Sim G) {e : Env} {n : Nat} {a : Act} (hE : EnvRep G e n a) {fn : Func} {vs : List AV} (h : resAll P e G.H fn.results.toList = some vs) :
  ∃ u, (results fn a.tmps).run P G.w = .ok u G.w ∧ RepS G (resS vs) u := by
 obtain ⟨us, hus, hr⟩ := resAll_sound (P := P) hS hE h
 have hrun : (results fn a.tmps).run P G.w = .ok (if h : us.toArray.size = 1 then us.toArray[0] else .tuple us.toArray) G.w := by
  have he : results fn a.tmps = (do let vs ← fn.results.mapM (resRun a.tmps); pure (if h : vs.size = 1 then vs[0] else .tuple vs)) := by
   unfold results
   congr 1
  rw [he, Array.mapM_eq_mapM_toList]
  simp only [bind_pure_comp, Sem.run_map, hus, Result.andThen_ok]
 refine ⟨_, hrun, ?_⟩
 have hlen := hr.length
 match vs, us, hr, hlen with
 | [v], [u], .cons h1 .nil, _ => exact h1
 | [], [], _, _ => exact ⟨[], rfl, .nil⟩
 | v :: v' :: vs, u :: u' :: us, hr, _ => exact ⟨u :: u' :: us, by simp, hr⟩
theorem Ext.keep {G G' : View} (he : Ext G G') {L : List Nat} {Hs : List AO} (hsub : subH L G'.H L = some Hs) (hL : nodup L = true) (hid : ∀ k, k < G.H.length → L[k]? = some k) : Ext G (G'.sub L Hs) where
 stays := he.stays
 size := he.size
 os := he.os
 tape := he.tape
 output := he.output
 objs := fun id o ho => by
  obtain ⟨o', ho', hn⟩ := he.objs id o ho
  obtain ⟨o2, h1, h2, h3⟩ := sub_obj hsub ho' (hid id (List.getElem?_eq_some_iff.1 ho).1)
  refine ⟨o2, h1, ?_⟩
  cases o' with
  | row cs' =>
   simp only [renO] at h2
   split at h2
   ·rename_i ys hys
    cases h2
    cases o with
    | row cs => exact ⟨h3.trans hn.1, by rw [ren_length hys]; exact hn.2⟩
    | _ => exact hn.elim
   ·cases h2
  | tok t' e' n' z' =>
   simp only [renO] at h2
   cases h2
   cases o with
   | tok t e n z =>
    obtain ⟨h4, h5, h6, h7, h8⟩ := hn
    exact ⟨h4, h5, h6, h7, fun a b => ⟨h3.trans (h8 a b).1, (h8 a b).2⟩⟩
   | _ => exact hn.elim
  | arr t' e' zs' v' =>
   simp only [renO] at h2
   cases h2
   cases o with
   | arr t e zs v =>
    obtain ⟨h4, h5, h6, h7⟩ := hn
    exact ⟨h4, h5, h6, fun a => ⟨(h7 a).1, fun b => ⟨h3.trans ((h7 a).2 b).1, ((h7 a).2 b).2⟩⟩⟩
   | _ => exact hn.elim
  | map k' v' es' =>
   simp only [renO] at h2
   cases h2
   cases o with
   | map k v es => exact ⟨hn.1, hn.2.1, h3.trans hn.2.2⟩
   | _ => exact hn.elim
  | dead =>
   simp only [renO] at h2
   cases h2
   cases o with
   | arr t e zs v => trivial
   | map k v es => trivial
   | dead => trivial
   | vec t e zs i j x => trivial
   | gvec t e zs i j x v => trivial
   | _ => exact hn.elim
  | vec t' e' zs' i' k' x' =>
   simp only [renO] at h2
   split at h2
   ·cases h2
    cases o with
    | vec t e zs i j x => exact ⟨hn.1, hn.2.1, hn.2.2.1, h3.trans hn.2.2.2⟩
    | _ => exact hn.elim
   ·cases h2
  | gvec t' e' zs' i' k' x' v' =>
   simp only [renO] at h2
   split at h2
   ·cases h2
    cases o with
    | gvec t e zs i j x v => exact ⟨hn.1, hn.2.1, hn.2.2.1, fun a => ⟨(hn.2.2.2 a).1, h3.trans (hn.2.2.2 a).2.1, (hn.2.2.2 a).2.2⟩⟩
    | _ => exact hn.elim
   ·cases h2
 frame := he.frame
 news := fun k b h => by
  obtain ⟨id, hk, h2⟩ := sub_holds hsub h
  rcases he.news id b h2 with h3 | h3
  ·have hlt : id < G.H.length := by
    obtain ⟨o, ho, _⟩ := h3
    exact (List.getElem?_eq_some_iff.1 ho).1
   have := nodup_inj hL hk (hid id hlt)
   subst this
   exact .inl h3
  ·exact .inr h3
 inew := he.inew
@[irreducible] def Ends (r : SV) (H : List AO) (r' : SV) (H' : List AO) : Prop := (∀ G v, RepS G r v → RepS G r' v) ∧ H = H'
theorem eO9 {r H r' H'} (h1 : ∀ G v, RepS G r v → RepS G r' v) (h2 : H = H') : Ends r H r' H' := by unfold Ends; exact ⟨h1, h2⟩
theorem eE9 {r H r' H'} (h : r = r' ∧ H = H') : Ends r H r' H' := eO9 (fun _ _ hr => h.1 ▸ hr) h.2
theorem fun_sound {M : Mach} (hT : TSound M.P M.T) {f : FuncId} {fn : Func} {ks L : List Nat} {args : List AV} {H H2 : List AO} {r : SV} (hf : M.P.funcs[f]? = some fn) (hname : NG9 fn)
  (hn : args.length ≤ fn.ntmps) (hL : nodup L = true) (hid : ∀ k, k < H.length → L[k]? = some k) (h : runF M fn ks L args H fun r' H' => Ends r' H' r H2) {G : View} (hS : Sim G) (hH : G.H = H) {cargs : List Value} (ha : All2 (RepA G) args cargs) :
  CallOk M.P f cargs G fun v G' => G'.H = H2 ∧ RepS G' r v := by
 subst hH
 unfold runF at h
 split at h
 ·rename_i c hb
  refine .inr ⟨by
   have hn' : ¬ fn.name = "runtime.NumGoroutine" := by simpa using hname
   simp [callFunc, hf, hn', hb], ?_⟩
  refine calls_of_wp hf hb (wp_mono (runC_sound hT c h hS ?_) fun ex a' w' p => ?_)
  ·have hlen := ha.length
   refine ⟨fun t => ?_, ?_, rfl⟩
   ·have := argEnv_rep (G := G) 0 [] rfl ha (List.replicate (fn.ntmps - args.length) undef) t
    have e1 : (([] : List Value) ++ cargs ++ List.replicate (fn.ntmps - args.length) undef).toArray = cargs.toArray ++ Array.replicate (fn.ntmps - cargs.toArray.size) undef := by
     apply Array.ext'
     simp [hlen]
    rw [e1] at this
    exact this
   ·simp; omega
  ·obtain ⟨G', e, rfl, hk, he, hs, hE⟩ := p.out
   have fin : endA M.P fn.results.toList L e G'.H (fun r' H' => Ends r' H' r H2) → a'.defers = [] ∧ ∃ v, (results fn a'.tmps).run M.P G'.w = .ok v G'.w ∧
     ∃ u G'', Ending.returned v = .returned u ∧ G''.w = G'.w ∧ Ext G G'' ∧ Sim G'' ∧ (G''.H = H2 ∧ RepS G'' r u) := by
    intro hend
    refine ⟨hE.defers, ?_⟩
    unfold endA at hend
    split at hend
    ·rename_i vs hvs
     obtain ⟨u, hu, hru⟩ := results_sound (P := M.P) hs hE hvs
     split at hend
     ·rename_i r' H' hren hsub
      unfold Ends at hend
      obtain ⟨hle, rfl⟩ := hend
      exact ⟨u, hu, u, G'.sub L _, rfl, rfl, he.keep hsub hL hid, Sim.sub hsub hs hL, rfl, hle _ _ (renS_rep hsub hren hru)⟩
     ·exact hend.elim
    ·exact hend.elim
   cases ex with
   | normal => exact fin hk
   | ret => exact fin hk
   | _ => exact hk.elim
 ·exact h.elim
abbrev Says := List AV → List AO → Option (Option Prop × SV × List AO)
def noTable : Table := fun _ _ _ => none
def ext (T : Table) (f : FuncId) (s : Says) : Table := fun g args H => match Nat.beq g f with | true => s args H | false => T g args H
theorem noTable_sound (P : Program) : TSound P noTable := fun _ _ _ _ _ _ h => by cases h
theorem ext_sound {P : Program} {T : Table} (hT : TSound P T) {f : FuncId} {s : Says}
  (h : ∀ args H p r H', s args H = some (p, r, H') → holdsO p → ∀ G : View, Sim G → G.H = H → ∀ cargs : List Value, All2 (RepA G) args cargs → CallOk P f cargs G fun v G' => G'.H = H' ∧ RepS G' r v) : TSound P (ext T f s) := by
 intro g args H p r H' hg hp G hS hH cargs ha
 unfold ext at hg
 split at hg
 ·rename_i hb
  have : g = f := by simpa using hb
  subst this
  have := (h args H p r H' hg hp G hS hH cargs ha).norm
  rwa [hH] at this
 ·exact hT g args H p r H' hg hp G hS hH cargs ha
theorem ext_run {P : Program} {T : Table} (hT : TSound P T) {f : FuncId} {fn : Func} (hf : P.funcs[f]? = some fn) (hname : NG9 fn) {s : Says} (ks : List Nat)
  (h : ∀ args H p r H', s args H = some (p, r, H') → holdsO p → args.length ≤ fn.ntmps ∧ ∃ L, nodup L = true ∧ (∀ k, k < H.length → L[k]? = some k) ∧ runF ⟨P, T⟩ fn ks L args H fun r' H'' => Ends r' H'' r H') : TSound P (ext T f s) :=
 ext_sound hT fun args H p r H' hs hp G hS hH cargs ha => by
  obtain ⟨hn, L, hL, hid, hrun⟩ := h args H p r H' hs hp
  exact fun_sound (M := ⟨P, T⟩) hT hf hname hn hL hid hrun hS hH ha
theorem cI9 {t : Bool} {A B : Prop} (ha : t = true → A) (hb : t = false → B) : cond t A B := by
 cases t
 ·exact hb rfl
 ·exact ha rfl
def LeL : Env → Env → Prop
 | [], [] => True
 | (t, x) :: r, (u, y) :: q => t = u ∧ (x = .s .none ∨ x = y) ∧ LeL r q
 | _, _ => False
theorem LeL.refl : ∀ e : Env, LeL e e
 | [] => trivial
 | (_, _) :: r => ⟨rfl, .inr rfl, LeL.refl r⟩
theorem lN9 : LeL [] [] := trivial
theorem lS9 {t : Nat} {x : XV} {r q : Env} (h : LeL r q) : LeL ((t, x) :: r) ((t, x) :: q) := ⟨rfl, .inr rfl, h⟩
theorem lD9 {t : Nat} {y : XV} {r q : Env} (h : LeL r q) : LeL ((t, .s .none) :: r) ((t, y) :: q) := ⟨rfl, .inl rfl, h⟩
theorem LeL.eq {t : Nat} {x y : XV} {r q : Env} (he : x = y) (h : LeL r q) : LeL ((t, x) :: r) ((t, y) :: q) := ⟨rfl, .inr he, h⟩
theorem LeL.get : ∀ {e e' : Env}, LeL e e' → ∀ t, e.get t = .s .none ∨ e.get t = e'.get t
 | [], [], _, _ => .inr rfl
 | (a, x) :: r, (b, y) :: q, h, t => by
  obtain ⟨rfl, h2, h3⟩ := h
  rw [Env.get_cons, Env.get_cons]
  by_cases he : a = t
  ·rw [if_pos he, if_pos he]; exact h2
  ·rw [if_neg he, if_neg he]; exact LeL.get h3 t
 | [], _ :: _, h, _ => h.elim
 | _ :: _, [], h, _ => h.elim
theorem Weak.refl (n m : Nat) (e : Env) (H : List AO) : Weak n m e H e H := fun _ G _ hx _ hS hH hE => ⟨G, rfl, hx, hS, hH, hE⟩
theorem Weak.trans {n m e H e1 H1 e2 H2} (h : Weak n m e H e1 H1) (h' : Weak n m e1 H1 e2 H2) : Weak n m e H e2 H2 := fun G0 G a hx hm hS hH hE => by
 obtain ⟨G1, hw, hx1, hs, hh, hr⟩ := h G0 G a hx hm hS hH hE
 obtain ⟨G2, hw2, hx2, hs2, hh2, hr2⟩ := h' G0 G1 a hx1 hm hs hh (by exact hr)
 exact ⟨G2, hw2.trans hw, hx2, hs2, hh2, hr2⟩
theorem Weak.le {n m : Nat} {e e' : Env} (H : List AO) (h : LeL e' e) : Weak n m e H e' H := fun G0 G a hx hm hS hH hE => by
 refine ⟨G, rfl, hx, hS, hH, fun t => ?_, hE.size, hE.defers⟩
 rcases h.get t with h1 | h1
 ·rw [h1]; trivial
 ·rw [h1]; exact hE.get t
def OwnL (id : Nat) (c : CT) : Env → Env → Prop
 | [], [] => True
 | (t, x) :: r, (u, y) :: q => t = u ∧ (x = .s .none ∨ x = y ∨ (x = .s (.a (.c (.own id c []))) ∧ y = .s (.v (.slice none 0 0)))) ∧ OwnL id c r q
 | _, _ => False
theorem wN9 {id c} : OwnL id c [] [] := trivial
theorem wS9 {id : Nat} {c : CT} {t : Nat} {x : XV} {r q : Env} (h : OwnL id c r q) : OwnL id c ((t, x) :: r) ((t, x) :: q) := ⟨rfl, .inr (.inl rfl), h⟩
theorem wD9 {id : Nat} {c : CT} {t : Nat} {y : XV} {r q : Env} (h : OwnL id c r q) : OwnL id c ((t, .s .none) :: r) ((t, y) :: q) := ⟨rfl, .inl rfl, h⟩
theorem wO9 {id : Nat} {c : CT} {t : Nat} {r q : Env} (h : OwnL id c r q) : OwnL id c ((t, .s (.a (.c (.own id c [])))) :: r) ((t, .s (.v (.slice none 0 0))) :: q) := ⟨rfl, .inr (.inr ⟨rfl, rfl⟩), h⟩
theorem OwnL.get {id : Nat} {c : CT} : ∀ {e e' : Env}, OwnL id c e e' → ∀ t, e.get t = .s .none ∨ e.get t = e'.get t ∨ (e.get t = .s (.a (.c (.own id c []))) ∧ e'.get t = .s (.v (.slice none 0 0)))
 | [], [], _, _ => .inr (.inl rfl)
 | (a, x) :: r, (b, y) :: q, h, t => by
  obtain ⟨rfl, h2, h3⟩ := h
  rw [Env.get_cons, Env.get_cons]
  by_cases he : a = t
  ·rw [if_pos he, if_pos he]; exact h2
  ·rw [if_neg he, if_neg he]; exact OwnL.get h3 t
 | [], _ :: _, h, _ => h.elim
 | _ :: _, [], h, _ => h.elim
theorem Weak.own {n m : Nat} {e e' : Env} {H : List AO} (t : TypeId) {c : CT} (h : OwnL H.length c e' e) : Weak n m e H e' (H ++ [.tok t c 0 true]) := fun G0 G a hx0 hm hS hH hE => by
 subst hH
 have hnb : ¬ (AO.tok t c 0 true).blocked := by intro hb; rcases hb with hb | hb <;> simp at hb
 have hx : Ext G (G.obj G.w.heap.size (.tok t c 0 true)) := Ext.obj_self G fun hb => absurd hb hnb
 refine ⟨G.obj G.w.heap.size (.tok t c 0 true), rfl, hx0.trans hx, hS.obj (fun id hid => absurd (hS.lt hid) (Nat.lt_irrefl _)) fun hb => absurd hb hnb, rfl, fun u => ?_, hE.size, hE.defers⟩
 rcases h.get u with h1 | h1 | ⟨h1, h2⟩
 ·rw [h1]; trivial
 ·rw [h1]; exact RepX.mono hx (hE.get u)
 ·rw [h1]
  have hv := hE.get u
  rw [h2] at hv
  obtain ⟨_, hv⟩ := hv
  rw [hv]
  refine ⟨.inl ⟨rfl, rfl⟩, t, 0, true, ?_, nR9 _, fun _ => .inl ⟨rfl, rfl, rfl⟩⟩
  show (G.H ++ [_])[G.H.length]? = _
  simp
def KeepL (L : List Nat) : Env → Env → Prop
 | [], [] => True
 | (t, x) :: r, (u, y) :: q => t = u ∧ (x = .s .none ∨ ∃ z z', y = .s z ∧ renS L z = some z' ∧ x = .s z') ∧ KeepL L r q
 | _, _ => False
theorem kN9 {L} : KeepL L [] [] := trivial
theorem kD9 {L : List Nat} {t : Nat} {y : XV} {r q : Env} (h : KeepL L r q) : KeepL L ((t, .s .none) :: r) ((t, y) :: q) := ⟨rfl, .inl rfl, h⟩
theorem kR9 {L : List Nat} {t : Nat} {z z' : SV} {r q : Env} (hz : renS L z = some z') (h : KeepL L r q) : KeepL L ((t, .s z') :: r) ((t, .s z) :: q) := ⟨rfl, .inr ⟨z, z', rfl, hz, rfl⟩, h⟩
theorem KeepL.get {L : List Nat} : ∀ {e e' : Env}, KeepL L e e' → ∀ t, e.get t = .s .none ∨ ∃ z z', e'.get t = .s z ∧ renS L z = some z' ∧ e.get t = .s z'
 | [], [], _, _ => .inl rfl
 | (a, x) :: r, (b, y) :: q, h, t => by
  obtain ⟨rfl, h2, h3⟩ := h
  rw [Env.get_cons, Env.get_cons]
  by_cases he : a = t
  ·rw [if_pos he, if_pos he]; exact h2
  ·rw [if_neg he, if_neg he]; exact KeepL.get h3 t
 | [], _ :: _, h, _ => h.elim
 | _ :: _, [], h, _ => h.elim
theorem Weak.keep {n m : Nat} {e e' : Env} {H H' : List AO} (L : List Nat) (hsub : subH L H L = some H') (hnd : nodup L = true) (hid : ∀ k, k < m → L[k]? = some k) (h : KeepL L e' e) : Weak n m e H e' H' := fun G0 G a hx hm hS hH hE => by
 subst hH
 refine ⟨G.sub L H', rfl, hx.keep hsub hnd fun k hk => hid k (by omega), hS.sub hsub hnd, rfl, fun u => ?_, hE.size, hE.defers⟩
 rcases h.get u with h1 | ⟨z, z', h1, h2, h3⟩
 ·rw [h1]; trivial
 ·rw [h3]
  have hv := hE.get u
  rw [h1] at hv
  exact renS_rep hsub h2 hv
@[irreducible] def Head {σ : Type} (n m0 : Nat) (st : σ → Env) (hp : σ → List AO) (Inv : σ → Prop) (μ : σ → Nat) (m : Nat) (e : Env) (H : List AO) : Prop :=
 ∃ s, Weak n m0 e H (st s) (hp s) ∧ Inv s ∧ μ s < m
theorem hI9 {σ : Type} {n m0 : Nat} {st : σ → Env} {hp : σ → List AO} {Inv : σ → Prop} {μ : σ → Nat} {m : Nat} {e : Env} {H : List AO} (s : σ) (hl : LeL (st s) e) (hH : H = hp s) (hI : Inv s) (hm : μ s < m) :
  Head n m0 st hp Inv μ m e H := by
 unfold Head
 exact ⟨s, hH ▸ Weak.le H hl, hI, hm⟩
theorem head_weak {σ : Type} {n m0 : Nat} {st : σ → Env} {hp : σ → List AO} {Inv : σ → Prop} {μ : σ → Nat} {m : Nat} {e : Env} {H : List AO} (s : σ) (hw : Weak n m0 e H (st s) (hp s)) (hI : Inv s) (hm : μ s < m) :
  Head n m0 st hp Inv μ m e H := by
 unfold Head
 exact ⟨s, hw, hI, hm⟩
theorem kI9 {σ : Type} {n m0 : Nat} {st : σ → Env} {hp : σ → List AO} {Inv : σ → Prop} {μ : σ → Nat} {m : Nat} {e : Env} {H : List AO} (s : σ) (L : List Nat) (hnd : nodup L = true) (hid : ∀ k, k < m0 → L[k]? = some k)
  (hsub : subH L H L = some (hp s)) (h : KeepL L (st s) e) (hI : Inv s) (hm : μ s < m) : Head n m0 st hp Inv μ m e H :=
 head_weak s (Weak.keep L hsub hnd hid h) hI hm
theorem loop_weak {σ : Type} {n : Nat} {B : Body} {e : Env} {H : List AO} {K : Exit → Env → List AO → Prop} (st : σ → Env) (hp : σ → List AO) (Inv : σ → Prop) (μ : σ → Nat) (s0 : σ)
  (h0 : Weak n H.length e H (st s0) (hp s0)) (hI : Inv s0)
  (hstep : ∀ s, Inv s → B (st s) (hp s) fun ex e' H' => match ex with | .normal => Head n H.length st hp Inv μ (μ s) e' H' | ex => K ex e' H') : LoopA n B e H K := by
 let R : Env → List AO → Nat → Prop := fun e H k => ∃ s, e = st s ∧ H = hp s ∧ Inv s ∧ μ s = k
 refine ⟨fun e H => ∃ k, R e H k, fun e H => sInf' (R e H), ⟨_, _, h0, ⟨_, s0, rfl, rfl, hI, rfl⟩⟩, fun e' H' hI' => ?_⟩
 obtain ⟨s, rfl, rfl, hs, hm⟩ := sInf'_mem (R e' H') hI'
 have h := hstep s hs
 have hk : (fun (ex : Exit) (e1 : Env) (H1 : List AO) => match ex with | .normal => Head n H.length st hp Inv μ (μ s) e1 H1 | ex => K ex e1 H1) =
   fun ex e'' H'' => match ex with
   | .normal => ∃ e1 H1, Weak n H.length e'' H'' e1 H1 ∧ (∃ k, R e1 H1 k) ∧ sInf' (R e1 H1) < sInf' (R (st s) (hp s))
   | ex => K ex e'' H'' := by
  funext ex e1 H1
  cases ex with
  | normal =>
   refine propext ⟨fun h => ?_, fun ⟨e2, H2, hw, hR, hlt⟩ => ?_⟩
   ·unfold Head at h
    obtain ⟨s', hw, hi, hlt⟩ := h
    have hR : R (st s') (hp s') (μ s') := ⟨s', rfl, rfl, hi, rfl⟩
    exact ⟨_, _, hw, ⟨_, hR⟩, Nat.lt_of_le_of_lt (sInf'_le _ hR) (hm ▸ hlt)⟩
   ·obtain ⟨s', rfl, rfl, hi, hmu⟩ := sInf'_mem _ hR
    unfold Head
    exact ⟨s', hw, hi, by rw [hm, hmu]; exact hlt⟩
  | _ => rfl
 exact hk ▸ h
theorem lI9 {σ : Type} {n : Nat} {B : Body} {e : Env} {H : List AO} {K : Exit → Env → List AO → Prop} (st : σ → Env) (hp : σ → List AO) (Inv : σ → Prop) (μ : σ → Nat) (s0 : σ)
  (h0 : LeL (st s0) e) (hH : H = hp s0) (hI : Inv s0)
  (hstep : ∀ s, Inv s → B (st s) (hp s) fun ex e' H' => match ex with | .normal => Head n H.length st hp Inv μ (μ s) e' H' | ex => K ex e' H') : LoopA n B e H K :=
 loop_weak st hp Inv μ s0 (hH ▸ Weak.le H h0) hI hstep
def saysU (g : Int → Option Prop × SV) : Says := fun args H => match args, H with
 | [.c (.p (.v (.int .u8 x)))], [] => some ((g x).1, (g x).2, [])
 | _, _ => none
theorem extU {P : Program} {T : Table} (hT : TSound P T) (f : FuncId) {fn : Func} (hf : P.funcs[f]? = some fn) (hname : NG9 fn) (hn : 1 ≤ fn.ntmps) (g : Int → Option Prop × SV) (ks : List Nat)
  (h : ∀ (x : Int), holdsO (g x).1 → runF ⟨P, T⟩ fn ks [] [.c (.p (.v (.int .u8 x)))] [] fun r' H'' => Ends r' H'' (g x).2 []) : TSound P (ext T f (saysU g)) :=
 ext_run hT hf hname ks fun args H p r H' hs hp => by
  unfold saysU at hs
  split at hs
  ·cases hs
   exact ⟨hn, [], rfl, nK9, h _ hp⟩
  ·cases hs
def saysS (g : ByteArray → Option Prop × SV) : Says := fun args H => match args, H with
 | [.c (.p (.v (.string x)))], [] => some ((g x).1, (g x).2, [])
 | _, _ => none
theorem extS {P : Program} {T : Table} (hT : TSound P T) (f : FuncId) {fn : Func} (hf : P.funcs[f]? = some fn) (hname : NG9 fn) (hn : 1 ≤ fn.ntmps) (g : ByteArray → Option Prop × SV) (ks : List Nat)
  (h : ∀ (x : ByteArray), holdsO (g x).1 → runF ⟨P, T⟩ fn ks [] [.c (.p (.v (.string x)))] [] fun r' H'' => Ends r' H'' (g x).2 []) : TSound P (ext T f (saysS g)) :=
 ext_run hT hf hname ks fun args H p r H' hs hp => by
  unfold saysS at hs
  split at hs
  ·cases hs
   exact ⟨hn, [], rfl, nK9, h _ hp⟩
  ·cases hs
def saysSS (g : ByteArray → ByteArray → Option Prop × SV) : Says := fun args H => match args, H with
 | [.c (.p (.v (.string x))), .c (.p (.v (.string y)))], [] => some ((g x y).1, (g x y).2, [])
 | _, _ => none
theorem extSS {P : Program} {T : Table} (hT : TSound P T) (f : FuncId) {fn : Func} (hf : P.funcs[f]? = some fn) (hname : NG9 fn) (hn : 2 ≤ fn.ntmps) (g : ByteArray → ByteArray → Option Prop × SV) (ks : List Nat)
  (h : ∀ (x : ByteArray) (y : ByteArray), holdsO (g x y).1 → runF ⟨P, T⟩ fn ks [] [.c (.p (.v (.string x))), .c (.p (.v (.string y)))] [] fun r' H'' => Ends r' H'' (g x y).2 []) : TSound P (ext T f (saysSS g)) :=
 ext_run hT hf hname ks fun args H p r H' hs hp => by
  unfold saysSS at hs
  split at hs
  ·cases hs
   exact ⟨hn, [], rfl, nK9, h _ _ hp⟩
  ·cases hs
def saysSU (g : ByteArray → Int → Option Prop × SV) : Says := fun args H => match args, H with
 | [.c (.p (.v (.string x))), .c (.p (.v (.int .u8 y)))], [] => some ((g x y).1, (g x y).2, [])
 | _, _ => none
def saysUS (g : Int → ByteArray → Option Prop × SV) : Says := fun args H => match args, H with
 | [.c (.p (.v (.int .u8 x))), .c (.p (.v (.string y)))], [] => some ((g x y).1, (g x y).2, [])
 | _, _ => none
theorem extUS {P : Program} {T : Table} (hT : TSound P T) (f : FuncId) {fn : Func} (hf : P.funcs[f]? = some fn) (hname : NG9 fn) (hn : 2 ≤ fn.ntmps) (g : Int → ByteArray → Option Prop × SV) (ks : List Nat)
  (h : ∀ (x : Int) (y : ByteArray), holdsO (g x y).1 → runF ⟨P, T⟩ fn ks [] [.c (.p (.v (.int .u8 x))), .c (.p (.v (.string y)))] [] fun r' H'' => Ends r' H'' (g x y).2 []) : TSound P (ext T f (saysUS g)) :=
 ext_run hT hf hname ks fun args H p r H' hs hp => by
  unfold saysUS at hs
  split at hs
  ·cases hs
   exact ⟨hn, [], rfl, nK9, h _ _ hp⟩
  ·cases hs
def saysII (g : Int → Int → Option Prop × SV) : Says := fun args H => match args, H with
 | [.c (.p (.v (.int .i64 x))), .c (.p (.v (.int .i64 y)))], [] => some ((g x y).1, (g x y).2, [])
 | _, _ => none
theorem extII {P : Program} {T : Table} (hT : TSound P T) (f : FuncId) {fn : Func} (hf : P.funcs[f]? = some fn) (hname : NG9 fn) (hn : 2 ≤ fn.ntmps) (g : Int → Int → Option Prop × SV) (ks : List Nat)
  (h : ∀ (x : Int) (y : Int), holdsO (g x y).1 → runF ⟨P, T⟩ fn ks [] [.c (.p (.v (.int .i64 x))), .c (.p (.v (.int .i64 y)))] [] fun r' H'' => Ends r' H'' (g x y).2 []) : TSound P (ext T f (saysII g)) :=
 ext_run hT hf hname ks fun args H p r H' hs hp => by
  unfold saysII at hs
  split at hs
  ·cases hs
   exact ⟨hn, [], rfl, nK9, h _ _ hp⟩
  ·cases hs
theorem ext_calls {P : Program} {T : Table} (hT : TSound P T) (f : FuncId) {fn : Func} (hf : P.funcs[f]? = some fn) (hname : NG9 fn) (hb : fn.body.isNone = false) {s : Says}
  (h : ∀ args H p r H', s args H = some (p, r, H') → holdsO p → H' = H ∧ ∀ G : View, Sim G → G.H = H → ∀ cargs : List Value, All2 (RepA G) args cargs →
   ∃ v, RepS G r v ∧ Calls P f cargs.toArray G.w fun e w' => e = .returned v ∧ w' = G.w) : TSound P (ext T f s) :=
 ext_sound hT fun args H p r H' hs hp G hS hH cargs ha => by
  obtain ⟨rfl, hc⟩ := h args H p r H' hs hp
  obtain ⟨v, hv, hcalls⟩ := hc G hS hH cargs ha
  refine .inr ⟨?_, hcalls.mono fun e w' ⟨he, hw⟩ => ⟨v, G, he, hw.symm, Ext.refl G, hS, hH, hv⟩⟩
  have hn' : ¬ fn.name = "runtime.NumGoroutine" := by simpa using hname
  have hb' : ∃ c, fn.body = some c := by
   cases h : fn.body with
   | none => rw [h] at hb; cases hb
   | some c => exact ⟨c, rfl⟩
  obtain ⟨c, hc⟩ := hb'
  simp [callFunc, hf, hn', hc]
abbrev nX9 : XV := .s .none
theorem eR9 {r : SV} {H : List AO} : Ends r H r H := eE9 ⟨rfl, rfl⟩
theorem eT9 {r r' : SV} {H : List AO} (h : r = r') : Ends r H r' H := eE9 ⟨h, rfl⟩
end Go.Ab
namespace Go.Ab
open Go.Proofs
set_option linter.unusedSectionVars false
set_option maxRecDepth 100000
variable [Base]
abbrev TS9 (T : Table) : Prop := TSound Tryz.prog T
def letterB (c : Int) : Bool := decide (97 ≤ c) && decide (c ≤ 122) || (decide (65 ≤ c) && decide (c ≤ 90))
def digitB (c : Int) : Bool := decide (48 ≤ c) && decide (c ≤ 57)
def firstB (c : Int) : Bool := letterB c || decide (c = 95)
def wordB (c : Int) : Bool := firstB c || digitB c
def idxB (s : ByteArray) (c : Int) : Int := Lib.indexByte s.data.toList c.toNat.toUInt8
def nameB (c : Int) : Bool := wordB c || decide (0 ≤ idxB ⟨#[44, 46, 43, 45, 63, 35, 64]⟩ c)
def T1 : Table := ext noTable 153 (saysSU fun s c => (none, .int .i64 (idxB s c)))
def T2 : Table := ext T1 175 (saysU fun c => (none, .bool (letterB c)))
def T3 : Table := ext T2 176 (saysU fun c => (none, .bool (digitB c)))
def T4 : Table := ext T3 150 (saysU fun c => (none, .bool (firstB c)))
def T5 : Table := ext T4 152 (saysU fun c => (none, .bool (wordB c)))
def T6 : Table := ext T5 123 (saysU fun c => (none, .bool (nameB c)))
def T7 : Table := T6
def T8 : Table := T7
def T9 : Table := T8
theorem t1 : TSound Tryz.prog T1 := by
 refine ext_calls (noTable_sound _) 153 (fn := Tryz.f153) rfl rfl rfl fun args H p r H' hs hp => ?_
 unfold saysSU at hs
 split at hs
 ·cases hs
  refine ⟨rfl, fun G hS hH cargs ha => ?_⟩
  cases ha with
  | cons h1 t1 =>
   cases t1 with
   | cons h2 t2 =>
    cases t2
    obtain ⟨_, rfl⟩ := h1
    obtain ⟨_, rfl⟩ := h2
    exact ⟨_, ⟨rfl, rfl⟩, Tryz.strings_IndexByte _ _ _⟩
 ·cases hs
theorem t2 : TSound Tryz.prog T2 := by
 refine extU t1 175 (fn := Tryz.f175) rfl rfl (by decide) _ [0, 2] fun c _ => ?_
 conv => whnf
 exact eR9
theorem t3 : TSound Tryz.prog T3 := by
 refine extU t2 176 (fn := Tryz.f176) rfl rfl (by decide) _ [0, 2] fun c _ => ?_
 conv => whnf
 exact eR9
theorem t4 : TSound Tryz.prog T4 := by
 refine extU t3 150 (fn := Tryz.f150) rfl rfl (by decide) _ [0, 2] fun c _ => ?_
 conv => whnf
 exact eR9
theorem t5 : TSound Tryz.prog T5 := by
 refine extU t4 152 (fn := Tryz.f152) rfl rfl (by decide) _ [0, 2] fun c _ => ?_
 conv => whnf
 exact eR9
theorem t6 : TSound Tryz.prog T6 := by
 refine extU t5 123 (fn := Tryz.f123) rfl rfl (by decide) _ [0, 2] fun c _ => ?_
 conv => whnf
 exact eR9
theorem t7 : TSound Tryz.prog T7 := t6
theorem t8 : TSound Tryz.prog T8 := t7
theorem t9 : TSound Tryz.prog T9 := t8
def leadN (p : Int → Bool) (s : ByteArray) : Nat := (s.data.toList.takeWhile fun u : UInt8 => p ((u.toNat : Nat) : Int)).length
theorem takeWhile_len {α : Type} (P : α → Bool) (d : α) : ∀ (l : List α) (i : Nat), i ≤ l.length → (∀ j, j < i → P (l.getD j d) = true) → (i = l.length ∨ P (l.getD i d) = false) → (l.takeWhile P).length = i
 | [], i, h, _, _ => by simp at h; simp [h]
 | x :: l, 0, _, _, h => by
  rcases h with h | h
  ·simp at h
  ·simp at h; simp [h]
 | x :: l, i + 1, h, ha, hb => by
  have h0 : P x = true := by simpa using ha 0 (Nat.succ_pos i)
  have := takeWhile_len P d l i (by simpa using h) (fun j hj => by simpa using ha (j + 1) (by omega)) (by simpa using hb)
  simp [h0, this]
theorem leadN_eq {p : Int → Bool} {s : ByteArray} (i : Nat) (h : i ≤ s.size) (ha : ∀ j : Nat, j < i → p (byteAt s j) = true) (hb : i = s.size ∨ p (byteAt s i) = false) : leadN p s = i :=
 takeWhile_len (fun u : UInt8 => p ((u.toNat : Nat) : Int)) 0 s.data.toList i h ha hb
abbrev fits (s : ByteArray) : Prop := s.size ≤ 1000000000
def cls (f : FuncId) : Option (Int → Bool) := match Nat.beq f 123, Nat.beq f 152 with
 | true, _ => some nameB
 | _, true => some wordB
 | _, _ => none
theorem cls_cases {f : FuncId} {p : Int → Bool} (h : cls f = some p) : (f = 123 ∧ p = nameB) ∨ (f = 152 ∧ p = wordB) := by
 unfold cls at h
 by_cases h1 : f = 123
 ·subst h1; exact .inl ⟨rfl, (Option.some.inj h).symm⟩
 by_cases h2 : f = 152
 ·subst h2; exact .inr ⟨rfl, (Option.some.inj h).symm⟩
 have e : ∀ n, ¬ f = n → Nat.beq f n = false := fun n hn => by
  cases hb : Nat.beq f n with
  | false => rfl
  | true => exact absurd (Nat.eq_of_beq_eq_true hb) hn
 rw [e _ h1, e _ h2] at h
 cases h
def saysLead : Says := fun args H => match args, H with
 | [.c (.p (.v (.string s))), .c (.p (.v (.func (.func f) a b)))], [] => match cls f, a.toList, b.toList with
  | some p, [], [] => some (some (fits s), .int .i64 (leadN p s), [])
  | _, _, _ => none
 | _, _ => none
def T10 : Table := ext T9 151 saysLead
theorem lead32 (s : ByteArray) (hs : fits s) :
  runF ⟨Tryz.prog, T9⟩ Tryz.f151 [0, 1, 4, 5, 7, 8, 9, 16] [] [.c (.p (.v (.string s))), .c (.p (.v (.func (.func 123) #[] #[])))] [] fun r' H'' => Ends r' H'' (.int .i64 (leadN nameB s)) [] := by
 conv => whnf
 refine lI9 (σ := Nat) (fun i => [(0, XV.s (SV.str s)), (1, XV.s (.v (.func (.func 123) #[] #[]))), (4, XV.s (SV.int .i64 0)), (5, nX9), (7, XV.s (.int .i64 s.size)), (8, XV.s (.int .i64 i)), (9, nX9), (16, nX9)]) (fun _ => [])
  (fun i => i ≤ s.size ∧ ∀ j : Nat, j < i → nameB (byteAt s j) = true) (fun i => s.size - i) 0 ?_ rfl ?_ fun i hI => ?_
 ·repeat first|exact lN9|refine lD9 ?_|refine lS9 ?_
 ·exact ⟨nZ9 _, fun j hj => absurd hj (nN9 j)⟩
 conv => whnf
 refine cI9 ?_ ?_<;>intro h
 ·have h' : i < s.size := by simpa using h
  conv => whnf
  refine ⟨by omega, ?_⟩
  conv => whnf
  refine cI9 ?_ ?_<;>intro h2
  ·have h3 : nameB (byteAt s i) = false := by simpa using h2
   conv => whnf
   refine eT9 ?_
   rw [leadN_eq i hI.1 hI.2 (.inr h3)]
  ·have h3 : nameB (byteAt s i) = true := by simpa using h2
   conv => whnf
   refine ⟨by unfold inI64; omega, ?_⟩
   conv => whnf
   refine hI9 (i + 1) ?_ rfl ?_ ?_
   ·repeat first|exact lN9|refine lD9 ?_|refine lS9 ?_
   ·refine ⟨h', fun j hj => ?_⟩
    rcases Nat.lt_succ_iff_lt_or_eq.1 hj with h4 | rfl
    ·exact hI.2 j h4
    ·exact h3
   ·omega
 ·have h' : ¬ i < s.size := by simpa using h
  conv => whnf
  refine eT9 ?_
  rw [leadN_eq s.size (nR9 _) (fun j hj => hI.2 j (by omega)) (.inl rfl)]
theorem lead35 (s : ByteArray) (hs : fits s) :
  runF ⟨Tryz.prog, T9⟩ Tryz.f151 [0, 1, 4, 5, 7, 8, 9, 16] [] [.c (.p (.v (.string s))), .c (.p (.v (.func (.func 152) #[] #[])))] [] fun r' H'' => Ends r' H'' (.int .i64 (leadN wordB s)) [] := by
 conv => whnf
 refine lI9 (σ := Nat) (fun i => [(0, XV.s (SV.str s)), (1, XV.s (.v (.func (.func 152) #[] #[]))), (4, XV.s (SV.int .i64 0)), (5, nX9), (7, XV.s (.int .i64 s.size)), (8, XV.s (.int .i64 i)), (9, nX9), (16, nX9)]) (fun _ => [])
  (fun i => i ≤ s.size ∧ ∀ j : Nat, j < i → wordB (byteAt s j) = true) (fun i => s.size - i) 0 ?_ rfl ?_ fun i hI => ?_
 ·repeat first|exact lN9|refine lD9 ?_|refine lS9 ?_
 ·exact ⟨nZ9 _, fun j hj => absurd hj (nN9 j)⟩
 conv => whnf
 refine cI9 ?_ ?_<;>intro h
 ·have h' : i < s.size := by simpa using h
  conv => whnf
  refine ⟨by omega, ?_⟩
  conv => whnf
  refine cI9 ?_ ?_<;>intro h2
  ·have h3 : wordB (byteAt s i) = false := by simpa using h2
   conv => whnf
   refine eT9 ?_
   rw [leadN_eq i hI.1 hI.2 (.inr h3)]
  ·have h3 : wordB (byteAt s i) = true := by simpa using h2
   conv => whnf
   refine ⟨by unfold inI64; omega, ?_⟩
   conv => whnf
   refine hI9 (i + 1) ?_ rfl ?_ ?_
   ·repeat first|exact lN9|refine lD9 ?_|refine lS9 ?_
   ·refine ⟨h', fun j hj => ?_⟩
    rcases Nat.lt_succ_iff_lt_or_eq.1 hj with h4 | rfl
    ·exact hI.2 j h4
    ·exact h3
   ·omega
 ·have h' : ¬ i < s.size := by simpa using h
  conv => whnf
  refine eT9 ?_
  rw [leadN_eq s.size (nR9 _) (fun j hj => hI.2 j (by omega)) (.inl rfl)]
theorem t10 : TSound Tryz.prog T10 := by
 refine ext_run t9 (f := 151) (fn := Tryz.f151) rfl rfl [0, 1, 4, 5, 7, 8, 9, 16] fun args H p r H' hs hp => ?_
 unfold saysLead at hs
 split at hs
 ·rename_i s f a b
  split at hs
  ·rename_i q hc ha hb
   cases hs
   have ha' : a = #[] := by simpa using ha
   have hb' : b = #[] := by simpa using hb
   subst ha' hb'
   refine ⟨by show 2 ≤ _; decide, [], rfl, nK9, ?_⟩
   rcases cls_cases hc with ⟨rfl, rfl⟩ | ⟨rfl, rfl⟩
   ·exact lead32 s hp
   ·exact lead35 s hp
  ·cases hs
 ·cases hs
end Go.Ab
