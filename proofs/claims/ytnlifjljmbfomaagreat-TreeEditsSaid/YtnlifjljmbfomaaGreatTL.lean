/- The abstract machine: one operation, a region in the order of the text, code, a function. -/
import Derived.Test.YtnlifjljmbfomaaGreatTK
namespace Go.Ab
set_option linter.unusedSectionVars false
variable [Base]
set_option linter.unusedSectionVars false
def dummyOf (P : Program) (t : TypeId) : SV := match P.underlying t with | some .bool => .bool false | _ => .none
def heapAny (M : Mach) (ev : Operand → SV) (H : List AO) (op : Op) (K : SV → List AO → Prop) : Prop :=
 match op with
 | .call c => match c.callee with
  | .value f => callA M (ev f) (c.args.toList.map ev) H K
  | _ => heapOp M ev H (.call c) K
 | op => heapOp M ev H op K
def stepOp (M : Mach) (n : Nat) (ops : List Oper) (i : Nat) (e : Env) (H : List AO) (o : Oper) (K : Env → List AO → Prop) : Prop :=
 match dstOk n o.dst, condOf i ops e o.guard with
 | true, some none => match pureOp M (fun x => (evalX e x).strip) H o.op with
  | some (p, r) => andO (both (oblOp ops o.guard e o.op) p) (K (e.put o.dst (.s r)) H)
  | none => andO (needs o.guard e o.op.operands.toList) (heapAny M (fun x => (evalX e x).strip) H o.op fun r H' => K (e.put o.dst (.s r)) H')
 | true, some (some c) => match pureOp M (fun x => (evalX e x).strip) H o.op with
  | some (p, r) => andO (impO c (both (oblOp ops o.guard e o.op) p)) (K (e.put o.dst (match o.guard with | some k => .g k c r | none => .s .none)) H)
  | none => cond c (andO (needs o.guard e o.op.operands.toList) (heapAny M (fun x => (evalX e x).strip) H o.op fun r H' => K (e.put o.dst (.s r)) H')) (K (e.put o.dst (match o.guard with | some k => .g k c (dummyOf M.P o.type) | none => .s .none)) H)
 | _, _ => False
def runOps (M : Mach) (n : Nat) (ops : List Oper) : List Oper → Nat → Env → List AO → (Env → List AO → Prop) → Prop
 | [], _, e, H, K => K e H
 | o :: rest, i, e, H, K => stepOp M n ops i e H o fun e' H' => runOps M n ops rest (i + 1) e' H' K
theorem loose_renC {x : AC} (h : x.loose = true) (L : List Nat) : renC L x = some x := by cases x <;> first | rfl | simp [AC.loose] at h
theorem loose_unC {x : AC} (h : x.loose = true) (u : Nat → Nat) : unC u x = x := by cases x <;> first | rfl | simp [AC.loose] at h
theorem loose_renA {x : AV} (h : x.loose = true) (L : List Nat) : renA L x = some x := by
 cases x with
 | c x => simp only [renA, loose_renC h]
 | agg l =>
  have : ∀ l : List AC, l.all AC.loose = true → renCs L l = some l := by
   intro l
   induction l with
   | nil => intro _; rfl
   | cons x l ih => intro h; simp at h; simp only [renCs, loose_renC h.1, ih (by simpa using h.2)]
  simp only [renA, this l h]
theorem loose_unV {x : AV} (h : x.loose = true) (u : Nat → Nat) : unV u x = x := by
 cases x with
 | c x => simp only [unV, loose_unC h]
 | agg l =>
  have : ∀ l : List AC, l.all AC.loose = true → l.map (unC u) = l := by
   intro l
   induction l with
   | nil => intro _; rfl
   | cons x l ih => intro h; simp at h; simp only [List.map_cons, loose_unC h.1, ih (by simpa using h.2)]
  simp only [unV, this l h]
theorem loose_renAs : ∀ {l : List AV}, l.all AV.loose = true → ∀ L, renAs L l = some l := by
 intro l
 induction l with
 | nil => intro _ _; rfl
 | cons x l ih => intro h L; simp at h; simp only [renAs, loose_renA h.1, ih (by simpa using h.2)]
theorem loose_unS {x : SV} (h : x.loose = true) (u : Nat → Nat) : unS u x = x := by
 cases x with
 | none => rfl
 | a x => simp only [unS, loose_unV h]
 | tup l =>
  have : ∀ l : List AV, l.all AV.loose = true → l.map (unV u) = l := by
   intro l
   induction l with
   | nil => intro _; rfl
   | cons x l ih => intro h; simp at h; simp only [List.map_cons, loose_unV h.1, ih (by simpa using h.2)]
  simp only [unS, this l h]
theorem drop_repS {G : View} {x : SV} {v : Value} (h : RepS G x v) : RepS G x.drop v := by
 cases x with
 | none => trivial
 | a x => exact drop_rep h
 | tup l =>
  obtain ⟨vs, rfl, hc⟩ := h
  exact ⟨vs, rfl, All2.map_left (hc.mono fun _ _ h => drop_rep h)⟩
theorem looseCall_sound {M : Mach} (hT : TSound M.P M.T) {G : View} (hS : Sim G) {f : FuncId} {args : List AV} {p : Option Prop} {r : SV} (hl : args.all AV.loose = true) (h : M.T f args [] = some (p, r, [])) (hr : r.loose = true) (hp : holdsO p)
  {cargs : List Value} (ha : All2 (RepA G) args cargs) : CallOk M.P f cargs G fun v G' => G'.H = G.H ∧ RepS G' r v := by
 have hsub : subH [] G.H [] = some [] := rfl
 have hok := hT f args [] p r [] h hp (G.sub [] []) (Sim.sub hsub hS rfl) rfl cargs (renAs_rep hsub (loose_renAs hl []) ha)
 have key : ∀ v G2, Ext (G.sub [] []) G2 → Sim G2 → G2.H = norm [] [] ∧ RepS G2 r v → ∃ G'', G''.w = G2.w ∧ Ext G G'' ∧ Sim G'' ∧ (G''.H = G.H ∧ RepS G'' r v) := by
  intro v G2 he hs ⟨hH, hr'⟩
  refine ⟨G.merge G2 [], rfl, Ext.merge hsub rfl hS he hs, Sim.merge hsub rfl hS he hs, ?_, ?_⟩
  ·show putAll _ [] G2.H G.H = G.H
   rw [hH]
   simp [putAll, norm]
  ·have := unS_rep hsub rfl he hr'
   rwa [loose_unS hr] at this
 rcases hok with ⟨v, G2, h1, h2, h3, h4⟩ | ⟨h1, h2⟩
 ·obtain ⟨G'', hw, he, hs, hR⟩ := key v G2 h2 h3 h4
  exact .inl ⟨v, G'', by rw [hw]; exact h1, he, hs, hR⟩
 ·refine .inr ⟨h1, h2.mono fun e w' ⟨v, G2, h3, h4, h5, h6, h7⟩ => ?_⟩
  obtain ⟨G'', hw, he, hs, hR⟩ := key v G2 h5 h6 h7
  exact ⟨v, G'', h3, hw.trans h4, he, hs, hR⟩
theorem wp_call {P : Program} {G : View} {o : Oper} {a : Act} {KK : Act → World → Prop} {Q : Exit → Act → World → Prop} {c : Call} {f : Operand} (ho : o.op = .call c) (hc : c.callee = .value f)
  {fid : FuncId} {first caps : Array Value} (hf : a.eval f = .func (.func fid) first caps) {R : Value → View → Prop} (h : CallOk P fid (first.toList ++ (c.args.toList.map a.eval) ++ caps.toList) G R)
  (hK : ∀ v G', Ext G G' → Sim G' → R v G' → KK (a.put o.dst v) G'.w) : o.wp P a G.w KK Q := by
 have he : (execOp a.eval o).run P G.w = (callFunc fid (first.toList ++ (c.args.toList.map a.eval) ++ caps.toList).toArray).run P G.w := by
  have : (first.toList ++ (c.args.toList.map a.eval) ++ caps.toList).toArray = (first ++ c.args.map a.eval) ++ caps := by
   apply Array.ext'
   simp
  rw [this]
  simp [execOp, ho, resolve, hc, Deferred.ofValue, hf, invoke]
 unfold Oper.wp
 rw [he]
 rcases h with ⟨v, G', h1, h2, h3, h4⟩ | ⟨h1, h2⟩
 ·rw [h1]
  exact hK v G' h2 h3 h4
 ·rw [h1]
  refine h2.mono fun e w' ⟨v, G', h3, h4, h5, h6, h7⟩ => ?_
  subst h3
  subst h4
  exact hK v G' h5 h6 h7
theorem consts {e : Env} {a : Act} : Consts (fun x => (evalX e x).strip) a.eval := ⟨fun _ => rfl, fun _ => rfl⟩
def dsts : List Oper → List Nat
 | [] => []
 | o :: r => match o.dst with | some d => d :: dsts r | none => dsts r
theorem dsts_mem : ∀ {ops : List Oper} {j d : Nat} {o : Oper}, ops[j]? = some o → o.dst = some d → d ∈ dsts ops := by
 intro ops
 induction ops with
 | nil => intro j d o h; simp at h
 | cons x ops ih =>
  intro j d o h hd
  cases j with
  | zero => simp at h; subst h; simp [dsts, hd]
  | succ j =>
   simp at h
   have := ih h hd
   simp only [dsts]
   split
   ·exact List.mem_cons_of_mem _ this
   ·exact this
theorem dsts_distinct : ∀ {ops : List Oper}, nodup (dsts ops) = true → ∀ {i j d : Nat} {x y : Oper}, ops[i]? = some x → ops[j]? = some y → x.dst = some d → y.dst = some d → i = j := by
 intro ops
 induction ops with
 | nil => intro _ i j d x y h; simp at h
 | cons o ops ih =>
  intro hn i j d x y hx hy hdx hdy
  have hn' : nodup (dsts ops) = true ∧ ∀ d, o.dst = some d → d ∉ dsts ops := by
   simp only [dsts] at hn
   split at hn
   ·rename_i d' hd'
    simp only [nodup] at hn
    split at hn
    ·rename_i hi
     refine ⟨hn, fun d hd hm => ?_⟩
     rw [hd'] at hd
     cases hd
     obtain ⟨k, hk⟩ := List.getElem?_of_mem hm
     exact idx_none hi k hk
    ·cases hn
   ·rename_i hd'
    exact ⟨hn, fun d hd => by rw [hd'] at hd; cases hd⟩
  cases i with
  | zero =>
   simp at hx
   subst hx
   cases j with
   | zero => rfl
   | succ j =>
    simp at hy
    exact absurd (dsts_mem hy hdy) (hn'.2 d hdx)
  | succ i =>
   simp at hx
   cases j with
   | zero =>
    simp at hy
    subst hy
    exact absurd (dsts_mem hx hdx) (hn'.2 d hdy)
   | succ j =>
    simp at hy
    rw [ih hn'.1 hx hy hdx hdy]
theorem get_put {e : Env} {dst : Option Tmp} {x : XV} {t : Nat} (h : dst ≠ some t) : (e.put dst x).get t = e.get t := by
 cases dst with
 | none => rfl
 | some d =>
  show Env.get ((d, x) :: e) t = _
  rw [Env.get_cons, if_neg (fun he => h (by rw [he]))]
theorem Inv.put {i : Nat} {ops : List Oper} {e : Env} (hI : Inv i ops e) {o : Oper} (ho : ops[i]? = some o) (hn : nodup (dsts ops) = true) {x : XV} (hx : ∀ k c y, x = .g k c y → condOf i ops e (some k) = some (some c)) : Inv (i + 1) ops (e.put o.dst x) := by
 have keep : ∀ (k : Nat × Bool) (c : Bool), condOf i ops e (some k) = some (some c) → condOf (i + 1) ops (e.put o.dst x) (some k) = some (some c) := by
  intro k c h
  obtain ⟨j, want⟩ := k
  simp only [condOf] at h ⊢
  split at h
  ·rename_i oj hb hj
   have hlt : j < i := by simpa using hb
   have hb' : Nat.blt j (i + 1) = true := by simp; omega
   rw [hb', hj]
   simp only
   split at h
   ·rename_i d hd
    have hne : o.dst ≠ some d := fun he => by
     have := dsts_distinct hn ho hj he hd
     omega
    rw [get_put hne]
    exact h
   ·cases h
  ·cases h
 intro t k c y h
 cases hd : o.dst with
 | none =>
  rw [hd] at h
  have := keep k c (hI t k c y h)
  rwa [hd] at this
 | some d =>
  by_cases he : d = t
  ·subst he
   have hg : (e.put o.dst x).get d = x := by
    rw [hd]
    show Env.get ((d, x) :: e) d = x
    rw [Env.get_cons, if_pos rfl]
   rw [hg] at h
   have := keep k c (hx k c y h)
   rwa [hd] at this
  ·rw [get_put (by rw [hd]; intro h'; exact he (Option.some.inj h'))] at h
   have := keep k c (hI t k c y h)
   rwa [hd] at this
theorem pureAny_sound {M : Mach} (hT : TSound M.P M.T) {G : View} (hS : Sim G) {e : Env} {n : Nat} {a : Act} (hE : EnvRep G e n a) {i : Nat} {ops : List Oper} (hI : Inv i ops e) {o : Oper} (hg : GuardOk i ops e o.guard) {p : Option Prop} {r : SV}
  (h : pureOp M (fun x => (evalX e x).strip) G.H o.op = some (p, r)) (hp : holdsO (both (oblOp ops o.guard e o.op) p)) {KK : Act → World → Prop} {Q : Exit → Act → World → Prop}
  (hK : ∀ v G', Ext G G' → Sim G' → G'.H = G.H → RepS G' r v → KK (a.put o.dst v) G'.w) : o.wp M.P a G.w KK Q := by
 obtain ⟨h1, h2⟩ := both_iff.1 hp
 have hrep := oblOp_rep hE hI hg h1
 by_cases hc : ∃ c f, o.op = .call c ∧ c.callee = .value f
 ·obtain ⟨c, f, ho, hcf⟩ := hc
  rw [ho] at h hrep
  have hall : ∀ x ∈ (Op.call c).operands.toList, RepS G (evalX e x).strip (a.eval x) := hrep
  have hfr : RepS G (evalX e f).strip (a.eval f) := hall f (by simp [Op.operands, Call.operands, hcf])
  have hargs : ∀ x ∈ c.args.toList, RepS G (evalX e x).strip (a.eval x) := fun x hx => hall x (by simp [Op.operands, Call.operands]; exact .inr (by simpa using hx))
  replace h : pureOp0 M (fun x => (evalX e x).strip) G.H (.call c) = some (p, r) := by
   unfold pureOp at h
   split at h
   ·rename_i y hy; rw [hy]; exact h
   ·simp [pureNew, hcf] at h
  simp only [pureOp0, hcf] at h
  split at h
  ·rename_i fid hfid
   split at h
   ·rename_i args hav
    split at h
    ·rename_i hl
     split at h
     ·rename_i p' r' hTT
      split at h
      ·rename_i hrl
       cases h
       have hm := all2_map (ev := fun x => (evalX e x).strip) (cv := a.eval) c.args.toList hargs
       have hm' : All2 (RepS G) ((c.args.toList.map fun x => (evalX e x).strip).map SV.drop) (c.args.toList.map a.eval) := All2.map_left (hm.mono fun _ _ h => drop_repS h)
       have hok := looseCall_sound hT hS hl hTT hrl h2 (avs_rep hav hm')
       exact wp_call ho hcf (fnOf_rep hfid hfr) (R := fun v G' => G'.H = G.H ∧ RepS G' r v) (by simpa using hok) fun v G' he hs hR => hK v G' he hs hR.1 hR.2
      ·cases h
     ·cases h
    ·cases h
   ·cases h
  ·cases h
 ·obtain ⟨v, hv, hr⟩ := pureOp_sound hS consts h h2 hrep fun c f ho hcf => hc ⟨c, f, ho, hcf⟩
  unfold Oper.wp
  rw [hv]
  exact hK v G (Ext.refl G) hS rfl hr
theorem pureOp_of {M : Mach} {ev : Operand → SV} {H : List AO} {op : Op} {x : Option Prop × SV} (h : pureOp0 M ev H op = some x) : pureOp M ev H op = some x := by
 unfold pureOp; rw [h]
theorem pureAnyD0_sound {M : Mach} (hT : TSound M.P M.T) {G : View} (hS : Sim G) {e : Env} {n : Nat} {a : Act} (hE : EnvRep G e n a) {i : Nat} {ops : List Oper} (hI : Inv i ops e) {o : Oper} (hg : GuardOk i ops e o.guard) {p : Option Prop} {r : SV}
  (h : pureOpD0 M (fun x => (evalX e x).strip) G.H o.op = some (p, r)) (hp : holdsO (both (oblOp ops o.guard e o.op) p)) {KK : Act → World → Prop} {Q : Exit → Act → World → Prop}
  (hK : ∀ v G', Ext G G' → Sim G' → G'.H = G.H → RepS G' r v → KK (a.put o.dst v) G'.w) : o.wp M.P a G.w KK Q := by
 by_cases hb : ∃ t len ps, o.op = .buildSlice t len ps
 ·obtain ⟨t, len, ps, ho⟩ := hb
  obtain ⟨h1, h2⟩ := both_iff.1 hp
  have hrep := oblOp_rep hE hI hg h1
  rw [ho] at h hrep
  simp only [pureOpD0] at h
  have h3 : ∀ (l : List (Nat × Operand)), (∀ x ∈ l, RepS G (evalX e x.2).strip (a.eval x.2)) → All2 (PartRep G) (l.map fun p => (p.1, (evalX e p.2).strip)) (l.map fun p => (p.1, a.eval p.2)) := by
   intro l hl
   induction l with
   | nil => exact .nil
   | cons x l ih => exact .cons ⟨rfl, hl x (by simp)⟩ (ih fun y hy => hl y (by simp [hy]))
  have h4 := h3 ps.toList (fun x hx => hrep x.2 (by simp only [Op.operands]; exact List.mem_map.2 ⟨x, hx, rfl⟩))
  obtain ⟨G', u, h5, h6, h7, h8, h9⟩ := buildSliceP_sound hS h (qs := ps.map fun p => (p.1, a.eval p.2)) (by simpa using h4)
  unfold Oper.wp
  have : (execOp a.eval o).run M.P G.w = .ok (.value u) G'.w := by simp [execOp, ho, h5]
  rw [this]
  exact hK u G' h6 h7 h8 h9
 ·refine pureAny_sound hT hS hE hI hg (pureOp_of ?_) hp hK
  rw [← h]
  cases ho : o.op <;> first | rfl | (exfalso; exact hb ⟨_, _, _, ho⟩)
def lookOp (M : Mach) (ev : Operand → SV) (H : List AO) (op : Op) : Option (Option Prop × SV) :=
 match op with
 | .call c => match c.callee with
  | .value f => lookA M (ev f) (c.args.toList.map ev) H
  | _ => pureNew M ev H (.call c)
 | op => pureNew M ev H op
def pureOpD (M : Mach) (ev : Operand → SV) (H : List AO) (op : Op) : Option (Option Prop × SV) :=
 match pureOpD0 M ev H op with
 | some x => some x
 | none => lookOp M ev H op
def loadF (ev : Operand → SV) (op : Op) : Nat :=
 match op with
 | .load _ a => (match ev a with | .a (.c (.pp ..)) => 0 | _ => 1)
 | _ => 0
def flagD (M : Mach) (ev : Operand → SV) (H : List AO) (op : Op) : Nat :=
 match pureOpD0 M ev H op with
 | some _ => loadF ev op
 | none => 1
theorem pureAnyD_sound {M : Mach} (hT : TSound M.P M.T) {G : View} (hS : Sim G) {e : Env} {n : Nat} {a : Act} (hE : EnvRep G e n a) {i : Nat} {ops : List Oper} (hI : Inv i ops e) {o : Oper} (hg : GuardOk i ops e o.guard) {p : Option Prop} {r : SV}
  (h : pureOpD M (fun x => (evalX e x).strip) G.H o.op = some (p, r)) (hp : holdsO (both (oblOp ops o.guard e o.op) p)) {KK : Act → World → Prop} {Q : Exit → Act → World → Prop}
  (hK : ∀ v G', Ext G G' → Sim G' → G'.H = G.H → RepS G' r v → KK (a.put o.dst v) G'.w) : o.wp M.P a G.w KK Q := by
 unfold pureOpD at h
 split at h
 ·rename_i x hx
  cases h
  exact pureAnyD0_sound hT hS hE hI hg hx hp hK
 ·obtain ⟨h1, h2⟩ := both_iff.1 hp
  have hrep := oblOp_rep hE hI hg h1
  have new : pureNew M (fun x => (evalX e x).strip) G.H o.op = some (p, r) → o.wp M.P a G.w KK Q := by
   intro h
   obtain ⟨v, hv, hr⟩ := pureNew_sound (o := o) hS h h2 (opRep_all hrep fun c a b he => by rw [he] at h; cases h)
   unfold Oper.wp
   rw [hv]
   exact hK v G (Ext.refl G) hS rfl hr
  unfold lookOp at h
  split at h
  ·rename_i c ho
   split at h
   ·rename_i f hcf
    rw [ho] at hrep
    have hall : ∀ x ∈ (Op.call c).operands.toList, RepS G (evalX e x).strip (a.eval x) := hrep
    have hfr : RepS G (evalX e f).strip (a.eval f) := hall f (by simp [Op.operands, Call.operands, hcf])
    have hargs : ∀ x ∈ c.args.toList, RepS G (evalX e x).strip (a.eval x) := fun x hx => hall x (by simp [Op.operands, Call.operands]; exact .inr (by simpa using hx))
    obtain ⟨fid, first, caps, hv, hok⟩ := lookA_sound hT hS h h2 hfr (all2_map (ev := fun x => (evalX e x).strip) (cv := a.eval) c.args.toList hargs)
    exact wp_call ho hcf hv hok fun v G' he hs hR => hK v G' he hs hR.1 hR.2
   ·rw [← ho] at h; exact new h
  ·exact new h
theorem heapAny_sound {M : Mach} (hT : TSound M.P M.T) {G : View} (hS : Sim G) {e : Env} {n : Nat} {a : Act} (hE : EnvRep G e n a) {i : Nat} {ops : List Oper} (hI : Inv i ops e) {o : Oper} (hg : GuardOk i ops e o.guard) {K : SV → List AO → Prop}
  (h : heapAny M (fun x => (evalX e x).strip) G.H o.op K) (hp : holdsO (needs o.guard e o.op.operands.toList)) {KK : Act → World → Prop} {Q : Exit → Act → World → Prop}
  (hK : ∀ r v G', K r G'.H → Ext G G' → Sim G' → RepS G' r v → KK (a.put o.dst v) G'.w) : o.wp M.P a G.w KK Q := by
 have hall := needs_rep hE hI hg hp
 have heap : heapOp M (fun x => (evalX e x).strip) G.H o.op K → o.wp M.P a G.w KK Q := by
  intro h
  obtain ⟨r, G', nx, u, h1, h2, h3, h4, h5, h6⟩ := heapOp_sound (cv := a.eval) hS h hall
  unfold Oper.wp
  rw [h1]
  rcases h2 with rfl | ⟨rfl, rfl⟩
  ·exact hK r u G' h5 h3 h4 h6
  ·exact hK r undef G' h5 h3 h4 h6
 unfold heapAny at h
 split at h
 ·rename_i c ho
  split at h
  ·rename_i f hcf
   have hall' : ∀ x ∈ (Op.call c).operands.toList, RepS G (evalX e x).strip (a.eval x) := by rw [← ho]; exact hall
   have hfr : RepS G (evalX e f).strip (a.eval f) := hall' f (by simp [Op.operands, Call.operands, hcf])
   have hargs : ∀ x ∈ c.args.toList, RepS G (evalX e x).strip (a.eval x) := fun x hx => hall' x (by simp [Op.operands, Call.operands]; exact .inr (by simpa using hx))
   obtain ⟨fid, first, caps, hv, hok⟩ := callA_sound hT hS h hfr (all2_map (ev := fun x => (evalX e x).strip) (cv := a.eval) c.args.toList hargs)
   exact wp_call ho hcf hv hok fun v G' he hs ⟨r, hr, hrep⟩ => hK r v G' hr he hs hrep
  ·rw [← ho] at h
   exact heap h
 ·exact heap h
theorem stepOp_sound {M : Mach} (hT : TSound M.P M.T) {ops : Array Oper} (hn : nodup (dsts ops.toList) = true) {n : Nat} {G : View} (hS : Sim G) {e : Env} {a : Act} (hE : EnvRep G e n a) {i : Nat} (hI : Inv i ops.toList e) {o : Oper} (ho : ops.toList[i]? = some o) {K : Env → List AO → Prop}
  (h : stepOp M n ops.toList i e G.H o K) {KK : Act → World → Prop} {Q : Exit → Act → World → Prop}
  (hK : ∀ e' G' a', K e' G'.H → Ext G G' → Sim G' → EnvRep G' e' n a' → Inv (i + 1) ops.toList e' → KK a' G'.w) :
  if Region.wanted o (yielded ops a.tmps) then o.wp M.P a G.w KK Q else KK (a.put o.dst undef) G.w := by
 unfold stepOp at h
 split at h
 ·rename_i hd hc
  have hw := cond_wanted hE hc
  have hg : GuardOk i ops.toList e o.guard := fun c hc' => by rw [hc] at hc'; cases hc'
  rw [if_pos (by rw [hw]; rfl)]
  split at h
  ·rename_i p r hp
   obtain ⟨h1, h2⟩ := andO_iff.1 h
   exact pureAny_sound hT hS hE hI hg hp h1 fun v G' he hs hH hr => hK _ G' _ (by rw [hH]; exact h2) he hs ((hE.mono he).put hd (x := .s r) hr) (hI.put ho hn fun _ _ _ h => by cases h)
  ·obtain ⟨h1, h2⟩ := andO_iff.1 h
   exact heapAny_sound hT hS hE hI hg h2 h1 fun r v G' hk he hs hr => hK _ G' _ hk he hs ((hE.mono he).put hd (x := .s r) hr) (hI.put ho hn fun _ _ _ h => by cases h)
 ·rename_i c hd hc
  have hw := cond_wanted hE hc
  simp only [condB] at hw
  rw [hw]
  obtain ⟨k, hk⟩ : ∃ k, o.guard = some k := by
   cases hgd : o.guard with
   | none => rw [hgd] at hc; simp [condOf] at hc
   | some k => exact ⟨k, rfl⟩
  have hg : c = true → GuardOk i ops.toList e o.guard := fun hcb c' hc' => by rw [hc] at hc'; cases hc'; exact hcb
  have hc2 : condOf i ops.toList e (some k) = some (some c) := by rw [← hk]; exact hc
  split at h
  ·rename_i p r hp
   obtain ⟨h1, h2⟩ := andO_iff.1 h
   rw [hk] at h2
   simp only at h2
   cases hcb : c with
   | true =>
    rw [if_pos rfl]
    exact pureAny_sound hT hS hE hI (hg hcb) hp (impO_iff.1 h1 hcb) fun v G' he hs hH hr => hK _ G' _ (by rw [hH]; exact h2) he hs
     ((hE.mono he).put hd (x := .g k c r) ⟨fun _ => hr, fun hf => by rw [hcb] at hf; cases hf⟩) (hI.put ho hn fun k' c' y h => by cases h; exact hc2)
   | false =>
    simp only [Bool.false_eq_true, if_false]
    exact hK _ G _ h2 (Ext.refl G) hS (hE.put hd (x := .g k c r) ⟨fun hf => absurd (hcb.symm.trans hf) (by decide), fun _ => rfl⟩) (hI.put ho hn fun k' c' y h => by cases h; exact hc2)
  ·rw [hk] at h
   cases hcb : c with
   | true =>
    rw [hcb] at h
    obtain ⟨h1, h2⟩ := andO_iff.1 h
    rw [if_pos rfl]
    rw [← hk] at h1
    exact heapAny_sound hT hS hE hI (hg hcb) h2 h1 fun r v G' hk' he hs hr => hK _ G' _ hk' he hs ((hE.mono he).put hd (x := .s r) hr) (hI.put ho hn fun _ _ _ h => by cases h)
   | false =>
    rw [hcb] at h
    simp only [Bool.false_eq_true, if_false]
    exact hK _ G _ h (Ext.refl G) hS (hE.put hd (x := .g k false (dummyOf M.P o.type)) ⟨fun hf => (by cases hf), fun _ => rfl⟩) (hI.put ho hn fun k' c' y h => by cases h; rw [← hcb]; exact hc2)
 ·exact h.elim
theorem runOps_sound {M : Mach} (hT : TSound M.P M.T) {ops : Array Oper} (hn : nodup (dsts ops.toList) = true) {n : Nat} {Q : Exit → Act → World → Prop} : ∀ (rest : List Oper) (i : Nat), (∀ j, rest[j]? = ops.toList[i + j]?) → ∀ {G : View}, Sim G → ∀ {e : Env} {a : Act}, EnvRep G e n a →
  Inv i ops.toList e → ∀ {K : Env → List AO → Prop}, runOps M n ops.toList rest i e G.H K → (∀ e' G' a', K e' G'.H → Ext G G' → Sim G' → EnvRep G' e' n a' → Q .normal a' G'.w) → wpList M.P ops Q rest a G.w := by
 intro rest
 induction rest with
 | nil => intro i _ G hS e a hE hI K h hK; exact hK e G a h (Ext.refl G) hS hE
 | cons o rest ih =>
  intro i hr G hS e a hE hI K h hK
  have ho : ops.toList[i]? = some o := by have := hr 0; simpa using this.symm
  have := stepOp_sound (KK := wpList M.P ops Q rest) (Q := Q) hT hn hS hE hI ho h fun e' G' a' h' he' hs' hE' hI' =>
   ih (i + 1) (fun j => by have := hr (j + 1); rw [show i + (j + 1) = i + 1 + j by omega] at this; simpa using this) hs' hE' hI' h' fun e'' G'' a'' hk he hs hE'' => hK e'' G'' a'' hk (he'.trans he) hs hE''
  unfold wpList
  split
  ·rename_i hw; rw [if_pos hw] at this; exact .inl this
  ·rename_i hw; rw [if_neg hw] at this; exact this
end Go.Ab
