/- The abstract machine: regions whose order is open, an object more that floats: the theorem. -/
import Derived.Test.YtnlifjljmbfomaaGreatTM3
namespace Go.Ab
set_option linter.unusedSectionVars false
variable [Base]
set_option linter.unusedSectionVars false
theorem RepA.obj {G : View} {b : Nat} {o : AO} {x : AV} {v : Value} (h : RepA G x v) : RepA (G.obj b o) x v := by
 cases x with
 | c x => exact RepC.obj h
 | agg l =>
  obtain ⟨cs, hv, hc⟩ := h
  exact ⟨cs, hv, hc.mono fun _ _ h => RepC.obj h⟩
theorem RepX.obj {G : View} {b : Nat} {o : AO} {x : XV} {v : Value} (h : RepX G x v) : RepX (G.obj b o) x v := by
 have hs : ∀ {y : SV}, RepS G y v → RepS (G.obj b o) y v := by
  intro y h
  cases y with
  | none => trivial
  | a x => exact RepA.obj h
  | tup l =>
   obtain ⟨vs, hv, hc⟩ := h
   exact ⟨vs, hv, hc.mono fun _ _ h => RepA.obj h⟩
 cases x with
 | s x => exact hs h
 | g k c x => exact ⟨fun hc => hs (h.1 hc), h.2⟩
theorem alloc_out {M : Mach} {n : Nat} {ops : List Oper} {i : Nat} {e : Env} {H : List AO} {o : Oper} {t : TypeId} {d : Nat} (hop : o.op = .alloc t) (hg : o.guard = none) (hd : o.dst = some d) (hna : notArr M.P t = true) {K : XV → List AO → Nat → Prop}
  (h : stepD M n ops i e H o K) : dstOk n (some d) = true ∧ ∃ z, zeroCellsA M.P t = some z ∧ K (.s (.a (.c (.ptr H.length 0)))) (H ++ [.row z]) 2 := by
 unfold stepD at h
 rw [hg, hd, hop] at h
 have hc : condOf i ops e none = some none := rfl
 rw [hc] at h
 split at h
 ·rename_i h1 h2
  refine ⟨h1, ?_⟩
  have hp : pureOpD M (fun x => (evalX e x).strip) H (.alloc t) = none := rfl
  rw [hp] at h
  dsimp only at h
  have h3 := (andO_iff.1 h).2
  have h4 : heapOp M (fun x => (evalX e x).strip) H (.alloc t) fun r H' => K (.s r) H' 2 := h3
  unfold heapOp at h4
  unfold notArr at hna
  split at h4
  ·rename_i hu
   exfalso
   simp_all
  ·rename_i hu
   cases hu
  ·rename_i t' ht'
   cases ht'
   split at h4
   ·rename_i hu
    rw [hu] at hna
    cases hna
   ·unfold heapOp0 at h4
    dsimp only at h4
    split at h4
    ·rename_i z g hz hg'
     refine ⟨z, hz, ?_⟩
     unfold boxA at h4
     split at h4
     ·rename_i v _ hv _
      have : v.cells = z := by
       have hv' := SV.a.inj hv
       rw [← hv']
       split <;> rfl
      rw [this] at h4
      exact h4
     ·exact h4.elim
    ·exact h4.elim
  all_goals simp_all
 ·simp_all
 ·exact h.elim
theorem alloc_run {P : Program} {o : Oper} {t : TypeId} (hop : o.op = .alloc t) {z : List AC} (hz : zeroCellsA P t = some z) (cv : Operand → Value) (w : World) :
  ∃ v : Value, (execOp cv o).run P w = .ok (.value (.pointer (some ⟨w.heap.size, 0, none⟩))) (w.alloc (.cells v.cells t)) ∧ ∀ G : View, All2 (RepC G) z v.cells.toList := by
 obtain ⟨i, v, hi, hzv, hrep, _⟩ := zeroCells_cases hz
 refine ⟨v, ?_, hrep⟩
 obtain ⟨dst, op, ty, pos, after, guard⟩ := o
 simp only at hop
 subst hop
 have fin : ∀ {s : Sem Value}, (execOp cv { dst, op := .alloc t, type := ty, pos, after, guard } = (do pure (.value (← s)))) → s.run P w = .ok (.pointer (some ⟨w.heap.size, 0, none⟩)) (w.alloc (.cells v.cells t)) →
   (execOp cv { dst, op := .alloc t, type := ty, pos, after, guard }).run P w = .ok (.value (.pointer (some ⟨w.heap.size, 0, none⟩))) (w.alloc (.cells v.cells t)) := by
  intro s he h
  rw [he]; simp [h]
 refine fin rfl ?_
 simp only [Instr.alloc, Sem.run_bind, run_zeroValue' hi hzv, Result.andThen_ok]
 rfl
structure Pend (G G1 : View) (a1 : Act) (d b : Nat) (z : List AC) : Prop where
 slot : a1.tmps.getD d undef = .pointer (some ⟨b, 0, none⟩)
 cell : ∃ cs T, G1.w.heap[b]? = some (.cells cs T (0, 0)) ∧ ∀ G' : View, All2 (RepC G') z cs.toList
 noI : ∀ o, ¬ G1.I b o
 free : ∀ id, ¬ G1.holds id b
 old : G.w.heap.size ≤ b
theorem Pend.mono {G G1 G2 : View} {a1 a2 : Act} {d b : Nat} {z : List AC} (h : Pend G G1 a1 d b z) (he : Ext G1 G2) (ha : a2.tmps.getD d undef = a1.tmps.getD d undef) : Pend G G2 a2 d b z := by
 obtain ⟨cs, T, hc, hr⟩ := h.cell
 have hlt : b < G1.w.heap.size := (Array.getElem?_eq_some_iff.1 hc).1
 refine ⟨ha.trans h.slot, ⟨cs, T, (he.frame b hlt h.free).trans hc, hr⟩, fun o ho => ?_, fun id hid => ?_, h.old⟩
 ·rcases he.inew b o ho with h1 | h1 | ⟨id, h1⟩
  ·exact h.noI o h1
  ·omega
  ·exact h.free id h1
 ·rcases he.news id b hid with h1 | h1
  ·exact h.free id h1
  ·omega
theorem Pend.adopt {G G1 : View} {a1 : Act} {d b : Nat} {z : List AC} (h : Pend G G1 a1 d b z) (he : Ext G G1) (hS : Sim G1) {e : Env} {n : Nat} (hE : EnvRep G1 e n a1) :
  Ext G (G1.obj b (.row z)) ∧ Sim (G1.obj b (.row z)) ∧ EnvRep (G1.obj b (.row z)) (e.put (some d) (.s (.a (.c (.ptr G1.H.length 0))))) n a1 := by
 obtain ⟨cs, T, hc, hr⟩ := h.cell
 have hl := G1.obj_last b (.row z)
 refine ⟨he.obj fun _ => h.old, Sim.obj hS h.free fun _ => ⟨cs, T, by rw [hl.2]; exact hc, fun o ho => ?_, hr _⟩, ⟨fun t => ?_, hE.size, hE.defers⟩⟩
 ·rw [hl.2] at ho
  exact h.noI o ho
 ·show RepX _ (Env.get ((d, _) :: e) t) _
  rw [Env.get_cons]
  split
  ·rename_i hdt
   subst hdt
   refine ⟨?_, z, hl.1⟩
   rw [h.slot, hl.2]
  ·exact RepX.obj (hE.get t)
theorem put_other {a : Act} {dst : Option Tmp} {v : Value} {d : Nat} (h : dst ≠ some d) : (a.put dst v).tmps.getD d undef = a.tmps.getD d undef := by
 cases dst with
 | none => rfl
 | some t =>
  have : t ≠ d := fun hh => h (by rw [hh])
  simp [Act.put, Array.getD_eq_getD_getElem?, Array.getElem?_setIfInBounds_ne this]
theorem put_self {a : Act} {v : Value} {d : Nat} (h : d < a.tmps.size) : (a.put (some d) v).tmps.getD d undef = v := by
 simp [Act.put, Array.getD_eq_getD_getElem?, h]
theorem pred_gen {ops : List Oper} {S : Nat → Prop} (hS : ∀ i o, ops[i]? = some o → S i → ∀ x ∈ edgesOf o, S x) {i : Nat} {oi : Oper} (hi : ops[i]? = some oi) (hri : ∀ x ∈ edgesOf oi, S x) : ∀ x ∈ (allPreds ops []).getD i [], S x := by
 have hcl2 := preds_closed (ops := ops) (S := S) hS
 intro x hx
 obtain ⟨_, hp⟩ := allPreds_get ops []
 have h0 := hp i oi hi
 simp only [zN9, Nat.zero_add] at h0
 rw [List.getD_eq_getElem?_getD, h0] at hx
 simp only [Option.getD_some, predsOf] at hx
 rcases List.mem_append.1 hx with hx | hx
 ·exact hri x hx
 ·obtain ⟨d, hd, hx⟩ := List.mem_flatMap.1 hx
  rw [List.getD_eq_getElem?_getD, List.getElem?_take] at hx
  split at hx
  ·refine hcl2 d (hri d hd) x ?_
   rw [List.getD_eq_getElem?_getD]
   exact hx
  ·simp at hx
theorem flt_one {Pr : Program} {ops : List Oper} {F : Nat → Nat} {i j : Nat} (hi : FltP Pr ops F i) (hj : FltP Pr ops F j) : i = j := by
 have no : ∀ {i j : Nat}, FltP Pr ops F i → FltP Pr ops F j → ¬ i < j := by
  intro i j hi hj hlt
  obtain ⟨o, t, d, ho, _, _, he, _⟩ := hj.op
  have h1 := hi.late j hlt (ops_lt ho) (by have := hj.two; omega)
  exact pred_gen (ops := ops) (S := fun _ => False) (fun _ _ _ h => h.elim) ho (fun x hx => by rw [he] at hx; simp at hx) i h1
 have h1 := no hi hj
 have h2 := no hj hi
 omega
theorem count_set : ∀ (l : List Bool) (i : Nat), l[i]? = some false → ((l.set i true).filter (· == false)).length + 1 = (l.filter (· == false)).length := by
 intro l
 induction l with
 | nil => intro i h; simp at h
 | cons b l ihl =>
  intro i h
  cases i with
  | zero => simp at h; subst h; simp
  | succ i =>
   simp at h
   have := ihl i h
   have h1 : (false == false) = true := rfl
   have h2 : (true == false) = false := rfl
   cases b
   ·simp only [List.set_cons_succ, List.filter_cons, h1, if_true, zC9]
    omega
   ·simp only [List.set_cons_succ, List.filter_cons, h2, Bool.false_eq_true, if_false]
    exact this
theorem drawn_sound {M : Mach} (hT : TSound M.P M.T) (hm : M.P.follows .mixedOrders = true) {ops : Array Oper} (hn : nodup (dsts ops.toList) = true) {n id : Nat} {G : View} (hS : Sim G) {e : Env} {a : Act} (hE : EnvRep G e n a) (hp : plainE e = true)
  (hclr : ∀ (i : Nat) (o : Oper) (t : TypeId) (d : Nat), ops.toList[i]? = some o → o.op = .alloc t → o.dst = some d → e.get d = .s .none)
  {K : Env → List AO → Prop} (hKc : ∀ e e' H, (∀ t, e.get t = e'.get t) → K e H → K e' H) (h : runOpsD M n ops.toList ops.toList 0 e G.H [] [] [] K) {Q : Exit → Act → World → Prop}
  (hK : ∀ e' G' a', K e' G'.H → Ext G G' → Sim G' → EnvRep G' e' n a' → Q .normal a' G'.w) : (Code.region id ops true).wp M.P Q a G.w := by
 obtain ⟨E, A, X, F, hE0, hA0, hst, ⟨hc, hKN⟩, hgn, hen⟩ := trace_of ops.toList 0 e G.H [] [] [] (fun j => by simp) h
 have hc' : drawChk0 M.P ops.toList ((List.range ops.toList.length).map F) = true := drawChk_old (by simpa using hc)
 have tr : Tr M n ops.toList e G.H E A X F := ⟨hE0, hA0, fun i o ho => hst i o (by omega) ho, fun a o ho hf hf2 k o' hk ho' hF => (hgn a o (nZ9 _) ho hf hf2).2 k o' (nZ9 _) hk ho' hF, fun i o ho hF hl k hk hko hFk hb => (hen i o (nZ9 _) ho hF hl).2 k (nZ9 _) hk hko hFk hb⟩
 refine wp_region_any hm ?_
 have hplain : ∀ t k c x, e.get t ≠ .g k c x := fun t k c x hh => by
  have := plain_inv' hp t k c x
  exact this hh
 let PnOk : Array Bool → (Nat → Bool) → View → Act → Prop := fun l L G1 a1 => (∀ i, l.getD i false = L i) ∨
  ∃ fa b o d z, FltP M.P ops.toList F fa ∧ (∀ i, l.getD i false = (L i || decide (i = fa))) ∧ L fa = false ∧ (∃ j, j < fa ∧ F j = 2 ∧ L j = false) ∧ ops.toList[fa]? = some o ∧ o.dst = some d ∧ edgesOf o = [] ∧ Pend G G1 a1 d b z ∧
   X fa = .s (.a (.c (.ptr (A fa).length 0))) ∧ A (fa + 1) = A fa ++ [.row z]
 have main : ∀ (fuel : Nat) (l : Array Bool) (L : Nat → Bool) (G1 : View) (a1 : Act) (e1 : Env) (m : Nat), l.size = ops.size → (l.toList.filter (· == false)).length ≤ fuel → Sta ops.toList e X F L e1 m → PnOk l L G1 a1 →
   Ext G G1 → Sim G1 → EnvRep G1 e1 n a1 → G1.H = A m → wpAny M.P .any ops Q fuel l a1 G1.w := by
  have fin : ∀ (l : Array Bool) (L : Nat → Bool) (G1 : View) (a1 : Act) (e1 : Env) (m : Nat), l.size = ops.size → Sta ops.toList e X F L e1 m → PnOk l L G1 a1 → Ext G G1 → Sim G1 → EnvRep G1 e1 n a1 → G1.H = A m →
    Region.ready .any ops l = [] → Q .normal a1 G1.w := by
   intro l L G1 a1 e1 m hl st hpn he hs hE1 hH hr
   have hall0 : ∀ i, i < ops.toList.length → l.getD i false = true := by
    intro i
    induction i using Nat.strongRecOn with
    | _ i ih =>
     intro hi
     cases hli : l.getD i false with
     | true => rfl
     | false =>
      have ho : ops.toList[i]? = some ops.toList[i] := List.getElem?_eq_getElem hi
      have hsz : i < l.size := by rw [hl]; simpa using hi
      have : i ∈ Region.ready .any ops l := ready_iff.2 ⟨_, ho, by simp [hsz] at hli ⊢; exact hli, fun x hx => ih x ((chk_one hc' ho).1 x hx) (by have := (chk_one hc' ho).1 x hx; omega)⟩
      rw [hr] at this
      simp at this
   have hall : ∀ i, i < ops.toList.length → L i = true := by
    intro i hi
    rcases hpn with h1 | ⟨fa, b, o, d, z, hfp, h1, h2, ⟨j, hj1, hj2, hj3⟩, hfo, _⟩
    ·rw [← h1]; exact hall0 i hi
    ·exfalso
     have h3 := hall0 j (by have := ops_lt hfo; omega)
     rw [h1 j, hj3] at h3
     have : j ≠ fa := by omega
     simp [this] at h3
   have hN : A m = A ops.toList.length := by
    refine (text_heap tr st.hm (nR9 _) fun k h1 h2 h3 => ?_).symm
    have := (st.eff k h2 h3).1 (hall k h2)
    omega
   obtain ⟨t1, t2⟩ := text_get tr hn ops.toList.length (nR9 _)
   have hg : ∀ t, (E ops.toList.length).get t = e1.get t := by
    intro t
    by_cases hw : ∃ (j : Nat) (oj : Oper), ops.toList[j]? = some oj ∧ oj.dst = some t
    ·obtain ⟨j, oj, hj, hd⟩ := hw
     rw [t1 j oj t (ops_lt hj) hj hd, st.v1 j oj t hj hd (hall j (ops_lt hj))]
    ·rw [t2 t (fun k o _ hko hdk => hw ⟨k, o, hko, hdk⟩), st.v2 t fun k o hk hd => absurd ⟨k, o, hk, hd⟩ hw]
   have hKN' : K (E ops.toList.length) (A ops.toList.length) := by simpa using hKN
   exact hK e1 G1 a1 (by rw [hH, hN]; exact hKc _ _ _ hg hKN') he hs hE1
  intro fuel
  induction fuel with
  | zero =>
   intro l L G1 a1 e1 m hl hf st hpn he hs hE1 hH
   have hr : Region.ready .any ops l = [] := by
    apply List.eq_nil_iff_forall_not_mem.2
    intro i hi
    obtain ⟨o, ho, h1, _⟩ := ready_iff.1 hi
    have hlt : i < l.size := by rw [hl]; have := ops_lt ho; simpa using this
    have hmem : l[i] ∈ l.toList.filter (· == false) := by
     refine List.mem_filter.2 ⟨by simp, ?_⟩
     simp [hlt] at h1
     simp [h1]
    have := List.length_pos_of_mem hmem
    omega
   exact ⟨hr, fin l L G1 a1 e1 m hl st hpn he hs hE1 hH hr⟩
  | succ fuel ih =>
   intro l L G1 a1 e1 m hl hf st hpn he hs hE1 hH
   refine ⟨fin l L G1 a1 e1 m hl st hpn he hs hE1 hH, fun i hi => ?_⟩
   obtain ⟨o, ho, h1, h2⟩ := ready_iff.1 hi
   have hlt : i < l.size := by rw [hl]; have := ops_lt ho; simpa using this
   have hli : l.getD i false = false := by simp [hlt] at h1 ⊢; exact h1
   have hcnt : ((l.setIfInBounds i true).toList.filter (· == false)).length ≤ fuel := by
    have := count_set l.toList i (by simp [hlt] at h1; simp [hlt, h1])
    rw [Array.toList_setIfInBounds]
    omega
   have hset : ∀ k, (l.setIfInBounds i true).getD k false = (l.getD k false || decide (k = i)) := by
    intro k
    by_cases hki : k = i
    ·subst hki
     simp [hlt]
    ·have : i ≠ k := Ne.symm hki
     simp [hki, Array.getElem?_setIfInBounds_ne this]
   have hinv : Inv ops.toList.length ops.toList e1 := by
    intro t k c x hx
    by_cases hw : ∃ (j : Nat) (oj : Oper), ops.toList[j]? = some oj ∧ oj.dst = some t ∧ L j = true
    ·obtain ⟨j, oj, hj, hd, hLj⟩ := hw
     rw [st.v1 j oj t hj hd hLj] at hx
     obtain ⟨hsj, _⟩ := tr.step j oj hj
     obtain ⟨hgj, hcj⟩ := stepD_key hsj hx
     obtain ⟨g, want⟩ := k
     have hgp := (chk_one hc' hj).2 g want hgj
     have hLg : L g = true := preds_closed (ops := ops.toList) (S := fun x => L x = true) (fun k o ho hk x hx => st.closed k o ho hk x hx) j hLj g hgp
     have hcj2 := condOf_le (Nat.le_of_lt (ops_lt hj)) hcj
     simp only [condOf] at hcj hcj2 ⊢
     split at hcj2
     ·rename_i og hb hog
      have hgj' : g < j := by
       split at hcj
       ·rename_i hbb _; simpa using hbb
       ·cases hcj
      split at hcj2
      ·rename_i d hdg
       have e2 : e1.get d = (E j).get d := by
        rw [st.v1 g og d hog hdg hLg, (text_get tr hn j (Nat.le_of_lt (ops_lt hj))).1 g og d hgj' hog hdg]
       rw [e2]
       exact hcj2
      ·cases hcj2
     ·cases hcj2
    ·rw [st.v2 t fun k o hk hd => by
      cases hL : L k with
      | false => rfl
      | true => exact absurd ⟨k, o, hk, hd, hL⟩ hw] at hx
     exact absurd hx (hplain t k c x)
   have ho' : ops[i]? = some o := by simpa using ho
   unfold wpOp
   rw [ho']
   simp only
   rcases hpn with hpn | ⟨fa, b, of, d, z, hfp, hlL, hLfa, ⟨j0, hj1, hj2, hj3⟩, hfo, hfd, hfe, hpd, hXf, hAf⟩
   ·-- nothing is pending
    have hni : L i = false := by rw [← hpn]; exact hli
    have hri : ∀ x ∈ edgesOf o, L x = true := fun x hx => by rw [← hpn]; exact h2 x hx
    by_cases hF : FltP M.P ops.toList F i ∧ ∃ j, j < i ∧ F j = 2 ∧ L j = false
    ·obtain ⟨hfp, hj⟩ := hF
     obtain ⟨o2, t, d, ho2, hop, hgd, hed, hdst, hna⟩ := hfp.op
     rw [ho] at ho2
     cases ho2
     obtain ⟨hsi, _⟩ := tr.step i o ho
     obtain ⟨hdn, z, hz, hx1, hx2, hx3⟩ := alloc_out hop hgd hdst hna hsi
     have hw := cond_wanted (ops := ops) hE1 (i := i) (o := o) (c := none) (by rw [hgd]; rfl)
     rw [if_pos (by rw [hw]; rfl)]
     refine .inl ?_
     obtain ⟨v, hrun, hrep⟩ := alloc_run hop hz a1.eval G1.w
     unfold Oper.wp
     rw [hrun, Oper.upon_value, hdst]
     have e2 : Ext G1 (G1.push (fun _ => False) (.cells v.cells t)) := Ext.push hs _ _
     have hds : d < a1.tmps.size := by
      rw [hE1.size]
      simpa [dstOk] using hdn
     have hed0 : e1.get d = .s .none := by
      rw [st.v2 d fun k ok hk hd => by rw [dsts_distinct hn hk ho hd hdst]; exact hni]
      exact hclr i o t d ho hop hdst
     have hE2 : EnvRep (G1.push (fun _ => False) (.cells v.cells t)) e1 n (a1.put (some d) (.pointer (some ⟨G1.w.heap.size, 0, none⟩))) := by
      have hq := (hE1.mono e2).put hdn (x := .s .none) (v := .pointer (some ⟨G1.w.heap.size, 0, none⟩)) trivial
      refine ⟨fun u => ?_, hq.size, hq.defers⟩
      have := hq.get u
      have hgu : Env.get ((d, .s .none) :: e1) u = e1.get u := by
       rw [Env.get_cons]
       split
       ·rename_i hdu
        subst hdu
        exact hed0.symm
       ·rfl
      have this2 : RepX _ (Env.get ((d, .s .none) :: e1) u) _ := this
      rw [hgu] at this2
      exact this2
     refine ih _ L _ _ _ m (by simp [hl]) hcnt st (.inr ⟨i, G1.w.heap.size, o, d, z, hfp, fun k => by rw [hset, hpn], hni, hj, ho, hdst, hed, ?_, hx1.symm, hx2.symm⟩) (he.trans e2) (Sim.push hs _ _) hE2 hH
     refine ⟨put_self hds, ⟨v.cells, t, alloc_heap_new _ _, hrep⟩, fun x hx => ?_, fun k hk => ?_, he.size⟩
     ·rcases hx with hx | ⟨_, hx⟩
      ·exact absurd (hs.ilt _ _ hx) (Nat.lt_irrefl _)
      ·exact hx
     ·have : G1.holds k G1.w.heap.size := hk
      exact absurd (hs.lt this) (Nat.lt_irrefl _)
    ·have hfl : FltP M.P ops.toList F i → ∀ j, j < i → F j = 2 → L j = true := fun hfp j hj1 hj2 => by
      cases hL : L j with
      | true => rfl
      | false => exact absurd ⟨hfp, j, hj1, hj2, hL⟩ hF
     have hsd := step_same tr hn hc' st ho hni hri hfl
     have hsta := sta_next tr hn hc' st ho hni hri hfl
     rw [← hH] at hsd
     have hstep := stepD_sound (KK := wpAny M.P .any ops Q fuel (l.setIfInBounds i true)) (Q := Q) hT hs hE1 hinv (Nat.le_of_lt (ops_lt ho)) hsd fun x f G' a' _ hk he' hs' hE' => by
      obtain ⟨rfl, hH', _⟩ := hk
      exact ih _ _ G' a' _ _ (by simp [hl]) hcnt hsta (.inl fun k => by rw [hset, hpn]) (he.trans he') hs' hE' hH'
     split
     ·rename_i hw; rw [if_pos hw] at hstep; exact .inl hstep
     ·rename_i hw; rw [if_neg hw] at hstep; exact hstep
   ·-- one is pending
    have hifa : i ≠ fa := fun h => by
     rw [hlL i, h] at hli
     simp at hli
    have hni : L i = false := by
     rw [hlL i] at hli
     exact (Bool.or_eq_false_iff.1 hli).1
    have hlt2 : ∀ x, x ≠ fa → l.getD x false = true → L x = true := fun x hx h => by
     rw [hlL x] at h
     simpa [hx] using h
    have hcl : ∀ k ok, ops.toList[k]? = some ok → l.getD k false = true → ∀ x ∈ edgesOf ok, l.getD x false = true := fun k ok hk hlk x hx => by
     by_cases hkf : k = fa
     ·subst hkf
      rw [hfo] at hk
      cases hk
      rw [hfe] at hx
      simp at hx
     ·rw [hlL x, st.closed k ok hk (hlt2 k hkf hlk) x hx]
      rfl
    have hri : ∀ x ∈ edgesOf o, L x = true := fun x hx => by
     by_cases hxf : x = fa
     ·exfalso
      subst hxf
      have h5 := hfp.deps i o ho hx j0 hj1 hj2
      have h6 := pred_gen (ops := ops.toList) (S := fun x => l.getD x false = true) hcl ho h2 j0 h5
      rw [hlt2 j0 (by omega) h6] at hj3
      cases hj3
     ·exact hlt2 x hxf (h2 x hx)
    have hfl : FltP M.P ops.toList F i → ∀ j, j < i → F j = 2 → L j = true := fun h => absurd (flt_one h hfp) hifa
    have hsd := step_same tr hn hc' st ho hni hri hfl
    have hsta := sta_next tr hn hc' st ho hni hri hfl
    rw [← hH] at hsd
    have hstep := stepD_sound (KK := wpAny M.P .any ops Q fuel (l.setIfInBounds i true)) (Q := Q) hT hs hE1 hinv (Nat.le_of_lt (ops_lt ho)) hsd fun x f G' a' ha' hk he' hs' hE' => by
     obtain ⟨rfl, hH', _⟩ := hk
     obtain ⟨v, rfl⟩ := ha'
     have hpd' := hpd.mono he' (a2 := a1.put o.dst v) (put_other fun hd => hifa (dsts_distinct hn ho hfo hd hfd))
     have hLfa' : (L fa || decide (fa = i)) = false := by rw [hLfa, dF9 (Ne.symm hifa)]; rfl
     by_cases hj : ∃ j, j < fa ∧ F j = 2 ∧ (L j || decide (j = i)) = false
     ·refine ih _ _ G' _ _ _ (by simp [hl]) hcnt hsta (.inr ⟨fa, b, of, d, z, hfp, fun k => ?_, hLfa', hj, hfo, hfd, hfe, hpd', hXf, hAf⟩) (he.trans he') hs' hE' hH'
      rw [hset, hlL]
      dsimp only
      cases L k <;> cases decide (k = fa) <;> cases decide (k = i) <;> rfl
     ·have hfl2 : FltP M.P ops.toList F fa → ∀ j, j < fa → F j = 2 → (L j || decide (j = i)) = true := fun _ j h3 h4 => by
       cases hL : (L j || decide (j = i)) with
       | true => rfl
       | false => exact absurd ⟨j, h3, h4, hL⟩ hj
      have hrf : ∀ x ∈ edgesOf of, (L x || decide (x = i)) = true := fun x hx => by rw [hfe] at hx; simp at hx
      have hsta2 := sta_next tr hn hc' hsta hfo hLfa' hrf hfl2
      have hAm : A fa = A (if F i = 2 then i + 1 else m) := by
       have h2' := hfp.two
       rcases heap_same tr hn hc' hsta hfo hLfa' hrf hfl2 (by omega) with h7 | ⟨h7, _⟩ | ⟨h7, _⟩
       ·exact h7
       ·omega
       ·omega
      obtain ⟨p1, p2, p3⟩ := hpd'.adopt (he.trans he') hs' hE'
      rw [hH', ← hAm, ← hXf, ← hfd] at p3
      refine ih _ _ (G'.obj b (.row z)) _ _ _ (by simp [hl]) hcnt hsta2 (.inl fun k => ?_) p1 p2 p3 ?_
      ·rw [hset, hlL]
       dsimp only
       cases L k <;> cases decide (k = fa) <;> cases decide (k = i) <;> rfl
      ·rw [if_pos hfp.two, hAf]
       show G'.H ++ [.row z] = _
       rw [hH', ← hAm]
    split
    ·rename_i hw; rw [if_pos hw] at hstep; exact .inl hstep
    ·rename_i hw; rw [if_neg hw] at hstep; exact hstep
 have hz : ∀ i, (Array.replicate ops.size false).getD i false = false := by
  intro i
  by_cases hi : i < ops.size <;> simp [hi]
 have h0 : Sta ops.toList e X F (fun i => (Array.replicate ops.size false).getD i false) e 0 :=
  ⟨fun i o t _ _ hL => absurd ((hz i).symm.trans hL) (by decide), fun t _ => rfl, fun i o _ hL => absurd ((hz i).symm.trans hL) (by decide), nZ9 _, fun i _ _ => by rw [hz]; simp⟩
 exact main ops.size (Array.replicate ops.size false) _ G.drew a e 0 (by simp) (by simp) h0 (.inl fun _ => rfl) (Ext.drew G) hS.drew (hE.mono (Ext.drew G)) hA0.symm
def clrK : List Oper → Env → (Env → Prop) → Prop
 | [], e, k => k e
 | o :: r, e, k => match o.op, o.dst with
  | .alloc _, some d => clrK r ((d, .s .none) :: e) k
  | _, _ => clrK r e k
theorem clrK_out {G : View} {n : Nat} {a : Act} : ∀ (l : List Oper) {e : Env} {k : Env → Prop}, clrK l e k → EnvRep G e n a → plainE e = true →
  ∃ e', k e' ∧ EnvRep G e' n a ∧ plainE e' = true ∧ (∀ d, e.get d = .s .none → e'.get d = .s .none) ∧ ∀ o ∈ l, ∀ t d, o.op = .alloc t → o.dst = some d → e'.get d = .s .none := by
 intro l
 induction l with
 | nil => intro e k h hE hp; exact ⟨e, h, hE, hp, fun _ h => h, fun o ho => by simp at ho⟩
 | cons o r ih =>
  intro e k h hE hp
  unfold clrK at h
  split at h
  ·rename_i t d hop hd
   obtain ⟨e', h1, h2, h3, h4, h5⟩ := ih h (hE.drop d) hp
   refine ⟨e', h1, h2, h3, fun u hu => h4 u ?_, fun o' ho' t' d' hop' hd' => ?_⟩
   ·rw [Env.get_cons]
    split
    ·rfl
    ·exact hu
   ·rcases List.mem_cons.1 ho' with rfl | ho'
    ·rw [hd] at hd'
     cases hd'
     refine h4 d ?_
     rw [Env.get_cons, if_pos rfl]
    ·exact h5 o' ho' t' d' hop' hd'
  ·rename_i hno
   obtain ⟨e', h1, h2, h3, h4, h5⟩ := ih h hE hp
   refine ⟨e', h1, h2, h3, h4, fun o' ho' t' d' hop' hd' => ?_⟩
   rcases List.mem_cons.1 ho' with rfl | ho'
   ·exact absurd hd' (hno t' d' hop')
   ·exact h5 o' ho' t' d' hop' hd'
theorem EnvRep.know {G : View} {e : Env} {n : Nat} {a : Act} (hr : EnvRep G e n a) (d : Nat) {x : XV} (h : RepX G x (a.tmps.getD d undef)) : EnvRep G ((d, x) :: e) n a := by
 refine ⟨fun t => ?_, hr.size, hr.defers⟩
 rw [Env.get_cons]
 split
 ·rename_i he; subst he; exact h
 ·exact hr.get t
abbrev Body := Env → List AO → (Exit → Env → List AO → Prop) → Prop
def Weak (n m : Nat) (e : Env) (H : List AO) (e' : Env) (H' : List AO) : Prop :=
 ∀ G0 G a, Ext G0 G → G0.H.length ≤ m → Sim G → G.H = H → EnvRep G e n a → ∃ G', G'.w = G.w ∧ Ext G0 G' ∧ Sim G' ∧ G'.H = H' ∧ EnvRep G' e' n a
def LoopA (n : Nat) (B : Body) : Body := fun e H K =>
 ∃ (I : Env → List AO → Prop) (μ : Env → List AO → Nat), (∃ e1 H1, Weak n H.length e H e1 H1 ∧ I e1 H1) ∧ ∀ e' H', I e' H' → B e' H' fun ex e'' H'' =>
  match ex with
  | .normal => ∃ e1 H1, Weak n H.length e'' H'' e1 H1 ∧ I e1 H1 ∧ μ e1 H1 < μ e' H'
  | ex => K ex e'' H''
def onlyK (e : Env) : List Nat → (Env → Prop) → Prop
 | [], k => k []
 | t :: ts, k => match e.get t with
  | .s .none => onlyK e ts fun r => k ((t, .s .none) :: r)
  | .s (.a (.c x)) => cellK x fun x => onlyK e ts fun r => k ((t, .s (.a (.c x))) :: r)
  | .s (.a (.agg l)) => cellsK l fun l => onlyK e ts fun r => k ((t, .s (.a (.agg l))) :: r)
  | .s (.tup l) => onlyK e ts fun r => k ((t, .s (.tup l)) :: r)
  | .g _ _ _ => onlyK e ts fun r => k ((t, .s .none) :: r)
theorem onlyK_rep {G : View} {e : Env} {n : Nat} {a : Act} (hr : EnvRep G e n a) : ∀ (ks : List Nat) (k : Env → Prop), onlyK e ks k → ∃ e', k e' ∧ EnvRep G e' n a := by
 intro ks
 induction ks with
 | nil => intro k h; exact ⟨[], h, fun t => trivial, hr.size, hr.defers⟩
 | cons t ts ih =>
  intro k h
  have add : ∀ (x : XV), (x = e.get t ∨ x = .s .none) → onlyK e ts (fun r => k ((t, x) :: r)) → ∃ e', k e' ∧ EnvRep G e' n a := by
   intro x hx h
   obtain ⟨e', hk, hE⟩ := ih _ h
   refine ⟨_, hk, fun u => ?_, hr.size, hr.defers⟩
   rw [Env.get_cons]
   split
   ·rename_i he
    subst he
    rcases hx with hx | hx
    ·rw [hx]; exact hr.get _
    ·rw [hx]; trivial
   ·exact hE.get u
  simp only [onlyK, cellK_eq, cellsK_eq] at h
  split at h
  ·exact add _ (.inr rfl) h
  ·rename_i x hx; exact add _ (.inl hx.symm) h
  ·rename_i x hx; exact add _ (.inl hx.symm) h
  ·rename_i x hx; exact add _ (.inl hx.symm) h
  ·exact add _ (.inr rfl) h
theorem onlyK_congr {e e' : Env} (h : ∀ t, e.get t = e'.get t) : ∀ {ks : List Nat} {k : Env → Prop}, onlyK e ks k → onlyK e' ks k := by
 intro ks
 induction ks with
 | nil => intro k h; exact h
 | cons t ks ih =>
  intro k hk
  simp only [onlyK, cellK_eq, cellsK_eq, ← h t] at hk ⊢
  split at hk <;> exact ih hk
def runC (M : Mach) (n : Nat) (ks : List Nat) : Code → Body
 | .skip, e, H, K => K .normal e H
 | .label _, e, H, K => K .normal e H
 | .ret, e, H, K => K .ret e H
 | .exit id, e, H, K => K (.exit id) e H
 | .seq x y, e, H, K => runC M n ks x e H fun ex e' H' => match ex with
  | .normal => runC M n ks y e' H' K
  | ex => K ex e' H'
 | .cond c x y, e, H, K => match evalX e c with
  | .s (.bool t) => match c with
   | .tmp d => cond t (onlyK ((d, .s (.bool true)) :: e) ks fun e' => runC M n ks x e' H K) (onlyK ((d, .s (.bool false)) :: e) ks fun e' => runC M n ks y e' H K)
   | _ => cond t (runC M n ks x e H K) (runC M n ks y e H K)
  | _ => False
 | .block id x, e, H, K => runC M n ks x e H fun ex e' H' => match ex with
  | .exit i => (match Nat.beq i id with | true => K .normal e' H' | false => K (.exit i) e' H')
  | ex => K ex e' H'
 | .loop x, e, H, K => LoopA n (runC M n ks x) e H K
 | .region _ ops draw, e, H, K => match plainE e && nodup (dsts ops.toList), draw with
  | true, false => runOps M n ops.toList ops.toList 0 e H fun e' H' => onlyK e' ks fun e'' => heapK H' fun H'' => K .normal e'' H''
  | true, true => match M.P.follows .mixedOrders with
   | true => clrK ops.toList e fun e => runOpsD M n ops.toList ops.toList 0 e H [] [] [] fun e' H' => onlyK e' ks fun e'' => heapK H' fun H'' => K .normal e'' H''
   | false => False
  | _, _ => False
 | _, _, _, _ => False
noncomputable def sInf' (R : Nat → Prop) : Nat := Classical.epsilon fun k => R k ∧ ∀ j, R j → k ≤ j
theorem least_exists (R : Nat → Prop) : ∀ n, R n → ∃ k, R k ∧ ∀ j, R j → k ≤ j := by
 intro n
 induction n using Nat.strongRecOn with
 | _ n ih =>
  intro hn
  by_cases h : ∃ m, m < n ∧ R m
  ·obtain ⟨m, hm, hR⟩ := h
   exact ih m hm hR
  ·refine ⟨n, hn, fun j hj => ?_⟩
   rcases Nat.lt_or_ge j n with h1 | h1
   ·exact absurd ⟨j, h1, hj⟩ h
   ·exact h1
theorem sInf'_spec (R : Nat → Prop) (h : ∃ k, R k) : R (sInf' R) ∧ ∀ j, R j → sInf' R ≤ j := by
 obtain ⟨n, hn⟩ := h
 exact Classical.epsilon_spec (least_exists R n hn)
theorem sInf'_mem (R : Nat → Prop) (h : ∃ k, R k) : R (sInf' R) := (sInf'_spec R h).1
theorem sInf'_le (R : Nat → Prop) {j : Nat} (h : R j) : sInf' R ≤ j := (sInf'_spec R ⟨j, h⟩).2 j h
structure Post (G : View) (n : Nat) (K : Exit → Env → List AO → Prop) (ex : Exit) (a : Act) (w : World) : Prop where
 out : ∃ G' e, G'.w = w ∧ K ex e G'.H ∧ Ext G G' ∧ Sim G' ∧ EnvRep G' e n a
theorem Post.mono {G G1 : View} (h : Ext G G1) {n K ex a w} (p : Post G1 n K ex a w) : Post G n K ex a w := by
 obtain ⟨G', e, h1, h2, h3, h4, h5⟩ := p.out
 exact ⟨G', e, h1, h2, h.trans h3, h4, h5⟩
theorem runC_sound {M : Mach} (hT : TSound M.P M.T) {n : Nat} {ks : List Nat} : ∀ (c : Code) {e : Env} {K : Exit → Env → List AO → Prop} {G : View} {a : Act}, runC M n ks c e G.H K → Sim G → EnvRep G e n a →
  c.wp M.P (fun ex a' w' => Post G n K ex a' w') a G.w := by
 intro c
 induction c with
 | skip => intro e K G a h hS hE; exact wp_skip ⟨G, e, rfl, h, Ext.refl G, hS, hE⟩
 | label l => intro e K G a h hS hE; exact wp_label ⟨G, e, rfl, h, Ext.refl G, hS, hE⟩
 | ret => intro e K G a h hS hE; exact wp_ret ⟨G, e, rfl, h, Ext.refl G, hS, hE⟩
 | exit id => intro e K G a h hS hE; exact wp_exit ⟨G, e, rfl, h, Ext.refl G, hS, hE⟩
 | seq x y ihx ihy =>
  intro e K G a h hS hE
  refine wp_seq (wp_mono (ihx h hS hE) fun ex a' w' p => ?_)
  obtain ⟨G', e', rfl, hk, he, hs, hE'⟩ := p.out
  cases ex with
  | normal => exact wp_mono (ihy hk hs hE') fun ex a'' w'' p => p.mono he
  | _ => exact ⟨G', e', rfl, hk, he, hs, hE'⟩
 | cond c x y ihx ihy =>
  intro e K G a h hS hE
  simp only [runC] at h
  split at h
  ·rename_i t ht
   have hc := evalX_rep hE c
   rw [ht] at hc
   obtain ⟨_, hc⟩ := hc
   split at h
   ·rename_i d
    have hd : evalX e (.tmp d) = .s (.bool t) := ht
    have hk : EnvRep G ((d, .s (.bool t)) :: e) n a := hE.know d (by
     have := hE.get d
     have hg : e.get d = .s (.bool t) := hd
     rwa [hg] at this)
    refine wp_cond hc ?_
    cases t with
    | true =>
     obtain ⟨e', h, hE'⟩ := onlyK_rep hk ks _ h
     exact ihx h hS hE'
    | false =>
     obtain ⟨e', h, hE'⟩ := onlyK_rep hk ks _ h
     exact ihy h hS hE'
   ·refine wp_cond hc ?_
    cases t with
    | true => exact ihx h hS hE
    | false => exact ihy h hS hE
  ·exact h.elim
 | block id x ih =>
  intro e K G a h hS hE
  refine wp_block (wp_mono (ih h hS hE) fun ex a' w' p => ?_)
  obtain ⟨G', e', rfl, hk, he, hs, hE'⟩ := p.out
  cases ex with
  | exit i =>
   simp only [Exit.inBlock]
   simp only at hk
   split at hk
   ·rename_i hb
    have : i = id := by simpa using hb
    rw [if_pos this]
    exact ⟨G', e', rfl, hk, he, hs, hE'⟩
   ·rename_i hb
    have : ¬ i = id := by intro e; subst e; simp at hb
    rw [if_neg this]
    exact ⟨G', e', rfl, hk, he, hs, hE'⟩
  | _ => exact ⟨G', e', rfl, hk, he, hs, hE'⟩
 | loop x ih =>
  intro e K G a h hS hE
  obtain ⟨I, μ, ⟨e1, H1, hw0, h0⟩, hstep⟩ := h
  obtain ⟨G1, hwG, heG, hsG, rfl, hE1⟩ := hw0 G G a (Ext.refl G) (nR9 _) hS rfl hE
  let R : Act → World → Nat → Prop := fun a' w' m => ∃ G' e', G'.w = w' ∧ I e' G'.H ∧ Ext G G' ∧ Sim G' ∧ EnvRep G' e' n a' ∧ μ e' G'.H = m
  let m : Act → World → Nat := fun a' w' => sInf' (R a' w')
  refine wp_loop (fun a' w' => ∃ k, R a' w' k) m ⟨_, G1, e1, hwG, h0, heG, hsG, hE1, rfl⟩ fun a' w' hI => ?_
  obtain ⟨G', e', rfl, hi, he, hs, hE', hm⟩ := sInf'_mem (R a' w') hI
  refine wp_mono (ih (hstep e' G'.H hi) hs hE') fun ex a'' w'' p => ?_
  obtain ⟨G'', e'', rfl, hk, he', hs', hE''⟩ := p.out
  cases ex with
  | normal =>
   obtain ⟨e2, H2, hw2, hI2, hlt⟩ := hk
   obtain ⟨G2, hwG2, heG2, hsG2, rfl, hE2⟩ := hw2 G G'' a'' (he.trans he') (nR9 _) hs' rfl hE''
   have hR : R a'' G''.w (μ e2 G2.H) := ⟨G2, e2, hwG2, hI2, heG2, hsG2, hE2, rfl⟩
   refine ⟨⟨_, hR⟩, ?_⟩
   have h1 : m a'' G''.w ≤ μ e2 G2.H := sInf'_le _ hR
   have h2 : μ e' G'.H = m a' G'.w := hm
   omega
  | _ => exact ⟨G'', e'', rfl, hk, he.trans he', hs', hE''⟩
 | region id ops draw =>
  intro e K G a h hS hE
  simp only [runC] at h
  have hend : ∀ e' G' a', (onlyK e' ks fun e'' => heapK G'.H fun H'' => K .normal e'' H'') → Ext G G' → Sim G' → EnvRep G' e' n a' → Post G n K .normal a' G'.w := by
   intro e' G' a' hk he hs hE'
   obtain ⟨e'', hk, hE''⟩ := onlyK_rep hE' ks _ hk
   rw [heapK_eq] at hk
   exact ⟨G', e'', rfl, hk, he, hs, hE''⟩
  split at h
  ·rename_i hb
   simp only [Bool.and_eq_true] at hb
   exact wp_region_list (runOps_sound hT hb.2 ops.toList 0 (fun j => by simp) hS hE (plain_inv hb.1) h hend)
  ·rename_i hb
   simp only [Bool.and_eq_true] at hb
   split at h
   ·rename_i hm
    obtain ⟨e', h, hE', hp', _, hclr⟩ := clrK_out ops.toList h hE hb.1
    exact drawn_sound (K := fun e' H' => onlyK e' ks fun e'' => heapK H' fun H'' => K .normal e'' H'') hT hm hb.2 hS hE' hp' (fun i o t d ho hop hd => hclr o (List.mem_of_getElem? ho) t d hop hd) (fun e e' H hg hk => onlyK_congr hg hk) h hend
   ·exact h.elim
  ·exact h.elim
 | rangeFunc f ps x y _ _ => intro e K G a h; exact h.elim
 | scope x _ => intro e K G a h; exact h.elim
 | goto l => intro e K G a h; exact h.elim
 | refuse w => intro e K G a h; exact h.elim
end Go.Ab
