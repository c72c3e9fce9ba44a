/- The abstract machine: regions whose order is open: every order does the same. -/
import Derived.Test.YticjnehdhageoaaAbM
namespace Go.Ab
set_option linter.unusedSectionVars false
variable [Base]
set_option linter.unusedSectionVars false

theorem opt_map_congr {ev ev' : Operand → SV} {x : Option Operand} (h : ∀ y, x = some y → ev y = ev' y) : x.map ev = x.map ev' := by
  cases x with
  | none => rfl
  | some y => simp [h y rfl]

theorem parts_congr {ev ev' : Operand → SV} {l : List (Nat × Operand)} (h : ∀ x ∈ l, ev x.2 = ev' x.2) : (l.map fun p => (p.1, ev p.2)) = l.map fun p => (p.1, ev' p.2) :=
  List.map_congr_left fun p hp => by rw [h p hp]

theorem pureOp_congr {M : Mach} {ev ev' : Operand → SV} {H : List AO} {op : Op} (h : ∀ x ∈ op.operands.toList, ev x = ev' x) : pureOp M ev H op = pureOp M ev' H op := by
  cases op with
  | move x => simp only [pureOp, h x (by simp [Op.operands])]
  | assign x => simp only [pureOp, h x (by simp [Op.operands])]
  | pick c a b => simp only [pureOp, h c (by simp [Op.operands]), h a (by simp [Op.operands]), h b (by simp [Op.operands])]
  | extract t i => simp only [pureOp, h t (by simp [Op.operands])]
  | build t ps => simp only [pureOp, parts_congr (ev := ev) (ev' := ev') (l := ps.toList) fun x hx => h x.2 (by simp only [Op.operands]; exact List.mem_map.2 ⟨x, hx, rfl⟩)]
  | load t a => simp only [pureOp, h a (by simp [Op.operands])]
  | nilCheck x => simp only [pureOp, h x (by simp [Op.operands])]
  | binOp o t x y u => simp only [pureOp, h x (by simp [Op.operands]), h y (by simp [Op.operands])]
  | unOp o t x => simp only [pureOp, h x (by simp [Op.operands])]
  | convert s d x => simp only [pureOp, h x (by simp [Op.operands])]
  | fieldAddr s x f => simp only [pureOp, h x (by simp [Op.operands])]
  | field s x f => simp only [pureOp, h x (by simp [Op.operands])]
  | indexAddr t x i => simp only [pureOp, h x (by simp [Op.operands]), h i (by simp [Op.operands])]
  | index t x i => simp only [pureOp, h x (by simp [Op.operands]), h i (by simp [Op.operands])]
  | slice t x lo hi mx =>
    simp only [pureOp, h x (by simp [Op.operands]), opt_map_congr (ev := ev) (ev' := ev') (x := lo) fun y hy => h y (by subst hy; simp [Op.operands]),
      opt_map_congr (ev := ev) (ev' := ev') (x := hi) fun y hy => h y (by subst hy; simp [Op.operands]), opt_map_congr (ev := ev) (ev' := ev') (x := mx) fun y hy => h y (by subst hy; simp [Op.operands])]
  | makeFunc f a b => rfl
  | call c =>
    obtain ⟨callee, args, ts⟩ := c
    have hargs : ∀ x ∈ args.toList, ev x = ev' x := fun x hx => h x (by simp [Op.operands, Call.operands]; exact .inr (by simpa using hx))
    have hm : args.toList.map ev = args.toList.map ev' := List.map_congr_left hargs
    cases callee with
    | value f =>
      have hf : ev f = ev' f := h f (by simp [Op.operands, Call.operands])
      simp only [pureOp, hf, hm]
    | invoke r m => rfl
    | builtin b =>
      cases b <;> try rfl
      · simp only [pureOp]
        split
        · rename_i x t hx ht
          have e1 : args = #[x] := by rw [← Array.toArray_toList (xs := args), hx]
          rw [hargs x (by rw [hx]; simp)]
        · rfl
      · simp only [pureOp, hm]
      · simp only [pureOp, hm]
  | _ => rfl

theorem heapAny_congr {M : Mach} {ev ev' : Operand → SV} {H : List AO} {op : Op} {K : SV → List AO → Prop} (h : ∀ x ∈ op.operands.toList, ev x = ev' x) : heapAny M ev H op K = heapAny M ev' H op K := by
  cases op with
  | alloc t => rfl
  | box t x => simp only [heapAny, heapOp, h x (by simp [Op.operands])]
  | store t a x => simp only [heapAny, heapOp, h a (by simp [Op.operands]), h x (by simp [Op.operands])]
  | buildSlice t n ps => simp only [heapAny, heapOp, parts_congr (ev := ev) (ev' := ev') (l := ps.toList) fun x hx => h x.2 (by simp only [Op.operands]; exact List.mem_map.2 ⟨x, hx, rfl⟩)]
  | convert s d x => simp only [heapAny, heapOp, h x (by simp [Op.operands])]
  | call c =>
    obtain ⟨callee, args, ts⟩ := c
    have hargs : ∀ x ∈ args.toList, ev x = ev' x := fun x hx => h x (by simp [Op.operands, Call.operands]; exact .inr (by simpa using hx))
    have hm : args.toList.map ev = args.toList.map ev' := List.map_congr_left hargs
    cases callee with
    | value f =>
      have hf : ev f = ev' f := h f (by simp [Op.operands, Call.operands])
      simp only [heapAny, hf, hm]
    | invoke r m => rfl
    | builtin b =>
      cases b <;> try rfl
      simp only [heapAny, heapOp]
      split
      · rename_i s x t tx hx ht
        rw [hargs s (by rw [hx]; simp), hargs x (by rw [hx]; simp)]
      · rfl
  | _ => rfl

theorem oblOp_congr {ops : List Oper} {gd : Option (Nat × Bool)} {e e' : Env} {op : Op} (h : ∀ x ∈ op.operands.toList, evalX e x = evalX e' x) : oblOp ops gd e op = oblOp ops gd e' op := by
  cases op with
  | pick c a b => simp only [oblOp, needX, needPick, h c (by simp [Op.operands]), h a (by simp [Op.operands]), h b (by simp [Op.operands])]
  | _ => exact needs_congr h

theorem pureOpD_congr {M : Mach} {ev ev' : Operand → SV} {H : List AO} {op : Op} (h : ∀ x ∈ op.operands.toList, ev x = ev' x) : pureOpD M ev H op = pureOpD M ev' H op := by
  cases op with
  | buildSlice t len ps =>
    simp only [pureOpD, parts_congr (ev := ev) (ev' := ev') (l := ps.toList) fun x hx => h x.2 (by simp only [Op.operands]; exact List.mem_map.2 ⟨x, hx, rfl⟩)]
  | _ => exact pureOp_congr (M := M) (H := H) h

theorem stepD_congr {M : Mach} {n : Nat} {ops : List Oper} {i : Nat} {e e' : Env} {H : List AO} {o : Oper} {K : XV → List AO → Nat → Prop} (h : ∀ t ∈ reads ops o, e.get t = e'.get t) (hs : stepD M n ops i e H o K) : stepD M n ops i e' H o K := by
  have he : ∀ x ∈ o.op.operands.toList, evalX e x = evalX e' x := fun x hx => reads_eval h hx
  have hev : ∀ x ∈ o.op.operands.toList, (fun x => (evalX e x).strip) x = (fun x => (evalX e' x).strip) x := fun x hx => by simp only [he x hx]
  unfold stepD at *
  rw [← reads_cond h i, ← pureOpD_congr hev, ← oblOp_congr he, ← needs_congr he]
  split at hs
  · split at hs
    · exact hs
    · rw [← heapAny_congr hev]; exact hs
  · split at hs
    · exact hs
    · rw [← heapAny_congr hev]; exact hs
  · exact hs

theorem pureOp_heap {M : Mach} {ev : Operand → SV} {H H' : List AO} {op : Op} (h : ∀ t a, op ≠ .load t a) : pureOp M ev H op = pureOp M ev H' op := by
  cases op <;> first | rfl | exact absurd rfl (h _ _)

theorem pureOpD_heap {M : Mach} {ev : Operand → SV} {H H' : List AO} {op : Op} (h : ∀ t a, op ≠ .load t a) : pureOpD M ev H op = pureOpD M ev H' op := by
  cases op <;> first | rfl | exact absurd rfl (h _ _)

/-- What does not look at the objects does not depend on them. -/
theorem stepD_zero {M : Mach} {n : Nat} {ops : List Oper} {i : Nat} {e : Env} {H : List AO} {o : Oper} {x : XV} {H1 : List AO} (H2 : List AO) (hs : stepD M n ops i e H o fun x' H'' f' => x' = x ∧ H'' = H1 ∧ f' = 0) :
    H1 = H ∧ stepD M n ops i e H2 o fun x' H'' f' => x' = x ∧ H'' = H2 ∧ f' = 0 := by
  have nol : ∀ {f : Nat}, (match o.op with | .load .. => 1 | _ => 0) = f → f = 0 → ∀ t a, o.op ≠ .load t a := by
    intro f h1 h2 t a h3
    rw [h3] at h1
    simp only at h1
    omega
  have no2 : ∀ {ev H op}, heapAny M ev H op (fun (r : SV) (H' : List AO) => False) → False := by
    intro ev H op h
    obtain ⟨_, _, _, hf⟩ := heapAny_out h
    exact hf
  unfold stepD at *
  split at hs
  · split at hs
    · rename_i p r hp
      obtain ⟨h1, h2, h3, h4⟩ := andO_iff.1 hs
      have := pureOpD_heap (M := M) (ev := fun x => (evalX e x).strip) (H := H) (H' := H2) (nol rfl h4)
      rw [← this, hp]
      exact ⟨h3.symm, andO_iff.2 ⟨h1, h2, rfl, h4⟩⟩
    · exact (no2 (heapAny_mono (fun r H' hh => by obtain ⟨_, _, h3⟩ := hh; omega) (andO_iff.1 hs).2)).elim
  · rename_i c hd hc
    split at hs
    · rename_i p r hp
      obtain ⟨h1, h2, h3, h4⟩ := andO_iff.1 hs
      have := pureOpD_heap (M := M) (ev := fun x => (evalX e x).strip) (H := H) (H' := H2) (nol rfl h4)
      rw [← this, hp]
      exact ⟨h3.symm, andO_iff.2 ⟨h1, h2, rfl, h4⟩⟩
    · cases hcb : c with
      | true =>
        rw [hcb] at hs
        exact (no2 (heapAny_mono (fun r H' hh => by obtain ⟨_, _, h3⟩ := hh; omega) (andO_iff.1 hs).2)).elim
      | false =>
        rw [hcb] at hs
        obtain ⟨_, _, h3⟩ := hs
        omega
  · exact hs.elim

theorem stepD_flag {M : Mach} {n : Nat} {ops : List Oper} {i : Nat} {e : Env} {H : List AO} {o : Oper} {x : XV} {H1 : List AO} {f : Nat} (hs : stepD M n ops i e H o fun x' H'' f' => x' = x ∧ H'' = H1 ∧ f' = f) : f ≠ 2 → H1 = H := by
  intro hf
  have no2 : ∀ {ev H op}, heapAny M ev H op (fun (r : SV) (H' : List AO) => False) → False := by
    intro ev H op h
    obtain ⟨_, _, _, hf⟩ := heapAny_out h
    exact hf
  unfold stepD at hs
  split at hs
  · split at hs
    · exact (andO_iff.1 hs).2.2.1.symm
    · exact (no2 (heapAny_mono (fun r H' hh => hf hh.2.2.symm) (andO_iff.1 hs).2)).elim
  · rename_i c hd hc
    split at hs
    · exact (andO_iff.1 hs).2.2.1.symm
    · cases hcb : c with
      | true =>
        rw [hcb] at hs
        exact (no2 (heapAny_mono (fun r H' hh => hf hh.2.2.symm) (andO_iff.1 hs).2)).elim
      | false =>
        rw [hcb] at hs
        exact hs.2.1.symm
  · exact hs.elim

/-- A value under a condition is so by the operation's guard. -/
theorem stepD_key {M : Mach} {n : Nat} {ops : List Oper} {i : Nat} {e : Env} {H : List AO} {o : Oper} {x : XV} {H1 : List AO} {f : Nat} (hs : stepD M n ops i e H o fun x' H'' f' => x' = x ∧ H'' = H1 ∧ f' = f) {k : Nat × Bool} {c : Bool} {y : SV} (hx : x = .g k c y) :
    o.guard = some k ∧ condOf i ops e (some k) = some (some c) := by
  unfold stepD at hs
  split at hs
  · split at hs
    · have := (andO_iff.1 hs).2.1
      rw [hx] at this
      cases this
    · obtain ⟨_, _, _, h2⟩ := heapAny_out (andO_iff.1 hs).2
      have := h2.1
      rw [hx] at this
      cases this
  · rename_i c' hd hc
    have key : ∀ {z : SV} {b : Bool}, (match o.guard with | some k => XV.g k b z | none => .s .none) = x → b = c' ∨ (b = false ∧ c' = false) → o.guard = some k ∧ condOf i ops e (some k) = some (some c) := by
      intro z b hz hb
      cases hg : o.guard with
      | none => rw [hg, hx] at hz; cases hz
      | some k' =>
        rw [hg, hx] at hz
        simp only [XV.g.injEq] at hz
        obtain ⟨rfl, rfl, _⟩ := hz
        refine ⟨rfl, ?_⟩
        rw [← hg, hc]
        rcases hb with rfl | ⟨rfl, rfl⟩ <;> rfl
    split at hs
    · exact key (andO_iff.1 hs).2.1 (.inl rfl)
    · cases hcb : c' with
      | true =>
        rw [hcb] at hs
        obtain ⟨_, _, _, h2⟩ := heapAny_out (andO_iff.1 hs).2
        have := h2.1
        rw [hx] at this
        cases this
      | false =>
        rw [hcb] at hs
        exact key hs.1 (.inr ⟨rfl, hcb⟩)
  · exact hs.elim

end Go.Ab
