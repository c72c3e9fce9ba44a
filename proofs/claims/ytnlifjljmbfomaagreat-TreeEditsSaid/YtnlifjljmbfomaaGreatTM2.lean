/- The abstract machine: regions whose order is open: every order does the same. -/
import Derived.Test.YtnlifjljmbfomaaGreatTM
namespace Go.Ab
set_option linter.unusedSectionVars false
variable [Base]
set_option linter.unusedSectionVars false
theorem opt_map_congr {ev ev' : Operand → SV} {x : Option Operand} (h : ∀ y, x = some y → ev y = ev' y) : x.map ev = x.map ev' := by
 cases x with
 | none => rfl
 | some y => simp [h y rfl]
theorem parts_congr {ev ev' : Operand → SV} {l : List (Nat × Operand)} (h : ∀ x ∈ l, ev x.2 = ev' x.2) : (l.map fun p => (p.1, ev p.2)) = l.map fun p => (p.1, ev' p.2) :=
 List.map_congr_left fun p hp => by rw [h p hp]
theorem pureOp0_congr {M : Mach} {ev ev' : Operand → SV} {H : List AO} {op : Op} (h : ∀ x ∈ op.operands.toList, ev x = ev' x) : pureOp0 M ev H op = pureOp0 M ev' H op := by
 cases op with
 | move x => simp only [pureOp0, h x (by simp [Op.operands])]
 | assign x => simp only [pureOp0, h x (by simp [Op.operands])]
 | pick c a b => simp only [pureOp0, h c (by simp [Op.operands]), h a (by simp [Op.operands]), h b (by simp [Op.operands])]
 | extract t i => simp only [pureOp0, h t (by simp [Op.operands])]
 | build t ps => simp only [pureOp0, parts_congr (ev := ev) (ev' := ev') (l := ps.toList) fun x hx => h x.2 (by simp only [Op.operands]; exact List.mem_map.2 ⟨x, hx, rfl⟩)]
 | load t a => simp only [pureOp0, h a (by simp [Op.operands])]
 | nilCheck x => simp only [pureOp0, h x (by simp [Op.operands])]
 | binOp o t x y u => simp only [pureOp0, h x (by simp [Op.operands]), h y (by simp [Op.operands])]
 | unOp o t x => simp only [pureOp0, h x (by simp [Op.operands])]
 | convert s d x => simp only [pureOp0, h x (by simp [Op.operands])]
 | fieldAddr s x f => simp only [pureOp0, h x (by simp [Op.operands])]
 | field s x f => simp only [pureOp0, h x (by simp [Op.operands])]
 | indexAddr t x i => simp only [pureOp0, h x (by simp [Op.operands]), h i (by simp [Op.operands])]
 | index t x i => simp only [pureOp0, h x (by simp [Op.operands]), h i (by simp [Op.operands])]
 | slice t x lo hi mx =>
  simp only [pureOp0, h x (by simp [Op.operands]), opt_map_congr (ev := ev) (ev' := ev') (x := lo) fun y hy => h y (by subst hy; simp [Op.operands]),
   opt_map_congr (ev := ev) (ev' := ev') (x := hi) fun y hy => h y (by subst hy; simp [Op.operands]), opt_map_congr (ev := ev) (ev' := ev') (x := mx) fun y hy => h y (by subst hy; simp [Op.operands])]
 | makeFunc f a b =>
  have ha : ∀ x ∈ a.toList, ev x = ev' x := fun x hx => h x (by simp [Op.operands]; exact .inl (by simpa using hx))
  have hb : ∀ x ∈ b.toList, ev x = ev' x := fun x hx => h x (by simp [Op.operands]; exact .inr (by simpa using hx))
  simp only [pureOp0]
  split
  ·rfl
  ·rename_i x h1 h2
   rw [ha x (by rw [h1]; simp)]
  ·rename_i x h1 h2
   rw [hb x (by rw [h2]; simp)]
  ·rename_i x y r h1 h2
   rw [hb x (by rw [h2]; simp), hb y (by rw [h2]; simp), List.map_congr_left fun z hz => hb z (by rw [h2]; simp [hz])]
  ·rfl
 | call c =>
  obtain ⟨callee, args, ts⟩ := c
  have hargs : ∀ x ∈ args.toList, ev x = ev' x := fun x hx => h x (by simp [Op.operands, Call.operands]; exact .inr (by simpa using hx))
  have hm : args.toList.map ev = args.toList.map ev' := List.map_congr_left hargs
  cases callee with
  | value f =>
   have hf : ev f = ev' f := h f (by simp [Op.operands, Call.operands])
   simp only [pureOp0, hf, hm]
  | invoke r m => rfl
  | builtin b =>
   cases b <;> try rfl
   ·simp only [pureOp0]
    split
    ·rename_i x t hx ht
     have e1 : args = #[x] := by rw [← Array.toArray_toList (xs := args), hx]
     rw [hargs x (by rw [hx]; simp)]
    ·rfl
   ·simp only [pureOp0, hm]
   ·simp only [pureOp0, hm]
 | _ => rfl
theorem pureNew_congr {M : Mach} {ev ev' : Operand → SV} {H : List AO} {op : Op} (h : ∀ x ∈ op.operands.toList, ev x = ev' x) : pureNew M ev H op = pureNew M ev' H op := by
 cases op with
 | load t a => simp only [pureNew, h a (by simp [Op.operands])]
 | nilCheck x => simp only [pureNew, h x (by simp [Op.operands])]
 | fieldAddr s x f => simp only [pureNew, h x (by simp [Op.operands])]
 | indexAddr t x i => simp only [pureNew, h x (by simp [Op.operands]), h i (by simp [Op.operands])]
 | lookup t x i ok => simp only [pureNew, h x (by simp [Op.operands]), h i (by simp [Op.operands])]
 | convert src dst x => simp only [pureNew, h x (by simp [Op.operands])]
 | slice t x lo hi mx =>
  simp only [pureNew, h x (by simp [Op.operands]), opt_map_congr (ev := ev) (ev' := ev') (x := lo) fun y hy => h y (by subst hy; simp [Op.operands]),
   opt_map_congr (ev := ev) (ev' := ev') (x := hi) fun y hy => h y (by subst hy; simp [Op.operands])]
 | call c =>
  obtain ⟨callee, args, ts⟩ := c
  have hargs : ∀ x ∈ args.toList, ev x = ev' x := fun x hx => h x (by simp [Op.operands, Call.operands]; exact .inr (by simpa using hx))
  cases callee with
  | value f => rfl
  | invoke r m => rfl
  | builtin b =>
   cases b <;> try rfl
   simp only [pureNew]
   split
   ·rename_i x t hx ht
    rw [hargs x (by rw [hx]; simp)]
   ·rfl
 | _ => rfl
theorem lookOp_congr {M : Mach} {ev ev' : Operand → SV} {H : List AO} {op : Op} (h : ∀ x ∈ op.operands.toList, ev x = ev' x) : lookOp M ev H op = lookOp M ev' H op := by
 have new := pureNew_congr (M := M) (H := H) h
 cases op with
 | call c =>
  obtain ⟨callee, args, ts⟩ := c
  have hargs : ∀ x ∈ args.toList, ev x = ev' x := fun x hx => h x (by simp [Op.operands, Call.operands]; exact .inr (by simpa using hx))
  have hm : args.toList.map ev = args.toList.map ev' := List.map_congr_left hargs
  cases callee with
  | value f =>
   have hf : ev f = ev' f := h f (by simp [Op.operands, Call.operands])
   simp only [lookOp, hf, hm]
  | invoke r m => exact new
  | builtin b => exact new
 | _ => exact new
theorem heapOp0_congr {M : Mach} {ev ev' : Operand → SV} {H : List AO} {op : Op} {K : SV → List AO → Prop} (h : ∀ x ∈ op.operands.toList, ev x = ev' x) : heapOp0 M ev H op K = heapOp0 M ev' H op K := by
 cases op with
 | alloc t => rfl
 | box t x => simp only [heapOp0, h x (by simp [Op.operands])]
 | store t a x => simp only [heapOp0, h a (by simp [Op.operands]), h x (by simp [Op.operands])]
 | buildSlice t n ps => simp only [heapOp0, parts_congr (ev := ev) (ev' := ev') (l := ps.toList) fun x hx => h x.2 (by simp only [Op.operands]; exact List.mem_map.2 ⟨x, hx, rfl⟩)]
 | convert s d x => simp only [heapOp0, h x (by simp [Op.operands])]
 | call c =>
  obtain ⟨callee, args, ts⟩ := c
  have hargs : ∀ x ∈ args.toList, ev x = ev' x := fun x hx => h x (by simp [Op.operands, Call.operands]; exact .inr (by simpa using hx))
  cases callee with
  | value f => rfl
  | invoke r m => rfl
  | builtin b =>
   cases b <;> try rfl
   simp only [heapOp0]
   split
   ·rename_i s x t tx hx ht
    rw [hargs s (by rw [hx]; simp), hargs x (by rw [hx]; simp)]
   ·rfl
 | _ => rfl
theorem heapOp_congr {M : Mach} {ev ev' : Operand → SV} {H : List AO} {op : Op} {K : SV → List AO → Prop} (h : ∀ x ∈ op.operands.toList, ev x = ev' x) : heapOp M ev H op K = heapOp M ev' H op K := by
 have old := heapOp0_congr (M := M) (H := H) (K := K) h
 cases op with
 | makeMap t r => rfl
 | makeSlice t l c => simp only [heapOp, h l (by simp [Op.operands]), h c (by simp [Op.operands])]
 | alloc t => simp only [heapOp, old]
 | slice t x lo hi mx =>
  have hl : lo.map ev = lo.map ev' := by
   cases lo with
   | none => rfl
   | some z => simp [h z (by simp [Op.operands])]
  have hh : hi.map ev = hi.map ev' := by
   cases hi with
   | none => rfl
   | some z => simp [h z (by simp [Op.operands])]
  simp only [heapOp, h x (by simp [Op.operands]), hl, hh]
 | mapUpdate t m k x => simp only [heapOp, h m (by simp [Op.operands]), h k (by simp [Op.operands]), h x (by simp [Op.operands])]
 | insert t m k x => simp only [heapOp, h m (by simp [Op.operands]), h k (by simp [Op.operands]), h x (by simp [Op.operands])]
 | store t a x => simp only [heapOp, h a (by simp [Op.operands]), h x (by simp [Op.operands]), old]
 | load t a => simp only [heapOp, h a (by simp [Op.operands])]
 | buildSlice t n ps => simp only [heapOp, parts_congr (ev := ev) (ev' := ev') (l := ps.toList) fun x hx => h x.2 (by simp only [Op.operands]; exact List.mem_map.2 ⟨x, hx, rfl⟩)]
 | call c =>
  obtain ⟨callee, args, ts⟩ := c
  have hargs : ∀ x ∈ args.toList, ev x = ev' x := fun x hx => h x (by simp [Op.operands, Call.operands]; exact .inr (by simpa using hx))
  cases callee with
  | value f => rfl
  | invoke r m => rfl
  | builtin b =>
   cases b <;> try rfl
   simp only [heapOp]
   split
   ·rename_i s x t tx hx ht
    rw [hargs s (by rw [hx]; simp), hargs x (by rw [hx]; simp), old]
   ·rfl
 | _ => exact old
theorem heapAny_congr {M : Mach} {ev ev' : Operand → SV} {H : List AO} {op : Op} {K : SV → List AO → Prop} (h : ∀ x ∈ op.operands.toList, ev x = ev' x) : heapAny M ev H op K = heapAny M ev' H op K := by
 have old := heapOp_congr (M := M) (H := H) (K := K) h
 cases op with
 | call c =>
  obtain ⟨callee, args, ts⟩ := c
  have hargs : ∀ x ∈ args.toList, ev x = ev' x := fun x hx => h x (by simp [Op.operands, Call.operands]; exact .inr (by simpa using hx))
  have hm : args.toList.map ev = args.toList.map ev' := List.map_congr_left hargs
  cases callee with
  | value f =>
   have hf : ev f = ev' f := h f (by simp [Op.operands, Call.operands])
   simp only [heapAny, hf, hm]
  | invoke r m => exact old
  | builtin b => exact old
 | _ => exact old
theorem oblOp_congr {ops : List Oper} {gd : Option (Nat × Bool)} {e e' : Env} {op : Op} (h : ∀ x ∈ op.operands.toList, evalX e x = evalX e' x) : oblOp ops gd e op = oblOp ops gd e' op := by
 cases op with
 | pick c a b => simp only [oblOp, needX, needPick, h c (by simp [Op.operands]), h a (by simp [Op.operands]), h b (by simp [Op.operands])]
 | _ => exact needs_congr h
theorem pureOpD0_congr {M : Mach} {ev ev' : Operand → SV} {H : List AO} {op : Op} (h : ∀ x ∈ op.operands.toList, ev x = ev' x) : pureOpD0 M ev H op = pureOpD0 M ev' H op := by
 cases op with
 | buildSlice t len ps =>
  simp only [pureOpD0, parts_congr (ev := ev) (ev' := ev') (l := ps.toList) fun x hx => h x.2 (by simp only [Op.operands]; exact List.mem_map.2 ⟨x, hx, rfl⟩)]
 | _ => exact pureOp0_congr (M := M) (H := H) h
theorem pureOpD_congr {M : Mach} {ev ev' : Operand → SV} {H : List AO} {op : Op} (h : ∀ x ∈ op.operands.toList, ev x = ev' x) : pureOpD M ev H op = pureOpD M ev' H op := by
 simp only [pureOpD, pureOpD0_congr (M := M) (H := H) h, lookOp_congr (M := M) (H := H) h]
theorem flagD_congr {M : Mach} {ev ev' : Operand → SV} {H : List AO} {op : Op} (h : ∀ x ∈ op.operands.toList, ev x = ev' x) : flagD M ev H op = flagD M ev' H op := by
 have hl : loadF ev op = loadF ev' op := by
  cases op with
  | load t a => simp only [loadF, h a (by simp [Op.operands])]
  | _ => rfl
 simp only [flagD, pureOpD0_congr (M := M) (H := H) h, hl]
theorem stepD_congr {M : Mach} {n : Nat} {ops : List Oper} {i : Nat} {e e' : Env} {H : List AO} {o : Oper} {K : XV → List AO → Nat → Prop} (h : ∀ t ∈ reads ops o, e.get t = e'.get t) (hs : stepD M n ops i e H o K) : stepD M n ops i e' H o K := by
 have he : ∀ x ∈ o.op.operands.toList, evalX e x = evalX e' x := fun x hx => reads_eval h hx
 have hev : ∀ x ∈ o.op.operands.toList, (fun x => (evalX e x).strip) x = (fun x => (evalX e' x).strip) x := fun x hx => by simp only [he x hx]
 unfold stepD at *
 rw [← reads_cond h i, ← pureOpD_congr hev, ← flagD_congr hev, ← oblOp_congr he, ← needs_congr he]
 split at hs
 ·split at hs
  ·exact hs
  ·rw [← heapAny_congr hev]; exact hs
 ·split at hs
  ·exact hs
  ·rw [← heapAny_congr hev]; exact hs
 ·exact hs
theorem pureOpD0_heap {M : Mach} {ev : Operand → SV} {H H' : List AO} {op : Op} (h : ∀ t a, op ≠ .load t a) : pureOpD0 M ev H op = pureOpD0 M ev H' op := by
 cases op <;> first | rfl | exact absurd rfl (h _ _)
theorem flagD_zero {M : Mach} {ev : Operand → SV} {H : List AO} {op : Op} (h : flagD M ev H op = 0) (H' : List AO) : pureOpD M ev H op = pureOpD M ev H' op ∧ flagD M ev H' op = 0 := by
 unfold flagD at h
 split at h
 ·rename_i x hx
  have : pureOpD0 M ev H op = pureOpD0 M ev H' op := by
   by_cases hl : ∃ t a, op = .load t a
   ·obtain ⟨t, a, rfl⟩ := hl
    simp only [loadF] at h
    split at h
    ·rename_i e z k he
     show pureOp0 M ev H (.load t a) = pureOp0 M ev H' (.load t a)
     simp only [pureOp0, he]
    ·omega
   ·exact pureOpD0_heap fun t a he => hl ⟨t, a, he⟩
  have hx' := this ▸ hx
  refine ⟨by unfold pureOpD; rw [hx, hx'], ?_⟩
  unfold flagD
  rw [hx']
  exact h
 ·omega
theorem stepD_zero {M : Mach} {n : Nat} {ops : List Oper} {i : Nat} {e : Env} {H : List AO} {o : Oper} {x : XV} {H1 : List AO} (H2 : List AO) (hs : stepD M n ops i e H o fun x' H'' f' => x' = x ∧ H'' = H1 ∧ f' = 0) :
  H1 = H ∧ stepD M n ops i e H2 o fun x' H'' f' => x' = x ∧ H'' = H2 ∧ f' = 0 := by
 have no2 : ∀ {ev H op}, heapAny M ev H op (fun (r : SV) (H' : List AO) => False) → False := by
  intro ev H op h
  obtain ⟨_, _, _, hf⟩ := heapAny_out h
  exact hf
 unfold stepD at *
 split at hs
 ·split at hs
  ·rename_i p r hp
   obtain ⟨h1, h2, h3, h4⟩ := andO_iff.1 hs
   obtain ⟨h5, h6⟩ := flagD_zero h4 H2
   rw [← h5, hp]
   exact ⟨h3.symm, andO_iff.2 ⟨h1, h2, rfl, h6⟩⟩
  ·exact (no2 (heapAny_mono (fun r H' hh => by obtain ⟨_, _, h3⟩ := hh; omega) (andO_iff.1 hs).2)).elim
 ·rename_i c hd hc
  split at hs
  ·rename_i p r hp
   obtain ⟨h1, h2, h3, h4⟩ := andO_iff.1 hs
   obtain ⟨h5, h6⟩ := flagD_zero h4 H2
   rw [← h5, hp]
   exact ⟨h3.symm, andO_iff.2 ⟨h1, h2, rfl, h6⟩⟩
  ·cases hcb : c with
   | true =>
    rw [hcb] at hs
    exact (no2 (heapAny_mono (fun r H' hh => by obtain ⟨_, _, h3⟩ := hh; omega) (andO_iff.1 hs).2)).elim
   | false =>
    rw [hcb] at hs
    obtain ⟨_, _, h3⟩ := hs
    omega
 ·exact hs.elim
theorem stepD_flag {M : Mach} {n : Nat} {ops : List Oper} {i : Nat} {e : Env} {H : List AO} {o : Oper} {x : XV} {H1 : List AO} {f : Nat} (hs : stepD M n ops i e H o fun x' H'' f' => x' = x ∧ H'' = H1 ∧ f' = f) : f ≠ 2 → H1 = H := by
 intro hf
 have no2 : ∀ {ev H op}, heapAny M ev H op (fun (r : SV) (H' : List AO) => False) → False := by
  intro ev H op h
  obtain ⟨_, _, _, hf⟩ := heapAny_out h
  exact hf
 unfold stepD at hs
 split at hs
 ·split at hs
  ·exact (andO_iff.1 hs).2.2.1.symm
  ·exact (no2 (heapAny_mono (fun r H' hh => hf hh.2.2.symm) (andO_iff.1 hs).2)).elim
 ·rename_i c hd hc
  split at hs
  ·exact (andO_iff.1 hs).2.2.1.symm
  ·cases hcb : c with
   | true =>
    rw [hcb] at hs
    exact (no2 (heapAny_mono (fun r H' hh => hf hh.2.2.symm) (andO_iff.1 hs).2)).elim
   | false =>
    rw [hcb] at hs
    exact hs.2.1.symm
 ·exact hs.elim
theorem stepD_key {M : Mach} {n : Nat} {ops : List Oper} {i : Nat} {e : Env} {H : List AO} {o : Oper} {x : XV} {H1 : List AO} {f : Nat} (hs : stepD M n ops i e H o fun x' H'' f' => x' = x ∧ H'' = H1 ∧ f' = f) {k : Nat × Bool} {c : Bool} {y : SV} (hx : x = .g k c y) :
  o.guard = some k ∧ condOf i ops e (some k) = some (some c) := by
 unfold stepD at hs
 split at hs
 ·split at hs
  ·have := (andO_iff.1 hs).2.1
   rw [hx] at this
   cases this
  ·obtain ⟨_, _, _, h2⟩ := heapAny_out (andO_iff.1 hs).2
   have := h2.1
   rw [hx] at this
   cases this
 ·rename_i c' hd hc
  have key : ∀ {z : SV} {b : Bool}, (match o.guard with | some k => XV.g k b z | none => .s .none) = x → b = c' ∨ (b = false ∧ c' = false) → o.guard = some k ∧ condOf i ops e (some k) = some (some c) := by
   intro z b hz hb
   cases hg : o.guard with
   | none => rw [hg, hx] at hz; cases hz
   | some k' =>
    rw [hg, hx] at hz
    simp only [XV.g.injEq] at hz
    obtain ⟨rfl, rfl, _⟩ := hz
    refine ⟨rfl, ?_⟩
    rw [← hg, hc]
    rcases hb with rfl | ⟨rfl, rfl⟩ <;> rfl
  split at hs
  ·exact key (andO_iff.1 hs).2.1 (.inl rfl)
  ·cases hcb : c' with
   | true =>
    rw [hcb] at hs
    obtain ⟨_, _, _, h2⟩ := heapAny_out (andO_iff.1 hs).2
    have := h2.1
    rw [hx] at this
    cases this
   | false =>
    rw [hcb] at hs
    exact key hs.1 (.inr ⟨rfl, hcb⟩)
 ·exact hs.elim
end Go.Ab
