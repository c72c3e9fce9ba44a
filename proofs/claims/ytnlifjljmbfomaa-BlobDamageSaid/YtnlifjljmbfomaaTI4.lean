/- What an operation leaves. -/
import Derived.Test.YtnlifjljmbfomaaTI3g
namespace Go.Ab
set_option linter.unusedSectionVars false
variable [Base]

/-- What an operation leaves. -/
theorem heapOp_sound {M : Mach} {G : View} (hS : Sim G) {ev : Operand → SV} {cv : Operand → Value} {o : Oper} {K : SV → List AO → Prop}
    (h : heapOp M ev G.H o.op K) (hr : ∀ x ∈ o.op.operands.toList, RepS G (ev x) (cv x)) :
    ∃ r G' nx u, (execOp cv o).run M.P G.w = .ok nx G'.w ∧ (nx = .value u ∨ nx = .skip ∧ u = undef) ∧ Ext G G' ∧ Sim G' ∧ K r G'.H ∧ RepS G' r u := by
  have old : heapOp0 M ev G.H o.op K → _ := fun h => heapOp0_sound hS h hr
  obtain ⟨dst, op, ty, pos, after, guard⟩ := o
  simp only at h hr old ⊢
  unfold heapOp at h
  split at h
  · rename_i t r
    split at h
    · obtain ⟨r, G', u, h1, h2, h3, h4, h5⟩ := makeMapA_sound (P := M.P) hS h
      exact ⟨r, G', .value u, u, by simp [execOp, h1], .inl rfl, h2, h3, h4, h5⟩
    · exact h.elim
  · rename_i t l c
    obtain ⟨r, G', u, h1, h2, h3, h4, h5⟩ := makeSl_sound (P := M.P) hS h (hr l (by simp [Op.operands])) (hr c (by simp [Op.operands]))
    exact ⟨r, G', .value u, u, by simp [execOp, h1], .inl rfl, h2, h3, h4, h5⟩
  · rename_i t
    split at h
    · split at h
      · exact old h
      obtain ⟨i, v, hi, hzv, r, G', u, h1, h2, h3, h4, h5⟩ := allocArr_sound (P := M.P) hS h
      have fin : ∀ {s : Sem Value}, (execOp cv { dst, op := .alloc t, type := ty, pos, after, guard } = (do pure (.value (← s)))) → s.run M.P G.w = .ok u G'.w →
          (execOp cv { dst, op := .alloc t, type := ty, pos, after, guard }).run M.P G.w = .ok (.value u) G'.w := by
        intro s he h
        rw [he]; simp [h]
      refine ⟨r, G', .value u, u, fin rfl ?_, .inl rfl, h2, h3, h4, h5⟩
      simp only [Instr.alloc, Sem.run_bind, run_zeroValue' hi hzv, Result.andThen_ok]
      simpa using h1
    · exact old h
  · rename_i t x lo hi mx
    split at h
    · have opt : ∀ (y : Option Operand), (∀ z, y = some z → RepS G (ev z) (cv z)) → All1 G (y.map ev) (y.map cv) := by
        intro y hy
        cases y with
        | none => trivial
        | some z => exact hy z rfl
      obtain ⟨r, G', u, h1, h2, h3, h4, h5⟩ := sliceArr_sound (P := M.P) hS h (hr x (by simp [Op.operands])) (opt lo fun z hz => hr z (by subst hz; simp [Op.operands])) (opt hi fun z hz => hr z (by subst hz; simp [Op.operands]))
      exact ⟨r, G', .value u, u, by simp [execOp, h1], .inl rfl, h2, h3, h4, h5⟩
    · exact h.elim
  · rename_i t m k x
    obtain ⟨G', h1, h2, h3, h4⟩ := mapSetA_sound (P := M.P) hS h (hr m (by simp [Op.operands])) (hr k (by simp [Op.operands])) (hr x (by simp [Op.operands]))
    exact ⟨.none, G', .skip, undef, by simp [execOp, h1], .inr ⟨rfl, rfl⟩, h2, h3, h4, trivial⟩
  · rename_i t m k x
    obtain ⟨G', h1, h2, h3, h4⟩ := mapSetA_sound (P := M.P) hS h (hr m (by simp [Op.operands])) (hr k (by simp [Op.operands])) (hr x (by simp [Op.operands]))
    exact ⟨.none, G', .skip, undef, by simp [execOp, h1], .inr ⟨rfl, rfl⟩, h2, h3, h4, trivial⟩
  · rename_i t a x
    split at h
    · rename_i id c ver i k ha
      have hx := hr a (by simp [Op.operands])
      rw [ha] at hx
      obtain ⟨G', h1, h2, h3, h4⟩ := storeEp_sound (P := M.P) hS h hx (hr x (by simp [Op.operands]))
      exact ⟨.none, G', .skip, undef, by simp [execOp, h1], .inr ⟨rfl, rfl⟩, h2, h3, h4, trivial⟩
    · rename_i id i k ha
      have hx := hr a (by simp [Op.operands])
      rw [ha] at hx
      obtain ⟨G', h1, h2, h3, h4⟩ := storeVe_sound (P := M.P) hS h hx (hr x (by simp [Op.operands]))
      exact ⟨.none, G', .skip, undef, by simp [execOp, h1], .inr ⟨rfl, rfl⟩, h2, h3, h4, trivial⟩
    · rename_i id ver i k ha
      have hx := hr a (by simp [Op.operands])
      rw [ha] at hx
      obtain ⟨G', h1, h2, h3, h4⟩ := storeGe_sound (P := M.P) hS h hx (hr x (by simp [Op.operands]))
      exact ⟨.none, G', .skip, undef, by simp [execOp, h1], .inr ⟨rfl, rfl⟩, h2, h3, h4, trivial⟩
    · exact old h
  · rename_i t a
    split at h
    · rename_i id i k ha
      have hx := hr a (by simp [Op.operands])
      rw [ha] at hx
      obtain ⟨r, u, h1, h2, h3⟩ := loadVe_sound (P := M.P) hS h hx
      exact ⟨r, G, .value u, u, by simp [execOp, h1], .inl rfl, Ext.refl G, hS, h2, h3⟩
    · rename_i id ver i k ha
      have hx := hr a (by simp [Op.operands])
      rw [ha] at hx
      obtain ⟨r, u, h1, h2, h3⟩ := loadGe_sound (P := M.P) hS h hx
      exact ⟨r, G, .value u, u, by simp [execOp, h1], .inl rfl, Ext.refl G, hS, h2, h3⟩
    · exact h.elim
  · rename_i t len parts
    have : ∀ (l : List (Nat × Operand)), (∀ x ∈ l, RepS G (ev x.2) (cv x.2)) → All2 (PartRep G) (l.map fun p => (p.1, ev p.2)) (l.map fun p => (p.1, cv p.2)) := by
      intro l hl
      induction l with
      | nil => exact .nil
      | cons a l ih => exact .cons ⟨rfl, hl a (by simp)⟩ (ih fun x hx => hl x (by simp [hx]))
    have h2 := this parts.toList (fun x hx => hr x.2 (by simp only [Op.operands]; exact List.mem_map.2 ⟨x, hx, rfl⟩))
    obtain ⟨ps, G1, hw, he, hs, hK, hq⟩ := freezeK_sound _ hS h h2
    obtain ⟨r, G', u, h3, h4, h5, h6, h7⟩ := buildS_sound (P := M.P) hs hK (qs := parts.map fun p => (p.1, cv p.2)) (by simpa using hq)
    rw [hw] at h3
    exact ⟨r, G', .value u, u, by simp [execOp, h3], .inl rfl, he.trans h4, h5, h6, h7⟩
  · rename_i c
    obtain ⟨callee, args, argTypes⟩ := c
    have hargs : ∀ x ∈ args.toList, RepS G (ev x) (cv x) := fun x hx => hr x (by simp [Op.operands, Call.operands]; exact .inr (by simpa using hx))
    simp only at h
    split at h
    · split at h
      · rename_i s x t tx hx ht
        have e1 : args = #[s, x] := by rw [← Array.toArray_toList (xs := args), hx]
        have e2 : argTypes = #[t, tx] := by rw [← Array.toArray_toList (xs := argTypes), ht]
        subst e1; subst e2
        split at h
        · rename_i id e ver len hs
          have h1 := hargs s (by simp)
          rw [hs] at h1
          obtain ⟨r, G', u, h3, h4, h5, h6, h7⟩ := appendSl_sound (P := M.P) (ty := ty) hS h h1 (hargs x (by simp))
          exact ⟨r, G', .value u, u, by simp [execOp, resolve, invoke, builtin, h3], .inl rfl, h4, h5, h6, h7⟩
        · rename_i id ver len hs
          have h1 := hargs s (by simp)
          rw [hs] at h1
          obtain ⟨r, G', u, h3, h4, h5, h6, h7⟩ := appendGs_sound (P := M.P) (ty := ty) hS h h1 (hargs x (by simp))
          exact ⟨r, G', .value u, u, by simp [execOp, resolve, invoke, builtin, h3], .inl rfl, h4, h5, h6, h7⟩
        · rename_i c zs hs
          have h1 := hargs s (by simp)
          rw [hs] at h1
          unfold appendFl0 at h
          split at h
          · rcases h with h | h
            · exact old h
            · obtain ⟨r, G', u, h3, h4, h5, h6, h7⟩ := appendFl_sound (P := M.P) (ty := ty) hS h h1 (hargs x (by simp))
              exact ⟨r, G', .value u, u, by simp [execOp, resolve, invoke, builtin, h3], .inl rfl, h4, h5, h6, h7⟩
          · exact old h
        · rename_i hs
          split at h
          · split at h
            · rcases h with h | h
              · exact old h
              · have h1 := hargs s (by simp)
                rw [hs] at h1
                obtain ⟨_, hv⟩ := h1
                obtain ⟨r, G', u, h3, h4, h5, h6, h7⟩ := appendG0_sound (P := M.P) (ty := ty) hS h (hargs x (by simp))
                rw [← hv] at h3
                exact ⟨r, G', .value u, u, by simp [execOp, resolve, invoke, builtin, h3], .inl rfl, h4, h5, h6, h7⟩
            rcases h with (h | h) | h
            · exact old h
            · have h1 := hargs s (by simp)
              rw [hs] at h1
              obtain ⟨_, hv⟩ := h1
              obtain ⟨r, G', u, h3, h4, h5, h6, h7⟩ := appendVec_sound (P := M.P) (ty := ty) hS h (hargs x (by simp))
              rw [← hv] at h3
              exact ⟨r, G', .value u, u, by simp [execOp, resolve, invoke, builtin, h3], .inl rfl, h4, h5, h6, h7⟩
            · have h1 := hargs s (by simp)
              rw [hs] at h1
              obtain ⟨_, hv⟩ := h1
              obtain ⟨r, G', u, h3, h4, h5, h6, h7⟩ := appendNew_sound (P := M.P) (ty := ty) hS h (hargs x (by simp))
              rw [← hv] at h3
              exact ⟨r, G', .value u, u, by simp [execOp, resolve, invoke, builtin, h3], .inl rfl, h4, h5, h6, h7⟩
          · split at h
            · rcases h with h | h
              · exact old h
              · have h1 := hargs s (by simp)
                rw [hs] at h1
                obtain ⟨_, hv⟩ := h1
                obtain ⟨r, G', u, h3, h4, h5, h6, h7⟩ := appendNew_sound (P := M.P) (ty := ty) hS h (hargs x (by simp))
                rw [← hv] at h3
                exact ⟨r, G', .value u, u, by simp [execOp, resolve, invoke, builtin, h3], .inl rfl, h4, h5, h6, h7⟩
            · exact old h
        · exact old h
      · exact h.elim
    · exact h.elim
  · exact old h

end Go.Ab
