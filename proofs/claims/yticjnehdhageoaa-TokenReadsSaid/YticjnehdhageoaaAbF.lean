/- The abstract machine's quiet operations are the model's: the others. -/
import Derived.Test.YticjnehdhageoaaAbE
namespace Go.Ab
set_option linter.unusedSectionVars false
variable [Base]

theorem bytes_size (s : ByteArray) : s.size = s.data.toList.length := by cases s; rfl

theorem bytes_get {s : ByteArray} {i : Int} (h0 : 0 ≤ i) (h1 : i < s.size) : ∃ b, s[i.toNat]? = some b ∧ byteAt s i = (b.toNat : Int) := by
  have hlt : i.toNat < s.size := by omega
  refine ⟨s[i.toNat], by simp [hlt], ?_⟩
  unfold byteAt
  have : s.data.toList[i.toNat]? = some s[i.toNat] := by
    have h' : i.toNat < s.data.toList.length := by rw [← bytes_size]; exact hlt
    rw [List.getElem?_eq_getElem h']
    rfl
  simp only [List.getD_eq_getElem?_getD, this, Option.getD_some]

theorem bound_sound {P : Program} {w : World} {x : SV} {G : View} {n : Int} (hx : boundA (some x) 0 = some n) {v : Value} (rv : RepS G x v) (y : Nat) (code : BoundsCode) (h0 : 0 ≤ n) (h1 : n ≤ y) :
    (Instr.sliceBound v y code).run P w = .ok n.toNat w := by
  unfold boundA at hx
  split at hx
  · cases ‹some x = none›
  · rename_i k n' he
    cases he; cases hx
    obtain ⟨_, rfl⟩ := rv
    simp [Instr.sliceBound, asIntOf, h0, h1]
  · cases hx

def All1 (G : View) : Option SV → Option Value → Prop
  | none, none => True
  | some x, some v => RepS G x v
  | _, _ => False

theorem bounds_sound {P : Program} {G : View} {w : World} {low high : Option SV} {vl vh : Option Value} (rl : All1 G low vl) (rh : All1 G high vh) {l h : Int} {len cap : Nat} (b : Bool)
    (hl : boundA low 0 = some l) (hh : boundA high len = some h) (h0 : 0 ≤ l) (h1 : l ≤ h) (h2 : h ≤ len) (hc : len ≤ cap) :
    (Instr.sliceBounds b len cap vl vh none).run P w = .ok (l.toNat, h.toNat, cap) w := by
  have hhigh : ∀ code, (match vh with | some v => Instr.sliceBound v cap code | none => pure len).run P w = .ok h.toNat w := by
    intro code
    cases high with
    | none => cases vh with
      | none => simp [boundA] at hh; subst hh; rfl
      | some v => exact rh.elim
    | some x => cases vh with
      | none => exact rh.elim
      | some v =>
        have hx : boundA (some x) 0 = some h := by unfold boundA at hh ⊢; split at hh <;> simp_all
        exact bound_sound hx rh cap code (by omega) (by omega)
  have hlow : ∀ code, (match vl with | some v => Instr.sliceBound v h.toNat code | none => pure 0).run P w = .ok l.toNat w := by
    intro code
    cases low with
    | none => cases vl with
      | none => simp [boundA] at hl; subst hl; rfl
      | some v => exact rl.elim
    | some x => cases vl with
      | none => exact rl.elim
      | some v => exact bound_sound hl rl h.toNat code h0 (by omega)
  unfold Instr.sliceBounds
  cases vh with
  | none =>
    have e := hhigh .index
    simp only [Sem.run_pure, Result.ok.injEq] at e
    cases vl with
    | none =>
      have e' := hlow .index
      simp only [Sem.run_pure, Result.ok.injEq] at e'
      simp [← e.1, ← e'.1]
    | some v =>
      have e' := hlow .sliceB
      simp only [e.1, Sem.run_bind, Sem.run_pure, Result.andThen_ok, Option.isSome_none, Bool.false_eq_true, if_false, e']
  | some u =>
    have e := hhigh (if b then .sliceAcap else .sliceAlen)
    cases vl with
    | none =>
      have e' := hlow .index
      simp only [Sem.run_pure, Result.ok.injEq] at e'
      simp only at e
      simp [e, ← e'.1]
    | some v =>
      have e' := hlow .sliceB
      simp only at e e'
      simp [e, e']

theorem rep_slice {I w} {e : CT} {zs : List e.den} {v : Value} {base : Option Addr} {len cap : Nat} (h : Rep I w (.list e) zs [v]) (hv : v = .slice base len cap) {l r n : Nat} (h1 : l ≤ r) (h2 : r ≤ zs.length) (hn : n = e.width) :
    Rep I w (.list e) ((zs.take r).drop l) [.slice (if cap = l then base else base.map (·.add (l * n))) (r - l) (cap - l)] := by
  rcases h with ⟨rfl, h⟩ | ⟨b, off, cap', h, hc, hz⟩
  · cases h
    cases hv
    simp at h2
    subst h2
    obtain rfl : l = 0 := by omega
    exact .inl ⟨by simp, by simp⟩
  · cases h
    cases hv
    subst hn
    have hlen : ((zs.take r).drop l).length = r - l := by simp; omega
    by_cases hcl : cap = l
    · have : r = l := by omega
      subst this
      refine .inr ⟨b, off, cap - r, ?_, by simp, ?_⟩
      · simp [hcl]
      · intro i z hi
        rw [List.getElem?_eq_none (by simp)] at hi
        cases hi
    · refine .inr ⟨b, off + l * e.width, cap - l, ?_, by omega, ?_⟩
      · rw [hlen]; simp [hcl, addr_add]
      · intro i z hi
        have hi' : zs[l + i]? = some z := by
          rw [List.getElem?_drop, List.getElem?_take] at hi
          split at hi
          · exact hi
          · cases hi
        obtain ⟨us, hr, hu⟩ := hz (l + i) z hi'
        refine ⟨us, hr, fun j u hj => ?_⟩
        have := hu j u hj
        have e1 : off + l * e.width + i * e.width + j = off + (l + i) * e.width + j := by rw [Nat.add_mul]; omega
        rw [e1]
        exact this

theorem sliceA_sound {P : Program} {G : View} {t : TypeId} {x : SV} {low high max : Option SV} {p : Option Prop} {r : SV} (h : sliceA P t x low high max = some (p, r)) (hp : holdsO p)
    {v : Value} {vl vh vm : Option Value} (rx : RepS G x v) (rl : All1 G low vl) (rh : All1 G high vh) (rm : All1 G max vm) :
    ∃ u, (Instr.sliceAt t v vl vh vm).run P G.w = .ok u G.w ∧ RepS G r u := by
  unfold sliceA at h
  split at h
  · cases h
  · cases vm with
    | some _ => exact rm.elim
    | none =>
      split at h
      · rename_i s hu
        split at h
        · rename_i l hh hl hhh
          cases h
          obtain ⟨_, rfl⟩ := rx
          obtain ⟨h0, h1, h2⟩ := hp
          have hb := bounds_sound (P := P) (w := G.w) rl rh (len := s.size) (cap := s.size) false hl hhh h0 h1 h2 (Nat.le_refl _)
          exact ⟨_, by simp [Instr.sliceAt, Instr.slice, run_underlying' hu, hb], RepS.mkv rfl⟩
        · cases h
      · rename_i e _ hu
        split at h
        · rename_i c zs id hs
          split at h
          · rename_i l hh n hl hhh hn
            split at h
            · rename_i hw
              cases h
              have hw' : n = c.width := by simpa using hw
              obtain ⟨h0, h1, h2⟩ := hp
              have hz := (slOf_cases rx).2 c zs id hs
              obtain ⟨base, cap, rfl, hc⟩ := rep_list_len hz
              have hb := bounds_sound (P := P) (w := G.w) rl rh (len := zs.length) (cap := cap) true hl hhh h0 h1 h2 hc
              refine ⟨_, ?_, rep_slice hz rfl (l := l.toNat) (r := hh.toNat) (n := n) (by omega) (by omega) hw'⟩
              simp [Instr.sliceAt, Instr.slice, run_underlying' hu, hb, run_sizeOf' hn]
            · cases h
          · cases h
        · rename_i hs
          split at h
          · rename_i l hh n hl hhh hn
            cases h
            obtain ⟨h0, h1⟩ := hp
            subst h0; subst h1
            have hv := (slOf_cases rx).1 hs
            subst hv
            have hb := bounds_sound (P := P) (w := G.w) rl rh (len := 0) (cap := 0) true hl hhh (by omega) (by omega) (by omega) (Nat.le_refl _)
            refine ⟨.slice none 0 0, ?_, RepS.mkv rfl⟩
            simp [Instr.sliceAt, Instr.slice, run_underlying' hu, hb, run_sizeOf' hn]
          · cases h
        · cases h
      · cases h

theorem lenA_sound {P : Program} {G : View} {t : TypeId} {ty : TypeId} {x : SV} {p : Option Prop} {r : SV} (h : lenA P t x = some (p, r)) {v : Value} (rx : RepS G x v) :
    ∃ u, (Builtin.len_ #[t] ty #[v]).run P G.w = .ok u G.w ∧ RepS G r u := by
  unfold lenA at h
  split at h
  · rename_i s hu
    cases h
    obtain ⟨_, rfl⟩ := rx
    exact ⟨_, by simp [Builtin.len_, run_underlying' hu, goInt], RepS.mkv rfl⟩
  · rename_i e _ hu
    split at h
    · rename_i c zs id hs
      cases h
      obtain ⟨base, cap, rfl, hc⟩ := rep_list_len ((slOf_cases rx).2 c zs id hs)
      exact ⟨_, by simp [Builtin.len_, run_underlying' hu, goInt], RepS.mkv rfl⟩
    · rename_i hs
      cases h
      obtain rfl := (slOf_cases rx).1 hs
      exact ⟨_, by simp [Builtin.len_, run_underlying' hu, goInt], RepS.mkv rfl⟩
    · cases h
  · cases h

/-! Structs. -/
theorem zeroCells_cases {P : Program} {t : TypeId} {z : List AC} (h : zeroCellsA P t = some z) :
    ∃ i v, P.info? t = some i ∧ i.zero = some v ∧ (∀ G : View, All2 (RepC G) z v.cells.toList) ∧ (∀ x ∈ v.cells, flat x = true) := by
  have mk : ∀ (l : List Value), l.all flat = true → ∀ G : View, All2 (RepC G) (l.map fun v => AC.p (.v v)) l := by
    intro l hl G
    induction l with
    | nil => exact .nil
    | cons v l ih =>
      simp at hl
      exact .cons ⟨hl.1, rfl⟩ (ih (by simpa using hl.2))
  unfold zeroCellsA at h
  split at h
  · rename_i i hi
    split at h
    · rename_i cs hz
      split at h
      · rename_i hf
        cases h
        exact ⟨i, _, hi, hz, fun G => mk _ hf G, fun x hx => by
          have := List.all_eq_true.1 hf x
          exact this (by simpa [Value.cells] using hx)⟩
      · cases h
    · rename_i v hv hz
      split at h
      · rename_i hf
        cases h
        have hc : v.cells = #[v] := by cases v <;> first | rfl | exact absurd rfl (hv _) | simp_all
        refine ⟨i, v, hi, hz, fun G => ?_, fun x hx => ?_⟩
        · rw [hc]; exact .cons ⟨hf, rfl⟩ .nil
        · rw [hc] at hx; simp at hx; subst hx; exact hf
      · cases h
    · cases h
  · cases h

theorem run_zeroValue' {P : Program} {t : TypeId} {i : TypeInfo} {v : Value} (hi : P.info? t = some i) (hz : i.zero = some v) (w : World) : (zeroValue t).run P w = .ok v w := by
  simp [zeroValue, typeInfo, hi, hz]

theorem AV.cells_rep {G : View} {x : AV} {v : Value} (h : RepA G x v) (hv : ∀ c, x = .c c → v.oneCell' = true) : All2 (RepC G) x.cells v.cells.toList := by
  cases x with
  | c x =>
    have := hv x rfl
    have hc : v.cells = #[v] := by cases v <;> first | rfl | simp [Value.oneCell'] at this
    rw [hc]
    exact .cons h .nil
  | agg l =>
    obtain ⟨cs, rfl, hr⟩ := h
    exact hr

theorem flat_oneCell {x : Value} (h : flat x = true) : x.oneCell' = true := by
  cases x <;> simp_all [flat, Value.oneCell']

theorem RepC.oneCell {G : View} {x : AC} {v : Value} (h : RepC G x v) : v.oneCell' = true := by
  cases x with
  | p x => cases x with
    | v x => obtain ⟨hf, rfl⟩ := h; exact flat_oneCell hf
    | l e zs =>
      obtain ⟨base, cap, rfl, _⟩ := rep_list_len h
      rfl
  | ptr id off => obtain ⟨rfl, _⟩ := h; rfl
  | pp e z k => obtain ⟨_, _, _, rfl, _⟩ := h; rfl
  | own id e zs => obtain ⟨base, cap, rfl, _⟩ := rep_list_len h.1; rfl
  | clo f caps => obtain ⟨rfl, _⟩ := h; rfl

theorem AV.cells_rep' {G : View} {x : AV} {v : Value} (h : RepA G x v) : All2 (RepC G) x.cells v.cells.toList :=
  AV.cells_rep h fun c hc => by subst hc; exact RepC.oneCell h

theorem all_oneCell {G : View} {l : List AC} {cs : List Value} (h : All2 (RepC G) l cs) : ∀ v ∈ cs, v.oneCell' = true := by
  intro v hv
  obtain ⟨i, hi⟩ := List.getElem?_of_mem hv
  obtain ⟨x, _, hr⟩ := h.get' hi
  exact hr.oneCell

theorem foldl_set (cs : Array Value) (off : Nat) : ∀ (vs : List Value) (k : Nat) , off + k + vs.length ≤ cs.size →
    ((vs.zipIdx k).foldl (fun (cs : Array Value) (c, j) => cs.setIfInBounds (off + j) c) cs).toList = cs.toList.take (off + k) ++ vs ++ cs.toList.drop (off + k + vs.length) := by
  intro vs
  induction vs generalizing cs with
  | nil => intro k h; simp
  | cons v vs ih =>
    intro k h
    simp only [List.zipIdx_cons, List.foldl_cons]
    rw [ih _ _ (by simp at h ⊢; omega)]
    have e := list_seg_step cs.toList (off + k) v vs (by simp at h ⊢; omega)
    simpa [Array.toList_setIfInBounds, Nat.add_assoc] using e

end Go.Ab
