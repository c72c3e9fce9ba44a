/- The abstract machine: regions whose order is open. -/
import Derived.Test.YticjnehdhageoaaAbL
namespace Go.Ab
set_option linter.unusedSectionVars false
variable [Base]
set_option linter.unusedSectionVars false

/-- No slot is under a condition. -/
def plainE : Env → Bool
  | [] => true
  | (_, .s _) :: r => plainE r
  | (_, .g _ _ _) :: _ => false

theorem plain_inv' : ∀ {e : Env}, plainE e = true → ∀ t k c x, e.get t ≠ .g k c x := by
  intro e
  induction e with
  | nil => intro _ t k c x h; cases h
  | cons z e ih =>
    intro hp t k c x h
    obtain ⟨u, z⟩ := z
    cases z with
    | s z =>
      rw [Env.get_cons] at h
      split at h
      · cases h
      · exact ih hp t k c x h
    | g _ _ _ => cases hp

theorem plain_inv {i : Nat} {ops : List Oper} {e : Env} (hp : plainE e = true) : Inv i ops e := fun t k c x h => absurd h (plain_inv' hp t k c x)

/-! An operation's result. -/
theorem boxA_out {P t x H K} (h : boxA P t x H K) : ∃ r H', boxA P t x H (fun r' H'' => r' = r ∧ H'' = H') ∧ K r H' := by
  unfold boxA at *
  split at h
  · exact ⟨_, _, ⟨rfl, rfl⟩, h⟩
  · exact h.elim

theorem storeA_out {P t a x H K} (h : storeA P t a x H K) : ∃ r H', storeA P t a x H (fun r' H'' => r' = r ∧ H'' = H') ∧ K r H' := by
  unfold storeA at *
  split at h
  · rename_i id off v n _
    cases hid : H[id]? with
    | none => rw [hid] at h; exact h.elim
    | some o =>
      rw [hid] at h
      cases o with
      | tok _ _ _ _ => exact h.elim
      | row cs =>
        simp only at h ⊢
        split at h
        · rename_i hb; exact ⟨_, _, ⟨rfl, rfl⟩, h⟩
        · exact h.elim
  · exact h.elim

theorem buildSliceA_out {P t n l H K} (h : buildSliceA P t n l H K) : ∃ r H', buildSliceA P t n l H (fun r' H'' => r' = r ∧ H'' = H') ∧ K r H' := by
  unfold buildSliceA at *
  split at h
  · split at h
    · split at h
      · split at h
        · split at h
          · split at h
            · exact ⟨_, _, ⟨rfl, rfl⟩, h⟩
            · exact h.elim
          · exact h.elim
        · exact h.elim
      · exact h.elim
    · exact h.elim
  · exact h.elim

theorem appendA_out {P t tx s x H K} (h : appendA P t tx s x H K) : ∃ r H', appendA P t tx s x H (fun r' H'' => r' = r ∧ H'' = H') ∧ K r H' := by
  unfold appendA at *
  split at h
  · split at h
    · split at h
      · split at h
        · rename_i id c' zs
          cases hid : H[id]? with
          | none => rw [hid] at h; exact h.elim
          | some o =>
            rw [hid] at h
            cases o with
            | row _ => exact h.elim
            | tok e' c'' m zf =>
              simp only at h ⊢
              split at h
              · split at h
                · exact ⟨_, _, ⟨h.1, h.2.1, rfl, rfl⟩, h.2.2⟩
                · exact h.elim
              · exact h.elim
        · split at h
          · exact ⟨_, _, ⟨h.1, rfl, rfl⟩, h.2⟩
          · exact h.elim
        · exact h.elim
      · exact h.elim
    · exact h.elim
  · exact h.elim

theorem heapOp_out {M ev H op K} (h : heapOp M ev H op K) : ∃ r H', heapOp M ev H op (fun r' H'' => r' = r ∧ H'' = H') ∧ K r H' := by
  cases op with
  | alloc t =>
    simp only [heapOp] at *
    split at h
    · exact boxA_out h
    · exact h.elim
  | box t x => exact boxA_out h
  | store t a x => exact storeA_out h
  | buildSlice t n l => exact buildSliceA_out h
  | convert s d x =>
    simp only [heapOp] at *
    split at h
    · split at h
      · exact ⟨_, _, ⟨h.1, rfl, rfl⟩, h.2⟩
      · exact h.elim
    · exact h.elim
  | call c =>
    simp only [heapOp] at *
    split at h
    · split at h
      · exact appendA_out h
      · exact h.elim
    · exact h.elim
  | _ => exact h.elim

theorem callA_out {M f args H K} (h : callA M f args H K) : ∃ r H', callA M f args H (fun r' H'' => r' = r ∧ H'' = H') ∧ K r H' := by
  unfold callA at *
  simp only [avsK_eq, gatherK_eq, heapK_eq] at *
  split at h
  · split at h
    · exact ⟨_, _, andO_iff.2 ⟨(andO_iff.1 h).1, rfl, rfl⟩, (andO_iff.1 h).2⟩
    · split at h
      · exact ⟨_, _, andO_iff.2 ⟨(andO_iff.1 h).1, rfl, rfl⟩, (andO_iff.1 h).2⟩
      · exact h.elim
  · exact h.elim

theorem heapAny_out {M ev H op K} (h : heapAny M ev H op K) : ∃ r H', heapAny M ev H op (fun r' H'' => r' = r ∧ H'' = H') ∧ K r H' := by
  unfold heapAny at *
  split at h
  · split at h
    · exact callA_out h
    · exact heapOp_out h
  · exact heapOp_out h

theorem boxA_mono {P t x H} {K K' : SV → List AO → Prop} (hk : ∀ r H, K r H → K' r H) (h : boxA P t x H K) : boxA P t x H K' := by
  unfold boxA at *
  split at h
  · exact hk _ _ h
  · exact h.elim

theorem storeA_mono {P t a x H} {K K' : SV → List AO → Prop} (hk : ∀ r H, K r H → K' r H) (h : storeA P t a x H K) : storeA P t a x H K' := by
  unfold storeA at *
  split at h
  · rename_i id off v n _
    cases hid : H[id]? with
    | none => rw [hid] at h; exact h.elim
    | some o =>
      rw [hid] at h
      cases o with
      | tok _ _ _ _ => exact h.elim
      | row cs =>
        simp only at h ⊢
        split at h
        · exact hk _ _ h
        · exact h.elim
  · exact h.elim

theorem buildSliceA_mono {P t n l H} {K K' : SV → List AO → Prop} (hk : ∀ r H, K r H → K' r H) (h : buildSliceA P t n l H K) : buildSliceA P t n l H K' := by
  unfold buildSliceA at *
  split at h
  · split at h
    · split at h
      · split at h
        · split at h
          · split at h
            · exact hk _ _ h
            · exact h.elim
          · exact h.elim
        · exact h.elim
      · exact h.elim
    · exact h.elim
  · exact h.elim

theorem appendA_mono {P t tx s x H} {K K' : SV → List AO → Prop} (hk : ∀ r H, K r H → K' r H) (h : appendA P t tx s x H K) : appendA P t tx s x H K' := by
  unfold appendA at *
  split at h
  · split at h
    · split at h
      · split at h
        · rename_i id c' zs
          cases hid : H[id]? with
          | none => rw [hid] at h; exact h.elim
          | some o =>
            rw [hid] at h
            cases o with
            | row _ => exact h.elim
            | tok e' c'' m zf =>
              simp only at h ⊢
              split at h
              · split at h
                · exact ⟨h.1, h.2.1, hk _ _ h.2.2⟩
                · exact h.elim
              · exact h.elim
        · split at h
          · exact ⟨h.1, hk _ _ h.2⟩
          · exact h.elim
        · exact h.elim
      · exact h.elim
    · exact h.elim
  · exact h.elim

theorem heapOp_mono {M ev H op} {K K' : SV → List AO → Prop} (hk : ∀ r H, K r H → K' r H) (h : heapOp M ev H op K) : heapOp M ev H op K' := by
  cases op with
  | alloc t =>
    simp only [heapOp] at *
    split at h
    · exact boxA_mono hk h
    · exact h.elim
  | box t x => exact boxA_mono hk h
  | store t a x => exact storeA_mono hk h
  | buildSlice t n l => exact buildSliceA_mono hk h
  | convert s d x =>
    simp only [heapOp] at *
    split at h
    · split at h
      · exact ⟨h.1, hk _ _ h.2⟩
      · exact h.elim
    · exact h.elim
  | call c =>
    simp only [heapOp] at *
    split at h
    · split at h
      · exact appendA_mono hk h
      · exact h.elim
    · exact h.elim
  | _ => exact h.elim

theorem callA_mono {M f args H} {K K' : SV → List AO → Prop} (hk : ∀ r H, K r H → K' r H) (h : callA M f args H K) : callA M f args H K' := by
  unfold callA at *
  simp only [avsK_eq, gatherK_eq, heapK_eq] at *
  split at h
  · split at h
    · exact andO_iff.2 ⟨(andO_iff.1 h).1, hk _ _ (andO_iff.1 h).2⟩
    · split at h
      · exact andO_iff.2 ⟨(andO_iff.1 h).1, hk _ _ (andO_iff.1 h).2⟩
      · exact h.elim
  · exact h.elim

theorem heapAny_mono {M ev H op} {K K' : SV → List AO → Prop} (hk : ∀ r H, K r H → K' r H) (h : heapAny M ev H op K) : heapAny M ev H op K' := by
  unfold heapAny at *
  split at h
  · split at h
    · exact callA_mono hk h
    · exact heapOp_mono hk h
  · exact heapOp_mono hk h

/-- What an operation puts into its slot, what it leaves of the objects, and how it stands to them: 0: it does not look; 1: it looks; 2: it may change them. -/
def stepD (M : Mach) (n : Nat) (ops : List Oper) (i : Nat) (e : Env) (H : List AO) (o : Oper) (K : XV → List AO → Nat → Prop) : Prop :=
  match dstOk n o.dst, condOf i ops e o.guard with
  | true, some none => match pureOpD M (fun x => (evalX e x).strip) H o.op with
    | some (p, r) => andO (both (oblOp ops o.guard e o.op) p) (K (.s r) H (match o.op with | .load .. => 1 | _ => 0))
    | none => andO (needs o.guard e o.op.operands.toList) (heapAny M (fun x => (evalX e x).strip) H o.op fun r H' => K (.s r) H' 2)
  | true, some (some c) => match pureOpD M (fun x => (evalX e x).strip) H o.op with
    | some (p, r) => andO (impO c (both (oblOp ops o.guard e o.op) p)) (K (match o.guard with | some k => .g k c r | none => .s .none) H (match o.op with | .load .. => 1 | _ => 0))
    | none => cond c (andO (needs o.guard e o.op.operands.toList) (heapAny M (fun x => (evalX e x).strip) H o.op fun r H' => K (.s r) H' 2)) (K (match o.guard with | some k => .g k c (dummyOf M.P o.type) | none => .s .none) H 2)
  | _, _ => False

theorem stepD_out {M n ops i e H o} {K : XV → List AO → Nat → Prop} (h : stepD M n ops i e H o K) : ∃ x H' f, stepD M n ops i e H o (fun x' H'' f' => x' = x ∧ H'' = H' ∧ f' = f) ∧ K x H' f := by
  unfold stepD at *
  split at h
  · split at h
    · exact ⟨_, _, _, andO_iff.2 ⟨(andO_iff.1 h).1, rfl, rfl, rfl⟩, (andO_iff.1 h).2⟩
    · obtain ⟨r, H', h1, h2⟩ := heapAny_out (andO_iff.1 h).2
      exact ⟨_, _, _, andO_iff.2 ⟨(andO_iff.1 h).1, heapAny_mono (fun r' H'' hh => by obtain ⟨rfl, rfl⟩ := hh; exact ⟨rfl, rfl, rfl⟩) h1⟩, h2⟩
  · rename_i c hd hc
    split at h
    · exact ⟨_, _, _, andO_iff.2 ⟨(andO_iff.1 h).1, rfl, rfl, rfl⟩, (andO_iff.1 h).2⟩
    · cases hcb : c with
      | true =>
        rw [hcb] at h
        obtain ⟨r, H', h1, h2⟩ := heapAny_out (andO_iff.1 h).2
        exact ⟨_, _, _, andO_iff.2 ⟨(andO_iff.1 h).1, heapAny_mono (fun r' H'' hh => by obtain ⟨rfl, rfl⟩ := hh; exact ⟨rfl, rfl, rfl⟩) h1⟩, h2⟩
      | false =>
        rw [hcb] at h
        exact ⟨_, _, _, ⟨rfl, rfl, rfl⟩, h⟩
  · exact h.elim

theorem stepD_mono {M n ops i e H o} {K K' : XV → List AO → Nat → Prop} (hk : ∀ x H f, K x H f → K' x H f) (h : stepD M n ops i e H o K) : stepD M n ops i e H o K' := by
  unfold stepD at *
  split at h
  · split at h
    · exact andO_iff.2 ⟨(andO_iff.1 h).1, hk _ _ _ (andO_iff.1 h).2⟩
    · exact andO_iff.2 ⟨(andO_iff.1 h).1, heapAny_mono (fun r H h => hk _ _ _ h) (andO_iff.1 h).2⟩
  · rename_i c hd hc
    split at h
    · exact andO_iff.2 ⟨(andO_iff.1 h).1, hk _ _ _ (andO_iff.1 h).2⟩
    · cases hcb : c with
      | true =>
        rw [hcb] at h
        exact andO_iff.2 ⟨(andO_iff.1 h).1, heapAny_mono (fun r H h => hk _ _ _ h) (andO_iff.1 h).2⟩
      | false =>
        rw [hcb] at h
        exact hk _ _ _ h
  · exact h.elim

/-! What an operation looks at. -/
def reads (ops : List Oper) (o : Oper) : List Nat :=
  (o.op.operands.toList.filterMap fun | .tmp t => some t | _ => none) ++
  (match o.guard with
   | some (g, _) => match ops[g]? with
     | some og => match og.dst with | some d => [d] | none => []
     | none => []
   | none => [])

theorem reads_eval {ops : List Oper} {o : Oper} {e e' : Env} (h : ∀ t ∈ reads ops o, e.get t = e'.get t) {x : Operand} (hx : x ∈ o.op.operands.toList) : evalX e x = evalX e' x := by
  cases x with
  | tmp t => exact h t (List.mem_append_left _ (List.mem_filterMap.2 ⟨.tmp t, hx, rfl⟩))
  | _ => rfl

theorem reads_cond {ops : List Oper} {o : Oper} {e e' : Env} (h : ∀ t ∈ reads ops o, e.get t = e'.get t) (i : Nat) : condOf i ops e o.guard = condOf i ops e' o.guard := by
  cases hg : o.guard with
  | none => rfl
  | some k =>
    obtain ⟨j, want⟩ := k
    simp only [condOf]
    split
    · rename_i og _ hj
      cases hd : og.dst with
      | none => rfl
      | some d =>
        have : e.get d = e'.get d := h d (List.mem_append_right _ (by simp [hg, hj, hd]))
        simp only [this]
    · rfl

theorem needs_congr {gd : Option (Nat × Bool)} {e e' : Env} : ∀ {l : List Operand}, (∀ x ∈ l, evalX e x = evalX e' x) → needs gd e l = needs gd e' l := by
  intro l
  induction l with
  | nil => intro _; rfl
  | cons x l ih =>
    intro h
    simp only [needs, needX, h x (by simp), ih fun y hy => h y (by simp [hy])]

theorem map_congr_ev {ev ev' : Operand → SV} {l : List Operand} (h : ∀ x ∈ l, ev x = ev' x) : l.map ev = l.map ev' := List.map_congr_left h

end Go.Ab
