/- The abstract machine: regions whose order is open. -/
import Derived.Test.YtgeoggpkjnnonaaTL
namespace Go.Ab
set_option linter.unusedSectionVars false
variable [Base]
set_option linter.unusedSectionVars false

/-- No slot is under a condition. -/
def plainE : Env → Bool
  | [] => true
  | (_, .s _) :: r => plainE r
  | (_, .g _ _ _) :: _ => false

theorem plain_inv' : ∀ {e : Env}, plainE e = true → ∀ t k c x, e.get t ≠ .g k c x := by
  intro e
  induction e with
  | nil => intro _ t k c x h; cases h
  | cons z e ih =>
    intro hp t k c x h
    obtain ⟨u, z⟩ := z
    cases z with
    | s z =>
      rw [Env.get_cons] at h
      split at h
      · cases h
      · exact ih hp t k c x h
    | g _ _ _ => cases hp

theorem plain_inv {i : Nat} {ops : List Oper} {e : Env} (hp : plainE e = true) : Inv i ops e := fun t k c x h => absurd h (plain_inv' hp t k c x)

/-! An operation's result. -/
theorem boxA_out {P t x H K} (h : boxA P t x H K) : ∃ r H', boxA P t x H (fun r' H'' => r' = r ∧ H'' = H') ∧ K r H' := by
  unfold boxA at *
  split at h
  · exact ⟨_, _, ⟨rfl, rfl⟩, h⟩
  · exact h.elim

theorem storeA_out {P t a x H K} (h : storeA P t a x H K) : ∃ r H', storeA P t a x H (fun r' H'' => r' = r ∧ H'' = H') ∧ K r H' := by
  unfold storeA at *
  split at h
  · rename_i id off v n _
    cases hid : H[id]? with
    | none => rw [hid] at h; exact h.elim
    | some o =>
      rw [hid] at h
      cases o with
      | row cs =>
        simp only at h ⊢
        split at h
        · rename_i hb; exact ⟨_, _, ⟨rfl, rfl⟩, h⟩
        · exact h.elim
      | _ => exact h.elim
  · exact h.elim

theorem buildSliceA_out {P t n l H K} (h : buildSliceA P t n l H K) : ∃ r H', buildSliceA P t n l H (fun r' H'' => r' = r ∧ H'' = H') ∧ K r H' := by
  unfold buildSliceA at *
  split at h
  · split at h
    · split at h
      · split at h
        · split at h
          · split at h
            · exact ⟨_, _, ⟨rfl, rfl⟩, h⟩
            · exact h.elim
          · exact h.elim
        · exact h.elim
      · exact h.elim
    · exact h.elim
  · exact h.elim

theorem appendA_out {P t tx s x H K} (h : appendA P t tx s x H K) : ∃ r H', appendA P t tx s x H (fun r' H'' => r' = r ∧ H'' = H') ∧ K r H' := by
  unfold appendA at *
  split at h
  · split at h
    · split at h
      · split at h
        · rename_i id c' zs
          cases hid : H[id]? with
          | none => rw [hid] at h; exact h.elim
          | some o =>
            rw [hid] at h
            cases o with
            | tok e' c'' m zf =>
              simp only at h ⊢
              split at h
              · split at h
                · exact ⟨_, _, ⟨h.1, h.2.1, rfl, rfl⟩, h.2.2⟩
                · exact h.elim
              · exact h.elim
            | _ => exact h.elim
        · split at h
          · exact ⟨_, _, ⟨h.1, h.2.1, rfl, rfl⟩, h.2.2⟩
          · exact h.elim
        · split at h
          · exact ⟨_, _, ⟨h.1, rfl, rfl⟩, h.2⟩
          · exact h.elim
        · exact h.elim
      · exact h.elim
    · exact h.elim
  · exact h.elim

theorem heapOp0_out {M ev H op K} (h : heapOp0 M ev H op K) : ∃ r H', heapOp0 M ev H op (fun r' H'' => r' = r ∧ H'' = H') ∧ K r H' := by
  cases op with
  | alloc t =>
    simp only [heapOp0] at *
    split at h
    · exact boxA_out h
    · exact h.elim
  | box t x => exact boxA_out h
  | store t a x => exact storeA_out h
  | buildSlice t n l => exact buildSliceA_out h
  | convert s d x =>
    simp only [heapOp0] at *
    split at h
    · split at h
      · exact ⟨_, _, ⟨h.1, rfl, rfl⟩, h.2⟩
      · exact h.elim
    · exact h.elim
  | call c =>
    simp only [heapOp0] at *
    split at h
    · split at h
      · exact appendA_out h
      · exact h.elim
    · exact h.elim
  | _ => exact h.elim

theorem makeMapA_out {P t H K} (h : makeMapA P t H K) : ∃ r H', makeMapA P t H (fun r' H'' => r' = r ∧ H'' = H') ∧ K r H' := by
  unfold makeMapA at *
  split at h
  · split at h
    · exact ⟨_, _, ⟨rfl, rfl⟩, h⟩
    · exact h.elim
  · exact h.elim

theorem mapSetA_out {P t m k x H K} (h : mapSetA P t m k x H K) : ∃ r H', mapSetA P t m k x H (fun r' H'' => r' = r ∧ H'' = H') ∧ K r H' := by
  unfold mapSetA at *
  split at h
  · split at h
    · split at h
      · exact ⟨_, _, andO_iff.2 ⟨(andO_iff.1 h).1, rfl, rfl⟩, (andO_iff.1 h).2⟩
      · exact h.elim
    · exact h.elim
  · exact h.elim

theorem storeEp_out {P t id c ver i k x H K} (h : storeEp P t id c ver i k x H K) : ∃ r H', storeEp P t id c ver i k x H (fun r' H'' => r' = r ∧ H'' = H') ∧ K r H' := by
  unfold storeEp at *
  split at h
  · split at h
    · split at h
      · split at h
        · exact ⟨_, _, ⟨h.1, rfl, rfl⟩, h.2⟩
        · exact h.elim
      · exact h.elim
    · exact h.elim
  · exact h.elim

theorem appendSl_out {P t tx id c ver len x H K} (h : appendSl P t tx id c ver len x H K) : ∃ r H', appendSl P t tx id c ver len x H (fun r' H'' => r' = r ∧ H'' = H') ∧ K r H' := by
  unfold appendSl at *
  split at h
  · split at h
    · split at h
      · split at h
        · split at h
          · split at h
            · exact ⟨_, _, ⟨h.1, h.2.1, h.2.2.1, rfl, rfl⟩, h.2.2.2⟩
            · exact h.elim
          · exact h.elim
        · exact h.elim
      · exact h.elim
    · exact h.elim
  · exact h.elim

theorem freezeK_mono : ∀ {parts : List (Nat × SV)} {H : List AO} {K K' : List (Nat × SV) → List AO → Prop}, (∀ r H, K r H → K' r H) → freezeK parts H K → freezeK parts H K' := by
  intro parts
  induction parts with
  | nil => intro H K K' hk h; exact hk _ _ h
  | cons p parts ih =>
    intro H K K' hk h
    obtain ⟨i, x⟩ := p
    unfold freezeK at h ⊢
    split at h
    · split at h
      · exact ih (fun r H h => hk _ _ h) h
      · exact h.elim
    · exact ih (fun r H h => hk _ _ h) h

theorem freezeK_out : ∀ {parts : List (Nat × SV)} {H : List AO} {K : List (Nat × SV) → List AO → Prop}, freezeK parts H K → ∃ r H', freezeK parts H (fun r' H'' => r' = r ∧ H'' = H') ∧ K r H' := by
  intro parts
  induction parts with
  | nil => intro H K h; exact ⟨_, _, ⟨rfl, rfl⟩, h⟩
  | cons p parts ih =>
    intro H K h
    obtain ⟨i, x⟩ := p
    unfold freezeK at h ⊢
    split at h
    · split at h
      · obtain ⟨r, H', h1, h2⟩ := ih h
        refine ⟨_, H', ?_, h2⟩
        exact freezeK_mono (fun r' H'' hh => ⟨by rw [hh.1], hh.2⟩) h1
      · exact h.elim
    · obtain ⟨r, H', h1, h2⟩ := ih h
      exact ⟨_, H', freezeK_mono (fun r' H'' hh => ⟨by rw [hh.1], hh.2⟩) h1, h2⟩

theorem allocArr_out {P t n e H K} (h : allocArr P t n e H K) : ∃ r H', allocArr P t n e H (fun r' H'' => r' = r ∧ H'' = H') ∧ K r H' := by
  unfold allocArr at *
  split at h
  · split at h
    · split at h
      · exact ⟨_, _, ⟨rfl, rfl⟩, h⟩
      · exact h.elim
    · exact h.elim
  · exact h.elim

theorem sliceArr_out {P t x lo hi H K} (h : sliceArr P t x lo hi H K) : ∃ r H', sliceArr P t x lo hi H (fun r' H'' => r' = r ∧ H'' = H') ∧ K r H' := by
  unfold sliceArr at *
  split at h
  · split at h
    · split at h
      · exact ⟨_, _, ⟨h.1, rfl, rfl⟩, h.2⟩
      · exact h.elim
    · exact h.elim
  · exact h.elim

theorem appendNew_out {P t tx x H K} (h : appendNew P t tx x H K) : ∃ r H', appendNew P t tx x H (fun r' H'' => r' = r ∧ H'' = H') ∧ K r H' := by
  unfold appendNew at *
  split at h
  · split at h
    · split at h
      · split at h
        · exact ⟨_, _, ⟨h.1, rfl, rfl⟩, h.2⟩
        · exact h.elim
      · exact h.elim
    · exact h.elim
  · exact h.elim
theorem appendNew_mono {P t tx x H} {K K' : SV → List AO → Prop} (hk : ∀ r H, K r H → K' r H) (h : appendNew P t tx x H K) : appendNew P t tx x H K' := by
  unfold appendNew at *
  split at h
  · split at h
    · split at h
      · split at h
        · exact ⟨h.1, hk _ _ h.2⟩
        · exact h.elim
      · exact h.elim
    · exact h.elim
  · exact h.elim

theorem makeSl_out {P t l c H K} (h : makeSl P t l c H K) : ∃ r H', makeSl P t l c H (fun r' H'' => r' = r ∧ H'' = H') ∧ K r H' := by
  unfold makeSl at *
  split at h
  · split at h
    · split at h
      · exact ⟨_, _, ⟨h.1, rfl, rfl⟩, h.2⟩
      · exact h.elim
    · exact h.elim
  · exact h.elim
theorem makeSl_mono {P t l c H} {K K' : SV → List AO → Prop} (hk : ∀ r H, K r H → K' r H) (h : makeSl P t l c H K) : makeSl P t l c H K' := by
  unfold makeSl at *
  split at h
  · split at h
    · split at h
      · exact ⟨h.1, hk _ _ h.2⟩
      · exact h.elim
    · exact h.elim
  · exact h.elim

theorem heapOp_out {M ev H op K} (h : heapOp M ev H op K) : ∃ r H', heapOp M ev H op (fun r' H'' => r' = r ∧ H'' = H') ∧ K r H' := by
  unfold heapOp at *
  split at h
  · split at h
    · exact makeMapA_out h
    · exact h.elim
  · exact makeSl_out h
  · split at h
    · split at h
      · exact heapOp0_out h
      · exact allocArr_out h
    · exact heapOp0_out h
  · split at h
    · exact sliceArr_out h
    · exact h.elim
  · exact mapSetA_out h
  · exact mapSetA_out h
  · split at h
    · exact storeEp_out h
    · exact heapOp0_out h
  · obtain ⟨ps, H1, h1, h2⟩ := freezeK_out h
    obtain ⟨r, H', h3, h4⟩ := buildSliceA_out h2
    exact ⟨r, H', freezeK_mono (fun r' H'' hh => by rw [hh.1, hh.2]; exact h3) h1, h4⟩
  · split at h
    · split at h
      · split at h
        · exact appendSl_out h
        · split at h
          · rcases h with h | h
            · obtain ⟨r, H', h1, h2⟩ := heapOp0_out h
              exact ⟨r, H', .inl h1, h2⟩
            · obtain ⟨r, H', h1, h2⟩ := appendNew_out h
              exact ⟨r, H', .inr h1, h2⟩
          · exact heapOp0_out h
        · exact heapOp0_out h
      · exact h.elim
    · exact h.elim
  · exact heapOp0_out h

theorem callA_out {M f args H K} (h : callA M f args H K) : ∃ r H', callA M f args H (fun r' H'' => r' = r ∧ H'' = H') ∧ K r H' := by
  unfold callA at *
  simp only [avsK_eq, gatherK_eq, heapK_eq] at *
  split at h
  · split at h
    · exact ⟨_, _, andO_iff.2 ⟨(andO_iff.1 h).1, rfl, rfl⟩, (andO_iff.1 h).2⟩
    · split at h
      · exact ⟨_, _, andO_iff.2 ⟨(andO_iff.1 h).1, rfl, rfl⟩, (andO_iff.1 h).2⟩
      · exact h.elim
  · exact h.elim

theorem heapAny_out {M ev H op K} (h : heapAny M ev H op K) : ∃ r H', heapAny M ev H op (fun r' H'' => r' = r ∧ H'' = H') ∧ K r H' := by
  unfold heapAny at *
  split at h
  · split at h
    · exact callA_out h
    · exact heapOp_out h
  · exact heapOp_out h

theorem boxA_mono {P t x H} {K K' : SV → List AO → Prop} (hk : ∀ r H, K r H → K' r H) (h : boxA P t x H K) : boxA P t x H K' := by
  unfold boxA at *
  split at h
  · exact hk _ _ h
  · exact h.elim

theorem storeA_mono {P t a x H} {K K' : SV → List AO → Prop} (hk : ∀ r H, K r H → K' r H) (h : storeA P t a x H K) : storeA P t a x H K' := by
  unfold storeA at *
  split at h
  · rename_i id off v n _
    cases hid : H[id]? with
    | none => rw [hid] at h; exact h.elim
    | some o =>
      rw [hid] at h
      cases o with
      | row cs =>
        simp only at h ⊢
        split at h
        · exact hk _ _ h
        · exact h.elim
      | _ => exact h.elim
  · exact h.elim

theorem buildSliceA_mono {P t n l H} {K K' : SV → List AO → Prop} (hk : ∀ r H, K r H → K' r H) (h : buildSliceA P t n l H K) : buildSliceA P t n l H K' := by
  unfold buildSliceA at *
  split at h
  · split at h
    · split at h
      · split at h
        · split at h
          · split at h
            · exact hk _ _ h
            · exact h.elim
          · exact h.elim
        · exact h.elim
      · exact h.elim
    · exact h.elim
  · exact h.elim

theorem appendA_mono {P t tx s x H} {K K' : SV → List AO → Prop} (hk : ∀ r H, K r H → K' r H) (h : appendA P t tx s x H K) : appendA P t tx s x H K' := by
  unfold appendA at *
  split at h
  · split at h
    · split at h
      · split at h
        · rename_i id c' zs
          cases hid : H[id]? with
          | none => rw [hid] at h; exact h.elim
          | some o =>
            rw [hid] at h
            cases o with
            | tok e' c'' m zf =>
              simp only at h ⊢
              split at h
              · split at h
                · exact ⟨h.1, h.2.1, hk _ _ h.2.2⟩
                · exact h.elim
              · exact h.elim
            | _ => exact h.elim
        · split at h
          · exact ⟨h.1, h.2.1, hk _ _ h.2.2⟩
          · exact h.elim
        · split at h
          · exact ⟨h.1, hk _ _ h.2⟩
          · exact h.elim
        · exact h.elim
      · exact h.elim
    · exact h.elim
  · exact h.elim

theorem heapOp0_mono {M ev H op} {K K' : SV → List AO → Prop} (hk : ∀ r H, K r H → K' r H) (h : heapOp0 M ev H op K) : heapOp0 M ev H op K' := by
  cases op with
  | alloc t =>
    simp only [heapOp0] at *
    split at h
    · exact boxA_mono hk h
    · exact h.elim
  | box t x => exact boxA_mono hk h
  | store t a x => exact storeA_mono hk h
  | buildSlice t n l => exact buildSliceA_mono hk h
  | convert s d x =>
    simp only [heapOp0] at *
    split at h
    · split at h
      · exact ⟨h.1, hk _ _ h.2⟩
      · exact h.elim
    · exact h.elim
  | call c =>
    simp only [heapOp0] at *
    split at h
    · split at h
      · exact appendA_mono hk h
      · exact h.elim
    · exact h.elim
  | _ => exact h.elim

theorem makeMapA_mono {P t H} {K K' : SV → List AO → Prop} (hk : ∀ r H, K r H → K' r H) (h : makeMapA P t H K) : makeMapA P t H K' := by
  unfold makeMapA at *
  split at h
  · split at h
    · exact hk _ _ h
    · exact h.elim
  · exact h.elim

theorem mapSetA_mono {P t m k x H} {K K' : SV → List AO → Prop} (hk : ∀ r H, K r H → K' r H) (h : mapSetA P t m k x H K) : mapSetA P t m k x H K' := by
  unfold mapSetA at *
  split at h
  · split at h
    · split at h
      · exact andO_iff.2 ⟨(andO_iff.1 h).1, hk _ _ (andO_iff.1 h).2⟩
      · exact h.elim
    · exact h.elim
  · exact h.elim

theorem storeEp_mono {P t id c ver i k x H} {K K' : SV → List AO → Prop} (hk : ∀ r H, K r H → K' r H) (h : storeEp P t id c ver i k x H K) : storeEp P t id c ver i k x H K' := by
  unfold storeEp at *
  split at h
  · split at h
    · split at h
      · split at h
        · exact ⟨h.1, hk _ _ h.2⟩
        · exact h.elim
      · exact h.elim
    · exact h.elim
  · exact h.elim

theorem appendSl_mono {P t tx id c ver len x H} {K K' : SV → List AO → Prop} (hk : ∀ r H, K r H → K' r H) (h : appendSl P t tx id c ver len x H K) : appendSl P t tx id c ver len x H K' := by
  unfold appendSl at *
  split at h
  · split at h
    · split at h
      · split at h
        · split at h
          · split at h
            · exact ⟨h.1, h.2.1, h.2.2.1, hk _ _ h.2.2.2⟩
            · exact h.elim
          · exact h.elim
        · exact h.elim
      · exact h.elim
    · exact h.elim
  · exact h.elim

theorem allocArr_mono {P t n e H} {K K' : SV → List AO → Prop} (hk : ∀ r H, K r H → K' r H) (h : allocArr P t n e H K) : allocArr P t n e H K' := by
  unfold allocArr at *
  split at h
  · split at h
    · split at h
      · exact hk _ _ h
      · exact h.elim
    · exact h.elim
  · exact h.elim

theorem sliceArr_mono {P t x lo hi H} {K K' : SV → List AO → Prop} (hk : ∀ r H, K r H → K' r H) (h : sliceArr P t x lo hi H K) : sliceArr P t x lo hi H K' := by
  unfold sliceArr at *
  split at h
  · split at h
    · split at h
      · exact ⟨h.1, hk _ _ h.2⟩
      · exact h.elim
    · exact h.elim
  · exact h.elim

theorem heapOp_mono {M ev H op} {K K' : SV → List AO → Prop} (hk : ∀ r H, K r H → K' r H) (h : heapOp M ev H op K) : heapOp M ev H op K' := by
  unfold heapOp at *
  split at h
  · split at h
    · exact makeMapA_mono hk h
    · exact h.elim
  · exact makeSl_mono hk h
  · split at h
    · split at h
      · exact heapOp0_mono hk h
      · exact allocArr_mono hk h
    · exact heapOp0_mono hk h
  · split at h
    · exact sliceArr_mono hk h
    · exact h.elim
  · exact mapSetA_mono hk h
  · exact mapSetA_mono hk h
  · split at h
    · exact storeEp_mono hk h
    · exact heapOp0_mono hk h
  · exact freezeK_mono (fun r H h => buildSliceA_mono hk h) h
  · split at h
    · split at h
      · split at h
        · exact appendSl_mono hk h
        · split at h
          · exact h.imp (heapOp0_mono hk) (appendNew_mono hk)
          · exact heapOp0_mono hk h
        · exact heapOp0_mono hk h
      · exact h.elim
    · exact h.elim
  · exact heapOp0_mono hk h

theorem callA_mono {M f args H} {K K' : SV → List AO → Prop} (hk : ∀ r H, K r H → K' r H) (h : callA M f args H K) : callA M f args H K' := by
  unfold callA at *
  simp only [avsK_eq, gatherK_eq, heapK_eq] at *
  split at h
  · split at h
    · exact andO_iff.2 ⟨(andO_iff.1 h).1, hk _ _ (andO_iff.1 h).2⟩
    · split at h
      · exact andO_iff.2 ⟨(andO_iff.1 h).1, hk _ _ (andO_iff.1 h).2⟩
      · exact h.elim
  · exact h.elim

theorem heapAny_mono {M ev H op} {K K' : SV → List AO → Prop} (hk : ∀ r H, K r H → K' r H) (h : heapAny M ev H op K) : heapAny M ev H op K' := by
  unfold heapAny at *
  split at h
  · split at h
    · exact callA_mono hk h
    · exact heapOp_mono hk h
  · exact heapOp_mono hk h

/-- What an operation puts into its slot, what it leaves of the objects, and how it stands to them: 0: it does not look; 1: it looks; 2: it may change them. -/
def stepD (M : Mach) (n : Nat) (ops : List Oper) (i : Nat) (e : Env) (H : List AO) (o : Oper) (K : XV → List AO → Nat → Prop) : Prop :=
  match dstOk n o.dst, condOf i ops e o.guard with
  | true, some none => match pureOpD M (fun x => (evalX e x).strip) H o.op with
    | some (p, r) => andO (both (oblOp ops o.guard e o.op) p) (K (.s r) H (flagD M (fun x => (evalX e x).strip) H o.op))
    | none => andO (needs o.guard e o.op.operands.toList) (heapAny M (fun x => (evalX e x).strip) H o.op fun r H' => K (.s r) H' 2)
  | true, some (some c) => match pureOpD M (fun x => (evalX e x).strip) H o.op with
    | some (p, r) => andO (impO c (both (oblOp ops o.guard e o.op) p)) (K (match o.guard with | some k => .g k c r | none => .s .none) H (flagD M (fun x => (evalX e x).strip) H o.op))
    | none => cond c (andO (needs o.guard e o.op.operands.toList) (heapAny M (fun x => (evalX e x).strip) H o.op fun r H' => K (.s r) H' 2)) (K (match o.guard with | some k => .g k c (dummyOf M.P o.type) | none => .s .none) H 2)
  | _, _ => False

theorem stepD_out {M n ops i e H o} {K : XV → List AO → Nat → Prop} (h : stepD M n ops i e H o K) : ∃ x H' f, stepD M n ops i e H o (fun x' H'' f' => x' = x ∧ H'' = H' ∧ f' = f) ∧ K x H' f := by
  unfold stepD at *
  split at h
  · split at h
    · exact ⟨_, _, _, andO_iff.2 ⟨(andO_iff.1 h).1, rfl, rfl, rfl⟩, (andO_iff.1 h).2⟩
    · obtain ⟨r, H', h1, h2⟩ := heapAny_out (andO_iff.1 h).2
      exact ⟨_, _, _, andO_iff.2 ⟨(andO_iff.1 h).1, heapAny_mono (fun r' H'' hh => by obtain ⟨rfl, rfl⟩ := hh; exact ⟨rfl, rfl, rfl⟩) h1⟩, h2⟩
  · rename_i c hd hc
    split at h
    · exact ⟨_, _, _, andO_iff.2 ⟨(andO_iff.1 h).1, rfl, rfl, rfl⟩, (andO_iff.1 h).2⟩
    · cases hcb : c with
      | true =>
        rw [hcb] at h
        obtain ⟨r, H', h1, h2⟩ := heapAny_out (andO_iff.1 h).2
        exact ⟨_, _, _, andO_iff.2 ⟨(andO_iff.1 h).1, heapAny_mono (fun r' H'' hh => by obtain ⟨rfl, rfl⟩ := hh; exact ⟨rfl, rfl, rfl⟩) h1⟩, h2⟩
      | false =>
        rw [hcb] at h
        exact ⟨_, _, _, ⟨rfl, rfl, rfl⟩, h⟩
  · exact h.elim

theorem stepD_mono {M n ops i e H o} {K K' : XV → List AO → Nat → Prop} (hk : ∀ x H f, K x H f → K' x H f) (h : stepD M n ops i e H o K) : stepD M n ops i e H o K' := by
  unfold stepD at *
  split at h
  · split at h
    · exact andO_iff.2 ⟨(andO_iff.1 h).1, hk _ _ _ (andO_iff.1 h).2⟩
    · exact andO_iff.2 ⟨(andO_iff.1 h).1, heapAny_mono (fun r H h => hk _ _ _ h) (andO_iff.1 h).2⟩
  · rename_i c hd hc
    split at h
    · exact andO_iff.2 ⟨(andO_iff.1 h).1, hk _ _ _ (andO_iff.1 h).2⟩
    · cases hcb : c with
      | true =>
        rw [hcb] at h
        exact andO_iff.2 ⟨(andO_iff.1 h).1, heapAny_mono (fun r H h => hk _ _ _ h) (andO_iff.1 h).2⟩
      | false =>
        rw [hcb] at h
        exact hk _ _ _ h
  · exact h.elim

/-! What an operation looks at. -/
def reads (ops : List Oper) (o : Oper) : List Nat :=
  (o.op.operands.toList.filterMap fun | .tmp t => some t | _ => none) ++
  (match o.guard with
   | some (g, _) => match ops[g]? with
     | some og => match og.dst with | some d => [d] | none => []
     | none => []
   | none => [])

theorem reads_eval {ops : List Oper} {o : Oper} {e e' : Env} (h : ∀ t ∈ reads ops o, e.get t = e'.get t) {x : Operand} (hx : x ∈ o.op.operands.toList) : evalX e x = evalX e' x := by
  cases x with
  | tmp t => exact h t (List.mem_append_left _ (List.mem_filterMap.2 ⟨.tmp t, hx, rfl⟩))
  | _ => rfl

theorem reads_cond {ops : List Oper} {o : Oper} {e e' : Env} (h : ∀ t ∈ reads ops o, e.get t = e'.get t) (i : Nat) : condOf i ops e o.guard = condOf i ops e' o.guard := by
  cases hg : o.guard with
  | none => rfl
  | some k =>
    obtain ⟨j, want⟩ := k
    simp only [condOf]
    split
    · rename_i og _ hj
      cases hd : og.dst with
      | none => rfl
      | some d =>
        have : e.get d = e'.get d := h d (List.mem_append_right _ (by simp [hg, hj, hd]))
        simp only [this]
    · rfl

theorem needs_congr {gd : Option (Nat × Bool)} {e e' : Env} : ∀ {l : List Operand}, (∀ x ∈ l, evalX e x = evalX e' x) → needs gd e l = needs gd e' l := by
  intro l
  induction l with
  | nil => intro _; rfl
  | cons x l ih =>
    intro h
    simp only [needs, needX, h x (by simp), ih fun y hy => h y (by simp [hy])]

theorem map_congr_ev {ev ev' : Operand → SV} {l : List Operand} (h : ∀ x ∈ l, ev x = ev' x) : l.map ev = l.map ev' := List.map_congr_left h


theorem opt_map_congr {ev ev' : Operand → SV} {x : Option Operand} (h : ∀ y, x = some y → ev y = ev' y) : x.map ev = x.map ev' := by
  cases x with
  | none => rfl
  | some y => simp [h y rfl]

theorem parts_congr {ev ev' : Operand → SV} {l : List (Nat × Operand)} (h : ∀ x ∈ l, ev x.2 = ev' x.2) : (l.map fun p => (p.1, ev p.2)) = l.map fun p => (p.1, ev' p.2) :=
  List.map_congr_left fun p hp => by rw [h p hp]

theorem pureOp0_congr {M : Mach} {ev ev' : Operand → SV} {H : List AO} {op : Op} (h : ∀ x ∈ op.operands.toList, ev x = ev' x) : pureOp0 M ev H op = pureOp0 M ev' H op := by
  cases op with
  | move x => simp only [pureOp0, h x (by simp [Op.operands])]
  | assign x => simp only [pureOp0, h x (by simp [Op.operands])]
  | pick c a b => simp only [pureOp0, h c (by simp [Op.operands]), h a (by simp [Op.operands]), h b (by simp [Op.operands])]
  | extract t i => simp only [pureOp0, h t (by simp [Op.operands])]
  | build t ps => simp only [pureOp0, parts_congr (ev := ev) (ev' := ev') (l := ps.toList) fun x hx => h x.2 (by simp only [Op.operands]; exact List.mem_map.2 ⟨x, hx, rfl⟩)]
  | load t a => simp only [pureOp0, h a (by simp [Op.operands])]
  | nilCheck x => simp only [pureOp0, h x (by simp [Op.operands])]
  | binOp o t x y u => simp only [pureOp0, h x (by simp [Op.operands]), h y (by simp [Op.operands])]
  | unOp o t x => simp only [pureOp0, h x (by simp [Op.operands])]
  | convert s d x => simp only [pureOp0, h x (by simp [Op.operands])]
  | fieldAddr s x f => simp only [pureOp0, h x (by simp [Op.operands])]
  | field s x f => simp only [pureOp0, h x (by simp [Op.operands])]
  | indexAddr t x i => simp only [pureOp0, h x (by simp [Op.operands]), h i (by simp [Op.operands])]
  | index t x i => simp only [pureOp0, h x (by simp [Op.operands]), h i (by simp [Op.operands])]
  | slice t x lo hi mx =>
    simp only [pureOp0, h x (by simp [Op.operands]), opt_map_congr (ev := ev) (ev' := ev') (x := lo) fun y hy => h y (by subst hy; simp [Op.operands]),
      opt_map_congr (ev := ev) (ev' := ev') (x := hi) fun y hy => h y (by subst hy; simp [Op.operands]), opt_map_congr (ev := ev) (ev' := ev') (x := mx) fun y hy => h y (by subst hy; simp [Op.operands])]
  | makeFunc f a b =>
    have ha : ∀ x ∈ a.toList, ev x = ev' x := fun x hx => h x (by simp [Op.operands]; exact .inl (by simpa using hx))
    have hb : ∀ x ∈ b.toList, ev x = ev' x := fun x hx => h x (by simp [Op.operands]; exact .inr (by simpa using hx))
    simp only [pureOp0]
    split
    · rfl
    · rename_i x h1 h2
      rw [ha x (by rw [h1]; simp)]
    · rename_i x h1 h2
      rw [hb x (by rw [h2]; simp)]
    · rename_i x y r h1 h2
      rw [hb x (by rw [h2]; simp), hb y (by rw [h2]; simp), List.map_congr_left fun z hz => hb z (by rw [h2]; simp [hz])]
    · rfl
  | call c =>
    obtain ⟨callee, args, ts⟩ := c
    have hargs : ∀ x ∈ args.toList, ev x = ev' x := fun x hx => h x (by simp [Op.operands, Call.operands]; exact .inr (by simpa using hx))
    have hm : args.toList.map ev = args.toList.map ev' := List.map_congr_left hargs
    cases callee with
    | value f =>
      have hf : ev f = ev' f := h f (by simp [Op.operands, Call.operands])
      simp only [pureOp0, hf, hm]
    | invoke r m => rfl
    | builtin b =>
      cases b <;> try rfl
      · simp only [pureOp0]
        split
        · rename_i x t hx ht
          have e1 : args = #[x] := by rw [← Array.toArray_toList (xs := args), hx]
          rw [hargs x (by rw [hx]; simp)]
        · rfl
      · simp only [pureOp0, hm]
      · simp only [pureOp0, hm]
  | _ => rfl

theorem pureNew_congr {M : Mach} {ev ev' : Operand → SV} {H : List AO} {op : Op} (h : ∀ x ∈ op.operands.toList, ev x = ev' x) : pureNew M ev H op = pureNew M ev' H op := by
  cases op with
  | load t a => simp only [pureNew, h a (by simp [Op.operands])]
  | nilCheck x => simp only [pureNew, h x (by simp [Op.operands])]
  | fieldAddr s x f => simp only [pureNew, h x (by simp [Op.operands])]
  | indexAddr t x i => simp only [pureNew, h x (by simp [Op.operands]), h i (by simp [Op.operands])]
  | lookup t x i ok => simp only [pureNew, h x (by simp [Op.operands]), h i (by simp [Op.operands])]
  | slice t x lo hi mx =>
    simp only [pureNew, h x (by simp [Op.operands]), opt_map_congr (ev := ev) (ev' := ev') (x := lo) fun y hy => h y (by subst hy; simp [Op.operands]),
      opt_map_congr (ev := ev) (ev' := ev') (x := hi) fun y hy => h y (by subst hy; simp [Op.operands])]
  | call c =>
    obtain ⟨callee, args, ts⟩ := c
    have hargs : ∀ x ∈ args.toList, ev x = ev' x := fun x hx => h x (by simp [Op.operands, Call.operands]; exact .inr (by simpa using hx))
    cases callee with
    | value f => rfl
    | invoke r m => rfl
    | builtin b =>
      cases b <;> try rfl
      simp only [pureNew]
      split
      · rename_i x t hx ht
        rw [hargs x (by rw [hx]; simp)]
      · rfl
  | _ => rfl

theorem lookOp_congr {M : Mach} {ev ev' : Operand → SV} {H : List AO} {op : Op} (h : ∀ x ∈ op.operands.toList, ev x = ev' x) : lookOp M ev H op = lookOp M ev' H op := by
  have new := pureNew_congr (M := M) (H := H) h
  cases op with
  | call c =>
    obtain ⟨callee, args, ts⟩ := c
    have hargs : ∀ x ∈ args.toList, ev x = ev' x := fun x hx => h x (by simp [Op.operands, Call.operands]; exact .inr (by simpa using hx))
    have hm : args.toList.map ev = args.toList.map ev' := List.map_congr_left hargs
    cases callee with
    | value f =>
      have hf : ev f = ev' f := h f (by simp [Op.operands, Call.operands])
      simp only [lookOp, hf, hm]
    | invoke r m => exact new
    | builtin b => exact new
  | _ => exact new

theorem heapOp0_congr {M : Mach} {ev ev' : Operand → SV} {H : List AO} {op : Op} {K : SV → List AO → Prop} (h : ∀ x ∈ op.operands.toList, ev x = ev' x) : heapOp0 M ev H op K = heapOp0 M ev' H op K := by
  cases op with
  | alloc t => rfl
  | box t x => simp only [heapOp0, h x (by simp [Op.operands])]
  | store t a x => simp only [heapOp0, h a (by simp [Op.operands]), h x (by simp [Op.operands])]
  | buildSlice t n ps => simp only [heapOp0, parts_congr (ev := ev) (ev' := ev') (l := ps.toList) fun x hx => h x.2 (by simp only [Op.operands]; exact List.mem_map.2 ⟨x, hx, rfl⟩)]
  | convert s d x => simp only [heapOp0, h x (by simp [Op.operands])]
  | call c =>
    obtain ⟨callee, args, ts⟩ := c
    have hargs : ∀ x ∈ args.toList, ev x = ev' x := fun x hx => h x (by simp [Op.operands, Call.operands]; exact .inr (by simpa using hx))
    cases callee with
    | value f => rfl
    | invoke r m => rfl
    | builtin b =>
      cases b <;> try rfl
      simp only [heapOp0]
      split
      · rename_i s x t tx hx ht
        rw [hargs s (by rw [hx]; simp), hargs x (by rw [hx]; simp)]
      · rfl
  | _ => rfl

theorem heapOp_congr {M : Mach} {ev ev' : Operand → SV} {H : List AO} {op : Op} {K : SV → List AO → Prop} (h : ∀ x ∈ op.operands.toList, ev x = ev' x) : heapOp M ev H op K = heapOp M ev' H op K := by
  have old := heapOp0_congr (M := M) (H := H) (K := K) h
  cases op with
  | makeMap t r => rfl
  | makeSlice t l c => simp only [heapOp, h l (by simp [Op.operands]), h c (by simp [Op.operands])]
  | alloc t => simp only [heapOp, old]
  | slice t x lo hi mx =>
    have hl : lo.map ev = lo.map ev' := by
      cases lo with
      | none => rfl
      | some z => simp [h z (by simp [Op.operands])]
    have hh : hi.map ev = hi.map ev' := by
      cases hi with
      | none => rfl
      | some z => simp [h z (by simp [Op.operands])]
    simp only [heapOp, h x (by simp [Op.operands]), hl, hh]
  | mapUpdate t m k x => simp only [heapOp, h m (by simp [Op.operands]), h k (by simp [Op.operands]), h x (by simp [Op.operands])]
  | insert t m k x => simp only [heapOp, h m (by simp [Op.operands]), h k (by simp [Op.operands]), h x (by simp [Op.operands])]
  | store t a x => simp only [heapOp, h a (by simp [Op.operands]), h x (by simp [Op.operands]), old]
  | buildSlice t n ps => simp only [heapOp, parts_congr (ev := ev) (ev' := ev') (l := ps.toList) fun x hx => h x.2 (by simp only [Op.operands]; exact List.mem_map.2 ⟨x, hx, rfl⟩)]
  | call c =>
    obtain ⟨callee, args, ts⟩ := c
    have hargs : ∀ x ∈ args.toList, ev x = ev' x := fun x hx => h x (by simp [Op.operands, Call.operands]; exact .inr (by simpa using hx))
    cases callee with
    | value f => rfl
    | invoke r m => rfl
    | builtin b =>
      cases b <;> try rfl
      simp only [heapOp]
      split
      · rename_i s x t tx hx ht
        rw [hargs s (by rw [hx]; simp), hargs x (by rw [hx]; simp), old]
      · rfl
  | _ => exact old

theorem heapAny_congr {M : Mach} {ev ev' : Operand → SV} {H : List AO} {op : Op} {K : SV → List AO → Prop} (h : ∀ x ∈ op.operands.toList, ev x = ev' x) : heapAny M ev H op K = heapAny M ev' H op K := by
  have old := heapOp_congr (M := M) (H := H) (K := K) h
  cases op with
  | call c =>
    obtain ⟨callee, args, ts⟩ := c
    have hargs : ∀ x ∈ args.toList, ev x = ev' x := fun x hx => h x (by simp [Op.operands, Call.operands]; exact .inr (by simpa using hx))
    have hm : args.toList.map ev = args.toList.map ev' := List.map_congr_left hargs
    cases callee with
    | value f =>
      have hf : ev f = ev' f := h f (by simp [Op.operands, Call.operands])
      simp only [heapAny, hf, hm]
    | invoke r m => exact old
    | builtin b => exact old
  | _ => exact old

theorem oblOp_congr {ops : List Oper} {gd : Option (Nat × Bool)} {e e' : Env} {op : Op} (h : ∀ x ∈ op.operands.toList, evalX e x = evalX e' x) : oblOp ops gd e op = oblOp ops gd e' op := by
  cases op with
  | pick c a b => simp only [oblOp, needX, needPick, h c (by simp [Op.operands]), h a (by simp [Op.operands]), h b (by simp [Op.operands])]
  | _ => exact needs_congr h

theorem pureOpD0_congr {M : Mach} {ev ev' : Operand → SV} {H : List AO} {op : Op} (h : ∀ x ∈ op.operands.toList, ev x = ev' x) : pureOpD0 M ev H op = pureOpD0 M ev' H op := by
  cases op with
  | buildSlice t len ps =>
    simp only [pureOpD0, parts_congr (ev := ev) (ev' := ev') (l := ps.toList) fun x hx => h x.2 (by simp only [Op.operands]; exact List.mem_map.2 ⟨x, hx, rfl⟩)]
  | _ => exact pureOp0_congr (M := M) (H := H) h

theorem pureOpD_congr {M : Mach} {ev ev' : Operand → SV} {H : List AO} {op : Op} (h : ∀ x ∈ op.operands.toList, ev x = ev' x) : pureOpD M ev H op = pureOpD M ev' H op := by
  simp only [pureOpD, pureOpD0_congr (M := M) (H := H) h, lookOp_congr (M := M) (H := H) h]

theorem flagD_congr {M : Mach} {ev ev' : Operand → SV} {H : List AO} {op : Op} (h : ∀ x ∈ op.operands.toList, ev x = ev' x) : flagD M ev H op = flagD M ev' H op := by
  have hl : loadF ev op = loadF ev' op := by
    cases op with
    | load t a => simp only [loadF, h a (by simp [Op.operands])]
    | _ => rfl
  simp only [flagD, pureOpD0_congr (M := M) (H := H) h, hl]

theorem stepD_congr {M : Mach} {n : Nat} {ops : List Oper} {i : Nat} {e e' : Env} {H : List AO} {o : Oper} {K : XV → List AO → Nat → Prop} (h : ∀ t ∈ reads ops o, e.get t = e'.get t) (hs : stepD M n ops i e H o K) : stepD M n ops i e' H o K := by
  have he : ∀ x ∈ o.op.operands.toList, evalX e x = evalX e' x := fun x hx => reads_eval h hx
  have hev : ∀ x ∈ o.op.operands.toList, (fun x => (evalX e x).strip) x = (fun x => (evalX e' x).strip) x := fun x hx => by simp only [he x hx]
  unfold stepD at *
  rw [← reads_cond h i, ← pureOpD_congr hev, ← flagD_congr hev, ← oblOp_congr he, ← needs_congr he]
  split at hs
  · split at hs
    · exact hs
    · rw [← heapAny_congr hev]; exact hs
  · split at hs
    · exact hs
    · rw [← heapAny_congr hev]; exact hs
  · exact hs

theorem pureOpD0_heap {M : Mach} {ev : Operand → SV} {H H' : List AO} {op : Op} (h : ∀ t a, op ≠ .load t a) : pureOpD0 M ev H op = pureOpD0 M ev H' op := by
  cases op <;> first | rfl | exact absurd rfl (h _ _)

/-- What does not look at the objects. -/
theorem flagD_zero {M : Mach} {ev : Operand → SV} {H : List AO} {op : Op} (h : flagD M ev H op = 0) (H' : List AO) : pureOpD M ev H op = pureOpD M ev H' op ∧ flagD M ev H' op = 0 := by
  unfold flagD at h
  split at h
  · rename_i x hx
    have : pureOpD0 M ev H op = pureOpD0 M ev H' op := by
      by_cases hl : ∃ t a, op = .load t a
      · obtain ⟨t, a, rfl⟩ := hl
        simp only [loadF] at h
        split at h
        · rename_i e z k he
          show pureOp0 M ev H (.load t a) = pureOp0 M ev H' (.load t a)
          simp only [pureOp0, he]
        · omega
      · exact pureOpD0_heap fun t a he => hl ⟨t, a, he⟩
    have hx' := this ▸ hx
    refine ⟨by unfold pureOpD; rw [hx, hx'], ?_⟩
    unfold flagD
    rw [hx']
    exact h
  · omega

/-- What does not look at the objects does not depend on them. -/
theorem stepD_zero {M : Mach} {n : Nat} {ops : List Oper} {i : Nat} {e : Env} {H : List AO} {o : Oper} {x : XV} {H1 : List AO} (H2 : List AO) (hs : stepD M n ops i e H o fun x' H'' f' => x' = x ∧ H'' = H1 ∧ f' = 0) :
    H1 = H ∧ stepD M n ops i e H2 o fun x' H'' f' => x' = x ∧ H'' = H2 ∧ f' = 0 := by
  have no2 : ∀ {ev H op}, heapAny M ev H op (fun (r : SV) (H' : List AO) => False) → False := by
    intro ev H op h
    obtain ⟨_, _, _, hf⟩ := heapAny_out h
    exact hf
  unfold stepD at *
  split at hs
  · split at hs
    · rename_i p r hp
      obtain ⟨h1, h2, h3, h4⟩ := andO_iff.1 hs
      obtain ⟨h5, h6⟩ := flagD_zero h4 H2
      rw [← h5, hp]
      exact ⟨h3.symm, andO_iff.2 ⟨h1, h2, rfl, h6⟩⟩
    · exact (no2 (heapAny_mono (fun r H' hh => by obtain ⟨_, _, h3⟩ := hh; omega) (andO_iff.1 hs).2)).elim
  · rename_i c hd hc
    split at hs
    · rename_i p r hp
      obtain ⟨h1, h2, h3, h4⟩ := andO_iff.1 hs
      obtain ⟨h5, h6⟩ := flagD_zero h4 H2
      rw [← h5, hp]
      exact ⟨h3.symm, andO_iff.2 ⟨h1, h2, rfl, h6⟩⟩
    · cases hcb : c with
      | true =>
        rw [hcb] at hs
        exact (no2 (heapAny_mono (fun r H' hh => by obtain ⟨_, _, h3⟩ := hh; omega) (andO_iff.1 hs).2)).elim
      | false =>
        rw [hcb] at hs
        obtain ⟨_, _, h3⟩ := hs
        omega
  · exact hs.elim

theorem stepD_flag {M : Mach} {n : Nat} {ops : List Oper} {i : Nat} {e : Env} {H : List AO} {o : Oper} {x : XV} {H1 : List AO} {f : Nat} (hs : stepD M n ops i e H o fun x' H'' f' => x' = x ∧ H'' = H1 ∧ f' = f) : f ≠ 2 → H1 = H := by
  intro hf
  have no2 : ∀ {ev H op}, heapAny M ev H op (fun (r : SV) (H' : List AO) => False) → False := by
    intro ev H op h
    obtain ⟨_, _, _, hf⟩ := heapAny_out h
    exact hf
  unfold stepD at hs
  split at hs
  · split at hs
    · exact (andO_iff.1 hs).2.2.1.symm
    · exact (no2 (heapAny_mono (fun r H' hh => hf hh.2.2.symm) (andO_iff.1 hs).2)).elim
  · rename_i c hd hc
    split at hs
    · exact (andO_iff.1 hs).2.2.1.symm
    · cases hcb : c with
      | true =>
        rw [hcb] at hs
        exact (no2 (heapAny_mono (fun r H' hh => hf hh.2.2.symm) (andO_iff.1 hs).2)).elim
      | false =>
        rw [hcb] at hs
        exact hs.2.1.symm
  · exact hs.elim

/-- A value under a condition is so by the operation's guard. -/
theorem stepD_key {M : Mach} {n : Nat} {ops : List Oper} {i : Nat} {e : Env} {H : List AO} {o : Oper} {x : XV} {H1 : List AO} {f : Nat} (hs : stepD M n ops i e H o fun x' H'' f' => x' = x ∧ H'' = H1 ∧ f' = f) {k : Nat × Bool} {c : Bool} {y : SV} (hx : x = .g k c y) :
    o.guard = some k ∧ condOf i ops e (some k) = some (some c) := by
  unfold stepD at hs
  split at hs
  · split at hs
    · have := (andO_iff.1 hs).2.1
      rw [hx] at this
      cases this
    · obtain ⟨_, _, _, h2⟩ := heapAny_out (andO_iff.1 hs).2
      have := h2.1
      rw [hx] at this
      cases this
  · rename_i c' hd hc
    have key : ∀ {z : SV} {b : Bool}, (match o.guard with | some k => XV.g k b z | none => .s .none) = x → b = c' ∨ (b = false ∧ c' = false) → o.guard = some k ∧ condOf i ops e (some k) = some (some c) := by
      intro z b hz hb
      cases hg : o.guard with
      | none => rw [hg, hx] at hz; cases hz
      | some k' =>
        rw [hg, hx] at hz
        simp only [XV.g.injEq] at hz
        obtain ⟨rfl, rfl, _⟩ := hz
        refine ⟨rfl, ?_⟩
        rw [← hg, hc]
        rcases hb with rfl | ⟨rfl, rfl⟩ <;> rfl
    split at hs
    · exact key (andO_iff.1 hs).2.1 (.inl rfl)
    · cases hcb : c' with
      | true =>
        rw [hcb] at hs
        obtain ⟨_, _, _, h2⟩ := heapAny_out (andO_iff.1 hs).2
        have := h2.1
        rw [hx] at this
        cases this
      | false =>
        rw [hcb] at hs
        exact key hs.1 (.inr ⟨rfl, hcb⟩)
  · exact hs.elim

end Go.Ab
