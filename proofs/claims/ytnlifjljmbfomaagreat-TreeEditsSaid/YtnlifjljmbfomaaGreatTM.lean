/- The abstract machine: regions whose order is open. -/
import Derived.Test.YtnlifjljmbfomaaGreatTL
namespace Go.Ab
set_option linter.unusedSectionVars false
variable [Base]
set_option linter.unusedSectionVars false
def plainE : Env → Bool
 | [] => true
 | (_, .s _) :: r => plainE r
 | (_, .g _ _ _) :: _ => false
theorem plain_inv' : ∀ {e : Env}, plainE e = true → ∀ t k c x, e.get t ≠ .g k c x := by
 intro e
 induction e with
 | nil => intro _ t k c x h; cases h
 | cons z e ih =>
  intro hp t k c x h
  obtain ⟨u, z⟩ := z
  cases z with
  | s z =>
   rw [Env.get_cons] at h
   split at h
   ·cases h
   ·exact ih hp t k c x h
  | g _ _ _ => cases hp
theorem plain_inv {i : Nat} {ops : List Oper} {e : Env} (hp : plainE e = true) : Inv i ops e := fun t k c x h => absurd h (plain_inv' hp t k c x)
theorem boxA_out {P t x H K} (h : boxA P t x H K) : ∃ r H', boxA P t x H (fun r' H'' => r' = r ∧ H'' = H') ∧ K r H' := by
 unfold boxA at *
 split at h
 ·exact ⟨_, _, ⟨rfl, rfl⟩, h⟩
 ·exact h.elim
theorem storeA_out {P t a x H K} (h : storeA P t a x H K) : ∃ r H', storeA P t a x H (fun r' H'' => r' = r ∧ H'' = H') ∧ K r H' := by
 unfold storeA at *
 split at h
 ·rename_i id off v n _
  cases hid : H[id]? with
  | none => rw [hid] at h; exact h.elim
  | some o =>
   rw [hid] at h
   cases o with
   | row cs =>
    simp only at h ⊢
    split at h
    ·rename_i hb; exact ⟨_, _, ⟨rfl, rfl⟩, h⟩
    ·exact h.elim
   | _ => exact h.elim
 ·exact h.elim
theorem buildSliceA_mono0 {P t n l H} {K K' : SV → List AO → Prop} (hk : ∀ r H, K r H → K' r H) (h : buildSliceA P t n l H K) : buildSliceA P t n l H K' := by
 unfold buildSliceA at *
 split at h
 ·split at h
  ·split at h
   ·split at h
    ·split at h
     ·split at h
      ·exact hk _ _ h
      ·exact h.elim
     ·exact h.elim
    ·exact h.elim
   ·exact h.elim
  ·exact h.elim
 ·exact h.elim
theorem buildSliceA_out {P t n l H K} (h : buildSliceA P t n l H K) : ∃ r H', buildSliceA P t n l H (fun r' H'' => r' = r ∧ H'' = H') ∧ K r H' := by
 unfold buildSliceA at *
 split at h
 ·split at h
  ·split at h
   ·split at h
    ·split at h
     ·split at h
      ·exact ⟨_, _, ⟨rfl, rfl⟩, h⟩
      ·exact h.elim
     ·exact h.elim
    ·exact h.elim
   ·exact h.elim
  ·exact h.elim
 ·exact h.elim
theorem appendA_out {P t tx s x H K} (h : appendA P t tx s x H K) : ∃ r H', appendA P t tx s x H (fun r' H'' => r' = r ∧ H'' = H') ∧ K r H' := by
 unfold appendA at *
 split at h
 ·split at h
  ·split at h
   ·split at h
    ·rename_i id c' zs
     cases hid : H[id]? with
     | none => rw [hid] at h; exact h.elim
     | some o =>
      rw [hid] at h
      cases o with
      | tok e' c'' m zf =>
       simp only at h ⊢
       split at h
       ·split at h
        ·exact ⟨_, _, ⟨h.1, h.2.1, rfl, rfl⟩, h.2.2⟩
        ·exact h.elim
       ·exact h.elim
      | _ => exact h.elim
    ·split at h
     ·exact ⟨_, _, ⟨h.1, h.2.1, rfl, rfl⟩, h.2.2⟩
     ·exact h.elim
    ·split at h
     ·exact ⟨_, _, ⟨h.1, rfl, rfl⟩, h.2⟩
     ·exact h.elim
    ·exact h.elim
   ·exact h.elim
  ·exact h.elim
 ·exact h.elim
theorem heapOp0_out {M ev H op K} (h : heapOp0 M ev H op K) : ∃ r H', heapOp0 M ev H op (fun r' H'' => r' = r ∧ H'' = H') ∧ K r H' := by
 cases op with
 | alloc t =>
  simp only [heapOp0] at *
  split at h
  ·exact boxA_out h
  ·exact h.elim
 | box t x => exact boxA_out h
 | store t a x => exact storeA_out h
 | buildSlice t n l => exact buildSliceA_out h
 | convert s d x =>
  simp only [heapOp0] at *
  split at h
  ·split at h
   ·exact ⟨_, _, ⟨h.1, rfl, rfl⟩, h.2⟩
   ·exact h.elim
  ·exact h.elim
 | call c =>
  simp only [heapOp0] at *
  split at h
  ·split at h
   ·exact appendA_out h
   ·exact h.elim
  ·exact h.elim
 | _ => exact h.elim
theorem makeMapA_out {P t H K} (h : makeMapA P t H K) : ∃ r H', makeMapA P t H (fun r' H'' => r' = r ∧ H'' = H') ∧ K r H' := by
 unfold makeMapA at *
 split at h
 ·split at h
  ·exact ⟨_, _, ⟨rfl, rfl⟩, h⟩
  ·exact h.elim
 ·exact h.elim
theorem mapSetA_out {P t m k x H K} (h : mapSetA P t m k x H K) : ∃ r H', mapSetA P t m k x H (fun r' H'' => r' = r ∧ H'' = H') ∧ K r H' := by
 unfold mapSetA at *
 split at h
 ·split at h
  ·split at h
   ·exact ⟨_, _, andO_iff.2 ⟨(andO_iff.1 h).1, rfl, rfl⟩, (andO_iff.1 h).2⟩
   ·exact h.elim
  ·exact h.elim
 ·exact h.elim
theorem storeEp_out {P t id c ver i k x H K} (h : storeEp P t id c ver i k x H K) : ∃ r H', storeEp P t id c ver i k x H (fun r' H'' => r' = r ∧ H'' = H') ∧ K r H' := by
 unfold storeEp at *
 split at h
 ·split at h
  ·split at h
   ·split at h
    ·exact ⟨_, _, ⟨h.1, rfl, rfl⟩, h.2⟩
    ·exact h.elim
   ·exact h.elim
  ·exact h.elim
 ·exact h.elim
theorem appendSl_out {P t tx id c ver len x H K} (h : appendSl P t tx id c ver len x H K) : ∃ r H', appendSl P t tx id c ver len x H (fun r' H'' => r' = r ∧ H'' = H') ∧ K r H' := by
 unfold appendSl at *
 split at h
 ·split at h
  ·split at h
   ·split at h
    ·split at h
     ·split at h
      ·exact ⟨_, _, ⟨h.1, h.2.1, h.2.2.1, rfl, rfl⟩, h.2.2.2⟩
      ·exact h.elim
     ·exact h.elim
    ·exact h.elim
   ·exact h.elim
  ·exact h.elim
 ·exact h.elim
theorem freezeK_mono : ∀ {parts : List (Nat × SV)} {H : List AO} {K K' : List (Nat × SV) → List AO → Prop}, (∀ r H, K r H → K' r H) → freezeK parts H K → freezeK parts H K' := by
 intro parts
 induction parts with
 | nil => intro H K K' hk h; exact hk _ _ h
 | cons p parts ih =>
  intro H K K' hk h
  obtain ⟨i, x⟩ := p
  unfold freezeK at h ⊢
  split at h
  ·split at h
   ·exact ih (fun r H h => hk _ _ h) h
   ·exact h.elim
  ·exact ih (fun r H h => hk _ _ h) h
theorem freezeK_out : ∀ {parts : List (Nat × SV)} {H : List AO} {K : List (Nat × SV) → List AO → Prop}, freezeK parts H K → ∃ r H', freezeK parts H (fun r' H'' => r' = r ∧ H'' = H') ∧ K r H' := by
 intro parts
 induction parts with
 | nil => intro H K h; exact ⟨_, _, ⟨rfl, rfl⟩, h⟩
 | cons p parts ih =>
  intro H K h
  obtain ⟨i, x⟩ := p
  unfold freezeK at h ⊢
  split at h
  ·split at h
   ·obtain ⟨r, H', h1, h2⟩ := ih h
    refine ⟨_, H', ?_, h2⟩
    exact freezeK_mono (fun r' H'' hh => ⟨by rw [hh.1], hh.2⟩) h1
   ·exact h.elim
  ·obtain ⟨r, H', h1, h2⟩ := ih h
   exact ⟨_, H', freezeK_mono (fun r' H'' hh => ⟨by rw [hh.1], hh.2⟩) h1, h2⟩
theorem allocArr_out {P t n e H K} (h : allocArr P t n e H K) : ∃ r H', allocArr P t n e H (fun r' H'' => r' = r ∧ H'' = H') ∧ K r H' := by
 unfold allocArr at *
 split at h
 ·split at h
  ·split at h
   ·exact ⟨_, _, ⟨rfl, rfl⟩, h⟩
   ·exact h.elim
  ·exact h.elim
 ·exact h.elim
theorem sliceArr_out {P t x lo hi H K} (h : sliceArr P t x lo hi H K) : ∃ r H', sliceArr P t x lo hi H (fun r' H'' => r' = r ∧ H'' = H') ∧ K r H' := by
 unfold sliceArr at *
 split at h
 ·split at h
  ·split at h
   ·exact ⟨_, _, ⟨h.1, rfl, rfl⟩, h.2⟩
   ·exact h.elim
  ·exact h.elim
 ·exact h.elim
theorem appendNew_out {P t tx x H K} (h : appendNew P t tx x H K) : ∃ r H', appendNew P t tx x H (fun r' H'' => r' = r ∧ H'' = H') ∧ K r H' := by
 unfold appendNew at *
 split at h
 ·split at h
  ·split at h
   ·split at h
    ·exact ⟨_, _, ⟨h.1, rfl, rfl⟩, h.2⟩
    ·exact h.elim
   ·exact h.elim
  ·exact h.elim
 ·exact h.elim
theorem appendNew_mono {P t tx x H} {K K' : SV → List AO → Prop} (hk : ∀ r H, K r H → K' r H) (h : appendNew P t tx x H K) : appendNew P t tx x H K' := by
 unfold appendNew at *
 split at h
 ·split at h
  ·split at h
   ·split at h
    ·exact ⟨h.1, hk _ _ h.2⟩
    ·exact h.elim
   ·exact h.elim
  ·exact h.elim
 ·exact h.elim
theorem buildFl_out {P t n l H K} (h : buildFl P t n l H K) : ∃ r H', buildFl P t n l H (fun r' H'' => r' = r ∧ H'' = H') ∧ K r H' := by
 unfold buildFl at *
 obtain ⟨r, H', h1, c, hr, hK⟩ := buildSliceA_out h
 exact ⟨_, _, buildSliceA_mono0 (fun r' H'' hh => ⟨c, hh.1.trans hr, rfl, rfl⟩) h1, hK⟩
theorem buildV_out {P t l H K} (h : buildV P t l H K) : ∃ r H', buildV P t l H (fun r' H'' => r' = r ∧ H'' = H') ∧ K r H' := by
 unfold buildV at *
 split at h
 ·split at h
  ·split at h
   ·split at h
    ·split at h
     ·split at h
      ·split at h
       ·exact ⟨_, _, ⟨rfl, rfl⟩, h⟩
       ·exact h.elim
      ·exact h.elim
     ·exact h.elim
    ·exact h.elim
   ·exact h.elim
  ·exact h.elim
 ·exact h.elim
theorem buildV_mono {P t l H} {K K' : SV → List AO → Prop} (hk : ∀ r H, K r H → K' r H) (h : buildV P t l H K) : buildV P t l H K' := by
 unfold buildV at *
 split at h
 ·split at h
  ·split at h
   ·split at h
    ·split at h
     ·split at h
      ·split at h
       ·exact hk _ _ h
       ·exact h.elim
      ·exact h.elim
     ·exact h.elim
    ·exact h.elim
   ·exact h.elim
  ·exact h.elim
 ·exact h.elim
theorem buildS_out {P t n l H K} (h : buildS P t n l H K) : ∃ r H', buildS P t n l H (fun r' H'' => r' = r ∧ H'' = H') ∧ K r H' := by
 unfold buildS at *
 split at h
 ·split at h
  ·rcases h with h | h
   ·obtain ⟨r, H', h1, h2⟩ := buildSliceA_out h
    exact ⟨r, H', .inl h1, h2⟩
   ·obtain ⟨r, H', h1, h2⟩ := buildFl_out h
    exact ⟨r, H', .inr h1, h2⟩
  ·exact buildSliceA_out h
 ·split at h
  ·rcases h with h | h
   ·obtain ⟨r, H', h1, h2⟩ := buildSliceA_out h
    exact ⟨r, H', .inl h1, h2⟩
   ·obtain ⟨r, H', h1, h2⟩ := buildV_out h
    exact ⟨r, H', .inr h1, h2⟩
  ·exact buildSliceA_out h
 ·exact buildSliceA_out h
theorem buildS_mono {P t n l H} {K K' : SV → List AO → Prop} (hk : ∀ r H, K r H → K' r H) (h : buildS P t n l H K) : buildS P t n l H K' := by
 unfold buildS at *
 split at h
 ·split at h
  ·rcases h with h | h
   ·exact .inl (buildSliceA_mono0 hk h)
   ·refine .inr ?_
    unfold buildFl at *
    exact buildSliceA_mono0 (fun r' H'' ⟨c, h1, h2⟩ => ⟨c, h1, hk _ _ h2⟩) h
  ·exact buildSliceA_mono0 hk h
 ·split at h
  ·exact h.imp (buildSliceA_mono0 hk) (buildV_mono hk)
  ·exact buildSliceA_mono0 hk h
 ·exact buildSliceA_mono0 hk h
theorem appendFe_out {P t tx c zs x H K} (h : appendFe P t tx c zs x H K) : ∃ r H', appendFe P t tx c zs x H (fun r' H'' => r' = r ∧ H'' = H') ∧ K r H' := by
 unfold appendFe at *
 split at h
 ·split at h
  ·split at h
   ·split at h
    ·exact ⟨_, _, ⟨h.1, rfl, rfl⟩, h.2⟩
    ·exact h.elim
   ·exact h.elim
  ·exact h.elim
 ·exact h.elim
theorem appendFe_mono {P t tx c zs x H} {K K' : SV → List AO → Prop} (hk : ∀ r H, K r H → K' r H) (h : appendFe P t tx c zs x H K) : appendFe P t tx c zs x H K' := by
 unfold appendFe at *
 split at h
 ·split at h
  ·split at h
   ·split at h
    ·exact ⟨h.1, hk _ _ h.2⟩
    ·exact h.elim
   ·exact h.elim
  ·exact h.elim
 ·exact h.elim
theorem appendGv0_out {P t tx id n H K} (h : appendGv0 P t tx id n H K) : ∃ r H', appendGv0 P t tx id n H (fun r' H'' => r' = r ∧ H'' = H') ∧ K r H' := by
 unfold appendGv0 at *
 split at h
 ·split at h
  ·split at h
   ·exact ⟨_, _, ⟨rfl, rfl⟩, h⟩
   ·exact h.elim
  ·exact h.elim
 ·exact h.elim
theorem appendGv0_mono {P t tx id n H} {K K' : SV → List AO → Prop} (hk : ∀ r H, K r H → K' r H) (h : appendGv0 P t tx id n H K) : appendGv0 P t tx id n H K' := by
 unfold appendGv0 at *
 split at h
 ·split at h
  ·split at h
   ·exact hk _ _ h
   ·exact h.elim
  ·exact h.elim
 ·exact h.elim
theorem appendGsV_out {P t tx id ver len id2 n H K} (h : appendGsV P t tx id ver len id2 n H K) : ∃ r H', appendGsV P t tx id ver len id2 n H (fun r' H'' => r' = r ∧ H'' = H') ∧ K r H' := by
 unfold appendGsV at *
 split at h
 ·split at h
  ·split at h
   ·split at h
    ·split at h
     ·exact ⟨_, _, ⟨h.1, rfl, rfl⟩, h.2⟩
     ·exact h.elim
    ·exact h.elim
   ·exact h.elim
  ·exact h.elim
 ·exact h.elim
theorem appendGsV_mono {P t tx id ver len id2 n H} {K K' : SV → List AO → Prop} (hk : ∀ r H, K r H → K' r H) (h : appendGsV P t tx id ver len id2 n H K) : appendGsV P t tx id ver len id2 n H K' := by
 unfold appendGsV at *
 split at h
 ·split at h
  ·split at h
   ·split at h
    ·split at h
     ·exact ⟨h.1, hk _ _ h.2⟩
     ·exact h.elim
    ·exact h.elim
   ·exact h.elim
  ·exact h.elim
 ·exact h.elim
theorem appendGsP_out {P t tx id ver len x H K} (h : appendGsP P t tx id ver len x H K) : ∃ r H', appendGsP P t tx id ver len x H (fun r' H'' => r' = r ∧ H'' = H') ∧ K r H' := by
 unfold appendGsP at *
 split at h
 ·split at h
  ·split at h
   ·split at h
    ·exact ⟨_, _, ⟨h.1, rfl, rfl⟩, h.2⟩
    ·exact h.elim
   ·exact h.elim
  ·exact h.elim
 ·exact h.elim
theorem appendGsP_mono {P t tx id ver len x H} {K K' : SV → List AO → Prop} (hk : ∀ r H, K r H → K' r H) (h : appendGsP P t tx id ver len x H K) : appendGsP P t tx id ver len x H K' := by
 unfold appendGsP at *
 split at h
 ·split at h
  ·split at h
   ·split at h
    ·exact ⟨h.1, hk _ _ h.2⟩
    ·exact h.elim
   ·exact h.elim
  ·exact h.elim
 ·exact h.elim
theorem appendFl_out {P t tx c zs x H K} (h : appendFl P t tx c zs x H K) : ∃ r H', appendFl P t tx c zs x H (fun r' H'' => r' = r ∧ H'' = H') ∧ K r H' := by
 unfold appendFl at *
 split at h
 ·split at h
  ·split at h
   ·split at h
    ·exact ⟨_, _, ⟨h.1, rfl, rfl⟩, h.2⟩
    ·exact h.elim
   ·exact h.elim
  ·exact h.elim
 ·exact h.elim
theorem appendFl_mono {P t tx c zs x H} {K K' : SV → List AO → Prop} (hk : ∀ r H, K r H → K' r H) (h : appendFl P t tx c zs x H K) : appendFl P t tx c zs x H K' := by
 unfold appendFl at *
 split at h
 ·split at h
  ·split at h
   ·split at h
    ·exact ⟨h.1, hk _ _ h.2⟩
    ·exact h.elim
   ·exact h.elim
  ·exact h.elim
 ·exact h.elim
theorem appendVec_out {P t tx x H K} (h : appendVec P t tx x H K) : ∃ r H', appendVec P t tx x H (fun r' H'' => r' = r ∧ H'' = H') ∧ K r H' := by
 unfold appendVec at *
 split at h
 ·split at h
  ·split at h
   ·split at h
    ·obtain ⟨h1, i, k, y, h2, h3, h4⟩ := h
     exact ⟨_, _, ⟨h1, i, k, y, h2, h3, rfl, rfl⟩, h4⟩
    ·exact h.elim
   ·exact h.elim
  ·exact h.elim
 ·exact h.elim
theorem appendVec_mono {P t tx x H} {K K' : SV → List AO → Prop} (hk : ∀ r H, K r H → K' r H) (h : appendVec P t tx x H K) : appendVec P t tx x H K' := by
 unfold appendVec at *
 split at h
 ·split at h
  ·split at h
   ·split at h
    ·obtain ⟨h1, i, k, y, h2, h3, h4⟩ := h
     exact ⟨h1, i, k, y, h2, h3, hk _ _ h4⟩
    ·exact h.elim
   ·exact h.elim
  ·exact h.elim
 ·exact h.elim
theorem appendG0_out {P t tx x H K} (h : appendG0 P t tx x H K) : ∃ r H', appendG0 P t tx x H (fun r' H'' => r' = r ∧ H'' = H') ∧ K r H' := by
 unfold appendG0 at *
 split at h
 ·split at h
  ·split at h
   ·split at h
    ·exact ⟨_, _, ⟨rfl, rfl⟩, h⟩
    ·exact h.elim
   ·exact h.elim
  ·exact h.elim
 ·exact h.elim
theorem appendG0_mono {P t tx x H} {K K' : SV → List AO → Prop} (hk : ∀ r H, K r H → K' r H) (h : appendG0 P t tx x H K) : appendG0 P t tx x H K' := by
 unfold appendG0 at *
 split at h
 ·split at h
  ·split at h
   ·split at h
    ·exact hk _ _ h
    ·exact h.elim
   ·exact h.elim
  ·exact h.elim
 ·exact h.elim
theorem appendGs_out {P t tx id ver len x H K} (h : appendGs P t tx id ver len x H K) : ∃ r H', appendGs P t tx id ver len x H (fun r' H'' => r' = r ∧ H'' = H') ∧ K r H' := by
 unfold appendGs at *
 split at h
 ·split at h
  ·split at h
   ·split at h
    ·exact ⟨_, _, ⟨h.1, h.2.1, rfl, rfl⟩, h.2.2⟩
    ·exact h.elim
   ·exact h.elim
  ·exact h.elim
 ·exact h.elim
theorem appendGs_mono {P t tx id ver len x H} {K K' : SV → List AO → Prop} (hk : ∀ r H, K r H → K' r H) (h : appendGs P t tx id ver len x H K) : appendGs P t tx id ver len x H K' := by
 unfold appendGs at *
 split at h
 ·split at h
  ·split at h
   ·split at h
    ·exact ⟨h.1, h.2.1, hk _ _ h.2.2⟩
    ·exact h.elim
   ·exact h.elim
  ·exact h.elim
 ·exact h.elim
theorem loadGe_out {P t id ver j l H K} (h : loadGe P t id ver j l H K) : ∃ r H', loadGe P t id ver j l H (fun r' H'' => r' = r ∧ H'' = H') ∧ K r H' := by
 unfold loadGe at *
 split at h
 ·obtain ⟨hv, h⟩ := h
  rcases h with ⟨h1, h⟩ | ⟨h1, h⟩
  ·split at h
   ·exact ⟨_, _, ⟨hv, .inl ⟨h1, rfl, rfl⟩⟩, h⟩
   ·exact h.elim
  ·split at h
   ·exact ⟨_, _, ⟨hv, .inr ⟨h1, rfl, rfl⟩⟩, h⟩
   ·exact h.elim
 ·exact h.elim
theorem loadGe_mono {P t id ver j l H} {K K' : SV → List AO → Prop} (hk : ∀ r H, K r H → K' r H) (h : loadGe P t id ver j l H K) : loadGe P t id ver j l H K' := by
 unfold loadGe at *
 split at h
 ·obtain ⟨hv, h⟩ := h
  refine ⟨hv, ?_⟩
  rcases h with ⟨h1, h⟩ | ⟨h1, h⟩
  ·split at h
   ·exact .inl ⟨h1, hk _ _ h⟩
   ·exact h.elim
  ·split at h
   ·exact .inr ⟨h1, hk _ _ h⟩
   ·exact h.elim
 ·exact h.elim
theorem storeGe_out {P t id ver j l x H K} (h : storeGe P t id ver j l x H K) : ∃ r H', storeGe P t id ver j l x H (fun r' H'' => r' = r ∧ H'' = H') ∧ K r H' := by
 unfold storeGe at *
 split at h
 ·obtain ⟨hv, h⟩ := h
  rcases h with ⟨h1, h⟩ | ⟨h1, h⟩
  ·split at h
   ·split at h
    ·split at h
     ·exact ⟨_, _, ⟨hv, .inl ⟨h1, rfl, rfl⟩⟩, h⟩
     ·exact h.elim
    ·exact h.elim
   ·exact h.elim
  ·split at h
   ·exact ⟨_, _, ⟨hv, .inr ⟨h1, rfl, rfl⟩⟩, h⟩
   ·exact h.elim
 ·exact h.elim
theorem storeGe_mono {P t id ver j l x H} {K K' : SV → List AO → Prop} (hk : ∀ r H, K r H → K' r H) (h : storeGe P t id ver j l x H K) : storeGe P t id ver j l x H K' := by
 unfold storeGe at *
 split at h
 ·obtain ⟨hv, h⟩ := h
  refine ⟨hv, ?_⟩
  rcases h with ⟨h1, h⟩ | ⟨h1, h⟩
  ·split at h
   ·split at h
    ·split at h
     ·exact .inl ⟨h1, hk _ _ h⟩
     ·exact h.elim
    ·exact h.elim
   ·exact h.elim
  ·split at h
   ·exact .inr ⟨h1, hk _ _ h⟩
   ·exact h.elim
 ·exact h.elim
theorem loadVe_out {P t id j l H K} (h : loadVe P t id j l H K) : ∃ r H', loadVe P t id j l H (fun r' H'' => r' = r ∧ H'' = H') ∧ K r H' := by
 unfold loadVe at *
 split at h
 ·rcases h with ⟨h1, h⟩ | ⟨h1, h⟩
  ·split at h
   ·exact ⟨_, _, .inl ⟨h1, rfl, rfl⟩, h⟩
   ·exact h.elim
  ·split at h
   ·exact ⟨_, _, .inr ⟨h1, rfl, rfl⟩, h⟩
   ·exact h.elim
 ·exact h.elim
theorem loadVe_mono {P t id j l H} {K K' : SV → List AO → Prop} (hk : ∀ r H, K r H → K' r H) (h : loadVe P t id j l H K) : loadVe P t id j l H K' := by
 unfold loadVe at *
 split at h
 ·rcases h with ⟨h1, h⟩ | ⟨h1, h⟩
  ·split at h
   ·exact .inl ⟨h1, hk _ _ h⟩
   ·exact h.elim
  ·split at h
   ·exact .inr ⟨h1, hk _ _ h⟩
   ·exact h.elim
 ·exact h.elim
theorem storeVe_out {P t id j l x H K} (h : storeVe P t id j l x H K) : ∃ r H', storeVe P t id j l x H (fun r' H'' => r' = r ∧ H'' = H') ∧ K r H' := by
 unfold storeVe at *
 split at h
 ·rcases h with ⟨h1, h⟩ | ⟨h1, h⟩
  ·split at h
   ·split at h
    ·split at h
     ·exact ⟨_, _, .inl ⟨h1, rfl, rfl⟩, h⟩
     ·exact h.elim
    ·exact h.elim
   ·exact h.elim
  ·split at h
   ·exact ⟨_, _, .inr ⟨h1, rfl, rfl⟩, h⟩
   ·exact h.elim
 ·exact h.elim
theorem storeVe_mono {P t id j l x H} {K K' : SV → List AO → Prop} (hk : ∀ r H, K r H → K' r H) (h : storeVe P t id j l x H K) : storeVe P t id j l x H K' := by
 unfold storeVe at *
 split at h
 ·rcases h with ⟨h1, h⟩ | ⟨h1, h⟩
  ·split at h
   ·split at h
    ·split at h
     ·exact .inl ⟨h1, hk _ _ h⟩
     ·exact h.elim
    ·exact h.elim
   ·exact h.elim
  ·split at h
   ·exact .inr ⟨h1, hk _ _ h⟩
   ·exact h.elim
 ·exact h.elim
theorem makeSl_out {P t l c H K} (h : makeSl P t l c H K) : ∃ r H', makeSl P t l c H (fun r' H'' => r' = r ∧ H'' = H') ∧ K r H' := by
 unfold makeSl at *
 split at h
 ·split at h
  ·split at h
   ·exact ⟨_, _, ⟨h.1, rfl, rfl⟩, h.2⟩
   ·exact h.elim
  ·exact h.elim
 ·exact h.elim
theorem makeSl_mono {P t l c H} {K K' : SV → List AO → Prop} (hk : ∀ r H, K r H → K' r H) (h : makeSl P t l c H K) : makeSl P t l c H K' := by
 unfold makeSl at *
 split at h
 ·split at h
  ·split at h
   ·exact ⟨h.1, hk _ _ h.2⟩
   ·exact h.elim
  ·exact h.elim
 ·exact h.elim
theorem heapOp_out {M ev H op K} (h : heapOp M ev H op K) : ∃ r H', heapOp M ev H op (fun r' H'' => r' = r ∧ H'' = H') ∧ K r H' := by
 unfold heapOp at *
 split at h
 ·split at h
  ·exact makeMapA_out h
  ·exact h.elim
 ·exact makeSl_out h
 ·split at h
  ·split at h
   ·exact heapOp0_out h
   ·exact allocArr_out h
  ·exact heapOp0_out h
 ·split at h
  ·exact sliceArr_out h
  ·exact h.elim
 ·exact mapSetA_out h
 ·exact mapSetA_out h
 ·split at h
  ·exact storeEp_out h
  ·exact storeVe_out h
  ·exact storeGe_out h
  ·exact heapOp0_out h
 ·split at h
  ·exact loadVe_out h
  ·exact loadGe_out h
  ·exact h.elim
 ·obtain ⟨ps, H1, h1, h2⟩ := freezeK_out h
  obtain ⟨r, H', h3, h4⟩ := buildS_out h2
  exact ⟨r, H', freezeK_mono (fun r' H'' hh => by rw [hh.1, hh.2]; exact h3) h1, h4⟩
 ·split at h
  ·split at h
   ·split at h
    ·exact appendSl_out h
    ·split at h
     ·exact appendGs_out h
     ·exact appendGsV_out h
     ·exact appendGsP_out h
    ·unfold appendFl0 at *
     split at h
     ·rcases h with (h | h) | h
      ·obtain ⟨r, H', h1, h2⟩ := heapOp0_out h
       exact ⟨r, H', .inl (.inl h1), h2⟩
      ·obtain ⟨r, H', h1, h2⟩ := appendFl_out h
       exact ⟨r, H', .inl (.inr h1), h2⟩
      ·obtain ⟨r, H', h1, h2⟩ := appendFe_out h
       exact ⟨r, H', .inr h1, h2⟩
     ·exact heapOp0_out h
    ·split at h
     ·split at h
      ·rcases h with h | h
       ·obtain ⟨r, H', h1, h2⟩ := heapOp0_out h
        exact ⟨r, H', .inl h1, h2⟩
       ·obtain ⟨r, H', h1, h2⟩ := appendG0_out h
        exact ⟨r, H', .inr h1, h2⟩
      split at h
      ·exact appendGv0_out h
      ·rcases h with (h | h) | h
       ·obtain ⟨r, H', h1, h2⟩ := heapOp0_out h
        exact ⟨r, H', .inl (.inl h1), h2⟩
       ·obtain ⟨r, H', h1, h2⟩ := appendVec_out h
        exact ⟨r, H', .inl (.inr h1), h2⟩
       ·obtain ⟨r, H', h1, h2⟩ := appendNew_out h
        exact ⟨r, H', .inr h1, h2⟩
     ·split at h
      ·rcases h with h | h
       ·obtain ⟨r, H', h1, h2⟩ := heapOp0_out h
        exact ⟨r, H', .inl h1, h2⟩
       ·obtain ⟨r, H', h1, h2⟩ := appendNew_out h
        exact ⟨r, H', .inr h1, h2⟩
      ·exact heapOp0_out h
    ·exact heapOp0_out h
   ·exact h.elim
  ·exact h.elim
 ·exact heapOp0_out h
theorem callA_out {M f args H K} (h : callA M f args H K) : ∃ r H', callA M f args H (fun r' H'' => r' = r ∧ H'' = H') ∧ K r H' := by
 unfold callA at *
 simp only [avsK_eq, gatherK_eq, heapK_eq] at *
 split at h
 ·split at h
  ·exact ⟨_, _, andO_iff.2 ⟨(andO_iff.1 h).1, rfl, rfl⟩, (andO_iff.1 h).2⟩
  ·split at h
   ·exact ⟨_, _, andO_iff.2 ⟨(andO_iff.1 h).1, rfl, rfl⟩, (andO_iff.1 h).2⟩
   ·exact h.elim
 ·exact h.elim
theorem heapAny_out {M ev H op K} (h : heapAny M ev H op K) : ∃ r H', heapAny M ev H op (fun r' H'' => r' = r ∧ H'' = H') ∧ K r H' := by
 unfold heapAny at *
 split at h
 ·split at h
  ·exact callA_out h
  ·exact heapOp_out h
 ·exact heapOp_out h
theorem boxA_mono {P t x H} {K K' : SV → List AO → Prop} (hk : ∀ r H, K r H → K' r H) (h : boxA P t x H K) : boxA P t x H K' := by
 unfold boxA at *
 split at h
 ·exact hk _ _ h
 ·exact h.elim
theorem storeA_mono {P t a x H} {K K' : SV → List AO → Prop} (hk : ∀ r H, K r H → K' r H) (h : storeA P t a x H K) : storeA P t a x H K' := by
 unfold storeA at *
 split at h
 ·rename_i id off v n _
  cases hid : H[id]? with
  | none => rw [hid] at h; exact h.elim
  | some o =>
   rw [hid] at h
   cases o with
   | row cs =>
    simp only at h ⊢
    split at h
    ·exact hk _ _ h
    ·exact h.elim
   | _ => exact h.elim
 ·exact h.elim
theorem buildSliceA_mono {P t n l H} {K K' : SV → List AO → Prop} (hk : ∀ r H, K r H → K' r H) (h : buildSliceA P t n l H K) : buildSliceA P t n l H K' := by
 unfold buildSliceA at *
 split at h
 ·split at h
  ·split at h
   ·split at h
    ·split at h
     ·split at h
      ·exact hk _ _ h
      ·exact h.elim
     ·exact h.elim
    ·exact h.elim
   ·exact h.elim
  ·exact h.elim
 ·exact h.elim
theorem appendA_mono {P t tx s x H} {K K' : SV → List AO → Prop} (hk : ∀ r H, K r H → K' r H) (h : appendA P t tx s x H K) : appendA P t tx s x H K' := by
 unfold appendA at *
 split at h
 ·split at h
  ·split at h
   ·split at h
    ·rename_i id c' zs
     cases hid : H[id]? with
     | none => rw [hid] at h; exact h.elim
     | some o =>
      rw [hid] at h
      cases o with
      | tok e' c'' m zf =>
       simp only at h ⊢
       split at h
       ·split at h
        ·exact ⟨h.1, h.2.1, hk _ _ h.2.2⟩
        ·exact h.elim
       ·exact h.elim
      | _ => exact h.elim
    ·split at h
     ·exact ⟨h.1, h.2.1, hk _ _ h.2.2⟩
     ·exact h.elim
    ·split at h
     ·exact ⟨h.1, hk _ _ h.2⟩
     ·exact h.elim
    ·exact h.elim
   ·exact h.elim
  ·exact h.elim
 ·exact h.elim
theorem heapOp0_mono {M ev H op} {K K' : SV → List AO → Prop} (hk : ∀ r H, K r H → K' r H) (h : heapOp0 M ev H op K) : heapOp0 M ev H op K' := by
 cases op with
 | alloc t =>
  simp only [heapOp0] at *
  split at h
  ·exact boxA_mono hk h
  ·exact h.elim
 | box t x => exact boxA_mono hk h
 | store t a x => exact storeA_mono hk h
 | buildSlice t n l => exact buildSliceA_mono hk h
 | convert s d x =>
  simp only [heapOp0] at *
  split at h
  ·split at h
   ·exact ⟨h.1, hk _ _ h.2⟩
   ·exact h.elim
  ·exact h.elim
 | call c =>
  simp only [heapOp0] at *
  split at h
  ·split at h
   ·exact appendA_mono hk h
   ·exact h.elim
  ·exact h.elim
 | _ => exact h.elim
theorem makeMapA_mono {P t H} {K K' : SV → List AO → Prop} (hk : ∀ r H, K r H → K' r H) (h : makeMapA P t H K) : makeMapA P t H K' := by
 unfold makeMapA at *
 split at h
 ·split at h
  ·exact hk _ _ h
  ·exact h.elim
 ·exact h.elim
theorem mapSetA_mono {P t m k x H} {K K' : SV → List AO → Prop} (hk : ∀ r H, K r H → K' r H) (h : mapSetA P t m k x H K) : mapSetA P t m k x H K' := by
 unfold mapSetA at *
 split at h
 ·split at h
  ·split at h
   ·exact andO_iff.2 ⟨(andO_iff.1 h).1, hk _ _ (andO_iff.1 h).2⟩
   ·exact h.elim
  ·exact h.elim
 ·exact h.elim
theorem storeEp_mono {P t id c ver i k x H} {K K' : SV → List AO → Prop} (hk : ∀ r H, K r H → K' r H) (h : storeEp P t id c ver i k x H K) : storeEp P t id c ver i k x H K' := by
 unfold storeEp at *
 split at h
 ·split at h
  ·split at h
   ·split at h
    ·exact ⟨h.1, hk _ _ h.2⟩
    ·exact h.elim
   ·exact h.elim
  ·exact h.elim
 ·exact h.elim
theorem appendSl_mono {P t tx id c ver len x H} {K K' : SV → List AO → Prop} (hk : ∀ r H, K r H → K' r H) (h : appendSl P t tx id c ver len x H K) : appendSl P t tx id c ver len x H K' := by
 unfold appendSl at *
 split at h
 ·split at h
  ·split at h
   ·split at h
    ·split at h
     ·split at h
      ·exact ⟨h.1, h.2.1, h.2.2.1, hk _ _ h.2.2.2⟩
      ·exact h.elim
     ·exact h.elim
    ·exact h.elim
   ·exact h.elim
  ·exact h.elim
 ·exact h.elim
theorem allocArr_mono {P t n e H} {K K' : SV → List AO → Prop} (hk : ∀ r H, K r H → K' r H) (h : allocArr P t n e H K) : allocArr P t n e H K' := by
 unfold allocArr at *
 split at h
 ·split at h
  ·split at h
   ·exact hk _ _ h
   ·exact h.elim
  ·exact h.elim
 ·exact h.elim
theorem sliceArr_mono {P t x lo hi H} {K K' : SV → List AO → Prop} (hk : ∀ r H, K r H → K' r H) (h : sliceArr P t x lo hi H K) : sliceArr P t x lo hi H K' := by
 unfold sliceArr at *
 split at h
 ·split at h
  ·split at h
   ·exact ⟨h.1, hk _ _ h.2⟩
   ·exact h.elim
  ·exact h.elim
 ·exact h.elim
theorem heapOp_mono {M ev H op} {K K' : SV → List AO → Prop} (hk : ∀ r H, K r H → K' r H) (h : heapOp M ev H op K) : heapOp M ev H op K' := by
 unfold heapOp at *
 split at h
 ·split at h
  ·exact makeMapA_mono hk h
  ·exact h.elim
 ·exact makeSl_mono hk h
 ·split at h
  ·split at h
   ·exact heapOp0_mono hk h
   ·exact allocArr_mono hk h
  ·exact heapOp0_mono hk h
 ·split at h
  ·exact sliceArr_mono hk h
  ·exact h.elim
 ·exact mapSetA_mono hk h
 ·exact mapSetA_mono hk h
 ·split at h
  ·exact storeEp_mono hk h
  ·exact storeVe_mono hk h
  ·exact storeGe_mono hk h
  ·exact heapOp0_mono hk h
 ·split at h
  ·exact loadVe_mono hk h
  ·exact loadGe_mono hk h
  ·exact h.elim
 ·exact freezeK_mono (fun r H h => buildS_mono hk h) h
 ·split at h
  ·split at h
   ·split at h
    ·exact appendSl_mono hk h
    ·split at h
     ·exact appendGs_mono hk h
     ·exact appendGsV_mono hk h
     ·exact appendGsP_mono hk h
    ·unfold appendFl0 at *
     split at h
     ·exact h.imp (Or.imp (heapOp0_mono hk) (appendFl_mono hk)) (appendFe_mono hk)
     ·exact heapOp0_mono hk h
    ·split at h
     ·split at h
      ·exact h.imp (heapOp0_mono hk) (appendG0_mono hk)
      split at h
      ·exact appendGv0_mono hk h
      ·exact h.imp (Or.imp (heapOp0_mono hk) (appendVec_mono hk)) (appendNew_mono hk)
     ·split at h
      ·exact h.imp (heapOp0_mono hk) (appendNew_mono hk)
      ·exact heapOp0_mono hk h
    ·exact heapOp0_mono hk h
   ·exact h.elim
  ·exact h.elim
 ·exact heapOp0_mono hk h
theorem callA_mono {M f args H} {K K' : SV → List AO → Prop} (hk : ∀ r H, K r H → K' r H) (h : callA M f args H K) : callA M f args H K' := by
 unfold callA at *
 simp only [avsK_eq, gatherK_eq, heapK_eq] at *
 split at h
 ·split at h
  ·exact andO_iff.2 ⟨(andO_iff.1 h).1, hk _ _ (andO_iff.1 h).2⟩
  ·split at h
   ·exact andO_iff.2 ⟨(andO_iff.1 h).1, hk _ _ (andO_iff.1 h).2⟩
   ·exact h.elim
 ·exact h.elim
theorem heapAny_mono {M ev H op} {K K' : SV → List AO → Prop} (hk : ∀ r H, K r H → K' r H) (h : heapAny M ev H op K) : heapAny M ev H op K' := by
 unfold heapAny at *
 split at h
 ·split at h
  ·exact callA_mono hk h
  ·exact heapOp_mono hk h
 ·exact heapOp_mono hk h
def stepD (M : Mach) (n : Nat) (ops : List Oper) (i : Nat) (e : Env) (H : List AO) (o : Oper) (K : XV → List AO → Nat → Prop) : Prop :=
 match dstOk n o.dst, condOf i ops e o.guard with
 | true, some none => match pureOpD M (fun x => (evalX e x).strip) H o.op with
  | some (p, r) => andO (both (oblOp ops o.guard e o.op) p) (K (.s r) H (flagD M (fun x => (evalX e x).strip) H o.op))
  | none => andO (needs o.guard e o.op.operands.toList) (heapAny M (fun x => (evalX e x).strip) H o.op fun r H' => K (.s r) H' 2)
 | true, some (some c) => match pureOpD M (fun x => (evalX e x).strip) H o.op with
  | some (p, r) => andO (impO c (both (oblOp ops o.guard e o.op) p)) (K (match o.guard with | some k => .g k c r | none => .s .none) H (flagD M (fun x => (evalX e x).strip) H o.op))
  | none => cond c (andO (needs o.guard e o.op.operands.toList) (heapAny M (fun x => (evalX e x).strip) H o.op fun r H' => K (.s r) H' 2)) (K (match o.guard with | some k => .g k c (dummyOf M.P o.type) | none => .s .none) H 2)
 | _, _ => False
theorem stepD_out {M n ops i e H o} {K : XV → List AO → Nat → Prop} (h : stepD M n ops i e H o K) : ∃ x H' f, stepD M n ops i e H o (fun x' H'' f' => x' = x ∧ H'' = H' ∧ f' = f) ∧ K x H' f := by
 unfold stepD at *
 split at h
 ·split at h
  ·exact ⟨_, _, _, andO_iff.2 ⟨(andO_iff.1 h).1, rfl, rfl, rfl⟩, (andO_iff.1 h).2⟩
  ·obtain ⟨r, H', h1, h2⟩ := heapAny_out (andO_iff.1 h).2
   exact ⟨_, _, _, andO_iff.2 ⟨(andO_iff.1 h).1, heapAny_mono (fun r' H'' hh => by obtain ⟨rfl, rfl⟩ := hh; exact ⟨rfl, rfl, rfl⟩) h1⟩, h2⟩
 ·rename_i c hd hc
  split at h
  ·exact ⟨_, _, _, andO_iff.2 ⟨(andO_iff.1 h).1, rfl, rfl, rfl⟩, (andO_iff.1 h).2⟩
  ·cases hcb : c with
   | true =>
    rw [hcb] at h
    obtain ⟨r, H', h1, h2⟩ := heapAny_out (andO_iff.1 h).2
    exact ⟨_, _, _, andO_iff.2 ⟨(andO_iff.1 h).1, heapAny_mono (fun r' H'' hh => by obtain ⟨rfl, rfl⟩ := hh; exact ⟨rfl, rfl, rfl⟩) h1⟩, h2⟩
   | false =>
    rw [hcb] at h
    exact ⟨_, _, _, ⟨rfl, rfl, rfl⟩, h⟩
 ·exact h.elim
theorem stepD_mono {M n ops i e H o} {K K' : XV → List AO → Nat → Prop} (hk : ∀ x H f, K x H f → K' x H f) (h : stepD M n ops i e H o K) : stepD M n ops i e H o K' := by
 unfold stepD at *
 split at h
 ·split at h
  ·exact andO_iff.2 ⟨(andO_iff.1 h).1, hk _ _ _ (andO_iff.1 h).2⟩
  ·exact andO_iff.2 ⟨(andO_iff.1 h).1, heapAny_mono (fun r H h => hk _ _ _ h) (andO_iff.1 h).2⟩
 ·rename_i c hd hc
  split at h
  ·exact andO_iff.2 ⟨(andO_iff.1 h).1, hk _ _ _ (andO_iff.1 h).2⟩
  ·cases hcb : c with
   | true =>
    rw [hcb] at h
    exact andO_iff.2 ⟨(andO_iff.1 h).1, heapAny_mono (fun r H h => hk _ _ _ h) (andO_iff.1 h).2⟩
   | false =>
    rw [hcb] at h
    exact hk _ _ _ h
 ·exact h.elim
def reads (ops : List Oper) (o : Oper) : List Nat :=
 (o.op.operands.toList.filterMap fun | .tmp t => some t | _ => none) ++
 (match o.guard with
  | some (g, _) => match ops[g]? with
   | some og => match og.dst with | some d => [d] | none => []
   | none => []
  | none => [])
theorem reads_eval {ops : List Oper} {o : Oper} {e e' : Env} (h : ∀ t ∈ reads ops o, e.get t = e'.get t) {x : Operand} (hx : x ∈ o.op.operands.toList) : evalX e x = evalX e' x := by
 cases x with
 | tmp t => exact h t (List.mem_append_left _ (List.mem_filterMap.2 ⟨.tmp t, hx, rfl⟩))
 | _ => rfl
theorem reads_cond {ops : List Oper} {o : Oper} {e e' : Env} (h : ∀ t ∈ reads ops o, e.get t = e'.get t) (i : Nat) : condOf i ops e o.guard = condOf i ops e' o.guard := by
 cases hg : o.guard with
 | none => rfl
 | some k =>
  obtain ⟨j, want⟩ := k
  simp only [condOf]
  split
  ·rename_i og _ hj
   cases hd : og.dst with
   | none => rfl
   | some d =>
    have : e.get d = e'.get d := h d (List.mem_append_right _ (by simp [hg, hj, hd]))
    simp only [this]
  ·rfl
theorem needs_congr {gd : Option (Nat × Bool)} {e e' : Env} : ∀ {l : List Operand}, (∀ x ∈ l, evalX e x = evalX e' x) → needs gd e l = needs gd e' l := by
 intro l
 induction l with
 | nil => intro _; rfl
 | cons x l ih =>
  intro h
  simp only [needs, needX, h x (by simp), ih fun y hy => h y (by simp [hy])]
end Go.Ab
