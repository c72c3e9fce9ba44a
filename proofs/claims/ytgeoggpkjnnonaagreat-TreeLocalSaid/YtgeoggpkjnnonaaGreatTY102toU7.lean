/- A part of a valid tree is valid, and its nodes have the paths that they had. -/
import Derived.Test.YtgeoggpkjnnonaaGreatTY94toY101
import Derived.Test.YtgeoggpkjnnonaaGreatTU5toU6
namespace Go.Ab
open Go.Proofs
set_option linter.unusedSectionVars false
set_option maxRecDepth 100000
variable [Base]

/-- Node i of 'ys' is node 'g i' of 'ns', and so are the nodes above. -/
structure Emb (ns ys : List Nd) (g : Nat → Nat) : Prop where
  pos : 0 < ys.length
  len : ys.length ≤ 120
  zero : g 0 = 0
  mono : ∀ i j, i < j → g i < g j
  lt : ∀ i, i < ys.length → g i < ns.length
  root : (ndAt ys 0).1 = -1
  rest : ∀ i, i < ys.length → (ndAt ys i).2 = (ndAt ns (g i)).2
  par : ∀ i, 0 < i → i < ys.length → ∃ p : Nat, (ndAt ys i).1 = (p : Int) ∧ p < i ∧ g p = paN ns (g i)
  flw : ∀ i, i + 1 < ys.length → paN ns (g (i + 1)) = g i ∨ ∃ t, 0 < upN ns t (g i) ∧ paN ns (upN ns t (g i)) = paN ns (g (i + 1)) ∧ bLe (ndAt ns (upN ns t (g i))).2.1 (ndAt ns (g (i + 1))).2.1 = true
section
variable {ns ys : List Nd} {g : Nat → Nat} (hv : Vl ns) (he : Emb ns ys g)
include he
theorem Emb.inj {i j : Nat} (h : g i = g j) : i = j := by
  rcases Nat.lt_trichotomy i j with h1 | h1 | h1
  · have := he.mono i j h1; omega
  · exact h1
  · have := he.mono j i h1; omega
theorem Emb.gpos {i : Nat} (h : 0 < i) : 0 < g i := by have := he.mono 0 i h; omega
include hv
theorem Emb.frm : FrmT ys := by
  constructor
  · unfold limV
    rw [decide_eq_false (by have := he.pos; omega), decide_eq_true he.len]
    have : ys.all ndLim = true := by
      rw [List.all_eq_true]
      intro n hn
      obtain ⟨i, hi, rfl⟩ := nd_mem hn
      have hl := hv.f.lim
      unfold limV at hl
      simp only [Bool.and_eq_true, List.all_eq_true] at hl
      have hg := he.lt i hi
      have h1 := hl.2 (ndAt ns (g i)) (by
        have : ndAt ns (g i) = ns[g i] := by unfold ndAt; simp [hg]
        rw [this]
        exact List.getElem_mem hg)
      unfold ndLim at h1 ⊢
      rw [he.rest i hi]
      exact h1
    rw [this]
    rfl
  · refine frm_of _ _ fun i hi => ?_
    rw [Nat.zero_add, ← nd_at' hi]
    have hps := frm_ps hv.f.frm (he.lt i hi)
    rcases Nat.eq_zero_or_pos i with h0 | h0
    · subst h0
      have h1 := frm_nd hv.f.frm hv.f.len.1
      have hr := he.rest 0 he.pos
      rw [he.zero] at hr hps
      unfold ndFrm at h1 ⊢
      rw [hr, he.root]
      obtain ⟨h2, h3⟩ := Bool.and_eq_true_iff.1 h1
      rw [h3]
      obtain ⟨h4, _⟩ := Bool.and_eq_true_iff.1 h2
      simp at h4
      simp [h4.2]
    · obtain ⟨p, hp, hpi, _⟩ := he.par i h0 hi
      have hn := frm_nam hv.f.frm (he.gpos h0) (he.lt i hi)
      unfold ndFrm
      rw [he.rest i hi, hp, hn, hps, decide_eq_false (show ¬ ((i : Nat) : Int) = 0 by omega), decide_eq_false (show ¬ ((p : Nat) : Int) < 0 by omega), decide_eq_false (show ¬ ((i : Nat) : Int) ≤ (p : Nat) by omega)]
      simp
theorem Emb.pa {i : Nat} (hi : i < ys.length) : g (paN ys i) = paN ns (g i) := by
  rcases Nat.eq_zero_or_pos i with h0 | h0
  · subst h0
    have h1 := par_le (he.frm hv) 0
    have h2 := par_le hv.f 0
    rw [show paN ys 0 = 0 by omega, he.zero]
    omega
  · obtain ⟨p, hp, _, hg⟩ := he.par i h0 hi
    rw [← hg]
    congr 1
    unfold paN paI
    rw [hp]
    rfl
theorem Emb.up : ∀ t i, i < ys.length → g (upN ys t i) = upN ns t (g i) := by
  intro t
  induction t with
  | zero => intro i _; rfl
  | succ t ih =>
    intro i hi
    have h1 := par_le (he.frm hv) i
    show g (upN ys t (paN ys i)) = upN ns t (paN ns (g i))
    rw [ih _ (by omega), he.pa hv hi]
theorem Emb.vl : Vl ys := by
  have hf := he.frm hv
  refine ⟨hf, ?_, ?_, ?_, ?_⟩
  · intro a b a0 a1 b0 b1 hp hn
    refine he.inj (hv.d _ _ (he.gpos a0) (he.lt a a1) (he.gpos b0) (he.lt b b1) ?_ ?_)
    · rw [← he.pa hv a1, ← he.pa hv b1, hp]
    · rw [← he.rest a a1, ← he.rest b b1]; exact hn
  · intro i hi
    rw [he.rest i hi]
    exact hv.asc _ (he.lt i hi)
  · intro i hi
    obtain ⟨h3, h4⟩ := dp_up hv.f (g i + 1) (g i) (Nat.lt_succ_self _) (he.lt i hi)
    rw [dp_of hf (d := dpV ns (g i)) hi (he.inj (by rw [he.up hv _ _ hi, he.zero]; exact h3)) fun t ht => by
      rcases Nat.eq_zero_or_pos (upN ys t i) with h | h
      · have h5 := h4 t ht
        rw [← he.up hv _ _ hi, h, he.zero] at h5
        omega
      · exact h]
    exact hv.dep _ (he.lt i hi)
  · intro i h0 hi
    obtain ⟨i, rfl⟩ : ∃ q, i = q + 1 := ⟨i - 1, by omega⟩
    have hpe := (par_lt hf.par h0 hi).2
    unfold flwV
    rcases he.flw i hi with h | ⟨t, t1, t2, t3⟩
    · rw [← he.pa hv hi] at h
      have h5 : paN ys (i + 1) = i := he.inj h
      have h6 : (ndAt ys (i + 1)).1 = ((i + 1 : Nat) : Int) - 1 := hpe.symm.trans (by rw [h5]; exact (by omega : ((i : Nat) : Int) = ((i + 1 : Nat) : Int) - 1))
      rw [if_pos h6]
    · split
      · rfl
      · obtain ⟨c, hc⟩ : ∃ c, upN ys t i = c := ⟨_, rfl⟩
        have hci : c ≤ i := by rw [← hc]; exact up_le hf t i
        have hgc : g c = upN ns t (g i) := by rw [← hc]; exact he.up hv t i (by omega)
        rw [← hgc] at t1 t2 t3
        have hc0 : 0 < c := by
          rcases Nat.eq_zero_or_pos c with h | h
          · rw [h, he.zero] at t1; omega
          · exact h
        have hcp : paN ys c = paN ys (i + 1) := he.inj (by rw [he.pa hv (by omega), he.pa hv hi, t2])
        have hce := (par_lt hf.par hc0 (by omega)).2
        refine flw_up hf _ t (i + 1) i (by omega) (by omega) (by rw [hc]; exact hc0) (by rw [hc, ← hce, ← hpe, hcp]) fun s s1 s2 s3 => ?_
        have hsl : upN ys s i < ys.length := by
          have := up_le hf s i
          omega
        have hse := (par_lt hf.par s2 hsl).2
        have es : upN ys s i = c := up_same hf (i := paN ys c) s2 hsl hc0 (by omega) (by
          rw [s3, ← hpe, hcp.symm] at hse
          omega) rfl rfl hc
        rw [es, he.rest c (by omega), he.rest (i + 1) hi]
        exact t3
theorem Emb.pL : ∀ n i, i ≤ n → i < ys.length → Go.Ab.pL ys i = Go.Ab.pL ns (g i) := by
  have hf := he.frm hv
  intro n
  induction n with
  | zero =>
    intro i h1 _
    obtain rfl : i = 0 := by omega
    rw [he.zero]
    rfl
  | succ n ih =>
    intro i h1 hi
    rcases Nat.eq_zero_or_pos i with h0 | h0
    · subst h0
      rw [he.zero]
      rfl
    · have hpi := (par_lt hf.par h0 hi).1
      rw [pL_succ hf h0 hi, pL_succ hv.f (he.gpos h0) (he.lt i hi), ih _ (by omega) (by omega), he.pa hv hi]
      unfold nmL
      rw [he.rest i hi]
theorem Emb.path {i : Nat} (hi : i < ys.length) : pathV ys i = pathV ns (g i) := by
  refine ba_ext9 ?_
  rw [pathV_L, pathV_L]
  rcases Nat.eq_zero_or_pos i with h0 | h0
  · rw [if_pos h0, h0, he.zero]
    rfl
  · have := he.gpos h0
    rw [if_neg (by omega), if_neg (by omega)]
    exact he.pL hv i i (Nat.le_refl _) hi
end

theorem skGo_spec (p : Nat → Bool) : ∀ m i, (∀ j, i ≤ j → j < skGo p m i → p j = false) ∧ (skGo p m i < i + m → p (skGo p m i) = true) := by
  intro m
  induction m with
  | zero => intro i; exact ⟨fun j h1 h2 => by have : skGo p 0 i = i := rfl; omega, fun h => by have : skGo p 0 i = i := rfl; omega⟩
  | succ m ih =>
    intro i
    unfold skGo
    split
    · rename_i h
      exact ⟨fun j h1 h2 => by omega, fun _ => h⟩
    · rename_i h
      obtain ⟨h1, h2⟩ := ih (i + 1)
      refine ⟨fun j h3 h4 => ?_, fun h3 => h2 (by omega)⟩
      by_cases hj : j = i
      · rw [hj]; simpa using h
      · exact h1 j (by omega) h4
structure BehF (ns : List Nd) (k e : Nat) : Prop where
  gt : k < e
  le : e ≤ ns.length
  ins : ∀ j, k < j → j < e → k ≤ paN ns j
  out : e < ns.length → paN ns e < k
theorem beh_facts {ns : List Nd} (hv : Vl ns) {k : Nat} (hk : k < ns.length) : BehF ns k (behN ns (k : Int)) := by
  obtain ⟨h1, h2⟩ := skGo_spec (behB ns (k : Int)) ns.length 0
  have hle := skV_le (behB ns (k : Int)) ns.length
  have he : behN ns (k : Int) = skGo (behB ns (k : Int)) ns.length 0 := rfl
  have hle : behN ns (k : Int) ≤ ns.length := hle
  rw [← he] at h1 h2
  obtain ⟨e, hee⟩ : ∃ e, behN ns (k : Int) = e := ⟨_, rfl⟩
  rw [hee] at h1 h2 hle ⊢
  have hgt : k < e := by
    rcases Nat.lt_or_ge k e with h | h
    · exact h
    · have h3 := h2 (by omega)
      unfold behB at h3
      obtain ⟨h4, _⟩ := Bool.and_eq_true_iff.1 h3
      have h4 : ((k : Nat) : Int) < (e : Nat) := of_decide_eq_true h4
      omega
  refine ⟨hgt, hle, fun j h3 h4 => ?_, fun h3 => ?_⟩
  · have h5 := h1 j (by omega) h4
    unfold behB at h5
    rw [decide_eq_true (show ((k : Nat) : Int) < (j : Nat) by omega), Bool.true_and] at h5
    have h5 : ¬ @LT.lt Int _ (ndAt ns j).1 ((k : Nat) : Int) := of_decide_eq_false h5
    have h6 := (par_lt hv.f.par (j := j) (by omega) (by omega)).2
    omega
  · have h4 := h2 (by omega)
    unfold behB at h4
    obtain ⟨_, h5⟩ := Bool.and_eq_true_iff.1 h4
    have h5 : @LT.lt Int _ (ndAt ns e).1 ((k : Nat) : Int) := of_decide_eq_true h5
    have h6 := (par_lt hv.f.par (j := e) (by omega) h3).2
    omega
/-- What is below a node is what stands up to its end. -/
theorem in_iff {ns : List Nd} (hv : Vl ns) {k e : Nat} (hb : BehF ns k e) {j : Nat} (hj : j < ns.length) : (∃ t, upN ns t j = k) ↔ k ≤ j ∧ j < e := by
  constructor
  · rintro ⟨t, ht⟩
    have h1 : k ≤ j := by rw [← ht]; exact up_le hv.f t j
    refine ⟨h1, ?_⟩
    rcases Nat.lt_or_ge j e with h | h
    · exact h
    · exfalso
      obtain ⟨u, hu⟩ := below_all hv j hj ⟨t, ht⟩ e (by have := hb.gt; omega) h
      cases u with
      | zero =>
        have : e = k := hu
        have := hb.gt
        omega
      | succ u =>
        have hu : upN ns u (paN ns e) = k := hu
        have := up_le hv.f u (paN ns e)
        have := hb.out (by omega)
        omega
  · rintro ⟨h1, h2⟩
    have key : ∀ n j, j ≤ n → k ≤ j → j < e → ∃ t, upN ns t j = k := by
      intro n
      induction n with
      | zero => intro j a b _; exact ⟨0, by show j = k; omega⟩
      | succ n ih =>
        intro j a b c
        rcases Nat.lt_or_eq_of_le b with h | h
        · have h3 := hb.ins j h c
          have h4 := (par_lt hv.f.par (j := j) (by omega) (by have := hb.le; omega)).1
          obtain ⟨t, ht⟩ := ih (paN ns j) (by omega) h3 (by omega)
          exact ⟨t + 1, ht⟩
        · exact ⟨0, h.symm⟩
    exact key j j (Nat.le_refl _) h1 h2
def gRm (k e i : Nat) : Nat := if i < k then i else i + (e - k)
theorem rm_len {ns : List Nd} {k e : Nat} (h1 : k < e) (h2 : e ≤ ns.length) (g : Nd → Nd) : (woV (ns.map g, (k : Int), (e : Int))).length = ns.length - (e - k) := by
  unfold woV
  dsimp only
  rw [Int.toNat_natCast, Int.toNat_natCast, List.length_append, List.length_take, List.length_drop, List.length_map]
  omega
theorem rm_at {ns : List Nd} {k e : Nat} (h1 : k < e) (h2 : e ≤ ns.length) (g : Nd → Nd) {i : Nat} (hi : i < ns.length - (e - k)) : ndAt (woV (ns.map g, (k : Int), (e : Int))) i = g (ndAt ns (gRm k e i)) := by
  have hgl : gRm k e i < ns.length := by unfold gRm; split <;> omega
  have e1 : ndAt ns (gRm k e i) = ns[gRm k e i] := by unfold ndAt; simp [hgl]
  rw [e1]
  unfold woV ndAt
  dsimp only
  rw [Int.toNat_natCast, Int.toNat_natCast, List.getD_eq_getElem?_getD]
  by_cases h : i < k
  · have e2 : gRm k e i = i := if_pos h
    rw [List.getElem?_append_left (by rw [List.length_take, List.length_map]; omega), List.getElem?_take, if_pos h, List.getElem?_map, List.getElem?_eq_getElem (by omega)]
    simp only [Option.map_some, Option.getD_some]
    congr 1
    simp only [e2]
  · have e2 : gRm k e i = i + (e - k) := if_neg h
    have ht : ((ns.map g).take k).length = k := by rw [List.length_take, List.length_map]; omega
    rw [List.getElem?_append_right (by omega), ht, List.getElem?_drop, List.getElem?_map, List.getElem?_eq_getElem (by omega)]
    simp only [Option.map_some, Option.getD_some]
    congr 1
    simp only [e2]
    congr 1
    omega
theorem rm_emb {ns : List Nd} (hv : Vl ns) {k : Nat} (hk0 : 0 < k) (hk : k < ns.length) : Emb ns (rmN ns (k : Int)) (gRm k (behN ns (k : Int))) := by
  have hb := beh_facts hv hk
  obtain ⟨e, hee⟩ : ∃ e, behN ns (k : Int) = e := ⟨_, rfl⟩
  have hys : rmN ns (k : Int) = woV (ns.map (mvGo (e : Int) ((k : Int) - (e : Int))), (k : Int), (e : Int)) := by
    unfold rmN
    rw [hee]
  rw [hee] at hb ⊢
  obtain ⟨b1, b2, b3, b4⟩ := id hb
  have hlen := hv.f.len
  have hl := rm_len (ns := ns) b1 b2 (mvGo (e : Int) ((k : Int) - (e : Int)))
  have hat := fun (i : Nat) (hi : i < ns.length - (e - k)) => rm_at b1 b2 (mvGo (e : Int) ((k : Int) - (e : Int))) hi
  rw [← hys] at hl hat
  have hrest : ∀ n : Nd, (mvGo (e : Int) ((k : Int) - (e : Int)) n).2 = n.2 := by
    intro n
    unfold mvGo
    split <;> rfl
  -- a node that stays has a parent that stays
  have hstay : ∀ j, 0 < j → j < ns.length → ¬ (k ≤ j ∧ j < e) → ¬ (k ≤ paN ns j ∧ paN ns j < e) := by
    intro j j0 j1 h1 h2
    have hp := (par_lt hv.f.par j0 j1).1
    obtain ⟨t, ht⟩ := (in_iff hv hb (by omega)).2 h2
    exact h1 ((in_iff hv hb j1).1 ⟨t + 1, ht⟩)
  have hout : ∀ i, ¬ (k ≤ gRm k e i ∧ gRm k e i < e) := by
    intro i
    unfold gRm
    split <;> omega
  have hinv : ∀ j, ¬ (k ≤ j ∧ j < e) → ∃ i, gRm k e i = j ∧ (i : Int) = if (e : Int) ≤ (j : Int) then (j : Int) + ((k : Int) - (e : Int)) else (j : Int) := by
    intro j h
    by_cases h1 : j < k
    · refine ⟨j, if_pos h1, ?_⟩
      rw [if_neg (by omega)]
    · refine ⟨j - (e - k), ?_, ?_⟩
      · unfold gRm
        rw [if_neg (by omega)]
        omega
      · rw [if_pos (by omega)]
        omega
  have hgl : ∀ i, i < ns.length - (e - k) → gRm k e i < ns.length := by
    intro i hi
    unfold gRm
    split <;> omega
  have hmono : ∀ i j, i < j → gRm k e i < gRm k e j := by
    intro i j h
    unfold gRm
    split <;> split <;> omega
  refine ⟨by omega, by omega, if_pos hk0, hmono, fun i hi => hgl i (by omega), ?_, fun i hi => ?_, fun i h0 hi => ?_, fun i hi => ?_⟩
  · rw [hat 0 (by omega), show gRm k e 0 = 0 from if_pos hk0]
    have h4 := frm_nd hv.f.frm (i := 0) (by omega)
    unfold ndFrm at h4
    obtain ⟨h5, _⟩ := Bool.and_eq_true_iff.1 h4
    obtain ⟨h6, _⟩ := Bool.and_eq_true_iff.1 h5
    simp at h6
    have h7 : (ndAt ns 0).1 = -1 := h6.1
    unfold mvGo
    rw [h7, if_neg (by omega), h7]
  · rw [hat i (by omega), hrest]
  · have hil : i < ns.length - (e - k) := by omega
    have hg0 : 0 < gRm k e i := by
      have := hmono 0 i h0
      omega
    have hp := par_lt hv.f.par hg0 (hgl i hil)
    obtain ⟨p, hp1, hp2⟩ := hinv _ (hstay _ hg0 (hgl i hil) (hout i))
    refine ⟨p, ?_, ?_, hp1⟩
    · rw [hat i hil]
      unfold mvGo
      rw [← hp.2, hp2]
      split
      · rfl
      · exact hp.2.symm
    · rcases Nat.lt_or_ge p i with h | h
      · exact h
      · exfalso
        rcases Nat.lt_or_eq_of_le h with h2 | h2
        · have := hmono i p h2
          omega
        · subst h2
          omega
  · have hil : i + 1 < ns.length - (e - k) := by omega
    by_cases hik : i + 1 = k
    · -- the node behind what is gone
      have e1 : gRm k e (i + 1) = e := by unfold gRm; rw [if_neg (by omega)]; omega
      have e2 : gRm k e i = i := if_pos (by omega)
      rw [e1, e2]
      have hel : e < ns.length := by omega
      have hpe := b4 hel
      obtain ⟨m, rfl⟩ : ∃ m, e = m + 1 := ⟨e - 1, by omega⟩
      rcases vl_flw hv hel with h | ⟨t, t1, t2, t3⟩
      · omega
      · obtain ⟨c, hc⟩ : ∃ c, upN ns t m = c := ⟨_, rfl⟩
        rw [hc] at t1 t2 t3
        obtain ⟨u, hu⟩ := (in_iff hv hb (j := m) (by omega)).2 ⟨by omega, by omega⟩
        -- this one is the removed node, or above it
        have hck : ∃ s, upN ns s k = c := by
          rcases Nat.lt_or_ge u t with h | h
          · exact ⟨t - u, by rw [← hu, ← upN_add, show u + (t - u) = t by omega, hc]⟩
          · have h1 : upN ns (u - t) c = k := by rw [← hc, ← upN_add, show t + (u - t) = u by omega, hu]
            cases hd : u - t with
            | zero => rw [hd] at h1; exact ⟨0, h1.symm⟩
            | succ d =>
              exfalso
              rw [hd] at h1
              have h1 : upN ns d (paN ns c) = k := h1
              have := up_le hv.f d (paN ns c)
              omega
        obtain ⟨s, hs⟩ := hck
        have hki : k = i + 1 := by omega
        subst hki
        rcases vl_flw hv (m := i) hk with h | ⟨w, w1, w2, w3⟩
        · cases s with
          | zero =>
            have hs : i + 1 = c := hs
            subst hs
            exact .inl (by omega)
          | succ s =>
            have hs : upN ns s (paN ns (i + 1)) = c := hs
            rw [h] at hs
            exact .inr ⟨s, by rw [hs]; exact t1, by rw [hs]; exact t2, by rw [hs]; exact t3⟩
        · cases s with
          | zero =>
            have hs : i + 1 = c := hs
            subst hs
            exact .inr ⟨w, w1, by rw [w2]; exact t2, bLe_trans w3 t3⟩
          | succ s =>
            have hs : upN ns s (paN ns (i + 1)) = c := hs
            have hs2 : upN ns (w + (s + 1)) i = c := by
              rw [upN_add]
              show upN ns s (paN ns (upN ns w i)) = c
              rw [w2, hs]
            exact .inr ⟨w + (s + 1), by rw [hs2]; exact t1, by rw [hs2]; exact t2, by rw [hs2]; exact t3⟩
    · have e1 : gRm k e (i + 1) = gRm k e i + 1 := by
        unfold gRm
        split <;> split <;> omega
      rw [e1]
      exact vl_flw hv (by rw [← e1]; exact hgl _ hil)

theorem tape_nw9 (zs : List Int) : tapeOk (zs.take 500) 0 := by
  have := List.length_take_le 500 zs
  exact ⟨by decide, by decide, by omega⟩
theorem st_tok {zs : List Int} : ∀ m n ns, tapeOk zs n → tapeOk zs (stGo zs m n ns).2 := by
  intro m
  induction m with
  | zero => intro n ns h; exact h
  | succ m ih => intro n ns h; exact ih _ _ (rawN_ok9 (rawN_ok9 (rawN_ok9 h)))
theorem sl_tok {zs : List Int} : ∀ m n ns, tapeOk zs n → tapeOk zs (slGo zs m n ns).2 := by
  intro m
  induction m with
  | zero => intro n ns h; exact h
  | succ m ih => intro n ns h; exact ih _ _ (val_ok (rawN_ok9 (rawN_ok9 (rawN_ok9 h))))
theorem gr_ok {zs : List Int} {n k : Int} (h : tapeOk zs n) : tapeOk zs (grV zs n k).2 := sl_tok _ _ _ (rawN_ok9 (st_tok _ _ _ (rawN_ok9 h)))


def daNN : List AV → Option (Nd × Nd)
  | [.agg [.p (.v (.int .i64 a)), .p (.v (.string s)), .p (.l c0 ps)], .agg [.p (.v (.int .i64 b)), .p (.v (.string t)), .p (.l c1 qs)]] => match castD (e := ptC) (e' := c0) ps, castD (e := ptC) (e' := c1) qs with | some ps, some qs => some ((a, s, ps), (b, t, qs)) | _, _ => none
  | _ => none
def eaNN (a : Nd × Nd) : List AV := [.agg [.int .i64 a.1.1, .str a.1.2.1, .p (.l ptC a.1.2.2)], .agg [.int .i64 a.2.1, .str a.2.2.1, .p (.l ptC a.2.2.2)]]
def samN (a : Nd × Nd) : Bool := decide (a.1.1 = a.2.1) && decide (a.1.2.1 = a.2.2.1) && decide (@Eq (List Pt) a.1.2.2 a.2.2.2)
theorem eq_prefix {α : Type} {l m : List α} (d : α) (hl : l.length = m.length) (h : ∀ j, j < l.length → l.getD j d = m.getD j d) : l = m := by
  apply List.ext_getElem hl
  intro j h1 h2
  have := h j h1
  rw [List.getD_eq_getElem?_getD, List.getD_eq_getElem?_getD, List.getElem?_eq_getElem h1, List.getElem?_eq_getElem h2] at this
  exact this
def E6 : Table := ext E5 46 (saysG daNN eaNN fun a => (some (a.1.2.2.length ≤ 1000000000), .bool (samN a)))
theorem e6 : TSound Tryz.prog E6 := by
  refine extG e5 46 (fn := Tryz.f46) rfl rfl daNN eaNN _ (fun _ => Nat.le_of_ble_eq_true rfl) [0, 1, 2, 3, 4, 5, 26, 29, 30, 31, 43] fun a hok => ?_
  obtain ⟨⟨a, s, ps⟩, b, t, qs⟩ := a
  have hl : ps.length ≤ 1000000000 := hok
  show runF _ _ _ [] [.agg [.int .i64 a, .str s, .p (.l ptC ps)], .agg [.int .i64 b, .str t, .p (.l ptC qs)]] [] fun r H => Ends r H (.bool (samN ((a, s, ps), b, t, qs))) []
  repeat ((conv => whnf); refine ⟨by first | (unfold inI64; omega) | omega | exact ⟨by omega, by omega⟩ | (intro hg; first | (unfold inI64; omega) | omega | exact ⟨by omega, by omega⟩ | (simp [lit] at hg; unfold inI64; omega) | (simp [lit] at hg; omega) | (simp [lit] at hg; exact ⟨by omega, by omega⟩)) | (show (_ : Nat) + 1 ≤ 1000000000000; omega) | exact rfl | (unfold inI64; dsimp only; omega) | (dsimp only; omega) | (intro hg; simp [lit] at hg; first | (unfold inI64; dsimp only; omega) | (dsimp only; omega)) | decide +kernel, ?_⟩)
  conv => whnf
  refine cond_intro (fun h => ?_) (fun h => ?_)
  · have h1 : samN ((a, s, ps), b, t, qs) = false := by
      revert h
      unfold samN
      simp
      rintro ((h1 | h1) | h1) h2 h3 h4
      · exact h1 h2
      · exact h1 h3
      · exact h1 (by rw [h4])
    rw [h1]
    repeat ((conv => whnf); refine ⟨by first | (unfold inI64; omega) | omega | exact ⟨by omega, by omega⟩ | exact rfl | decide +kernel, ?_⟩)
    conv => whnf
    exact ends_eq ⟨rfl, rfl⟩
  have h : ((!decide (a = b) || !decide (s = t)) || !decide (((ps.length : Nat) : Int) = (qs.length : Nat))) = false := h
  obtain ⟨h1, h2, h3⟩ : a = b ∧ s = t ∧ ps.length = qs.length := by
    simp at h
    obtain ⟨⟨h1, h2⟩, h3⟩ := h
    exact ⟨h1, h2, by omega⟩
  subst h1
  subst h2
  have eqg : eqGood Tryz.prog 61 := ⟨by decide +kernel, by decide +kernel⟩
  conv => whnf
  refine loop_intro (σ := Nat) (fun i => [(0, XV.s .none), (1, XV.s .none), (2, XV.s (.a (.c (.ptr 0 0)))), (3, XV.s (.a (.c (.ptr 1 0)))), (4, XV.s .none), (5, XV.s .none), (26, XV.s .none), (29, XV.s (.int .i64 (ps.length : Nat))), (30, XV.s (.int .i64 (i : Nat))), (31, XV.s .none), (43, XV.s .none)])
    (fun _ => [.row [.int .i64 a, .str s, .p (.l ptC ps)], .row [.int .i64 a, .str s, .p (.l ptC qs)]]) (fun i => i ≤ ps.length ∧ ∀ j, j < i → ps.getD j ptC.dflt = qs.getD j ptC.dflt) (fun i => ps.length - i) 0 ?_ rfl ⟨Nat.zero_le _, fun j hj => absurd hj (Nat.not_lt_zero j)⟩ (fun i hi => ?_)
  · repeat (first | exact LeL.nil | refine LeL.drop ?_ | refine LeL.same ?_)
  obtain ⟨hi, hall⟩ := hi
  conv => whnf
  refine cond_intro (fun h4 => ?_) (fun h4 => ?_)
  · have h5 : i < ps.length := lt_of_dec h4
    have hin : 0 ≤ (i : Int) ∧ (i : Int) < (ps.length : Nat) := by omega
    have hin2 : 0 ≤ (i : Int) ∧ (i : Int) < (qs.length : Nat) := by omega
    repeat ((conv => whnf); refine ⟨by first | exact hin | exact hin2 | exact eqg | exact fun _ => eqg | ((conv => whnf); exact ⟨⟨rfl, rfl, rfl⟩, trivial⟩) | exact Early.one (by decide +kernel) (by (conv => whnf); exact ⟨rfl, rfl, rfl⟩) trivial | (unfold inI64; omega) | omega | exact ⟨by omega, by omega⟩ | exact rfl | decide +kernel, ?_⟩)
    conv => whnf
    refine cond_intro (fun h6 => ?_) (fun h6 => ?_)
    · have h7 : ¬ ps.getD i ptC.dflt = qs.getD i ptC.dflt := by
        have h8 : (!(decide ((ps.getD ((i : Int)).toNat ptC.dflt).1 = (qs.getD ((i : Int)).toNat ptC.dflt).1) && decide ((ps.getD ((i : Int)).toNat ptC.dflt).2 = (qs.getD ((i : Int)).toNat ptC.dflt).2))) = true := h6
        intro hx
        rw [Int.toNat_natCast, hx] at h8
        simp at h8
      have h9 : samN ((a, s, ps), a, s, qs) = false := by
        unfold samN
        simp only [decide_true, Bool.true_and]
        exact decide_eq_false fun hx => h7 (by rw [hx])
      rw [h9]
      repeat ((conv => whnf); refine ⟨by first | (unfold inI64; omega) | omega | exact ⟨by omega, by omega⟩ | exact rfl | decide +kernel, ?_⟩)
      conv => whnf
      exact ends_eq ⟨rfl, rfl⟩
    have h7 : ps.getD i ptC.dflt = qs.getD i ptC.dflt := by
      have h8 : (!(decide ((ps.getD ((i : Int)).toNat ptC.dflt).1 = (qs.getD ((i : Int)).toNat ptC.dflt).1) && decide ((ps.getD ((i : Int)).toNat ptC.dflt).2 = (qs.getD ((i : Int)).toNat ptC.dflt).2))) = false := h6
      rw [Int.toNat_natCast] at h8
      simp at h8
      exact Prod.ext h8.1 h8.2
    repeat ((conv => whnf); refine ⟨by first | (unfold inI64; omega) | omega | exact ⟨by omega, by omega⟩ | exact rfl | decide +kernel, ?_⟩)
    conv => whnf
    refine head_intro (i + 1) ?_ rfl ⟨h5, fun j hj => ?_⟩ ?_
    · repeat (first | exact LeL.nil | refine LeL.drop ?_ | refine LeL.same ?_)
    · by_cases hji : j = i
      · rw [hji]; exact h7
      · exact hall j (by omega)
    · omega
  · have hge := ge_of_dec h4
    obtain rfl : i = ps.length := by omega
    have h9 : samN ((a, s, ps), a, s, qs) = true := by
      unfold samN
      simp only [decide_true, Bool.true_and]
      exact decide_eq_true (eq_prefix _ h3 hall)
    rw [h9]
    repeat ((conv => whnf); refine ⟨by first | (unfold inI64; omega) | omega | exact ⟨by omega, by omega⟩ | exact rfl | decide +kernel, ?_⟩)
    conv => whnf
    exact ends_eq ⟨rfl, rfl⟩
end Go.Ab
namespace Go.Ab
open Go.Proofs Go.Shelf Go.RowKit Go.Lib
set_option linter.unusedSectionVars false
variable [Base]

/-- The list is part of the array again. -/
theorem fill {G : View} (hS : Sim G) {t t2 : TypeId} {c c2 : CT} {zs : List c.den} {ps : List c2.den} {i k ver : Nat} {z : c.den} (h0 : G.H[0]? = some (.vec t c zs i k (.sl 1 c2 ver ps.length))) (h1 : G.H[1]? = some (.arr t2 c2 ps ver)) (hpos : 0 < ps.length)
    (hz : dec c ((enc c (zs.getD i c.dflt)).take k ++ [.l c2 ps] ++ (enc c (zs.getD i c.dflt)).drop (k + 1)) = some (z, [])) :
    ∃ G', G'.w = G.w ∧ Ext G G' ∧ Sim G' ∧ ∀ v, RepC G (.vs 0 zs.length) v → Rep G'.I G'.w (.list c) (zs.set i z) [v] := by
  obtain ⟨G2, hw2, hx2, hs2, hH2, hf⟩ := frz hS h1 hpos
  have h02 : G2.H[0]? = some (.vec t c zs i k (.sl 1 c2 ver ps.length)) := by
    rw [hH2, List.getElem?_set, if_neg (by decide)]
    exact h0
  obtain ⟨l1, l2, v1, hheap1, _, hi1, hk1, hsl, hr1⟩ := hS.objs 0 _ h0 trivial
  obtain ⟨vs, rest, v', hheap, hno, hi, hk, _, hrows⟩ := hs2.objs 0 _ h02 trivial
  have hlt : G2.ρ 0 < G2.w.heap.size := (Array.getElem?_eq_some_iff.1 hheap).1
  have hρ2 : G2.ρ 0 = G.ρ 0 := by
    obtain ⟨o', ho', hn⟩ := hx2.objs 0 _ h0
    rw [h02] at ho'
    cases ho'
    exact hn.2.2.2
  have hvl := hrows.1
  have hiw : (i + 1) * c.width ≤ zs.length * c.width := Nat.mul_le_mul_right _ hi
  rw [Nat.add_mul, Nat.one_mul] at hiw
  have hplt : i * c.width + k < (vs ++ rest).length := by rw [List.length_append]; omega
  have hplt1 : i * c.width + k < (l1 ++ l2).length := by rw [List.length_append, hr1.1]; omega
  have hvv : v1 = v' := by
    have hh := hheap
    rw [hw2, hρ2, hheap1] at hh
    have h3 := (Obj.cells.inj (Option.some.inj hh)).1
    have h4 : ((l1 ++ l2).set (i * c.width + k) v1)[i * c.width + k]? = ((vs ++ rest).set (i * c.width + k) v')[i * c.width + k]? := congrArg (fun a : Array Value => a.toList[i * c.width + k]?) h3
    rw [List.getElem?_set_self hplt1, List.getElem?_set_self hplt] at h4
    exact Option.some.inj h4
  subst hvv
  have hlist : Rep G2.I G2.w (.list c2) ps [v1] := hf _ hsl
  have hget : zs[i]? = some (zs.getD i c.dflt) := by simp [hi]
  obtain ⟨us, hu, hj⟩ := hrows.2 i _ hget
  have hul := Rep.length _ _ _ hu
  have henc := enc_rep c _ us hu
  have hone : All2 (RepV G2.I G2.w) [.l c2 ps] [v1] := .cons hlist .nil
  have hall := ((henc.take k).append hone).append (henc.drop (k + 1))
  obtain ⟨xs, ys, e1, e2, e3⟩ := dec_rep c _ z [] _ hall hz
  cases e3
  simp only [List.append_nil] at e1
  have hsl2 : us = (vs.drop (i * c.width)).take c.width := by
    apply List.ext_getElem?
    intro m
    rcases Nat.lt_or_ge m us.length with hlt | hge
    · obtain ⟨u, hu'⟩ : ∃ u, us[m]? = some u := ⟨us[m], List.getElem?_eq_getElem hlt⟩
      rw [hu', List.getElem?_take, if_pos (by omega), List.getElem?_drop, hj m u hu']
    · rw [List.getElem?_eq_none hge, List.getElem?_eq_none (by rw [List.length_take]; omega)]
  have hnew : (vs ++ rest).set (i * c.width + k) v1 = (vs.take (i * c.width) ++ xs ++ vs.drop ((i + 1) * c.width)) ++ rest := by
    have h3 := splice_one (L := vs ++ rest) (v := (vs ++ rest)[i * c.width + k]) (y := v1) hplt
    rw [List.set_getElem_self] at h3
    rw [← h3]
    have e4 : (vs ++ rest).take (i * c.width + k) = vs.take (i * c.width) ++ us.take k := by
      rw [List.take_append_of_le_length (by omega), List.take_add, hsl2, List.take_take, Nat.min_eq_left (by omega)]
    have e5 : (vs ++ rest).drop (i * c.width + k + 1) = us.drop (k + 1) ++ vs.drop ((i + 1) * c.width) ++ rest := by
      rw [List.drop_append_of_le_length (by omega)]
      congr 1
      have e6 : vs.drop (i * c.width + k + 1) = (vs.drop (i * c.width)).drop (k + 1) := by rw [List.drop_drop]; congr 1
      have e7 : vs.drop (i * c.width) = us ++ vs.drop ((i + 1) * c.width) := by
        rw [hsl2, Nat.add_mul, Nat.one_mul, ← List.drop_drop, List.take_append_drop]
      rw [e6, e7, List.drop_append_of_le_length (by omega)]
    rw [e4, e5, ← e1]
    simp only [List.append_assoc]
  have hrows2 := hrows.set hi e2
  have hxl := Rep.length _ _ _ e2
  rw [hnew] at hheap
  have g : Upd G2 0 (G2.ρ 0) (.vec t c zs i k (.sl 1 c2 ver ps.length)) .dead (fun x => x < zs.length * c.width) G2.w := ⟨h02, trivial, Nat.le_refl _, rfl, rfl, rfl, fun _ _ _ => rfl, .inr ⟨_, h02, trivial, rfl⟩, hlt, hno⟩
  have hE := Ext.upd hs2 g
  refine ⟨G2.upd 0 (G2.ρ 0) .dead (fun x => x < zs.length * c.width) G2.w, hw2, hx2.trans hE, Sim.upd hs2 g fun h => h.elim, fun v hv => ?_⟩
  have hv := RepC.mono hx2 hv
  obtain ⟨hle, cap, rfl, hcap⟩ := vs_live hv h02
  have hzl : (zs.set i z).length = zs.length := List.length_set ..
  have hlen : (vs.take (i * c.width) ++ xs ++ vs.drop ((i + 1) * c.width)).length = zs.length * c.width := by rw [hrows2.1, hzl]
  have := Rows.list (b := G2.ρ 0) (off := 0) (cap := cap) (hrows2.mono hE.stays) (by rw [hzl]; exact hcap) fun m u hm => by
    have hml : m < (vs.take (i * c.width) ++ xs ++ vs.drop ((i + 1) * c.width)).length := (List.getElem?_eq_some_iff.1 hm).1
    refine ⟨.inr ⟨rfl, by rw [← hlen]; omega⟩, ?_⟩
    show G2.w.cell? _ = _
    simp [World.cell?, hheap]
    rw [← List.append_assoc, ← List.append_assoc, List.getElem?_append_left hml]
    exact hm
  rw [hzl] at this
  exact this

theorem ext_frzV {P : Program} {T : Table} {f : FuncId} {s s' : Says} (h1 : TSound P (ext T f s)) (hT : TSound P T)
    (h : ∀ args H p r H', s' args H = some (p, r, H') → holdsO p → H = [] ∧ H' = [] ∧ ∃ q t t2 c c2 zs ps i k ver y z, holdsO q ∧ 0 < ps.length ∧ dec c ((enc c (zs.getD i c.dflt)).take k ++ [.l c2 ps] ++ (enc c (zs.getD i c.dflt)).drop (k + 1)) = some (z, []) ∧
      s args [] = some (q, .tup [.agg [.vs 0 zs.length], .c (.p y)], [.vec t c zs i k (.sl 1 c2 ver ps.length), .arr t2 c2 ps ver]) ∧ r = .tup [.agg [.p (.l c (zs.set i z))], .c (.p y)]) : TSound P (ext T f s') :=
  ext_sound hT fun args H p r H' hs hp G hS hH cargs ha => by
    obtain ⟨rfl, rfl, q, t, t2, c, c2, zs, ps, i, k, ver, y, z, hq, hpos, hz, hs1, rfl⟩ := h args H p r H' hs hp
    have hb : Nat.beq f f = true := Nat.beq_refl f
    refine (h1 f args [] q (.tup [.agg [.vs 0 zs.length], .c (.p y)]) [.vec t c zs i k (.sl 1 c2 ver ps.length), .arr t2 c2 ps ver] (by unfold ext; rw [hb]; exact hs1) hq G hS hH cargs ha).mono fun v G1 he hs1 ⟨hH1, hr⟩ => ?_
    obtain ⟨G2, hw, hx, hs2, hf⟩ := fill hs1 (by rw [hH1]; rfl) (by rw [hH1]; rfl) hpos hz
    have hsub : subH [] G2.H [] = some [] := rfl
    refine ⟨G2.sub [] [], hw, (he.trans hx).keep hsub rfl fun k hk => ?_, hs2.sub hsub rfl, rfl, ?_⟩
    · rw [hH] at hk
      exact absurd hk (Nat.not_lt_zero k)
    · obtain ⟨vs, rfl, hvs⟩ := hr
      cases hvs with
      | cons a b =>
        cases b with
        | cons b1 b2 =>
          cases b2
          obtain ⟨cs, rfl, hcs⟩ := a
          cases hcs with
          | cons c1 c2 =>
            cases c2
            exact ⟨_, rfl, .cons ⟨_, rfl, .cons (hf _ c1) .nil⟩ (.cons (RepV.mono hx.stays b1) .nil)⟩

/-- A line for each of many values of something, put together. -/
theorem ext_fam {P : Program} {T : Table} {f : FuncId} {α : Type} {s1 : α → Says} {s' : Says} (h1 : ∀ i, TSound P (ext T f (s1 i))) (hT : TSound P T)
    (h : ∀ args H p r H', s' args H = some (p, r, H') → holdsO p → ∃ i q, holdsO q ∧ s1 i args H = some (q, r, H')) : TSound P (ext T f s') := by
  intro g args H p r H' hg hp G hS hH cargs ha
  unfold ext at hg
  split at hg
  · rename_i hb
    have hb' : Nat.beq g f = true := hb
    obtain ⟨i, q, hq, hs⟩ := h args H p r H' hg hp
    exact h1 i g args H q r H' (by unfold ext; rw [hb']; exact hs) hq G hS hH cargs ha
  · exact hT g args H p r H' hg hp G hS hH cargs ha
end Go.Ab
