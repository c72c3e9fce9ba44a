/- Where the nodes of a walk come to stand. -/
import Derived.Test.YtnlifjljmbfomaaTY83toY85
namespace Go.Ab
open Go.Proofs
set_option linter.unusedSectionVars false
set_option maxRecDepth 100000
variable [Base]

theorem insC_all {ns : List Nd} {i : Nat} {cs : List Int} : (i : Int) ∈ insC ns i cs ∧ ∀ c ∈ cs, c ∈ insC ns i cs := by
  unfold insC
  refine ⟨List.mem_append.2 (.inr (List.mem_cons_self ..)), fun c hc => ?_⟩
  have h : c ∈ cs.take (posC ns (ndAt ns i).2.1 cs) ++ cs.drop (posC ns (ndAt ns i).2.1 cs) := by rw [List.take_append_drop]; exact hc
  rcases List.mem_append.1 h with h | h
  · exact List.mem_append.2 (.inl h)
  · exact List.mem_append.2 (.inr (List.mem_cons_of_mem _ h))
theorem chGo_keep (ns : List Nd) (node : Int) : ∀ (m i : Nat) (cs : List Int) (c : Int), c ∈ cs → c ∈ chGo ns node m i cs := by
  intro m
  induction m with
  | zero => intro i cs c h; exact h
  | succ m ih =>
    intro i cs c h
    unfold chGo
    refine ih _ _ _ ?_
    split
    · exact insC_all.2 c h
    · exact h
theorem chGo_all (ns : List Nd) (node : Int) : ∀ (m i : Nat) (cs : List Int) (j : Nat), i ≤ j → j < i + m → ¬ j = 0 → (ndAt ns j).1 = node → (j : Int) ∈ chGo ns node m i cs := by
  intro m
  induction m with
  | zero => intro i cs j h1 h2; omega
  | succ m ih =>
    intro i cs j h1 h2 h3 h4
    unfold chGo
    by_cases hj : j = i
    · subst hj
      refine chGo_keep _ _ _ _ _ _ ?_
      rw [if_pos ⟨h4, h3⟩]
      exact insC_all.1
    · exact ih _ _ _ (by omega) (by omega) h3 h4
theorem chS_all {ns : List Nd} (hf : FrmT ns) {j : Nat} (h0 : 0 < j) (hj : j < ns.length) : (j : Int) ∈ chS ns ((paN ns j : Nat) : Int) :=
  chGo_all ns _ _ _ _ _ (Nat.zero_le _) (by omega) (by omega) (par_lt hf.par h0 hj).2.symm

theorem up_succ (ns : List Nd) (t j : Nat) : upN ns (t + 1) j = paN ns (upN ns t j) := by rw [upN_add]; rfl
theorem up_zero {ns : List Nd} (hf : FrmT ns) : ∀ t, upN ns t 0 = 0 := fun t => Nat.le_zero.1 (up_le hf t 0)
theorem up_root {ns : List Nd} (hf : FrmT ns) : ∀ (b j : Nat), j ≤ b → j < ns.length → ∃ t, upN ns t j = 0 := by
  intro b
  induction b with
  | zero => intro j h _; exact ⟨0, Nat.le_zero.1 h⟩
  | succ b ih =>
    intro j h hj
    by_cases h0 : 0 < j
    · have h1 := (par_lt hf.par h0 hj).1
      obtain ⟨t, ht⟩ := ih (paN ns j) (by omega) (by omega)
      exact ⟨t + 1, ht⟩
    · exact ⟨0, by show j = 0; omega⟩
/-- Every node below a node is in its walk. -/
theorem wk_all {ns : List Nd} (hf : FrmT ns) : ∀ t j i k, j < ns.length → upN ns t j = i → ns.length - i ≤ k → (j : Int) ∈ wk k ns (i : Int) := by
  intro t
  induction t with
  | zero =>
    intro j i k hj hu hk
    have hu : j = i := hu
    subst hu
    obtain ⟨k, rfl⟩ : ∃ q, k = q + 1 := ⟨k - 1, by omega⟩
    exact List.mem_cons_self ..
  | succ t ih =>
    intro j i k hj hu hk
    rw [up_succ] at hu
    obtain ⟨c, hc⟩ : ∃ c, upN ns t j = c := ⟨_, rfl⟩
    rw [hc] at hu
    have hcj : c ≤ j := by rw [← hc]; exact up_le hf t j
    by_cases h0 : 0 < c
    · have hlt := (par_lt hf.par h0 (by omega)).1
      obtain ⟨k, rfl⟩ : ∃ q, k = q + 1 := ⟨k - 1, by omega⟩
      have hm := chS_all hf h0 (by omega)
      rw [hu] at hm
      exact List.mem_cons_of_mem _ (List.mem_flatMap.2 ⟨_, hm, ih j c k hj hc (by omega)⟩)
    · obtain rfl : c = 0 := by omega
      have hp := par_le hf 0
      obtain rfl : i = 0 := by omega
      exact ih j 0 k hj hc hk
abbrev wkT (ns : List Nd) : List Int := wk 120 ns 0
theorem wkT_all {ns : List Nd} (hf : FrmT ns) {j : Nat} (hj : j < ns.length) : (j : Int) ∈ wkT ns := by
  obtain ⟨t, ht⟩ := up_root hf j j (Nat.le_refl _) hj
  have := hf.len
  exact wk_all hf t j 0 120 hj ht (by omega)
theorem wkT_nodup {ns : List Nd} (hf : FrmT ns) : (wkT ns).Nodup := wk_nodup hf 120 0 hf.len.1
theorem wkT_chain {ns : List Nd} (hf : FrmT ns) (hd : Dst ns) : ChN ns (wkT ns) := wk_chain hf hd 120 0 hf.len.1 (by have := hf.len; omega)

/-! 'at'. -/
theorem atGo_out : ∀ (l : List Int) (i : Nat) (z : List Int) (x : Nat), (∀ c ∈ l, ¬ c.toNat = x) → (atGo l i z).getD x 0 = z.getD x 0 := by
  intro l
  induction l with
  | nil => intro i z x _; rfl
  | cons a l ih =>
    intro i z x h
    unfold atGo
    rw [ih _ _ _ fun c hc => h c (List.mem_cons_of_mem _ hc)]
    have := h a (List.mem_cons_self ..)
    simp only [List.getD_eq_getElem?_getD, List.getElem?_set]
    rw [if_neg this]
theorem atGo_at : ∀ (l : List Int) (i : Nat) (z : List Int), l.Nodup → (∀ c ∈ l, 0 ≤ c ∧ c < (z.length : Nat)) → ∀ j (hj : j < l.length), (atGo l i z).getD (l[j]).toNat 0 = ((i + j : Nat) : Int) := by
  intro l
  induction l with
  | nil => intro i z _ _ j hj; cases hj
  | cons a l ih =>
    intro i z hd hr j hj
    obtain ⟨h1, h2⟩ := List.nodup_cons.1 hd
    have ha := hr a (List.mem_cons_self ..)
    unfold atGo
    cases j with
    | zero =>
      show (atGo l (i + 1) (z.set a.toNat (i : Int))).getD a.toNat 0 = _
      rw [atGo_out _ _ _ _ fun c hc he => by
        have hcr := hr c (List.mem_cons_of_mem _ hc)
        have : c = a := by omega
        exact h1 (this ▸ hc)]
      simp only [List.getD_eq_getElem?_getD, List.getElem?_set]
      rw [if_pos trivial, if_pos (by omega)]
      rfl
    | succ j =>
      have := ih (i + 1) (z.set a.toNat (i : Int)) h2 (fun c hc => by rw [List.length_set]; exact hr c (List.mem_cons_of_mem _ hc)) j (by simpa using hj)
      show (atGo l (i + 1) (z.set a.toNat (i : Int))).getD (l[j]'(by simpa using hj)).toNat 0 = _
      rw [this]
      congr 1
      omega
theorem atW_at {ns : List Nd} (hf : FrmT ns) {j : Nat} (hj : j < (wkT ns).length) : (atW ns).getD ((wkT ns)[j]).toNat 0 = (j : Int) := by
  have := atGo_at (wkT ns) 0 (List.replicate ns.length 0) (wkT_nodup hf) (fun c hc => by rw [List.length_replicate]; exact wk_in hf hc) j hj
  rw [Nat.zero_add] at this
  exact this

theorem chn_at {ns : List Nd} : ∀ (l : List Int), ChN ns l → ∀ i (h : i + 1 < l.length), Nx ns (l[i]'(by omega)).toNat (l[i + 1]).toNat := by
  intro l
  induction l with
  | nil => intro _ i h; cases h
  | cons a l ih =>
    intro hc i h
    cases l with
    | nil => simp at h
    | cons b l =>
      cases i with
      | zero => exact hc.1
      | succ i => exact ih hc.2 i (by simpa using h)
theorem wkT_pos {ns : List Nd} : 0 < (wkT ns).length := Nat.succ_pos _
theorem wkT_zero {ns : List Nd} : (wkT ns)[0]'wkT_pos = 0 := rfl
theorem wkT_le {ns : List Nd} (hf : FrmT ns) : (wkT ns).length ≤ ns.length := wk_length hf 120 (i := 0) hf.len.1
theorem wkT_in {ns : List Nd} (hf : FrmT ns) {i : Nat} (hi : i < (wkT ns).length) : 0 ≤ (wkT ns)[i] ∧ (wkT ns)[i] < (ns.length : Nat) := wk_in hf (List.getElem_mem hi)
theorem wkT_gt {ns : List Nd} (hf : FrmT ns) {i : Nat} (h0 : 0 < i) (hi : i < (wkT ns).length) : 0 < (wkT ns)[i] := by
  have h1 := wkT_in hf hi
  rcases Int.lt_or_eq_of_le h1.1 with h | h
  · exact h
  · exfalso
    have h2 : (wkT ns)[0]'wkT_pos = (wkT ns)[i] := by rw [wkT_zero]; exact h
    exact (List.pairwise_iff_getElem.1 (wkT_nodup hf)) 0 i wkT_pos hi h0 h2
/-- What is above a node comes before it. -/
theorem anc_before {ns : List Nd} (hf : FrmT ns) (hd : Dst ns) : ∀ i (hi : i < (wkT ns).length), ∀ t, ∃ j, ∃ (hj : j < (wkT ns).length), j ≤ i ∧ (wkT ns)[j] = ((upN ns t ((wkT ns)[i]).toNat : Nat) : Int) := by
  intro i
  induction i with
  | zero =>
    intro hi t
    refine ⟨0, hi, Nat.le_refl _, ?_⟩
    have e : ((wkT ns)[0]).toNat = 0 := rfl
    rw [e, up_zero hf]
    rfl
  | succ i ih =>
    intro hi t
    have hi2 : i < (wkT ns).length := by omega
    cases t with
    | zero =>
      refine ⟨i + 1, hi, Nat.le_refl _, ?_⟩
      have := wkT_in hf hi
      show _ = ((((wkT ns)[i + 1]).toNat : Nat) : Int)
      omega
    | succ t =>
      have hnx := chn_at _ (wkT_chain hf hd) i hi
      have e : upN ns (t + 1) ((wkT ns)[i + 1]).toNat = upN ns t (paN ns ((wkT ns)[i + 1]).toNat) := rfl
      rw [e]
      rcases hnx with h | ⟨u, h1, h2, h3⟩
      · rw [h]
        obtain ⟨j, hj, h4, h5⟩ := ih hi2 t
        exact ⟨j, hj, by omega, h5⟩
      · rw [← h2, ← up_succ, ← upN_add]
        obtain ⟨j, hj, h4, h5⟩ := ih hi2 (u + 1 + t)
        exact ⟨j, hj, by omega, h5⟩

theorem srt_length (ns : List Nd) : (srtV ns).length = (wkT ns).length := by
  unfold srtV
  rw [List.length_map]
theorem srt_at {ns : List Nd} {i : Nat} (hi : i < (wkT ns).length) : ndAt (srtV ns) i = mvN ns (wkT ns)[i] := by
  unfold ndAt srtV
  simp [hi]
/-- A node's parent in the new order. -/
theorem srt_par {ns : List Nd} (hf : FrmT ns) (hd : Dst ns) {i : Nat} (h0 : 0 < i) (hi : i < (wkT ns).length) : ∃ j, ∃ (hj : j < (wkT ns).length), j < i ∧ (wkT ns)[j] = ((paN ns ((wkT ns)[i]).toNat : Nat) : Int) ∧ (ndAt (srtV ns) i).1 = (j : Int) := by
  obtain ⟨j, hj, h1, h2⟩ := anc_before hf hd i hi 1
  have h2 : (wkT ns)[j] = ((paN ns ((wkT ns)[i]).toNat : Nat) : Int) := h2
  have hg := wkT_gt hf h0 hi
  have hin := wkT_in hf hi
  have hpl := (par_lt hf.par (j := ((wkT ns)[i]).toNat) (by omega) (by omega)).1
  refine ⟨j, hj, ?_, h2, ?_⟩
  · rcases Nat.lt_or_eq_of_le h1 with h | h
    · exact h
    · subst h
      omega
  · rw [srt_at hi]
    unfold mvN
    rw [if_pos hg]
    have h3 := atW_at hf hj
    have h4 : ((wkT ns)[j]).toNat = (paI ns ((wkT ns)[i]).toNat).toNat := by
      rw [h2]
      rfl
    rw [h4] at h3
    exact h3
theorem srt_nam {ns : List Nd} {i : Nat} (hi : i < (wkT ns).length) : (ndAt (srtV ns) i).2 = (ndAt ns ((wkT ns)[i]).toNat).2 := by
  rw [srt_at hi]
  unfold mvN
  split <;> rfl
theorem frm_of : ∀ (l : List Nd) (i : Nat), (∀ k (hk : k < l.length), ndFrm (i + k) l[k] = true) → frmGo i l = true := by
  intro l
  induction l with
  | nil => intro i _; rfl
  | cons n r ih =>
    intro i h
    have h0 := h 0 (Nat.succ_pos _)
    show (ndFrm i n && frmGo (i + 1) r) = true
    rw [ih (i + 1) fun k hk => by
      have := h (k + 1) (by simpa using hk)
      rw [show i + 1 + k = i + (k + 1) by omega]
      exact this]
    rw [Nat.add_zero] at h0
    have h0 : ndFrm i n = true := h0
    rw [h0]
    rfl
theorem srt_lim {ns : List Nd} (hf : FrmT ns) : limV (srtV ns) = true := by
  have h := hf.lim
  unfold limV at h ⊢
  simp only [Bool.and_eq_true, Bool.not_eq_true', decide_eq_false_iff_not, decide_eq_true_eq, List.all_eq_true] at h ⊢
  have h1 := wkT_le hf
  have h2 := wkT_pos (ns := ns)
  rw [srt_length]
  refine ⟨⟨by omega, by omega⟩, fun x hx => ?_⟩
  obtain ⟨i, hi, rfl⟩ := nd_mem hx
  rw [srt_length] at hi
  have h3 := wkT_in hf hi
  have h4 := h.2 (ndAt ns ((wkT ns)[i]).toNat) (by
    unfold ndAt
    rw [List.getD_eq_getElem?_getD, List.getElem?_eq_getElem (by omega)]
    exact List.getElem_mem _)
  unfold ndLim at h4 ⊢
  rw [srt_nam hi]
  exact h4

theorem nd_at' {ns : List Nd} {i : Nat} (hi : i < ns.length) : ndAt ns i = ns[i] := by unfold ndAt; simp [hi]
theorem frm_ps {ns : List Nd} (h : frmV ns = true) {i : Nat} (hi : i < ns.length) : (ndAt ns i).2.2.all ptFrm = true := by
  have h1 := frm_nd h hi
  unfold ndFrm at h1
  exact (Bool.and_eq_true_iff.1 h1).2
theorem srt_frm {ns : List Nd} (hf : FrmT ns) (hd : Dst ns) : FrmT (srtV ns) := by
  refine ⟨srt_lim hf, frm_of _ _ fun k hk => ?_⟩
  rw [Nat.zero_add, ← nd_at' hk]
  rw [srt_length] at hk
  have hin := wkT_in hf hk
  by_cases h0 : 0 < k
  · obtain ⟨j, hj, h1, _, h3⟩ := srt_par hf hd h0 hk
    have hg := wkT_gt hf h0 hk
    have h4 := frm_nam hf.frm (i := ((wkT ns)[k]).toNat) (by omega) (by omega)
    have h5 := frm_ps hf.frm (i := ((wkT ns)[k]).toNat) (by omega)
    unfold ndFrm
    rw [srt_nam hk, h3, h4, h5, decide_eq_false (show ¬ ((k : Nat) : Int) = 0 by omega), decide_eq_false (show ¬ ((j : Nat) : Int) < 0 by omega), decide_eq_false (show ¬ ((k : Nat) : Int) ≤ (j : Nat) by omega)]
    simp
  · obtain rfl : k = 0 := by omega
    have h1 := frm_nd hf.frm hf.len.1
    have e : ndAt (srtV ns) 0 = ndAt ns 0 := by
      rw [srt_at hk]
      rfl
    rw [e]
    exact h1

theorem wkT_inj {ns : List Nd} (hf : FrmT ns) {i j : Nat} (hi : i < (wkT ns).length) (hj : j < (wkT ns).length) (h : (wkT ns)[i] = (wkT ns)[j]) : i = j := by
  rcases Nat.lt_trichotomy i j with h1 | h1 | h1
  · exact absurd h ((List.pairwise_iff_getElem.1 (wkT_nodup hf)) i j hi hj h1)
  · exact h1
  · exact absurd h.symm ((List.pairwise_iff_getElem.1 (wkT_nodup hf)) j i hj hi h1)
theorem srt_pa0 {ns : List Nd} (hf : FrmT ns) : paN (srtV ns) 0 = 0 ∧ paN ns 0 = 0 := by
  have h := par_le hf 0
  have e : ndAt (srtV ns) 0 = ndAt ns 0 := by
    rw [srt_at wkT_pos]
    rfl
  refine ⟨?_, by omega⟩
  unfold paN paI
  rw [e]
  exact Nat.le_zero.1 h
theorem gw {ns : List Nd} {i : Nat} (hi : i < (wkT ns).length) : (wkT ns).getD i 0 = (wkT ns)[i] := by simp [hi]
/-- Going up is the same in both orders. -/
theorem srt_pa {ns : List Nd} (hf : FrmT ns) (hd : Dst ns) {i : Nat} (hi : i < (wkT ns).length) : ∃ (h : paN (srtV ns) i < (wkT ns).length), (wkT ns)[paN (srtV ns) i] = ((paN ns ((wkT ns)[i]).toNat : Nat) : Int) := by
  by_cases h0 : 0 < i
  · obtain ⟨j, hj, _, h2, h3⟩ := srt_par hf hd h0 hi
    have e : paN (srtV ns) i = j := by
      unfold paN paI
      rw [h3]
      rfl
    refine ⟨by rw [e]; exact hj, ?_⟩
    simp only [e]
    exact h2
  · obtain rfl : i = 0 := by omega
    obtain ⟨h1, h2⟩ := srt_pa0 hf
    refine ⟨by rw [h1]; exact hi, ?_⟩
    simp only [h1]
    show _ = ((paN ns 0 : Nat) : Int)
    rw [h2]
    rfl
theorem srt_up {ns : List Nd} (hf : FrmT ns) (hd : Dst ns) : ∀ (t i : Nat), i < (wkT ns).length → ∃ (h : upN (srtV ns) t i < (wkT ns).length), (wkT ns)[upN (srtV ns) t i] = ((upN ns t ((wkT ns).getD i 0).toNat : Nat) : Int) := by
  intro t
  induction t with
  | zero =>
    intro i hi
    refine ⟨hi, ?_⟩
    have := wkT_in hf hi
    show (wkT ns)[i] = ((((wkT ns).getD i 0).toNat : Nat) : Int)
    rw [gw hi]
    omega
  | succ t ih =>
    intro i hi
    obtain ⟨h1, h2⟩ := srt_pa hf hd hi
    obtain ⟨h3, h4⟩ := ih (paN (srtV ns) i) h1
    refine ⟨h3, ?_⟩
    rw [gw h1, h2] at h4
    rw [gw hi]
    exact h4
theorem flw_up {ns : List Nd} (hf : FrmT ns) (n : Nd) : ∀ t k j, j < k → j < ns.length → 0 < upN ns t j → (ndAt ns (upN ns t j)).1 = n.1 → (∀ s, s ≤ t → 0 < upN ns s j → (ndAt ns (upN ns s j)).1 = n.1 → bLe (ndAt ns (upN ns s j)).2.1 n.2.1 = true) → flwGo ns n k j = true := by
  intro t
  induction t with
  | zero =>
    intro k j hk hj h0 hp hs
    obtain ⟨k, rfl⟩ : ∃ q, k = q + 1 := ⟨k - 1, by omega⟩
    have h0 : 0 < j := h0
    have hp : (ndAt ns j).1 = n.1 := hp
    unfold flwGo
    rw [if_neg (by omega), if_pos hp]
    exact hs 0 (Nat.le_refl _) h0 hp
  | succ t ih =>
    intro k j hk hj h0 hp hs
    obtain ⟨k, rfl⟩ : ∃ q, k = q + 1 := ⟨k - 1, by omega⟩
    have hj0 : 0 < j := Nat.lt_of_lt_of_le h0 (up_le hf _ _)
    unfold flwGo
    rw [if_neg (by omega)]
    by_cases hq : (ndAt ns j).1 = n.1
    · rw [if_pos hq]
      exact hs 0 (Nat.zero_le _) hj0 hq
    · rw [if_neg hq]
      have hlt := (par_lt hf.par hj0 hj).1
      exact ih k (paN ns j) (by omega) (by omega) h0 hp fun s h1 h2 h3 => hs (s + 1) (by omega) h2 h3
theorem srt_flw {ns : List Nd} (hf : FrmT ns) (hd : Dst ns) {i : Nat} (h0 : 0 < i) (hi : i < (wkT ns).length) : flwV (srtV ns) i = true := by
  have hfs := srt_frm hf hd
  obtain ⟨j, hj, h1, h2, h3⟩ := srt_par hf hd h0 hi
  obtain ⟨i, rfl⟩ : ∃ q, i = q + 1 := ⟨i - 1, by omega⟩
  have hi2 : i < (wkT ns).length := by omega
  have hnx := chn_at _ (wkT_chain hf hd) i hi
  unfold flwV
  rw [h3]
  rcases hnx with h | ⟨t, t1, t2, t3⟩
  · have hw := wkT_in hf hi2
    have e : j = i := wkT_inj hf hj hi2 (by rw [h2, h]; omega)
    have hjj : ((j : Nat) : Int) = ((i + 1 : Nat) : Int) - 1 := by omega
    exact if_pos hjj
  · split
    · rfl
    · obtain ⟨c1, c2⟩ := srt_up hf hd t i hi2
      rw [gw hi2] at c2
      obtain ⟨c, hc⟩ : ∃ c, upN (srtV ns) t i = c := ⟨_, rfl⟩
      simp only [hc] at c1 c2
      have hc0 : 0 < c := by
        rcases Nat.eq_zero_or_pos c with h | h
        · subst h
          have : (0 : Int) = ((upN ns t ((wkT ns)[i]).toNat : Nat) : Int) := c2
          omega
        · exact h
      obtain ⟨j', hj', g1, g2, g3⟩ := srt_par hf hd hc0 c1
      have ew : ((wkT ns)[c]).toNat = upN ns t ((wkT ns)[i]).toNat := by rw [c2]; rfl
      have e : j' = j := wkT_inj hf hj' hj (by rw [g2, h2, ew, t2])
      subst e
      have hle : bLe (ndAt (srtV ns) c).2.1 (ndAt (srtV ns) (i + 1)).2.1 = true := by
        rw [srt_nam c1, srt_nam hi, ew]
        exact bLe_iff.2 (.inl t3)
      refine flw_up hfs _ t (i + 1) i (by omega) (by rw [srt_length]; omega) (by rw [hc]; exact hc0) (by rw [hc, g3, h3]) fun s s1 s2 s3 => ?_
      rw [h3] at s3
      have hsl : upN (srtV ns) s i < (srtV ns).length := by
        have := up_le hfs s i
        rw [srt_length]
        omega
      have es : upN (srtV ns) s i = c := by
        refine up_same hfs (i := j') s2 hsl hc0 (by rw [srt_length]; exact c1) ?_ ?_ rfl hc
        · unfold paN paI
          rw [s3]
          rfl
        · unfold paN paI
          rw [g3]
          rfl
      rw [es]
      exact hle

/-- Going up more often than there are nodes above leads to the root; the depth is how often. -/
theorem dp_up {ns : List Nd} (hf : FrmT ns) : ∀ k j, j < k → j < ns.length → upN ns (dpGo ns k j) j = 0 ∧ ∀ t, t < dpGo ns k j → 0 < upN ns t j := by
  intro k
  induction k with
  | zero => intro j h; omega
  | succ k ih =>
    intro j hk hj
    by_cases h0 : j = 0
    · subst h0
      refine ⟨rfl, fun t ht => ?_⟩
      have : dpGo ns (k + 1) 0 = 0 := rfl
      omega
    · have hlt := (par_lt hf.par (by omega) hj).1
      have e : dpGo ns (k + 1) j = dpGo ns k (paN ns j) + 1 := by
        show (if j = 0 then 0 else _) = _
        rw [if_neg h0]
      obtain ⟨h1, h2⟩ := ih (paN ns j) (by omega) (by omega)
      rw [e]
      refine ⟨h1, fun t ht => ?_⟩
      cases t with
      | zero => show 0 < j; omega
      | succ t => exact h2 t (by omega)
theorem dp_of {ns : List Nd} (hf : FrmT ns) {j d : Nat} (hj : j < ns.length) (h1 : upN ns d j = 0) (h2 : ∀ t, t < d → 0 < upN ns t j) : dpV ns j = d := by
  obtain ⟨h3, h4⟩ := dp_up hf (j + 1) j (Nat.lt_succ_self j) hj
  unfold dpV
  rcases Nat.lt_trichotomy (dpGo ns (j + 1) j) d with h | h | h
  · have := h2 _ h
    omega
  · exact h
  · have := h4 _ h
    omega
/-- As deep as before. -/
theorem srt_dp {ns : List Nd} (hf : FrmT ns) (hd : Dst ns) {i : Nat} (hi : i < (wkT ns).length) : dpV (srtV ns) i = dpV ns ((wkT ns)[i]).toNat := by
  have hin := wkT_in hf hi
  obtain ⟨h3, h4⟩ := dp_up hf (((wkT ns)[i]).toNat + 1) ((wkT ns)[i]).toNat (Nat.lt_succ_self _) (by omega)
  refine dp_of (srt_frm hf hd) (by rw [srt_length]; exact hi) ?_ fun t ht => ?_
  · obtain ⟨c1, c2⟩ := srt_up hf hd (dpV ns ((wkT ns)[i]).toNat) i hi
    rw [gw hi, show upN ns (dpV ns ((wkT ns)[i]).toNat) ((wkT ns)[i]).toNat = 0 from h3] at c2
    exact wkT_inj hf c1 wkT_pos c2
  · obtain ⟨c1, c2⟩ := srt_up hf hd t i hi
    rw [gw hi] at c2
    have h5 := h4 t ht
    rcases Nat.eq_zero_or_pos (upN (srtV ns) t i) with h | h
    · exfalso
      have e : (wkT ns)[upN (srtV ns) t i] = (wkT ns)[0]'wkT_pos := by simp only [h]
      rw [c2] at e
      have e2 : ((upN ns t ((wkT ns)[i]).toNat : Nat) : Int) = 0 := e
      omega
    · exact h
/-- No two children of one name, still. -/
theorem srt_dst {ns : List Nd} (hf : FrmT ns) (hd : Dst ns) : Dst (srtV ns) := by
  intro a b a0 a1 b0 b1 hp hn
  rw [srt_length] at a1 b1
  obtain ⟨ca, c2⟩ := srt_pa hf hd a1
  obtain ⟨cb, d2⟩ := srt_pa hf hd b1
  have ga := wkT_gt hf a0 a1
  have gb := wkT_gt hf b0 b1
  have ia := wkT_in hf a1
  have ib := wkT_in hf b1
  have e : (wkT ns)[paN (srtV ns) a] = (wkT ns)[paN (srtV ns) b] := by simp only [hp]
  rw [c2, d2] at e
  rw [srt_nam a1, srt_nam b1] at hn
  have := hd ((wkT ns)[a]).toNat ((wkT ns)[b]).toNat (by omega) (by omega) (by omega) (by omega) (by omega) hn
  exact wkT_inj hf a1 b1 (by omega)

structure Vl (ns : List Nd) : Prop where
  f : FrmT ns
  d : Dst ns
  asc : ∀ i, i < ns.length → ascV (ndAt ns i).2.2 = true
  dep : ∀ i, i < ns.length → dpV ns i ≤ 8
  flw : ∀ i, 0 < i → i < ns.length → flwV ns i = true
theorem anyGo_no {p : Nat → Bool} : ∀ m i, anyGo p m i = false → ∀ j, i ≤ j → j < i + m → p j = false := by
  intro m
  induction m with
  | zero => intro i _ j h1 h2; omega
  | succ m ih =>
    intro i h j h1 h2
    obtain ⟨h3, h4⟩ := Bool.or_eq_false_iff.1 (show (p i || anyGo p m (i + 1)) = false from h)
    by_cases hj : j = i
    · rw [hj]; exact h3
    · exact ih (i + 1) h4 j (by omega) (by omega)
theorem app_at {ns : List Nd} {x : Nd} {i : Nat} (hi : i < ns.length) : ndAt (ns ++ [x]) i = ndAt ns i := by
  unfold ndAt
  rw [List.getD_eq_getElem?_getD, List.getD_eq_getElem?_getD, List.getElem?_append_left hi]
theorem app_last {ns : List Nd} {x : Nd} : ndAt (ns ++ [x]) ns.length = x := by
  unfold ndAt
  rw [List.getD_eq_getElem?_getD, List.getElem?_append_right (Nat.le_refl _), Nat.sub_self]
  rfl
theorem app_pa {ns : List Nd} {x : Nd} {i : Nat} (hi : i < ns.length) : paN (ns ++ [x]) i = paN ns i := by
  unfold paN paI
  rw [app_at hi]
theorem app_up {ns : List Nd} (hf : FrmT ns) {x : Nd} : ∀ t i, i < ns.length → upN (ns ++ [x]) t i = upN ns t i := by
  intro t
  induction t with
  | zero => intro i _; rfl
  | succ t ih =>
    intro i hi
    show upN (ns ++ [x]) t (paN (ns ++ [x]) i) = upN ns t (paN ns i)
    rw [app_pa hi]
    exact ih _ (Nat.lt_of_le_of_lt (par_le hf i) hi)
theorem app_len {ns : List Nd} {x : Nd} : (ns ++ [x]).length = ns.length + 1 := by rw [List.length_append]; rfl
theorem vl_add {ns : List Nd} {k : Int} {s : ByteArray} (hv : Vl ns) (h0 : 0 ≤ k) (h1 : k < (ns.length : Nat)) (hs : namB s = true) (hl : ns.length < 120) (hany : anyGo (samB ns k s) ns.length 0 = false) (hdp : dpV ns k.toNat < 8) : Vl (srtV (ns ++ [(k, s, [])])) := by
  have hf := hv.f
  have hfa := frm_app hf h0 h1 hs hl
  have hno : ∀ j, j < ns.length → samB ns k s j = false := fun j hj => anyGo_no _ _ hany j (Nat.zero_le _) (by omega)
  have hpl : paN (ns ++ [(k, s, [])]) ns.length = k.toNat := by
    unfold paN paI
    rw [app_last]
  have hnew : ∀ b, 0 < b → b < ns.length → paN ns b = k.toNat → (ndAt ns b).2.1 = s → False := by
    intro b b0 b1 hp hn
    have h2 := (par_lt hf.par b0 b1).2
    have h3 := hno b b1
    unfold samB at h3
    have h5 : (ndAt ns b).1 = k := by
      rw [← h2, hp]
      exact Int.toNat_of_nonneg h0
    rw [decide_eq_true h5, decide_eq_true hn] at h3
    cases h3
  have hd : Dst (ns ++ [(k, s, [])]) := by
    intro a b a0 a1 b0 b1 hp hn
    rw [app_len] at a1 b1
    rcases Nat.lt_or_eq_of_le (Nat.le_of_lt_succ a1) with ha | ha
    · rcases Nat.lt_or_eq_of_le (Nat.le_of_lt_succ b1) with hb | hb
      · rw [app_pa ha, app_pa hb] at hp
        rw [app_at ha, app_at hb] at hn
        exact hv.d a b a0 ha b0 hb hp hn
      · exfalso
        subst hb
        rw [app_pa ha, hpl] at hp
        rw [app_at ha, app_last] at hn
        exact hnew a a0 ha hp hn
    · rcases Nat.lt_or_eq_of_le (Nat.le_of_lt_succ b1) with hb | hb
      · exfalso
        subst ha
        rw [app_pa hb, hpl] at hp
        rw [app_at hb, app_last] at hn
        exact hnew b b0 hb hp.symm hn.symm
      · rw [ha, hb]
  have hdT : ∀ j, j < (ns ++ [((k, s, []) : Nd)]).length → dpV (ns ++ [(k, s, [])]) j ≤ 8 := by
    intro j hj
    rw [app_len] at hj
    rcases Nat.lt_or_eq_of_le (Nat.le_of_lt_succ hj) with h | h
    · obtain ⟨h3, h4⟩ := dp_up hf (j + 1) j (Nat.lt_succ_self _) h
      rw [dp_of hfa (d := dpV ns j) (by rw [app_len]; omega) (by rw [app_up hf _ _ h]; exact h3) fun t ht => by rw [app_up hf _ _ h]; exact h4 t ht]
      exact hv.dep j h
    · subst h
      have hkn : k.toNat < ns.length := by omega
      obtain ⟨h3, h4⟩ := dp_up hf (k.toNat + 1) k.toNat (Nat.lt_succ_self _) hkn
      rw [dp_of hfa (d := dpV ns k.toNat + 1) (by rw [app_len]; omega) (by
        show upN _ (dpV ns k.toNat) (paN (ns ++ [(k, s, [])]) ns.length) = 0
        rw [hpl, app_up hf _ _ hkn]
        exact h3) fun t ht => by
          cases t with
          | zero => exact hf.len.1
          | succ t =>
            show 0 < upN _ t (paN (ns ++ [(k, s, [])]) ns.length)
            rw [hpl, app_up hf _ _ hkn]
            exact h4 t (Nat.lt_of_succ_lt_succ ht)]
      omega
  have fA : ∀ j, j < ns.length → ndAt (ns ++ [(k, s, [])]) j = ndAt ns j := fun j hj => app_at hj
  have fL : ndAt (ns ++ [(k, s, [])]) ns.length = (k, s, []) := app_last
  have fN : (ns ++ [((k, s, []) : Nd)]).length = ns.length + 1 := app_len
  generalize (ns ++ [((k, s, []) : Nd)]) = T at hfa hd hdT fA fL fN ⊢
  refine ⟨srt_frm hfa hd, srt_dst hfa hd, fun i hi => ?_, fun i hi => ?_, fun i i0 hi => ?_⟩
  · rw [srt_length] at hi
    have hin := wkT_in hfa hi
    rw [srt_nam hi]
    rw [fN] at hin
    rcases Nat.lt_or_eq_of_le (show ((wkT T)[i]).toNat ≤ ns.length by omega) with h | h
    · rw [fA _ h]
      exact hv.asc _ h
    · rw [h, fL]
      rfl
  · rw [srt_length] at hi
    have hin := wkT_in hfa hi
    rw [srt_dp hfa hd hi]
    exact hdT _ (by omega)
  · rw [srt_length] at hi
    exact srt_flw hfa hd i0 hi

abbrev Asc (l : List Pt) : Prop := l.Pairwise fun p q => bLt p.1 q.1 = true
theorem asc_iff : ∀ l : List Pt, ascV l = true ↔ Asc l := by
  intro l
  induction l with
  | nil => exact ⟨fun _ => List.Pairwise.nil, fun _ => rfl⟩
  | cons p r ih =>
    cases r with
    | nil => exact ⟨fun _ => List.pairwise_cons.2 ⟨fun x hx => (by cases hx), List.Pairwise.nil⟩, fun _ => rfl⟩
    | cons q r =>
      have e : ascV (p :: q :: r) = (bLt p.1 q.1 && ascV (q :: r)) := rfl
      rw [e, Bool.and_eq_true]
      constructor
      · rintro ⟨h1, h2⟩
        have h3 := ih.1 h2
        refine List.pairwise_cons.2 ⟨fun x hx => ?_, h3⟩
        rcases List.mem_cons.1 hx with rfl | hx
        · exact h1
        · exact bLt_trans h1 ((List.pairwise_cons.1 h3).1 x hx)
      · intro h
        obtain ⟨h1, h2⟩ := List.pairwise_cons.1 h
        exact ⟨h1 q (List.mem_cons_self ..), ih.2 h2⟩
theorem lt_take {nm : ByteArray} : ∀ (l : List Pt), ∀ q ∈ l.take (ltC nm l), bLt q.1 nm = true := by
  intro l
  induction l with
  | nil => intro c hc; cases hc
  | cons a r ih =>
    intro c hc
    unfold ltC at hc
    split at hc
    · rename_i h
      rw [List.take_succ_cons] at hc
      rcases List.mem_cons.1 hc with rfl | hc
      · exact h
      · exact ih c hc
    · cases hc
theorem lt_drop {nm : ByteArray} : ∀ (l : List Pt), ∀ q r, l.drop (ltC nm l) = q :: r → bLt q.1 nm = false := by
  intro l
  induction l with
  | nil => intro q r h; cases h
  | cons a l ih =>
    intro q r h
    unfold ltC at h
    split at h
    · exact ih q r (by simpa using h)
    · rename_i h1
      cases h
      exact Bool.eq_false_iff.2 h1
theorem put_mem {l : List Pt} {x q : Pt} (h : q ∈ putV (l, x)) : q = x ∨ q ∈ l := by
  unfold putV at h
  dsimp only at h
  rcases List.mem_append.1 h with h | h
  · exact .inr (List.mem_of_mem_take h)
  · rcases List.mem_cons.1 h with h | h
    · exact .inl h
    · refine .inr ?_
      split at h
      · cases h
      · rename_i a r hd
        have hs : ∀ y ∈ a :: r, y ∈ l := fun y hy => List.mem_of_mem_drop (by rw [hd]; exact hy)
        split at h
        · exact hs q (List.mem_cons_of_mem _ h)
        · exact hs q h
theorem put_asc {l : List Pt} {x : Pt} (h : Asc l) : Asc (putV (l, x)) := by
  unfold putV
  dsimp only
  have h0 : Asc (l.take (ltC x.1 l) ++ l.drop (ltC x.1 l)) := by rw [List.take_append_drop]; exact h
  obtain ⟨h1, h2, h3⟩ := List.pairwise_append.1 h0
  have key : ∀ m : List Pt, Asc m → (∀ q ∈ m, bLt x.1 q.1 = true) → (∀ q ∈ m, q ∈ l.drop (ltC x.1 l)) → Asc (l.take (ltC x.1 l) ++ x :: m) := by
    intro m m1 m2 m3
    refine List.pairwise_append.2 ⟨h1, List.pairwise_cons.2 ⟨m2, m1⟩, fun a ha b hb => ?_⟩
    rcases List.mem_cons.1 hb with rfl | hb
    · exact lt_take l a ha
    · exact h3 a ha b (m3 b hb)
  split
  · exact key [] List.Pairwise.nil (fun q hq => by cases hq) (fun q hq => by cases hq)
  · rename_i q r hd
    rw [hd] at h2
    obtain ⟨h4, h5⟩ := List.pairwise_cons.1 h2
    have h6 := lt_drop l q r hd
    split
    · rename_i he
      exact key r h5 (fun y hy => by rw [← he]; exact h4 y hy) fun y hy => by rw [hd]; exact List.mem_cons_of_mem _ hy
    · rename_i hne
      have h7 : bLt x.1 q.1 = true := by
        rcases bs_total q.1.toList x.1.toList with h | h | h
        · have : bLt q.1 x.1 = true := h
          rw [h6] at this
          cases this
        · exact absurd (ba_ext h) hne
        · exact h
      refine key (q :: r) h2 (fun y hy => ?_) fun y hy => by rw [hd]; exact hy
      rcases List.mem_cons.1 hy with rfl | hy
      · exact h7
      · exact bLt_trans h7 (h4 y hy)

/-- The same parents and names. -/
structure Sm (ns ms : List Nd) : Prop where
  len : ms.length = ns.length
  pa : ∀ i, (ndAt ms i).1 = (ndAt ns i).1
  nm : ∀ i, (ndAt ms i).2.1 = (ndAt ns i).2.1
theorem Sm.paN {ns ms : List Nd} (h : Sm ns ms) (i : Nat) : paN ms i = Ab.paN ns i := by
  unfold Ab.paN paI
  rw [h.pa]
theorem Sm.dp {ns ms : List Nd} (h : Sm ns ms) : ∀ k j, dpGo ms k j = dpGo ns k j := by
  intro k
  induction k with
  | zero => intro j; rfl
  | succ k ih =>
    intro j
    unfold dpGo
    rw [h.paN, ih]
theorem Sm.flwGo {ns ms : List Nd} (h : Sm ns ms) {x y : Nd} (h1 : y.1 = x.1) (h2 : y.2.1 = x.2.1) : ∀ k j, Ab.flwGo ms y k j = Ab.flwGo ns x k j := by
  intro k
  induction k with
  | zero => intro j; rfl
  | succ k ih =>
    intro j
    unfold Ab.flwGo
    rw [h.paN, ih, h.pa, h.nm, h1, h2]
theorem Sm.flw {ns ms : List Nd} (h : Sm ns ms) (i : Nat) : flwV ms i = flwV ns i := by
  unfold flwV
  rw [h.flwGo (h.pa i) (h.nm i), h.pa]
theorem set_sm (ns : List Nd) (k : Nat) (n v : ByteArray) : Sm ns (setN ns k n v) ∧ (∀ i, i < ns.length → (ndAt (setN ns k n v) i).2.2 = if i = k then putV ((ndAt ns k).2.2, n, v) else (ndAt ns i).2.2) := by
  have hat : ∀ i, ndAt (setN ns k n v) i = if i = k ∧ i < ns.length then ((ndAt ns k).1, (ndAt ns k).2.1, putV ((ndAt ns k).2.2, n, v)) else ndAt ns i := by
    intro i
    unfold setN
    generalize ((ndAt ns k).1, (ndAt ns k).2.1, putV ((ndAt ns k).2.2, n, v)) = x
    unfold ndAt
    simp only [List.getD_eq_getElem?_getD, List.getElem?_set]
    by_cases hi : k = i
    · subst hi
      by_cases hl : k < ns.length
      · rw [if_pos rfl, if_pos hl, if_pos ⟨rfl, hl⟩]
        rfl
      · rw [if_pos rfl, if_neg hl, if_neg fun h => hl h.2, List.getElem?_eq_none (by omega)]
    · rw [if_neg hi, if_neg fun h => hi h.1.symm]
  refine ⟨⟨?_, fun i => ?_, fun i => ?_⟩, fun i hi => ?_⟩
  · unfold setN
    rw [List.length_set]
  · rw [hat]
    split
    · rename_i h; rw [h.1]
    · rfl
  · rw [hat]
    split
    · rename_i h; rw [h.1]
    · rfl
  · rw [hat]
    by_cases h : i = k
    · rw [if_pos ⟨h, hi⟩, if_pos h]
    · rw [if_neg fun h' => h h'.1, if_neg h]
theorem vl_set {ns : List Nd} {k : Nat} {n v : ByteArray} (hv : Vl ns) (hk : k < ns.length) (hn : prpB n = true) (hl : limV (setN ns k n v) = true) : Vl (setN ns k n v) := by
  obtain ⟨hs, hp⟩ := set_sm ns k n v
  have hlen := hs.len
  generalize setN ns k n v = ms at hs hp hl hlen ⊢
  have hps : ∀ i, i < ns.length → (ndAt ms i).2.2.all ptFrm = true ∧ Asc (ndAt ms i).2.2 := by
    intro i hi
    have h1 := frm_ps hv.f.frm hi
    have h2 := (asc_iff _).1 (hv.asc i hi)
    rw [hp i hi]
    split
    · rename_i h
      subst h
      refine ⟨List.all_eq_true.2 fun q hq => ?_, put_asc h2⟩
      rcases put_mem hq with rfl | h
      · exact hn
      · exact List.all_eq_true.1 h1 q h
    · exact ⟨h1, h2⟩
  refine ⟨⟨hl, frm_of _ _ fun i hi => ?_⟩, ?_, fun i hi => ?_, fun i hi => ?_, fun i h0 hi => ?_⟩
  · rw [Nat.zero_add, ← nd_at' hi]
    rw [hlen] at hi
    have h1 := frm_nd hv.f.frm hi
    unfold ndFrm at h1 ⊢
    rw [hs.pa, hs.nm, (hps i hi).1]
    rw [frm_ps hv.f.frm hi] at h1
    exact h1
  · intro a b a0 a1 b0 b1 h1 h2
    rw [hs.paN, hs.paN] at h1
    rw [hs.nm, hs.nm] at h2
    exact hv.d a b a0 (by omega) b0 (by omega) h1 h2
  · exact (asc_iff _).2 (hps i (by omega)).2
  · show dpGo ms (i + 1) i ≤ 8
    rw [hs.dp]
    exact hv.dep i (by omega)
  · rw [hs.flw]
    exact hv.flw i h0 (by omega)

theorem rt_vl : Vl rtL := by
  have hl : rtL.length = 1 := rfl
  refine ⟨⟨by decide +kernel, by decide +kernel⟩, fun a b a0 a1 => ?_, fun i hi => ?_, fun i hi => ?_, fun i h0 hi => ?_⟩
  · rw [hl] at a1
    omega
  · rw [hl] at hi
    obtain rfl : i = 0 := by omega
    rfl
  · rw [hl] at hi
    obtain rfl : i = 0 := by omega
    exact Nat.zero_le _
  · rw [hl] at hi
    omega
theorem add_vl {a : List Nd × ByteArray × ByteArray} (hv : Vl a.1) (h : (rAddV a).2 = 0) : Vl (rAddV a).1 := by
  unfold rAddV at *
  split at h
  · rename_i h1
    exact absurd h h1
  · rename_i h1
    rw [if_neg h1]
    split at h
    · cases h
    · rename_i h2
      rw [if_neg h2]
      split at h
      · cases h
      · rename_i h3
        rw [if_neg h3]
        split at h
        · cases h
        · rename_i h4
          rw [if_neg h4]
          split at h
          · cases h
          · rename_i h5
            rw [if_neg h5]
            have hb : (begV (a.1, a.2.1)).2 = 0 := Classical.not_not.1 h1
            obtain ⟨_, h6, h7⟩ := beg_ok hb
            exact vl_add hv h6 h7 (by simpa using h2) (by omega) (by simpa using h3) (by omega)
theorem set_vl {a : List Nd × ByteArray × ByteArray × ByteArray} (hv : Vl a.1) (h : (rSetV a).2 = 0) : Vl (rSetV a).1 := by
  unfold rSetV at *
  split at h
  · rename_i h1
    exact absurd h h1
  · rename_i h1
    rw [if_neg h1]
    split at h
    · cases h
    · rename_i h2
      rw [if_neg h2]
      split at h
      · cases h
      · rename_i h3
        rw [if_neg h3]
        have hb : (begV (a.1, a.2.1)).2 = 0 := Classical.not_not.1 h1
        obtain ⟨_, h6, h7⟩ := beg_ok hb
        exact vl_set hv (by omega) (by simpa using h2) (by simpa using h3)
theorem st_vl (zs : List Int) : ∀ m n ns, Vl ns → Vl (stGo zs m n ns).1 := by
  intro m
  induction m with
  | zero => intro n ns h; exact h
  | succ m ih =>
    intro n ns h
    refine ih _ _ ?_
    unfold gsV
    split
    · rename_i h1
      exact add_vl (a := (ns, _, _)) h h1
    · exact h
theorem sl_vl (zs : List Int) : ∀ m n ns, Vl ns → Vl (slGo zs m n ns).1 := by
  intro m
  induction m with
  | zero => intro n ns h; exact h
  | succ m ih =>
    intro n ns h
    refine ih _ _ ?_
    unfold slV
    split
    · rename_i h1
      exact set_vl (a := (ns, _, _, _)) h h1
    · exact h
theorem gr_vl (zs : List Int) (n k : Int) : Vl (grV zs n k).1 := sl_vl zs _ _ _ (st_vl zs _ _ _ rt_vl)

theorem ky_eq {p q : kyC.den} (h : keyEq kyC p q = true) : p = q := by
  obtain ⟨a, b⟩ := p
  obtain ⟨c, d⟩ := q
  simp only [keyEq, Bool.and_eq_true, decide_eq_true_eq] at h
  rw [Prod.mk.injEq]
  exact h
theorem find_ky9 : ∀ (es : twE) (p : kyC.den) (x : Bool), findE (k := kyC) (v := .bool) es p = some x → p ∈ es.map (·.1) := by
  intro es
  induction es with
  | nil => intro p x h; cases h
  | cons e es ih =>
    intro p x h
    obtain ⟨a, y⟩ := e
    unfold findE at h
    split at h
    · rename_i hk
      rw [ky_eq hk]
      exact List.mem_cons_self ..
    · exact List.mem_cons_of_mem _ (ih p x h)
theorem set_key : ∀ (es : twE) (p q : kyC.den) (x : Bool), q ∈ (setE (k := kyC) (v := .bool) p x es).map (·.1) → q = p ∨ q ∈ es.map (·.1) := by
  intro es
  induction es with
  | nil =>
    intro p q x h
    exact .inl (by simpa [setE] using h)
  | cons e es ih =>
    intro p q x h
    obtain ⟨a, y⟩ := e
    unfold setE at h
    split at h
    · rcases List.mem_cons.1 h with h | h
      · exact .inl h
      · exact .inr (List.mem_cons_of_mem _ h)
    · rcases List.mem_cons.1 h with h | h
      · exact .inr (by rw [h]; exact List.mem_cons_self ..)
      · rcases ih p q x h with h | h
        · exact .inl h
        · exact .inr (List.mem_cons_of_mem _ h)
theorem twGo_no : ∀ (l : List Nd) (es : twE), (l.map fun n : Nd => ((n.1, n.2.1) : kyC.den)).Pairwise (· ≠ ·) → (∀ n ∈ l, ((n.1, n.2.1) : kyC.den) ∉ es.map (·.1)) → twGo es l = false := by
  intro l
  induction l with
  | nil => intro es _ _; rfl
  | cons n l ih =>
    intro es h1 h2
    obtain ⟨h3, h4⟩ := List.pairwise_cons.1 h1
    unfold twGo
    have h5 : findE (k := kyC) (v := .bool) es (n.1, n.2.1) = none := by
      cases hf : findE (k := kyC) (v := .bool) es (n.1, n.2.1) with
      | none => rfl
      | some x => exact absurd (find_ky9 es _ x hf) (h2 n (List.mem_cons_self ..))
    rw [h5]
    rw [if_neg (by simp)]
    refine ih _ h4 fun m hm hk => ?_
    rcases set_key es _ _ _ hk with h | h
    · exact h3 _ (List.mem_map.2 ⟨m, hm, rfl⟩) h.symm
    · exact h2 m (List.mem_cons_of_mem _ hm) h
theorem skGo_no {p : Nat → Bool} : ∀ m i, (∀ j, i ≤ j → j < i + m → p j = false) → skGo p m i = i + m := by
  intro m
  induction m with
  | zero => intro i _; rfl
  | succ m ih =>
    intro i h
    unfold skGo
    rw [if_neg (by rw [h i (Nat.le_refl _) (by omega)]; exact Bool.false_ne_true), ih (i + 1) fun j h1 h2 => h j (by omega) (by omega)]
    omega
theorem ordGo_all {ns : List Nd} : ∀ m i, (∀ j, i ≤ j → j < i + m → ordAt ns j = true) → ordGo ns m i = true := by
  intro m
  induction m with
  | zero => intro i _; rfl
  | succ m ih =>
    intro i h
    show (ordAt ns i && ordGo ns m (i + 1)) = true
    rw [h i (Nat.le_refl _) (by omega), ih (i + 1) fun j h1 h2 => h j (by omega) (by omega)]
    rfl
theorem Vl.vld {ns : List Nd} (hv : Vl ns) : VldT ns := by
  refine ⟨hv.f.lim, hv.f.frm, ?_, ?_, ?_⟩
  · refine ordGo_all _ _ fun j _ h => ?_
    unfold ordAt
    rw [hv.asc j (by omega)]
    by_cases h0 : 0 < j
    · rw [hv.flw j h0 (by omega)]
      simp
    · rw [decide_eq_false (show ¬ 0 < (j : Int) by omega)]
      rfl
  · refine twGo_no _ _ ?_ fun n _ h => by cases h
    rw [List.pairwise_map, List.pairwise_iff_getElem]
    intro i j hi hj hij he
    obtain ⟨e1, e2⟩ := Prod.mk.inj he
    rw [← nd_at' hi, ← nd_at' hj] at e1 e2
    have hp := hv.f.par
    have hj2 := (par_lt hp (by omega) hj).2
    by_cases h0 : 0 < i
    · have hi2 := (par_lt hp h0 hi).2
      have hpi : ((paN ns i : Nat) : Int) = ((paN ns j : Nat) : Int) := by
        rw [hi2, hj2]
        exact e1
      have := hv.d i j h0 hi (by omega) hj (by omega) e2
      omega
    · obtain rfl : i = 0 := by omega
      have h1 := frm_nam hv.f.frm (i := j) (by omega) hj
      have h2 := frm_nd hv.f.frm hi
      unfold ndFrm at h2
      obtain ⟨h3, _⟩ := Bool.and_eq_true_iff.1 h2
      obtain ⟨h4, _⟩ := Bool.and_eq_true_iff.1 h3
      have h5 : (ndAt ns 0).2.1 = ⟨#[]⟩ := by
        by_cases hx : (ndAt ns 0).2.1 = ⟨#[]⟩
        · exact hx
        · rw [decide_eq_false hx] at h4
          simp at h4
      rw [← e2, h5] at h1
      exact absurd h1 (by decide)
  · unfold deepV skV
    rw [skGo_no _ _ fun j _ h => ?_]
    · simp
    · exact decide_eq_false (by have := hv.dep j (by omega); omega)
theorem gr_vld (zs : List Int) (n k : Int) : VldT (grV zs n k).1 := (gr_vl zs n k).vld
end Go.Ab
