/- Children in a valid tree. -/
import Derived.Test.YtgeoggpkjnnonaaTY86toY93
import Derived.Test.YtgeoggpkjnnonaaTX0toY60
namespace Go.Ab
open Go.Proofs
set_option linter.unusedSectionVars false
set_option maxRecDepth 100000
variable [Base]

/-- What 'follows' says: the parent is the node before, or a node above it has the same parent and an earlier name. -/
theorem flwGo_ex {ns : List Nd} {n : Nd} : ∀ k j, flwGo ns n k j = true → ∃ t, 0 < upN ns t j ∧ (ndAt ns (upN ns t j)).1 = n.1 ∧ bLe (ndAt ns (upN ns t j)).2.1 n.2.1 = true := by
  intro k
  induction k with
  | zero => intro j h; cases h
  | succ k ih =>
    intro j h
    unfold flwGo at h
    split at h
    · cases h
    · rename_i h0
      split at h
      · rename_i h1
        exact ⟨0, (show 0 < j by omega), h1, h⟩
      · obtain ⟨t, h1, h2, h3⟩ := ih _ h
        exact ⟨t + 1, h1, h2, h3⟩
theorem vl_flw {ns : List Nd} (hv : Vl ns) {m : Nat} (hm : m + 1 < ns.length) : paN ns (m + 1) = m ∨ ∃ t, 0 < upN ns t m ∧ paN ns (upN ns t m) = paN ns (m + 1) ∧ bLe (ndAt ns (upN ns t m)).2.1 (ndAt ns (m + 1)).2.1 = true := by
  have h := hv.flw (m + 1) (by omega) hm
  unfold flwV at h
  split at h
  · rename_i h1
    left
    unfold paN paI
    rw [h1]
    omega
  · obtain ⟨t, h1, h2, h3⟩ := flwGo_ex _ _ h
    refine .inr ⟨t, h1, ?_, h3⟩
    have h2' : (ndAt ns (upN ns t m)).1 = (ndAt ns (m + 1)).1 := h2
    unfold paN paI
    rw [h2']
/-- What lies between a node and one below it is below it too. -/
theorem below_all {ns : List Nd} (hv : Vl ns) {a : Nat} : ∀ m, m < ns.length → (∃ t, upN ns t m = a) → ∀ j, a ≤ j → j ≤ m → ∃ t, upN ns t j = a := by
  intro m
  induction m with
  | zero =>
    intro _ h j _ h2
    obtain rfl : j = 0 := by omega
    exact h
  | succ m ih =>
    intro hm h j h1 h2
    by_cases hj : j = m + 1
    · rw [hj]; exact h
    · obtain ⟨t, ht⟩ := h
      cases t with
      | zero =>
        have : m + 1 = a := ht
        omega
      | succ t =>
        have ht : upN ns t (paN ns (m + 1)) = a := ht
        refine ih (by omega) ?_ j h1 (by omega)
        rcases vl_flw hv hm with h3 | ⟨u, h3, h4, _⟩
        · rw [h3] at ht
          exact ⟨t, ht⟩
        · rw [← h4, ← up_succ, ← upN_add] at ht
          exact ⟨_, ht⟩
/-- The first child is the next node. -/
theorem first_child {ns : List Nd} (hv : Vl ns) {i c : Nat} (hc : c < ns.length) (h0 : 0 < c) (hp : paN ns c = i) : i + 1 < ns.length ∧ paN ns (i + 1) = i := by
  have hlt := (par_lt hv.f.par h0 hc).1
  have hi1 : i + 1 < ns.length := by omega
  obtain ⟨t, ht⟩ := below_all hv c hc ⟨1, hp⟩ (i + 1) (by omega) (by omega)
  refine ⟨hi1, ?_⟩
  cases t with
  | zero =>
    have : i + 1 = i := ht
    omega
  | succ t =>
    have ht : upN ns t (paN ns (i + 1)) = i := ht
    have h1 := up_le hv.f t (paN ns (i + 1))
    have h2 := (par_lt hv.f.par (j := i + 1) (by omega) hi1).1
    omega
/-- Neighbours among children have ascending names. -/
theorem next_child {ns : List Nd} (hv : Vl ns) {i c d : Nat} (hd : d < ns.length) (c0 : 0 < c) (hcd : c < d) (hpc : paN ns c = i) (hpd : paN ns d = i) (hno : ∀ e, c < e → e < d → ¬ paN ns e = i) : bLt (ndAt ns c).2.1 (ndAt ns d).2.1 = true := by
  obtain ⟨d, rfl⟩ : ∃ q, d = q + 1 := ⟨d - 1, by omega⟩
  have hci := (par_lt hv.f.par c0 (by omega)).1
  rcases vl_flw hv hd with h | ⟨t, h1, h2, h3⟩
  · omega
  · have hle := up_le hv.f t d
    obtain ⟨e, he⟩ : ∃ e, upN ns t d = e := ⟨_, rfl⟩
    rw [he] at h1 h2 h3 hle
    have hec : e ≤ c := by
      rcases Nat.lt_or_ge c e with h | h
      · exact absurd (by omega) (hno e h (by omega))
      · exact h
    obtain ⟨u, hu⟩ := below_all hv d (by omega) ⟨t, he⟩ c hec (by omega)
    have hec2 : c = e := up_same hv.f (i := i) (j := c) (t := 0) (u := u) c0 (by omega) h1 (by omega) hpc (by omega) rfl hu
    subst hec2
    rcases bLe_iff.1 h3 with h | h
    · exact h
    · exfalso
      have := hv.d c (d + 1) c0 (by omega) (by omega) hd (by omega) h
      omega

/-- The nodes from one on with this parent. -/
def kidL (ns : List Nd) (i : Int) : Nat → Nat → List Nat
  | 0, _ => []
  | m + 1, j => if (ndAt ns j).1 = i then j :: kidL ns i m (j + 1) else kidL ns i m (j + 1)
theorem chl_eq (ns : List Nd) (i : Int) : ∀ (m j : Nat) (out : List Int), chlGo ns i m j out = out ++ (kidL ns i m j).map fun q : Nat => (q : Int) := by
  intro m
  induction m with
  | zero => intro j out; exact (List.append_nil _).symm
  | succ m ih =>
    intro j out
    unfold chlGo kidL
    rw [ih]
    split
    · rw [List.map_cons, List.append_assoc]
      rfl
    · rfl
theorem kid_mem {ns : List Nd} {i : Int} : ∀ m j q, q ∈ kidL ns i m j ↔ j ≤ q ∧ q < j + m ∧ (ndAt ns q).1 = i := by
  intro m
  induction m with
  | zero =>
    intro j q
    constructor
    · intro h; cases h
    · intro ⟨h1, h2, _⟩; omega
  | succ m ih =>
    intro j q
    unfold kidL
    split
    · rename_i h0
      rw [List.mem_cons, ih]
      constructor
      · rintro (rfl | ⟨h1, h2, h3⟩)
        · exact ⟨Nat.le_refl _, by omega, h0⟩
        · exact ⟨by omega, by omega, h3⟩
      · rintro ⟨h1, h2, h3⟩
        by_cases hq : q = j
        · exact .inl hq
        · exact .inr ⟨by omega, by omega, h3⟩
    · rename_i h0
      rw [ih]
      constructor
      · rintro ⟨h1, h2, h3⟩
        exact ⟨by omega, by omega, h3⟩
      · rintro ⟨h1, h2, h3⟩
        by_cases hq : q = j
        · subst hq
          exact absurd h3 h0
        · exact ⟨by omega, by omega, h3⟩
theorem kid_asc {ns : List Nd} {i : Int} : ∀ m j, (kidL ns i m j).Pairwise (· < ·) := by
  intro m
  induction m with
  | zero => intro j; exact List.Pairwise.nil
  | succ m ih =>
    intro j
    unfold kidL
    split
    · refine List.pairwise_cons.2 ⟨fun q hq => ?_, ih _⟩
      have := ((kid_mem m (j + 1) q).1 hq).1
      omega
    · exact ih _
/-- How many have a parent before one. -/
def kcnt (ns : List Nd) (b : Int) : Nat → Nat → Nat
  | 0, _ => 0
  | m + 1, j => (if 0 ≤ (ndAt ns j).1 ∧ (ndAt ns j).1 < b then 1 else 0) + kcnt ns b m (j + 1)
theorem kcnt_step {ns : List Nd} {b : Int} (hb : 0 ≤ b) : ∀ m j, kcnt ns (b + 1) m j = kcnt ns b m j + (kidL ns b m j).length := by
  intro m
  induction m with
  | zero => intro j; rfl
  | succ m ih =>
    intro j
    unfold kcnt kidL
    rw [ih]
    generalize hx : @id Int (ndAt ns j).1 = x
    have hx : (ndAt ns j).1 = x := hx
    rw [hx]
    by_cases h1 : x = b
    · rw [if_pos h1, if_pos (show 0 ≤ x ∧ x < b + 1 by omega), if_neg (show ¬ (0 ≤ x ∧ x < b) by omega), List.length_cons]
      omega
    · rw [if_neg h1]
      by_cases h2 : 0 ≤ x ∧ x < b
      · rw [if_pos h2, if_pos (show 0 ≤ x ∧ x < b + 1 by omega)]
        omega
      · rw [if_neg h2, if_neg (show ¬ (0 ≤ x ∧ x < b + 1) by omega)]
        omega
theorem kcnt_zero (ns : List Nd) : ∀ m j, kcnt ns 0 m j = 0 := by
  intro m
  induction m with
  | zero => intro j; rfl
  | succ m ih =>
    intro j
    unfold kcnt
    rw [ih, if_neg (fun h => absurd (Int.lt_of_le_of_lt h.1 h.2) (Int.lt_irrefl _))]
theorem kcnt_all {ns : List Nd} (hf : FrmT ns) : ∀ m j, 0 < j → j + m = ns.length → kcnt ns (ns.length : Nat) m j = m := by
  intro m
  induction m with
  | zero => intro j _ _; rfl
  | succ m ih =>
    intro j h0 hj
    have hp := hf.par j h0 (by omega)
    unfold kcnt
    rw [ih (j + 1) (by omega) (by omega), if_pos (show 0 ≤ (ndAt ns j).1 ∧ (ndAt ns j).1 < ((ns.length : Nat) : Int) from ⟨hp.1, Int.lt_of_lt_of_le hp.2 (by omega)⟩)]
    omega

theorem getD_map_cast (l : List Nat) {k : Nat} (hk : k < l.length) : (l.map fun q : Nat => (q : Int)).getD k 0 = (l[k] : Nat) := by
  simp [hk]
theorem kid_len (ns : List Nd) (i : Int) : ∀ m j, (kidL ns i m j).length ≤ m := by
  intro m
  induction m with
  | zero => intro j; exact Nat.le_refl _
  | succ m ih =>
    intro j
    have := ih (j + 1)
    unfold kidL
    split
    · exact Nat.succ_le_succ this
    · omega
/-- What the law asks of the children of a node. -/
structure KidF (ns : List Nd) (i : Nat) (l : List Int) : Prop where
  at' : ∀ k, k < l.length → ∃ c : Nat, l.getD k 0 = (c : Int) ∧ c < ns.length ∧ (ndAt ns c).1 = (i : Int) ∧ namB (ndAt ns c).2.1 = true
  asc : ∀ k, k + 1 < l.length → l.getD k 0 < l.getD (k + 1) 0 ∧ bLt (ndAt ns (l.getD k 0).toNat).2.1 (ndAt ns (l.getD (k + 1) 0).toNat).2.1 = true
  fst' : 0 < l.length → l.getD 0 0 = (i : Int) + 1
  bnd : l.length ≤ ns.length
  len : kcnt ns ((i : Int) + 1) ns.length 0 = kcnt ns (i : Int) ns.length 0 + l.length
theorem kid_par {ns : List Nd} (hv : Vl ns) {i c : Nat} (h : c ∈ kidL ns (i : Int) ns.length 0) : 0 < c ∧ c < ns.length ∧ (ndAt ns c).1 = (i : Int) ∧ paN ns c = i ∧ i < c := by
  obtain ⟨_, h2, h3⟩ := (kid_mem _ _ _).1 h
  rw [Nat.zero_add] at h2
  have h0 : 0 < c := by
    refine Nat.pos_of_ne_zero fun h0 => ?_
    subst h0
    have h4 := frm_nd hv.f.frm h2
    unfold ndFrm at h4
    obtain ⟨h5, _⟩ := Bool.and_eq_true_iff.1 h4
    obtain ⟨h6, _⟩ := Bool.and_eq_true_iff.1 h5
    rw [h3] at h6
    simp at h6
  have hp := par_lt hv.f.par h0 h2
  have h5 : paN ns c = i := by
    have := hp.2
    rw [h3] at this
    omega
  exact ⟨h0, h2, h3, h5, by omega⟩
theorem kid_facts {ns : List Nd} (hv : Vl ns) {i : Nat} (hi : i < ns.length) : KidF ns i (chlV (ns, (i : Int))) := by
  have hc : chlV (ns, (i : Int)) = (kidL ns (i : Int) ns.length 0).map fun q : Nat => (q : Int) := by
    unfold chlV
    rw [if_pos]
    · show chlGo ns (i : Int) ns.length 0 [] = _
      rw [chl_eq]
      rfl
    · unfold hasB
      rw [chk_vld.2 hv.vld]
      simp [hi]
  rw [hc]
  obtain ⟨l, hl⟩ : ∃ l, kidL ns (i : Int) ns.length 0 = l := ⟨_, rfl⟩
  have hmem : ∀ c, c ∈ l → _ := fun c hc => kid_par hv (hl ▸ hc)
  have hasc : l.Pairwise (· < ·) := hl ▸ kid_asc ns.length 0
  have hin : ∀ c, 0 < c → c < ns.length → paN ns c = i → c ∈ l := fun c h0 h1 h2 => by
    rw [← hl]
    refine (kid_mem _ _ _).2 ⟨Nat.zero_le _, by omega, ?_⟩
    rw [← (par_lt hv.f.par h0 h1).2, h2]
  have hbnd := kid_len ns (i : Int) ns.length 0
  have hstep := kcnt_step (ns := ns) (b := (i : Int)) (by omega) ns.length 0
  rw [hl] at hstep hbnd ⊢
  rw [List.pairwise_iff_getElem] at hasc
  refine ⟨fun k hk => ?_, fun k hk => ?_, fun h0 => ?_, by rw [List.length_map]; exact hbnd, ?_⟩
  · rw [List.length_map] at hk
    rw [getD_map_cast _ hk]
    obtain ⟨h1, h2, h3, _⟩ := hmem _ (List.getElem_mem hk)
    exact ⟨_, rfl, h2, h3, frm_nam hv.f.frm h1 h2⟩
  · rw [List.length_map] at hk
    rw [getD_map_cast _ hk, getD_map_cast _ (Nat.lt_of_succ_lt hk)]
    have hlt := hasc k (k + 1) (by omega) hk (by omega)
    obtain ⟨c1, c2, _, c4, _⟩ := hmem _ (List.getElem_mem (Nat.lt_of_succ_lt hk))
    obtain ⟨d1, d2, _, d4, _⟩ := hmem _ (List.getElem_mem hk)
    refine ⟨by omega, ?_⟩
    rw [Int.toNat_natCast, Int.toNat_natCast]
    refine next_child hv d2 c1 hlt c4 d4 fun e h1 h2 h3 => ?_
    obtain ⟨m, hm, he⟩ := List.getElem_of_mem (hin e (by omega) (by omega) h3)
    rcases Nat.lt_or_ge k m with h4 | h4
    · rcases Nat.lt_or_ge (k + 1) m with h5 | h5
      · have := hasc (k + 1) m hk hm h5
        omega
      · obtain rfl : m = k + 1 := by omega
        omega
    · rcases Nat.lt_or_ge m k with h5 | h5
      · have := hasc m k hm (by omega) h5
        omega
      · obtain rfl : m = k := by omega
        omega
  · rw [List.length_map] at h0
    rw [getD_map_cast _ h0]
    obtain ⟨c1, c2, _, c4, c5⟩ := hmem _ (List.getElem_mem h0)
    obtain ⟨f1, f2⟩ := first_child hv c2 c1 c4
    obtain ⟨m, hm, he⟩ := List.getElem_of_mem (hin (i + 1) (by omega) f1 f2)
    rcases Nat.eq_zero_or_pos m with h5 | h5
    · subst h5
      omega
    · have := hasc 0 m h0 hm h5
      omega
  · rw [List.length_map]
    exact hstep
theorem bLe_not {a b : ByteArray} (h : bLt a b = true) : bLe b a = false := by
  cases h2 : bLe b a with
  | false => rfl
  | true =>
    exfalso
    rcases bLe_iff.1 h2 with h3 | h3
    · have := bLt_trans h h3
      rw [bLt_irrefl] at this
      cases this
    · rw [h3, bLt_irrefl] at h
      cases h
theorem kcnt_end {ns : List Nd} (hv : Vl ns) : 1 + kcnt ns ((ns.length : Nat) : Int) ns.length 0 = ns.length := by
  obtain ⟨m, hm⟩ : ∃ m, ns.length = m + 1 := ⟨ns.length - 1, by have := hv.f.len; omega⟩
  have h0 := kcnt_all hv.f m 1 (by decide) (by omega)
  have hp : (ndAt ns 0).1 = -1 := by
    have h4 := frm_nd hv.f.frm (i := 0) (by omega)
    unfold ndFrm at h4
    obtain ⟨h5, _⟩ := Bool.and_eq_true_iff.1 h4
    obtain ⟨h6, _⟩ := Bool.and_eq_true_iff.1 h5
    simp at h6
    exact h6.1
  generalize hb : ((ns.length : Nat) : Int) = b at h0
  have hb0 : kcnt ns b (m + 1) 0 = m := by
    unfold kcnt
    rw [hp, if_neg (fun h => absurd h.1 (by decide)), h0, Nat.zero_add]
  rw [hm, hb0]
  omega


theorem kc0 (ns : List Nd) : kcnt ns (((0 : Nat) : Nat) : Int) ns.length 0 = 0 := kcnt_zero ns _ _
theorem kcnt_le (ns : List Nd) (b : Int) : ∀ m j, kcnt ns b m j ≤ m := by
  intro m
  induction m with
  | zero => intro j; exact Nat.le_refl _
  | succ m ih =>
    intro j
    have := ih (j + 1)
    unfold kcnt
    split <;> omega
def saysWlk : Says := fun args H => match args, H with
  | [.c (.p (.l (.int .i64) _))], [] => some (none, .bool true, [])
  | _, _ => none
abbrev D0 : Table := EN C29
theorem d0 : TSound Try.prog D0 := en c29
def D1 : Table := ext D0 4 saysWlk
theorem tape_nw (zs : List Int) : tapeOk (zs.take 500) 0 := by
  have := List.length_take_le 500 zs
  exact ⟨by decide, by decide, by omega⟩
theorem d1 : TSound Try.prog D1 := by
  refine ext_run d0 (f := 4) (fn := Try.f4) rfl rfl [0, 2, 3, 4, 5, 6, 7, 8, 9, 16, 17, 18, 23, 24, 25, 26, 51, 92, 104] fun args H p r' H' hs hp => ?_
  unfold saysWlk at hs
  split at hs
  · rename_i zs
    cases hs
    refine ⟨Nat.le_of_ble_eq_true rfl, [], rfl, fun k hk => absurd hk (Nat.not_lt_zero k), ?_⟩
    have ht0 := tape_nw zs
    generalize hz : (zs : List Int).take 500 = ys at ht0
    obtain ⟨R, hR⟩ : ∃ R, grV ys 0 12 = R := ⟨_, rfl⟩
    have hv := gr_vl ys 0 12
    rw [hR] at hv
    obtain ⟨ns, x⟩ := R
    have hv : Vl ns := hv
    have hlen := hv.f.len
    have q1 : tapeOk ys 0 ∧ (0 : Int) ≤ 12 ∧ (12 : Int) ≤ 100 := ⟨ht0, by decide, by decide⟩
    conv => whnf
    rw [hz]
    repeat ((conv => whnf); refine ⟨by first | exact q1 | (unfold inI64; omega) | omega | exact ⟨by omega, by omega⟩ | exact rfl | decide +kernel, ?_⟩)
    conv => whnf
    rw [hR]
    repeat ((conv => whnf); refine ⟨by first | exact q1 | (unfold inI64; omega) | omega | exact ⟨by omega, by omega⟩ | exact rfl | decide +kernel, ?_⟩)
    conv => whnf
    refine loop_intro (σ := Nat) (fun i => [(0, XV.s .none), (2, XV.s .none), (3, XV.s .none), (4, XV.s (.a (.c (.ptr 1 0)))), (5, XV.s (.int .i64 (1 + kcnt ns (i : Int) ns.length 0 : Nat))), (6, XV.s .none), (7, XV.s .none), (8, XV.s .none), (9, XV.s .none), (16, XV.s (.int .i64 (ns.length : Nat))), (17, XV.s (.int .i64 (i : Nat))), (18, XV.s .none), (23, XV.s .none), (24, XV.s .none), (25, XV.s .none), (26, XV.s .none), (51, XV.s .none), (92, XV.s .none), (104, XV.s .none)])
      (fun _ => [tapeO ys x, .row [.p (.l ndC ns)]]) (fun i => i ≤ ns.length) (fun i => ns.length - i) 0 ?_ rfl (Nat.zero_le _) (fun i hi => ?_)
    · rw [kc0]
      repeat (first | exact LeL.nil | refine LeL.drop ?_ | refine LeL.same ?_)
    conv => whnf
    refine cond_intro (fun h => ?_) (fun h => ?_)
    · have h1 : i < ns.length := lt_of_dec h
      have hk := kid_facts hv h1
      obtain ⟨l, hl⟩ : ∃ l, chlV (ns, (i : Int)) = l := ⟨_, rfl⟩
      rw [hl] at hk
      repeat ((conv => whnf); refine ⟨by first | exact ⟨rfl, trivial⟩ | (unfold inI64; omega) | omega | exact ⟨by omega, by omega⟩ | exact rfl | decide +kernel, ?_⟩)
      conv => whnf
      rw [hl]
      refine loop_intro (σ := Nat) (fun k => [(0, XV.s .none), (2, XV.s .none), (3, XV.s .none), (4, XV.s (.a (.c (.ptr 1 0)))), (5, XV.s (.int .i64 (1 + kcnt ns (i : Int) ns.length 0 : Nat))), (6, XV.s (.int .i64 (i : Nat))), (7, XV.s (.a (.c (.p (.l (.int .i64) l))))), (8, XV.s .none), (9, XV.s .none), (16, XV.s (.int .i64 (ns.length : Nat))), (17, XV.s (.int .i64 (i : Nat))), (18, XV.s .none), (23, XV.s (.a (.c (.p (.l (.int .i64) l))))), (24, XV.s (.int .i64 (l.length : Nat))), (25, XV.s (.int .i64 (k : Nat))), (26, XV.s .none), (51, XV.s .none), (92, XV.s .none), (104, XV.s .none)])
        (fun _ => [tapeO ys x, .row [.p (.l ndC ns)]]) (fun k => k ≤ l.length) (fun k => l.length - k) 0 ?_ rfl (Nat.zero_le _) (fun k hkl => ?_)
      · repeat (first | exact LeL.nil | refine LeL.drop ?_ | refine LeL.same ?_)
      conv => whnf
      refine cond_intro (fun h2 => ?_) (fun h2 => ?_)
      · have h3 : k < l.length := lt_of_dec h2
        obtain ⟨c, hc, hcn, hcp, hcm⟩ := hk.at' k h3
        have hin : 0 ≤ (k : Int) ∧ (k : Int) < (l.length : Nat) := by omega
        have hg : l.getD ((k : Int)).toNat (CT.int IntKind.i64).dflt = (c : Int) := hc
        have hbd : l.length ≤ ns.length := hk.bnd
        have hl12 : ns.length ≤ 120 := hlen.2
        have c1 : decide ((k : Int) > 0) = true → 0 ≤ (k : Int) - 1 ∧ (k : Int) - 1 < (l.length : Nat) := fun hg => by have := of_decide_eq_true hg; omega
        conv => whnf
        refine ⟨hin, ?_⟩
        conv => whnf
        rw [hg]
        obtain ⟨q, hq, hq1⟩ : ∃ q : Int, l.getD ((k : Int) - 1).toNat (CT.int IntKind.i64).dflt = q ∧ (0 < k → 0 ≤ q ∧ q < (ns.length : Nat) ∧ q < (c : Int) ∧ bLt (ndAt ns q.toNat).2.1 (ndAt ns c).2.1 = true) := by
          refine ⟨_, rfl, fun h0 => ?_⟩
          obtain ⟨m, rfl⟩ : ∃ m, k = m + 1 := ⟨k - 1, by omega⟩
          obtain ⟨d, hd, hdn, _, _⟩ := hk.at' m (by omega)
          obtain ⟨a1, a2⟩ := hk.asc m h3
          rw [show (((m + 1 : Nat) : Int) - 1).toNat = m by omega]
          rw [hc, hd, Int.toNat_natCast, Int.toNat_natCast] at a2
          rw [hc, hd] at a1
          show 0 ≤ l.getD m 0 ∧ l.getD m 0 < _ ∧ l.getD m 0 < _ ∧ bLt (ndAt ns (l.getD m 0).toNat).2.1 _ = true
          rw [hd, Int.toNat_natCast]
          exact ⟨by omega, by omega, a1, a2⟩
        repeat ((conv => whnf); refine ⟨by first | exact hin | (unfold inI64; omega) | omega | exact ⟨by omega, by omega⟩ | (intro hg; first | (unfold inI64; omega) | omega | exact ⟨by omega, by omega⟩ | (simp [lit] at hg; unfold inI64; omega) | (simp [lit] at hg; omega) | (simp [lit] at hg; exact ⟨by omega, by omega⟩)) | (show (_ : Nat) + 1 ≤ 1000000000000; omega) | exact rfl | (unfold inI64; dsimp only; omega) | (dsimp only; omega) | (intro hg; simp [lit] at hg; first | (unfold inI64; dsimp only; omega) | (dsimp only; omega)) | decide +kernel, ?_⟩)
        conv => whnf
        rw [hq]
        refine cond_intro (fun h4 => ?_) (fun h4 => ?_)
        · exfalso
          revert h4
          by_cases h0 : 0 < k
          · have := hq1 h0
            simp
            omega
          · simp
            omega
        have hin2 : 0 ≤ (c : Int) ∧ (c : Int) < (ns.length : Nat) := by omega
        have hin3 : decide (0 < (k : Int)) = true → 0 ≤ q ∧ q < (ns.length : Nat) := fun hg => by have := hq1 (by have := of_decide_eq_true hg; omega); omega
        conv => whnf
        repeat ((conv => whnf); refine ⟨by first | exact hin2 | (unfold inI64; omega) | omega | exact ⟨by omega, by omega⟩ | (intro hg; first | (unfold inI64; omega) | omega | exact ⟨by omega, by omega⟩ | (simp [lit] at hg; unfold inI64; omega) | (simp [lit] at hg; omega) | (simp [lit] at hg; exact ⟨by omega, by omega⟩)) | (show (_ : Nat) + 1 ≤ 1000000000000; omega) | exact rfl | (unfold inI64; dsimp only; omega) | (dsimp only; omega) | (intro hg; simp [lit] at hg; first | (unfold inI64; dsimp only; omega) | (dsimp only; omega)) | decide +kernel, ?_⟩)
        conv => whnf
        rw [hq, nd_at, show ns.getD q.toNat ndC.dflt = ndAt ns q.toNat from rfl]
        refine cond_intro (fun h5 => ?_) (fun h5 => ?_)
        · exfalso
          revert h5
          rw [hcp, hcm]
          by_cases h0 : 0 < k
          · have h6 : Op.bytesLess (ndAt ns q.toNat).2.1.toList (ndAt ns c).2.1.toList = true := (hq1 h0).2.2.2
            rw [h6]
            simp
          · simp [h0]
        repeat ((conv => whnf); refine ⟨by first | (unfold inI64; omega) | omega | exact ⟨by omega, by omega⟩ | exact rfl | decide +kernel, ?_⟩)
        conv => whnf
        refine head_intro (k + 1) ?_ rfl h3 ?_
        · repeat (first | exact LeL.nil | refine LeL.drop ?_ | refine LeL.same ?_)
        · omega
      have h3 : k = l.length := by have := ge_of_dec h2; omega
      subst h3
      clear hl
      obtain ⟨f, hf, hf1⟩ : ∃ f : Int, l.getD ((0 : Int)).toNat (CT.int IntKind.i64).dflt = f ∧ (0 < l.length → f = (i : Int) + 1) := ⟨_, rfl, fun h0 => hk.fst' h0⟩
      have hin4 : decide (0 < ((l.length : Nat) : Int)) = true → 0 ≤ (0 : Int) ∧ (0 : Int) < (l.length : Nat) := fun hg => by have := of_decide_eq_true hg; omega
      have hlen2 : ns.length ≤ 120 := hlen.2
      have hll : l.length ≤ ns.length := hk.bnd
      have hkl2 := hk.len
      have hkb : kcnt ns ((i : Int) + 1) ns.length 0 ≤ ns.length := kcnt_le ns _ _ _
      repeat ((conv => whnf); refine ⟨by first | exact hin4 | (unfold inI64; omega) | omega | exact ⟨by omega, by omega⟩ | (intro hg; first | (unfold inI64; omega) | omega | exact ⟨by omega, by omega⟩ | (simp [lit] at hg; unfold inI64; omega) | (simp [lit] at hg; omega) | (simp [lit] at hg; exact ⟨by omega, by omega⟩)) | (show (_ : Nat) + 1 ≤ 1000000000000; omega) | exact rfl | (unfold inI64; dsimp only; omega) | (dsimp only; omega) | (intro hg; simp [lit] at hg; first | (unfold inI64; dsimp only; omega) | (dsimp only; omega)) | decide +kernel, ?_⟩)
      conv => whnf
      rw [hf]
      refine cond_intro (fun h5 => ?_) (fun h5 => ?_)
      · exfalso
        revert h5
        by_cases h0 : 0 < l.length
        · rw [hf1 h0]
          simp
        · simp [h0]
      repeat ((conv => whnf); refine ⟨by first | (unfold inI64; omega) | omega | exact ⟨by omega, by omega⟩ | (intro hg; first | (unfold inI64; omega) | omega | exact ⟨by omega, by omega⟩ | (simp [lit] at hg; unfold inI64; omega) | (simp [lit] at hg; omega) | (simp [lit] at hg; exact ⟨by omega, by omega⟩)) | (show (_ : Nat) + 1 ≤ 1000000000000; omega) | exact rfl | (unfold inI64; dsimp only; omega) | (dsimp only; omega) | (intro hg; simp [lit] at hg; first | (unfold inI64; dsimp only; omega) | (dsimp only; omega)) | decide +kernel, ?_⟩)
      conv => whnf
      refine head_intro (i + 1) ?_ rfl h1 ?_
      · rw [show (((i + 1 : Nat) : Nat) : Int) = (i : Int) + 1 from rfl, hkl2, show (((1 + (kcnt ns (i : Int) ns.length 0 + l.length) : Nat) : Nat) : Int) = ((1 + kcnt ns (i : Int) ns.length 0 : Nat) : Int) + ((l.length : Nat) : Int) by omega]
        repeat (first | exact LeL.nil | refine LeL.drop ?_ | refine LeL.same ?_)
      · omega
    have h1 : i = ns.length := by have := ge_of_dec h; omega
    subst h1
    repeat ((conv => whnf); refine ⟨by first | (unfold inI64; omega) | omega | exact ⟨by omega, by omega⟩ | (intro hg; first | (unfold inI64; omega) | omega | exact ⟨by omega, by omega⟩ | (simp [lit] at hg; unfold inI64; omega) | (simp [lit] at hg; omega) | (simp [lit] at hg; exact ⟨by omega, by omega⟩)) | (show (_ : Nat) + 1 ≤ 1000000000000; omega) | exact rfl | (unfold inI64; dsimp only; omega) | (dsimp only; omega) | (intro hg; simp [lit] at hg; first | (unfold inI64; dsimp only; omega) | (dsimp only; omega)) | decide +kernel, ?_⟩)
    conv => whnf
    rw [kcnt_end hv]
    refine ends_eq ⟨?_, rfl⟩
    rw [decide_eq_true rfl]
    rfl
  · cases hs
end Go.Ab
namespace Go.Ab
open Go.RowKit
set_option linter.unusedSectionVars false

/-- The fields of a struct, each behind the one before it. -/
def nestGo (P : Program) (f : TypeId → Option CT) (tot : Nat) : List Field → Nat → Option CT
  | [], _ => none
  | [x], off => match f x.type with
    | some c => if x.offset = off ∧ P.cellsOf x.type = c.width ∧ tot = off + c.width then some c else none
    | none => none
  | x :: r, off => match f x.type, nestGo P f tot r (off + P.cellsOf x.type) with
    | some a, some b => if x.offset = off ∧ P.cellsOf x.type = a.width then some (.pair a b) else none
    | _, _ => none
/-- The shape of a type of numbers, texts, structs and slices. -/
def nestOf (P : Program) : Nat → TypeId → Option CT
  | 0, _ => none
  | d + 1, t => match P.underlying t with
    | some (.int k) => some (.int k)
    | some .bool => some .bool
    | some .string => some .str
    | some (.slice e) => match nestOf P d e with
      | some c => if P.cellsOf e = c.width then some (.list c) else none
      | none => none
    | some (.struct fs) => nestGo P (nestOf P d) (P.cellsOf t) fs.toList 0
    | _ => none

theorem CT.width_pos : ∀ t : CT, 0 < t.width
  | .pair a b => by have := CT.width_pos a; show 0 < a.width + b.width; omega
  | .int _ => Nat.one_pos
  | .bool => Nat.one_pos
  | .str => Nat.one_pos
  | .list _ => Nat.one_pos
  | .fn => Nat.one_pos
  | .map _ _ => Nat.one_pos

variable {H : Type} {enc : TypeId × Value → H} {P : Program} {w : World} {base : Nat} {spare : Nat → Bool} {held : Bool} {I : Cells}

theorem nestGo_tot {f : TypeId → Option CT} {tot : Nat} : ∀ (fs : List Field) (o : Nat) (c : CT), nestGo P f tot fs o = some c → o ≤ tot := by
  intro fs
  induction fs with
  | nil => intro o c h; cases h
  | cons u v ihh =>
    intro o c h
    cases v with
    | nil =>
      simp only [nestGo] at h
      split at h
      · split at h
        · rename_i hc; omega
        · cases h
      · cases h
    | cons v1 v2 =>
      simp only [nestGo] at h
      split at h
      · rename_i hh
        have := ihh _ _ hh
        omega
      · cases h

theorem nestGo_rep {f : TypeId → Option CT} {tot : Nat} {cs : List Value} (htot : tot = cs.length) :
    ∀ (fs : List Field) (off : Nat) (c : CT), nestGo P f tot fs off = some c → off ≤ cs.length →
      (∀ x ∈ fs, ∀ a, f x.type = some a → ∃ z : a.den, Rep I w a z ((cs.drop x.offset).take (P.cellsOf x.type))) → ∃ z : c.den, Rep I w c z (cs.drop off) := by
  intro fs
  induction fs with
  | nil => intro off c h; cases h
  | cons x r ih =>
    intro off c h ho hx
    cases r with
    | nil =>
      simp only [nestGo] at h
      cases hf : f x.type with
      | none => rw [hf] at h; cases h
      | some a =>
        rw [hf] at h
        dsimp only at h
        split at h
        · rename_i hc
          obtain rfl : a = c := Option.some.inj h
          obtain ⟨h1, h2, h3⟩ := hc
          obtain ⟨z, hz⟩ := hx x (by simp) a hf
          refine ⟨z, ?_⟩
          rwa [h1, List.take_of_length_le (by rw [List.length_drop]; omega)] at hz
        · cases h
    | cons y r =>
      simp only [nestGo] at h
      cases hf : f x.type with
      | none => rw [hf] at h; cases h
      | some a =>
        rw [hf] at h
        cases hg : nestGo P f tot (y :: r) (off + P.cellsOf x.type) with
        | none =>
          rw [hg] at h
          cases h
        | some b =>
          rw [hg] at h
          dsimp only at h
          split at h
          · rename_i hc
            cases h
            obtain ⟨h1, h2⟩ := hc
            have hle : off + P.cellsOf x.type ≤ cs.length := by
              have := nestGo_tot _ _ _ hg
              omega
            obtain ⟨z1, hz1⟩ := hx x (by simp) a hf
            obtain ⟨z2, hz2⟩ := ih _ b hg hle fun u hu => hx u (by simp [hu])
            refine ⟨(z1, z2), ⟨(cs.drop off).take (P.cellsOf x.type), cs.drop (off + P.cellsOf x.type), ?_, ?_, hz2⟩⟩
            · rw [← List.drop_drop, List.take_append_drop]
            · rwa [h1] at hz1
          · cases h

theorem choose_list' {α : Type} (n : Nat) (p : Nat → α → Prop) (h : ∀ i, i < n → ∃ z, p i z) : ∃ zs : List α, zs.length = n ∧ ∀ i z, zs[i]? = some z → p i z := by
  induction n with
  | zero => exact ⟨[], rfl, fun i z hz => by simp at hz⟩
  | succ n ih =>
    obtain ⟨zs, h1, h2⟩ := ih fun i hi => h i (by omega)
    obtain ⟨z, hz⟩ := h n (by omega)
    refine ⟨zs ++ [z], by simp [h1], fun i x hx => ?_⟩
    rcases Nat.lt_or_ge i zs.length with hi | hi
    · rw [List.getElem?_append_left hi] at hx
      exact h2 i x hx
    · have e : i = n := by
        have := (List.getElem?_eq_some_iff.1 hx).1
        simp at this
        omega
      subst e
      rw [List.getElem?_append_right (by omega), show i - zs.length = 0 by omega] at hx
      cases hx
      exact hz

theorem addr_add4 (b off n : Nat) : (⟨b, off, none⟩ : Addr).add n = ⟨b, off + n, none⟩ := by unfold Addr.add; split <;> simp_all
theorem cell_nospot {w : World} {a : Addr} {v : Value} (h : w.cell? a = some v) : a.spot = none := by
  unfold World.cell? at h
  split at h
  · split at h
    · cases h
    · rename_i hs
      cases hsp : a.spot with
      | none => rfl
      | some s => rw [hsp] at hs; simp at hs
  · cases h

theorem nest_rep (hI : ∀ b o, b < w.heap.size → I b o) : ∀ (d : Nat) (t : TypeId) (c : CT), nestOf P d t = some c → ∀ (fuel : Nat) (cs : List Value) (y : DataW H × List MemPlace), DataW.trod enc P w base spare held fuel t cs = some y → ∃ z : c.den, Rep I w c z cs := by
  intro d
  induction d with
  | zero => intro t c h; cases h
  | succ d ih =>
    intro t c h fuel cs y hy
    unfold nestOf at h
    split at h
    · rename_i k hu
      cases h
      obtain ⟨n, rfl, _⟩ := DataW.trod_int hu hy
      exact ⟨n, rfl⟩
    · rename_i hu
      cases h
      obtain ⟨b, rfl, _⟩ := DataW.trod_bool hu hy
      exact ⟨b, rfl⟩
    · rename_i hu
      cases h
      obtain ⟨s, rfl, _⟩ := DataW.trod_string hu hy
      exact ⟨s, rfl⟩
    · rename_i e hu
      split at h
      · rename_i c' hc
        split at h
        · rename_i hw
          cases h
          rcases DataW.trod_slice hu hy with ⟨rfl, _⟩ | ⟨a, len, cap, elems, rest, n, _, rfl, _, _, hl, _, hlen, hel, _, _⟩
          · exact ⟨[], .inl ⟨rfl, rfl⟩⟩
          · rcases Nat.eq_zero_or_pos len with h0 | h0
            · subst h0
              exact ⟨[], .inr (.inr ⟨rfl, a, cap, rfl⟩)⟩
            · have hwp := CT.width_pos c'
              have get : ∀ i, i < len → ∃ (cs : List Value) (z : c'.den), cs.length = c'.width ∧ Rep I w c' z cs ∧ ∀ j, j < c'.width → w.cell? ((a.add (i * P.cellsOf e)).add j) = cs[j]? := by
                intro i hi
                have h1 := hel i hi
                rw [List.getElem?_eq_getElem (by omega)] at h1
                obtain ⟨cs, h2, h3⟩ := Option.bind_eq_some_iff.1 h1
                obtain ⟨_, h4, h5⟩ := World.cells?_some h2
                obtain ⟨z, hz⟩ := ih e c' hc n cs _ h3
                exact ⟨cs, z, by rw [h4, hw], hz, fun j hj => h5 j (by rw [hw]; exact hj)⟩
              have hsp : a.spot = none := by
                obtain ⟨cs, _, hcl, _, hcell⟩ := get 0 h0
                have h6 := hcell 0 hwp
                rw [List.getElem?_eq_getElem (by omega)] at h6
                have h7 := cell_nospot h6
                have h8 : (a.add (0 * P.cellsOf e)).add 0 = a := by simp [Addr.add]
                rwa [h8] at h7
              obtain ⟨b, off, sp⟩ := a
              obtain rfl : sp = none := hsp
              have each : ∀ i, i < len → ∃ z : c'.den, ∃ us : List Value, us.length = c'.width ∧ Rep I w c' z us ∧ ∀ j u, us[j]? = some u → w.at' b (off + i * c'.width + j) = some u := by
                intro i hi
                obtain ⟨cs, z, hcl, hz, hcell⟩ := get i hi
                refine ⟨z, cs, hcl, hz, fun j u hj => ?_⟩
                have hjl : j < c'.width := by
                  have := (List.getElem?_eq_some_iff.1 hj).1
                  omega
                have h6 := hcell j hjl
                rw [addr_add4, addr_add4, hj, hw] at h6
                exact h6
              obtain ⟨zs, hz1, hz2⟩ := choose_list' len _ each
              refine ⟨zs, .inr (.inl ⟨b, off, cap, by rw [hz1], by rw [hz1]; exact hl, fun i z hi => ?_⟩)⟩
              obtain ⟨us, _, h2, h3⟩ := hz2 i z hi
              exact ⟨us, h2, fun j u hj => ⟨hI _ _ (cell_lt (h3 j u hj)), h3 j u hj⟩⟩
        · cases h
      · cases h
    · rename_i fs hu
      obtain ⟨xs, n, _, _, hl, hxl, hf⟩ := DataW.trod_struct hu hy
      obtain ⟨z, hz⟩ := nestGo_rep (P := P) hl.symm fs.toList 0 c h (Nat.zero_le _) fun x hx a ha => by
        obtain ⟨i, hi⟩ := List.getElem?_of_mem hx
        have hi' : fs[i]? = some x := by rw [← Array.getElem?_toList]; exact hi
        have h2 := hf i x hi'
        have hil : i < xs.length := by
          have := (Array.getElem?_eq_some_iff.1 hi').1
          omega
        rw [List.getElem?_eq_getElem hil] at h2
        exact ih x.type a ha n _ _ h2
      exact ⟨z, by rwa [List.drop_zero] at hz⟩
    · cases h

/-- A slice that is read, with slices in it: what it holds. -/
theorem nest_slice {t : TypeId} {c : CT} {d : Nat} {v : Value} {y : DataW H} {ps : List MemPlace} (hI : ∀ b o, b < w.heap.size → I b o) (hc : nestOf P d t = some (.list c))
    (h : DataW.Trod enc P w base spare held t v y ps) {a : Option Addr} {len cap : Nat} (hv : v = .slice a len cap) : ∃ zs : List c.den, RepV I w (.l c zs) v := by
  subst hv
  obtain ⟨fuel, hf⟩ := h
  have hcs : (Value.slice a len cap).cells.toList = [.slice a len cap] := rfl
  rw [hcs] at hf
  obtain ⟨zs, hz⟩ := nest_rep hI d t _ hc fuel _ _ hf
  exact ⟨zs, hz⟩
end Go.Ab
