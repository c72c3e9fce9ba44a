/- Nodes put in one by one. -/
import Derived.Test.YtgeoggpkjnnonaaGreatTY132toY137
import Derived.Test.YtgeoggpkjnnonaaGreatTY125toY129
namespace Go.Ab
open Go.Proofs
set_option linter.unusedSectionVars false
set_option maxRecDepth 100000
variable [Base]

abbrev inT (y x : List Nd) (k : Nat) : Prop := (fndV (y, pathV x k)).2 = true
section
variable {x y : List Nd} {g : Nat → Nat} (hx : Vl x) (he : Emb x y g)
include hx he
theorem in_of {i k : Nat} (hi : i < y.length) (h : g i = k) : fndV (y, pathV x k) = ((i : Int), true) := by
  rw [← h, ← Emb.path hx he hi]
  exact fnd_path (Emb.vl hx he) hi
theorem in_get {k : Nat} (hk : k < x.length) (h : inT y x k) : ∃ i, i < y.length ∧ g i = k := by
  refine Classical.byContradiction fun hn => ?_
  have h1 : fndV (y, pathV x k) = (0, false) := fnd_none fun j hj hp => by
    rw [Emb.path hx he hj] at hp
    exact hn ⟨j, hj, path_inj hx (he.lt j hj) hk hp⟩
  unfold inT at h
  rw [h1] at h
  cases h
theorem rfind_in (k : Nat) : (rFindV (y, pathV x k)).2 = (fndV (y, pathV x k)).2 := by
  unfold rFindV
  dsimp only
  rw [if_pos (vl_rchk (Emb.vl hx he))]
  have hle := skV_le (isB y (pathV x k)) y.length
  unfold rfV fndV
  dsimp only
  by_cases h : skV (isB y (pathV x k)) y.length = y.length
  · rw [if_pos h, if_neg (by omega)]
    exact decide_eq_false (by omega)
  · rw [if_neg h, if_pos (by omega)]
    exact decide_eq_true (Int.natCast_nonneg _)
theorem emb_dep {i : Nat} (hi : i < y.length) : dpV y i = dpV x (g i) := by
  have hf := Emb.frm hx he
  obtain ⟨h3, h4⟩ := dp_up hx.f (g i + 1) (g i) (Nat.lt_succ_self _) (he.lt i hi)
  exact dp_of hf (d := dpV x (g i)) hi (he.inj (by rw [Emb.up hx he _ _ hi, he.zero]; exact h3)) fun t ht => by
    rcases Nat.eq_zero_or_pos (upN y t i) with h | h
    · have h5 := h4 t ht
      rw [← Emb.up hx he _ _ hi, h, he.zero] at h5
      omega
    · exact h
theorem emb_len {k : Nat} (hk : k < x.length) (hno : ∀ i, i < y.length → ¬ g i = k) : y.length < x.length := by
  have h1 : ∀ i, i ≤ g i := by
    intro i
    induction i with
    | zero => exact Nat.zero_le _
    | succ i ih =>
      have := he.mono i (i + 1) (Nat.lt_succ_self i)
      omega
  rcases Nat.lt_or_ge y.length x.length with h | h
  · exact h
  · exfalso
    have key : ∀ m i, i + m + 1 = y.length → g i ≤ i := by
      intro m
      induction m with
      | zero =>
        intro i hi
        have := he.lt i (by omega)
        omega
      | succ m ih =>
        intro i hi
        have h2 := ih (i + 1) (by omega)
        have h3 := he.mono i (i + 1) (Nat.lt_succ_self i)
        omega
    have h2 := key (y.length - k - 1) k (by omega)
    have h3 := h1 k
    exact hno k (by omega) (by omega)
theorem emb_full (hall : ∀ k, k < x.length → inT y x k) : y = x := by
  have h1 : ∀ i, i ≤ g i := by
    intro i
    induction i with
    | zero => exact Nat.zero_le _
    | succ i ih =>
      have := he.mono i (i + 1) (Nat.lt_succ_self i)
      omega
  have h2 : ∀ n k, k ≤ n → k < x.length → k < y.length ∧ g k = k := by
    intro n
    induction n with
    | zero =>
      intro k hk _
      obtain rfl : k = 0 := by omega
      exact ⟨he.pos, he.zero⟩
    | succ n ih =>
      intro k hk hkl
      obtain ⟨i, hi, hg⟩ := in_get hx he hkl (hall k hkl)
      have h3 := h1 i
      rcases Nat.lt_or_eq_of_le (show i ≤ k by omega) with h4 | h4
      · have h5 := (ih i (by omega) (by omega)).2
        omega
      · rw [h4] at hi hg
        exact ⟨hi, hg⟩
  have hl : y.length = x.length := by
    rcases Nat.lt_trichotomy y.length x.length with h | h | h
    · have := (h2 y.length y.length (Nat.le_refl _) h).1
      omega
    · exact h
    · have h3 := he.lt x.length h
      have h4 := h1 x.length
      omega
  refine List.ext_getElem hl fun i a b => ?_
  rw [← nd_at', ← nd_at']
  have hg := (h2 i i (Nat.le_refl _) b).2
  have hr := he.rest i a
  rw [hg] at hr
  refine Prod.ext ?_ hr
  rcases Nat.eq_zero_or_pos i with h0 | h0
  · subst h0
    rw [he.root]
    have h4 := frm_nd hx.f.frm hx.f.len.1
    unfold ndFrm at h4
    obtain ⟨h5, _⟩ := Bool.and_eq_true_iff.1 h4
    obtain ⟨h6, _⟩ := Bool.and_eq_true_iff.1 h5
    simp at h6
    exact h6.1.symm
  · obtain ⟨p, p1, p2, p3⟩ := he.par i h0 a
    have h5 := (par_lt hx.f.par h0 b)
    rw [p1, ← h5.2]
    rw [hg, (h2 p p (Nat.le_refl _) (by omega)).2] at p3
    rw [p3]
end
theorem add_in {x y : List Nd} {g : Nat → Nat} (hx : Vl x) (he : Emb x y g) {k : Nat} (k0 : 0 < k) (hk : k < x.length) (hnp : (ndAt x k).2.2 = []) (hno : ¬ inT y x k) :
    (∃ y' g', AddV (y, pathV x (paN x k), (ndAt x k).2.1) = (y', 0) ∧ Emb x y' g' ∧ inT y' x k ∧ ∀ j, j < x.length → inT y x j → inT y' x j) ∨ (¬ inT y x (paN x k) ∧ ∃ e, AddV (y, pathV x (paN x k), (ndAt x k).2.1) = ([], e) ∧ ¬ e = 0) := by
  have hvy := Emb.vl hx he
  have hpk := par_lt hx.f.par k0 hk
  have hno2 : ∀ i, i < y.length → ¬ g i = k := fun i hi h => hno (by unfold inT; rw [in_of hx he hi h])
  by_cases hp : inT y x (paN x k)
  · obtain ⟨p, hpl, hpg⟩ := in_get hx he (by omega) hp
    have hf := in_of hx he hpl hpg
    have hadb : adbV (y, (p : Int), (ndAt x k).2.1) = 0 := by
      have hnam : namB (ndAt x k).2.1 = true := frm_nam hx.f.frm k0 hk
      have hsam : ∀ j, j < y.length → samB y (p : Int) (ndAt x k).2.1 j = false := by
        intro j hj
        cases hs : samB y (p : Int) (ndAt x k).2.1 j with
        | false => rfl
        | true =>
          exfalso
          unfold samB at hs
          obtain ⟨h1, h2⟩ := Bool.and_eq_true_iff.1 hs
          have h1 : (ndAt y j).1 = (p : Int) := of_decide_eq_true h1
          have h2 : (ndAt y j).2.1 = (ndAt x k).2.1 := of_decide_eq_true h2
          rcases Nat.eq_zero_or_pos j with j0 | j0
          · rw [j0, he.root] at h1
            have h1 : (-1 : Int) = (p : Int) := h1
            omega
          · have h3 : ((paN y j : Nat) : Int) = (p : Int) := (par_lt hvy.f.par j0 hj).2.trans h1
            have h4 : paN y j = p := by omega
            have h5 := Emb.pa hx he hj
            rw [h4, hpg] at h5
            rw [he.rest j hj] at h2
            exact hno2 j hj (hx.d _ _ (he.gpos j0) (he.lt j hj) k0 hk h5.symm h2)
      have hdep : dpV y p < 8 := by
        rw [emb_dep hx he hpl, hpg]
        have h1 := hx.dep k hk
        have h2 : dpV x k = dpV x (paN x k) + 1 := by
          obtain ⟨h3, h4⟩ := dp_up hx.f (paN x k + 1) (paN x k) (Nat.lt_succ_self _) (by omega)
          refine dp_of hx.f hk ?_ fun t ht => ?_
          · exact h3
          · cases t with
            | zero => exact k0
            | succ t => exact h4 t (Nat.lt_of_succ_lt_succ ht)
        omega
      have hlen : y.length < 120 := by
        have h1 := emb_len hx he hk hno2
        have h2 := hx.f.len
        omega
      have hsk : ¬ skV (samB y (p : Int) (ndAt x k).2.1) y.length < y.length := fun h => by
        have h1 := (skGo_spec (samB y (p : Int) (ndAt x k).2.1) y.length 0).2 (by show skV (samB y (p : Int) (ndAt x k).2.1) y.length < 0 + y.length; omega)
        have h2 := hsam _ h
        have h1 : samB y (p : Int) (ndAt x k).2.1 (skV (samB y (p : Int) (ndAt x k).2.1) y.length) = true := h1
        rw [h2] at h1
        cases h1
      unfold adbV
      dsimp only
      rw [if_neg (ne_f hnam), if_neg hsk, if_neg (by rw [Int.toNat_natCast]; omega), if_neg (by omega)]
    obtain ⟨g2, he2, hl2, ⟨i, hi, hgi⟩, hall⟩ := ins_emb hx he k0 hk hpl hpg hno2 hnp
    refine .inl ⟨_, g2, ?_, he2, ?_, fun j hj hin => ?_⟩
    · unfold AddV
      dsimp only
      rw [if_pos (chk_vld.2 hvy.vld), hf, if_pos rfl]
      dsimp only
      rw [hadb]
      refine Prod.ext ?_ rfl
      exact if_pos hadb
    · unfold inT
      rw [in_of hx he2 (by rw [hl2]; exact hi) hgi]
    · obtain ⟨q, hq, hgq⟩ := in_get hx he hj hin
      obtain ⟨m, hm, hgm⟩ := hall q hq
      unfold inT
      rw [in_of hx he2 (by rw [hl2]; exact hm) (hgm.trans hgq)]
  · refine .inr ⟨hp, 4, ?_, by decide⟩
    unfold AddV
    dsimp only
    rw [if_pos (chk_vld.2 hvy.vld), if_neg hp]

theorem path_vl {ns : List Nd} (hv : Vl ns) {i : Nat} (hi : i < ns.length) : PathV (ns, (i : Int)) = pathV ns i := by
  unfold PathV
  dsimp only
  rw [if_pos (has_vl hv hi), Int.toNat_natCast]
theorem find_vl {ns : List Nd} (hv : Vl ns) {i : Nat} (hi : i < ns.length) : FindV (ns, PathV (ns, (i : Int))) = ((i : Int), true) := by
  unfold FindV
  dsimp only
  rw [if_pos (chk_vld.2 hv.vld), path_vl hv hi, fnd_path hv hi]
theorem pL_size {ns : List Nd} (hv : Vl ns) : ∀ n i, i ≤ n → i < ns.length → (pL ns i).length ≤ 32 * i := by
  intro n
  induction n with
  | zero =>
    intro i h1 _
    obtain rfl : i = 0 := by omega
    rw [pL_zero]
    exact Nat.zero_le _
  | succ n ih =>
    intro i h1 h2
    rcases Nat.eq_zero_or_pos i with h3 | h3
    · rw [h3, pL_zero]
      exact Nat.zero_le _
    · have h4 := (par_lt hv.f.par h3 h2).1
      have h5 := ih (paN ns i) (by omega) (by omega)
      have h6 := nam_size (frm_nam hv.f.frm h3 h2)
      have h7 : (nmL ns i).length = (ndAt ns i).2.1.size := rfl
      rw [pL_succ hv.f h3 h2, List.length_append, List.length_cons]
      omega
theorem path_size {ns : List Nd} (hv : Vl ns) {i : Nat} (hi : i < ns.length) : (pathV ns i).size ≤ 4000 := by
  have h1 := pL_size hv i i (Nat.le_refl _) hi
  have h2 := hv.f.len
  have h3 : (pathV ns i).size = (pathV ns i).data.toList.length := rfl
  rw [h3, pathV_L]
  split
  · decide
  · omega
theorem nameL_ok : ∀ p ∈ nameL, p.size ≤ 100 := by decide +kernel
theorem pick_nm (zs : List Int) (n : Int) : (pickS nameL zs n).size ≤ 100 := nameL_ok _ (pick_mem9 (by decide) (by decide) zs n)
theorem eq_self (ns : List Nd) : eqTB (ns, ns) = true := decide_eq_true rfl
def saysUnd : Says := fun args H => match args, H with
  | [.c (.p (.l (.int .i64) _))], [] => some (none, .bool true, [])
  | _, _ => none
def L5 : Table := ext L4 6 saysUnd
theorem l5 : TSound Tryz.prog L5 := by
  refine ext_run l4 (f := 6) (fn := Tryz.f6) rfl rfl [0, 2, 3, 4, 5, 6, 7, 8, 9, 10, 11, 12, 13, 14, 15, 16, 17, 18, 19, 21, 22, 23, 24, 25, 26, 33, 34, 35, 51, 71, 82, 101, 111, 141, 150, 158] fun args H p r' H' hs hp => ?_
  unfold saysUnd at hs
  split at hs
  · rename_i zs
    cases hs
    refine ⟨Nat.le_of_ble_eq_true rfl, [], rfl, fun k hk => absurd hk (Nat.not_lt_zero k), ?_⟩
    have ht0 := tape_nw9 zs
    generalize hz : (zs : List Int).take 500 = ys at ht0
    obtain ⟨R, hR⟩ : ∃ R, grV ys 0 10 = R := ⟨_, rfl⟩
    have hv := gr_vl ys 0 10
    have hx := gr_ok (zs := ys) (n := 0) (k := 10) ht0
    rw [hR] at hv hx
    obtain ⟨ns, x⟩ := R
    have hv : Vl ns := hv
    have hx : tapeOk ys x := hx
    have hlen := hv.f.len
    have q1 : tapeOk ys 0 ∧ (0 : Int) ≤ 10 ∧ (10 : Int) ≤ 100 := ⟨ht0, by decide, by decide⟩
    have q2 : tapeOk ys x ∧ ((ns.length : Nat) : Int) ≤ 4611686018427387904 := ⟨hx, by omega⟩
    conv => whnf
    rw [hz]
    repeat ((conv => whnf); refine ⟨by first | exact q1 | (unfold inI64; omega) | omega | exact ⟨by omega, by omega⟩ | exact rfl | decide +kernel, ?_⟩)
    conv => whnf
    rw [hR]
    repeat ((conv => whnf); refine ⟨by first | (unfold inI64; omega) | omega | exact ⟨by omega, by omega⟩ | exact rfl | decide +kernel, ?_⟩)
    conv => whnf
    refine loop_intro (σ := Nat) (fun i => [(0, XV.s .none), (2, XV.s .none), (3, XV.s (.a (.c (.ptr 0 0)))), (4, XV.s (.a (.c (.ptr 1 0)))), (5, XV.s .none), (6, XV.s .none), (7, XV.s .none), (8, XV.s .none), (9, XV.s .none), (10, XV.s .none), (11, XV.s .none), (12, XV.s .none), (13, XV.s .none), (14, XV.s .none), (15, XV.s .none), (16, XV.s .none), (17, XV.s .none), (18, XV.s .none), (19, XV.s .none), (21, XV.s .none), (22, XV.s .none), (23, XV.s .none), (24, XV.s .none), (25, XV.s .none), (26, XV.s .none), (33, XV.s (.int .i64 (ns.length : Nat))), (34, XV.s (.int .i64 (i : Nat))), (35, XV.s .none), (51, XV.s .none), (71, XV.s .none), (82, XV.s .none), (101, XV.s .none), (111, XV.s .none), (141, XV.s .none), (150, XV.s .none), (158, XV.s .none)])
      (fun _ => [tapeO ys x, .row [.p (.l ndC ns)]]) (fun i => i ≤ ns.length) (fun i => ns.length - i) 0 ?_ rfl (Nat.zero_le _) (fun i hi => ?_)
    · repeat (first | exact LeL.nil | refine LeL.drop ?_ | refine LeL.same ?_)
    conv => whnf
    refine cond_intro (fun h3 => ?_) (fun h3 => ?_)
    · have hin : i < ns.length := lt_of_dec h3
      have e1 : FindV (ns, PathV (ns, (i : Int))) = ((i : Int), true) := find_vl hv hin
      repeat ((conv => whnf); refine ⟨by first | exact ⟨rfl, trivial⟩ | ((conv => whnf); exact ⟨⟨rfl, rfl, rfl⟩, trivial⟩) | exact Early.one (by decide +kernel) (by (conv => whnf); exact ⟨rfl, rfl, rfl⟩) trivial | (unfold inI64; omega) | omega | exact ⟨by omega, by omega⟩ | (intro hg; first | (unfold inI64; omega) | omega | exact ⟨by omega, by omega⟩ | (simp [lit] at hg; unfold inI64; omega) | (simp [lit] at hg; omega) | (simp [lit] at hg; exact ⟨by omega, by omega⟩)) | (show (_ : Nat) + 1 ≤ 1000000000000; omega) | exact rfl | (unfold inI64; dsimp only; omega) | (dsimp only; omega) | (intro hg; simp [lit] at hg; first | (unfold inI64; dsimp only; omega) | (dsimp only; omega)) | decide +kernel, ?_⟩)
      conv => whnf
      refine cond_intro (fun h4 => ?_) (fun h4 => ?_)
      · exfalso
        have h5 : (!(FindV (ns, PathV (ns, (i : Int)))).2 || !decide ((FindV (ns, PathV (ns, (i : Int)))).1 = (i : Int))) = false := by rw [e1]; simp
        exact Bool.noConfusion (h5.symm.trans h4)
      · repeat ((conv => whnf); refine ⟨by first | (unfold inI64; omega) | omega | exact ⟨by omega, by omega⟩ | exact rfl | decide +kernel, ?_⟩)
        conv => whnf
        refine head_intro (i + 1) ?_ rfl hin (by omega)
        repeat (first | exact LeL.nil | refine LeL.drop ?_ | refine LeL.same ?_)
    · have hx1 := rawN_ok9 hx
      have hx2 := rawN_ok9 hx1
      have hx3 := rawN_ok9 hx2
      repeat ((conv => whnf); refine ⟨by first | exact q2 | exact hx1 | exact hx2 | exact hx3 | exact ⟨rfl, trivial⟩ | (repeat ((conv => whnf); refine ⟨by ((conv => whnf); first | exact ⟨rfl, rfl, rfl⟩ | exact ⟨rfl, rfl⟩ | exact ⟨⟨rfl, trivial⟩, rfl, rfl, rfl⟩ | exact ⟨q2, rfl, rfl, rfl⟩ | exact ⟨hx1, rfl, rfl, rfl⟩ | exact ⟨hx2, rfl, rfl, rfl⟩ | exact ⟨hx3, rfl, rfl, rfl⟩), ?_⟩)); ((conv => whnf); exact trivial) | ((conv => whnf); exact ⟨⟨rfl, rfl, rfl⟩, trivial⟩) | exact Early.one (by decide +kernel) (by (conv => whnf); exact ⟨rfl, rfl, rfl⟩) trivial | (unfold inI64; omega) | omega | exact ⟨by omega, by omega⟩ | (intro hg; first | (unfold inI64; omega) | omega | exact ⟨by omega, by omega⟩ | (simp [lit] at hg; unfold inI64; omega) | (simp [lit] at hg; omega) | (simp [lit] at hg; exact ⟨by omega, by omega⟩)) | (show (_ : Nat) + 1 ≤ 1000000000000; omega) | exact rfl | (unfold inI64; dsimp only; omega) | (dsimp only; omega) | (intro hg; simp [lit] at hg; first | (unfold inI64; dsimp only; omega) | (dsimp only; omega)) | decide +kernel, ?_⟩)
      conv => whnf
      obtain ⟨k, hk⟩ : ∃ k : Nat, modV (rawV ys x) ((ns.length : Nat) : Int) = (k : Int) := ⟨(modV (rawV ys x) ((ns.length : Nat) : Int)).toNat, by have := modV_nonneg (rawV ys x) ((ns.length : Nat) : Int); omega⟩
      have hkn : k < ns.length := by
        have := modV_lt (rawV ys x) ((ns.length : Nat) : Int) (by omega)
        omega
      obtain ⟨p, hp0⟩ : ∃ p, pathV ns k = p := ⟨_, rfl⟩
      obtain ⟨m, hm0⟩ : ∃ m, pickS nameL ys (rawN ys x) = m := ⟨_, rfl⟩
      obtain ⟨s, hs0⟩ : ∃ s, pickS propL ys (rawN ys (rawN ys x)) = s := ⟨_, rfl⟩
      obtain ⟨v, hv0⟩ : ∃ v, (valV ys (rawN ys (rawN ys (rawN ys x)))).1 = v := ⟨_, rfl⟩
      have hsp : prpB s = true := by rw [← hs0]; exact pick_prp _ _
      have hpz := path_size hv hkn
      have hmz := pick_nm ys (rawN ys x)
      rw [hp0] at hpz
      rw [hm0] at hmz
      have hpk : PathV (ns, (k : Int)) = p := by rw [path_vl hv hkn, hp0]
      rw [hk, hpk, hm0, hs0, hv0]
      have c1 : ((p.size + (⟨#[47]⟩ : ByteArray).size : Nat) : Int) ≤ 9223372036854775807 := by
        show ((p.size + 1 : Nat) : Int) ≤ _
        omega
      have c2 : (((p ++ (⟨#[47]⟩ : ByteArray)).size + m.size : Nat) : Int) ≤ 9223372036854775807 := by
        rw [ByteArray.size_append]
        show ((p.size + 1 + m.size : Nat) : Int) ≤ _
        omega
      have hadd : AddV (ns, p, m) = (adR (ns, (k : Int), m), adbV (ns, (k : Int), m)) := by
        unfold AddV
        dsimp only
        rw [if_pos (chk_vld.2 hv.vld), ← hp0, fnd_path hv hkn, if_pos rfl]
      have c3 : (((⟨#[47]⟩ : ByteArray).size + m.size : Nat) : Int) ≤ 9223372036854775807 := by
        show ((1 + m.size : Nat) : Int) ≤ _
        omega
      have hTT : TTOk (ns, ns) := ⟨show ns.length ≤ 1000000000 by omega, fun i hi => Nat.le_trans (lim_ps hv hi).1 (by decide)⟩
      have hset := set_vlv hv hkn (p := (s, v)) hsp
      rw [hp0] at hset
      refine ⟨c1, ?_⟩
      repeat ((conv => whnf); refine ⟨by first | (unfold inI64; omega) | omega | exact ⟨by omega, by omega⟩ | (intro hg; first | (unfold inI64; omega) | omega | exact ⟨by omega, by omega⟩ | (simp [lit] at hg; unfold inI64; omega) | (simp [lit] at hg; omega) | (simp [lit] at hg; exact ⟨by omega, by omega⟩)) | (show (_ : Nat) + 1 ≤ 1000000000000; omega) | exact rfl | (unfold inI64; dsimp only; omega) | (dsimp only; omega) | (intro hg; simp [lit] at hg; first | (unfold inI64; dsimp only; omega) | (dsimp only; omega)) | decide +kernel, ?_⟩)
      conv => whnf
      refine cond_intro (fun h6 => ?_) (fun h6 => ?_)
      all_goals
        repeat ((conv => whnf); refine ⟨by first | exact ⟨rfl, trivial⟩ | (unfold inI64; omega) | omega | exact ⟨by omega, by omega⟩ | (intro hg; first | (unfold inI64; omega) | omega | exact ⟨by omega, by omega⟩ | (simp [lit] at hg; unfold inI64; omega) | (simp [lit] at hg; omega) | (simp [lit] at hg; exact ⟨by omega, by omega⟩)) | (show (_ : Nat) + 1 ≤ 1000000000000; omega) | exact rfl | (unfold inI64; dsimp only; omega) | (dsimp only; omega) | (intro hg; simp [lit] at hg; first | (unfold inI64; dsimp only; omega) | (dsimp only; omega)) | decide +kernel, ?_⟩)
        conv => whnf
        first
          | rw [show (⟨#[47]⟩ : ByteArray) ++ m = chP p m from (if_pos (of_decide_eq_true h6)).symm]
          | rw [show p ++ (⟨#[47]⟩ : ByteArray) ++ m = chP p m from (if_neg (of_decide_eq_false h6)).symm]
        clear h6
        rw [hadd]
        by_cases hb : adbV (ns, (k : Int), m) = 0
        · have hrem : RemV (adV ns (k : Int) m, chP p m) = (ns, 0) := by rw [← hp0]; exact rem_add hv hkn hb
          have hchk : chkP (adV ns (k : Int) m) = 0 := chk_vld.2 (ad_vl hv hkn hb).vld
          have har : adR (ns, (k : Int), m) = adV ns (k : Int) m := if_pos hb
          rw [hb, har]
          repeat ((conv => whnf); refine ⟨by first | exact ⟨rfl, trivial⟩ | exact fun _ => ⟨rfl, hTT⟩ | exact fun _ => ⟨rfl, trivial⟩ | (unfold inI64; omega) | omega | exact ⟨by omega, by omega⟩ | (intro hg; first | (unfold inI64; omega) | omega | exact ⟨by omega, by omega⟩ | (simp [lit] at hg; unfold inI64; omega) | (simp [lit] at hg; omega) | (simp [lit] at hg; exact ⟨by omega, by omega⟩)) | (show (_ : Nat) + 1 ≤ 1000000000000; omega) | exact rfl | (unfold inI64; dsimp only; omega) | (dsimp only; omega) | (intro hg; simp [lit] at hg; first | (unfold inI64; dsimp only; omega) | (dsimp only; omega)) | decide +kernel, ?_⟩)
          conv => whnf
          rw [hrem]
          refine cond_intro (fun h8 => ?_) (fun h8 => ?_)
          · exfalso
            have h9 : (!decide (((ns, 0) : List Nd × Int).2 = 0) || !eqTB (ns, ns) || !decide (chkP (adV ns (k : Int) m) = 0)) = false := by
              rw [hchk, eq_self]
              rfl
            exact Bool.noConfusion (h9.symm.trans h8)
          · -- REST
            repeat ((conv => whnf); refine ⟨by first | exact ⟨rfl, trivial⟩ | (unfold inI64; omega) | omega | exact ⟨by omega, by omega⟩ | (intro hg; first | (unfold inI64; omega) | omega | exact ⟨by omega, by omega⟩ | (simp [lit] at hg; unfold inI64; omega) | (simp [lit] at hg; omega) | (simp [lit] at hg; exact ⟨by omega, by omega⟩)) | (show (_ : Nat) + 1 ≤ 1000000000000; omega) | exact rfl | (unfold inI64; dsimp only; omega) | (dsimp only; omega) | (intro hg; simp [lit] at hg; first | (unfold inI64; dsimp only; omega) | (dsimp only; omega)) | decide +kernel, ?_⟩)
            conv => whnf
            rcases hset with ⟨hset, he⟩ | ⟨hset, he⟩
            · rw [hset]
              obtain ⟨hvy, hfy, hly, z, hdy, hzy⟩ := undo_f hv hkn hsp he
              rw [hp0] at hfy hdy hzy
              have hcy := chk_vld.2 hvy.vld
              obtain ⟨y, hy⟩ : ∃ y, stN ns k (s, v) = y := ⟨_, rfl⟩
              rw [hy] at hfy hly hdy hcy ⊢
              repeat ((conv => whnf); refine ⟨by first | exact ⟨rfl, trivial⟩ | exact fun _ => ⟨rfl, trivial⟩ | (unfold inI64; omega) | omega | exact ⟨by omega, by omega⟩ | (intro hg; first | (unfold inI64; omega) | omega | exact ⟨by omega, by omega⟩ | (simp [lit] at hg; unfold inI64; omega) | (simp [lit] at hg; omega) | (simp [lit] at hg; exact ⟨by omega, by omega⟩)) | (show (_ : Nat) + 1 ≤ 1000000000000; omega) | exact rfl | (unfold inI64; dsimp only; omega) | (dsimp only; omega) | (intro hg; simp [lit] at hg; first | (unfold inI64; dsimp only; omega) | (dsimp only; omega)) | decide +kernel, ?_⟩)
              conv => whnf
              rw [hfy, hly]
              refine cond_intro (fun h10 => ?_) (fun h10 => ?_)
              · exfalso
                have h11 : (!((v, true) : ByteArray × Bool).2 || !decide (((v, true) : ByteArray × Bool).1 = v) || !decide (chkP y = 0)) = false := by
                  rw [hcy]
                  simp
                exact Bool.noConfusion (h11.symm.trans h10)
              repeat ((conv => whnf); refine ⟨by first | exact ⟨rfl, trivial⟩ | (unfold inI64; omega) | omega | exact ⟨by omega, by omega⟩ | (intro hg; first | (unfold inI64; omega) | omega | exact ⟨by omega, by omega⟩ | (simp [lit] at hg; unfold inI64; omega) | (simp [lit] at hg; omega) | (simp [lit] at hg; exact ⟨by omega, by omega⟩)) | (show (_ : Nat) + 1 ≤ 1000000000000; omega) | exact rfl | (unfold inI64; dsimp only; omega) | (dsimp only; omega) | (intro hg; simp [lit] at hg; first | (unfold inI64; dsimp only; omega) | (dsimp only; omega)) | decide +kernel, ?_⟩)
              conv => whnf
              rw [hdy]
              repeat ((conv => whnf); refine ⟨by first | exact ⟨rfl, trivial⟩ | (unfold inI64; omega) | omega | exact ⟨by omega, by omega⟩ | (intro hg; first | (unfold inI64; omega) | omega | exact ⟨by omega, by omega⟩ | (simp [lit] at hg; unfold inI64; omega) | (simp [lit] at hg; omega) | (simp [lit] at hg; exact ⟨by omega, by omega⟩)) | (show (_ : Nat) + 1 ≤ 1000000000000; omega) | exact rfl | (unfold inI64; dsimp only; omega) | (dsimp only; omega) | (intro hg; simp [lit] at hg; first | (unfold inI64; dsimp only; omega) | (dsimp only; omega)) | decide +kernel, ?_⟩)
              conv => whnf
              rcases hzy with ⟨hval, hzn⟩ | ⟨o, hval, hs2⟩
              · rw [hval, hzn]
                repeat ((conv => whnf); refine ⟨by first | exact fun _ => ⟨rfl, hTT⟩ | exact fun _ => ⟨rfl, trivial⟩ | (unfold inI64; omega) | omega | exact ⟨by omega, by omega⟩ | (intro hg; first | (unfold inI64; omega) | omega | exact ⟨by omega, by omega⟩ | (simp [lit] at hg; unfold inI64; omega) | (simp [lit] at hg; omega) | (simp [lit] at hg; exact ⟨by omega, by omega⟩)) | (show (_ : Nat) + 1 ≤ 1000000000000; omega) | exact rfl | (unfold inI64; dsimp only; omega) | (dsimp only; omega) | (intro hg; simp [lit] at hg; first | (unfold inI64; dsimp only; omega) | (dsimp only; omega)) | decide +kernel, ?_⟩)
                conv => whnf
                show Ends (.bool (decide ((0 : Int) = 0) && eqTB (ns, ns) && true)) [] (.bool true) []
                rw [eq_self]
                exact ends_eq ⟨rfl, rfl⟩
              · rw [hval]
                repeat ((conv => whnf); refine ⟨by first | exact ⟨rfl, trivial⟩ | exact fun _ => ⟨rfl, hTT⟩ | exact fun _ => ⟨rfl, trivial⟩ | (unfold inI64; omega) | omega | exact ⟨by omega, by omega⟩ | (intro hg; first | (unfold inI64; omega) | omega | exact ⟨by omega, by omega⟩ | (simp [lit] at hg; unfold inI64; omega) | (simp [lit] at hg; omega) | (simp [lit] at hg; exact ⟨by omega, by omega⟩)) | (show (_ : Nat) + 1 ≤ 1000000000000; omega) | exact rfl | (unfold inI64; dsimp only; omega) | (dsimp only; omega) | (intro hg; simp [lit] at hg; first | (unfold inI64; dsimp only; omega) | (dsimp only; omega)) | decide +kernel, ?_⟩)
                conv => whnf
                rw [hs2]
                show Ends (.bool (decide ((0 : Int) = 0) && eqTB (ns, ns) && true)) [] (.bool true) []
                rw [eq_self]
                exact ends_eq ⟨rfl, rfl⟩
            · rw [hset]
              repeat ((conv => whnf); refine ⟨by first | exact fun _ => ⟨rfl, trivial⟩ | (unfold inI64; omega) | omega | exact ⟨by omega, by omega⟩ | (intro hg; first | (unfold inI64; omega) | omega | exact ⟨by omega, by omega⟩ | (simp [lit] at hg; unfold inI64; omega) | (simp [lit] at hg; omega) | (simp [lit] at hg; exact ⟨by omega, by omega⟩)) | (show (_ : Nat) + 1 ≤ 1000000000000; omega) | exact rfl | (unfold inI64; dsimp only; omega) | (dsimp only; omega) | (intro hg; simp [lit] at hg; first | (unfold inI64; dsimp only; omega) | (dsimp only; omega)) | decide +kernel, ?_⟩)
              conv => whnf
              exact ends_eq ⟨rfl, rfl⟩
        · refine cond_intro (fun h7 => ?_) (fun h7 => ?_)
          · exact absurd (of_decide_eq_true h7) hb
          · -- REST
            repeat ((conv => whnf); refine ⟨by first | exact ⟨rfl, trivial⟩ | (unfold inI64; omega) | omega | exact ⟨by omega, by omega⟩ | (intro hg; first | (unfold inI64; omega) | omega | exact ⟨by omega, by omega⟩ | (simp [lit] at hg; unfold inI64; omega) | (simp [lit] at hg; omega) | (simp [lit] at hg; exact ⟨by omega, by omega⟩)) | (show (_ : Nat) + 1 ≤ 1000000000000; omega) | exact rfl | (unfold inI64; dsimp only; omega) | (dsimp only; omega) | (intro hg; simp [lit] at hg; first | (unfold inI64; dsimp only; omega) | (dsimp only; omega)) | decide +kernel, ?_⟩)
            conv => whnf
            rcases hset with ⟨hset, he⟩ | ⟨hset, he⟩
            · rw [hset]
              obtain ⟨hvy, hfy, hly, z, hdy, hzy⟩ := undo_f hv hkn hsp he
              rw [hp0] at hfy hdy hzy
              have hcy := chk_vld.2 hvy.vld
              obtain ⟨y, hy⟩ : ∃ y, stN ns k (s, v) = y := ⟨_, rfl⟩
              rw [hy] at hfy hly hdy hcy ⊢
              repeat ((conv => whnf); refine ⟨by first | exact ⟨rfl, trivial⟩ | exact fun _ => ⟨rfl, trivial⟩ | (unfold inI64; omega) | omega | exact ⟨by omega, by omega⟩ | (intro hg; first | (unfold inI64; omega) | omega | exact ⟨by omega, by omega⟩ | (simp [lit] at hg; unfold inI64; omega) | (simp [lit] at hg; omega) | (simp [lit] at hg; exact ⟨by omega, by omega⟩)) | (show (_ : Nat) + 1 ≤ 1000000000000; omega) | exact rfl | (unfold inI64; dsimp only; omega) | (dsimp only; omega) | (intro hg; simp [lit] at hg; first | (unfold inI64; dsimp only; omega) | (dsimp only; omega)) | decide +kernel, ?_⟩)
              conv => whnf
              rw [hfy, hly]
              refine cond_intro (fun h10 => ?_) (fun h10 => ?_)
              · exfalso
                have h11 : (!((v, true) : ByteArray × Bool).2 || !decide (((v, true) : ByteArray × Bool).1 = v) || !decide (chkP y = 0)) = false := by
                  rw [hcy]
                  simp
                exact Bool.noConfusion (h11.symm.trans h10)
              repeat ((conv => whnf); refine ⟨by first | exact ⟨rfl, trivial⟩ | (unfold inI64; omega) | omega | exact ⟨by omega, by omega⟩ | (intro hg; first | (unfold inI64; omega) | omega | exact ⟨by omega, by omega⟩ | (simp [lit] at hg; unfold inI64; omega) | (simp [lit] at hg; omega) | (simp [lit] at hg; exact ⟨by omega, by omega⟩)) | (show (_ : Nat) + 1 ≤ 1000000000000; omega) | exact rfl | (unfold inI64; dsimp only; omega) | (dsimp only; omega) | (intro hg; simp [lit] at hg; first | (unfold inI64; dsimp only; omega) | (dsimp only; omega)) | decide +kernel, ?_⟩)
              conv => whnf
              rw [hdy]
              repeat ((conv => whnf); refine ⟨by first | exact ⟨rfl, trivial⟩ | (unfold inI64; omega) | omega | exact ⟨by omega, by omega⟩ | (intro hg; first | (unfold inI64; omega) | omega | exact ⟨by omega, by omega⟩ | (simp [lit] at hg; unfold inI64; omega) | (simp [lit] at hg; omega) | (simp [lit] at hg; exact ⟨by omega, by omega⟩)) | (show (_ : Nat) + 1 ≤ 1000000000000; omega) | exact rfl | (unfold inI64; dsimp only; omega) | (dsimp only; omega) | (intro hg; simp [lit] at hg; first | (unfold inI64; dsimp only; omega) | (dsimp only; omega)) | decide +kernel, ?_⟩)
              conv => whnf
              rcases hzy with ⟨hval, hzn⟩ | ⟨o, hval, hs2⟩
              · rw [hval, hzn]
                repeat ((conv => whnf); refine ⟨by first | exact fun _ => ⟨rfl, hTT⟩ | exact fun _ => ⟨rfl, trivial⟩ | (unfold inI64; omega) | omega | exact ⟨by omega, by omega⟩ | (intro hg; first | (unfold inI64; omega) | omega | exact ⟨by omega, by omega⟩ | (simp [lit] at hg; unfold inI64; omega) | (simp [lit] at hg; omega) | (simp [lit] at hg; exact ⟨by omega, by omega⟩)) | (show (_ : Nat) + 1 ≤ 1000000000000; omega) | exact rfl | (unfold inI64; dsimp only; omega) | (dsimp only; omega) | (intro hg; simp [lit] at hg; first | (unfold inI64; dsimp only; omega) | (dsimp only; omega)) | decide +kernel, ?_⟩)
                conv => whnf
                show Ends (.bool (decide ((0 : Int) = 0) && eqTB (ns, ns) && true)) [] (.bool true) []
                rw [eq_self]
                exact ends_eq ⟨rfl, rfl⟩
              · rw [hval]
                repeat ((conv => whnf); refine ⟨by first | exact ⟨rfl, trivial⟩ | exact fun _ => ⟨rfl, hTT⟩ | exact fun _ => ⟨rfl, trivial⟩ | (unfold inI64; omega) | omega | exact ⟨by omega, by omega⟩ | (intro hg; first | (unfold inI64; omega) | omega | exact ⟨by omega, by omega⟩ | (simp [lit] at hg; unfold inI64; omega) | (simp [lit] at hg; omega) | (simp [lit] at hg; exact ⟨by omega, by omega⟩)) | (show (_ : Nat) + 1 ≤ 1000000000000; omega) | exact rfl | (unfold inI64; dsimp only; omega) | (dsimp only; omega) | (intro hg; simp [lit] at hg; first | (unfold inI64; dsimp only; omega) | (dsimp only; omega)) | decide +kernel, ?_⟩)
                conv => whnf
                rw [hs2]
                show Ends (.bool (decide ((0 : Int) = 0) && eqTB (ns, ns) && true)) [] (.bool true) []
                rw [eq_self]
                exact ends_eq ⟨rfl, rfl⟩
            · rw [hset]
              repeat ((conv => whnf); refine ⟨by first | exact fun _ => ⟨rfl, trivial⟩ | (unfold inI64; omega) | omega | exact ⟨by omega, by omega⟩ | (intro hg; first | (unfold inI64; omega) | omega | exact ⟨by omega, by omega⟩ | (simp [lit] at hg; unfold inI64; omega) | (simp [lit] at hg; omega) | (simp [lit] at hg; exact ⟨by omega, by omega⟩)) | (show (_ : Nat) + 1 ≤ 1000000000000; omega) | exact rfl | (unfold inI64; dsimp only; omega) | (dsimp only; omega) | (intro hg; simp [lit] at hg; first | (unfold inI64; dsimp only; omega) | (dsimp only; omega)) | decide +kernel, ?_⟩)
              conv => whnf
              exact ends_eq ⟨rfl, rfl⟩
  · cases hs
end Go.Ab
