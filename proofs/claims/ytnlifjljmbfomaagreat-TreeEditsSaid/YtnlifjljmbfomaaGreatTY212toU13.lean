/- Remove and Add say the same on both sides. -/
import Derived.Test.YtnlifjljmbfomaaGreatTY206toY138
import Derived.Test.YtnlifjljmbfomaaGreatTY112toY128
import Derived.Test.YtnlifjljmbfomaaGreatTX0toY61
import Derived.SizedLaws
namespace Go.Ab
open Go.Proofs
set_option linter.unusedSectionVars false
set_option maxRecDepth 100000
variable [Base]
theorem bl_up {ns : List Nd} (hf : FrmT ns) {k : Nat} : ∀ (m j : Nat), j ≤ m → j < ns.length → (blGo ns (k : Int) m (j : Int) = (k : Int) ↔ ∃ t, upN ns t j = k) := by
 intro m
 induction m with
 | zero =>
  intro j hj _
  obtain rfl : j = 0 := by omega
  refine ⟨fun h => ⟨0, by have h : ((0 : Nat) : Int) = (k : Int) := h; show (0 : Nat) = k; omega⟩, fun ⟨t, ht⟩ => ?_⟩
  rw [up_zero hf] at ht
  rw [← ht]
  rfl
 | succ m ih =>
  intro j hj hl
  by_cases h : (k : Int) < (j : Int)
  ·have hp := par_lt hf.par (j := j) (by omega) hl
   have e : blGo ns (k : Int) (m + 1) (j : Int) = blGo ns (k : Int) m ((paN ns j : Nat) : Int) := by
    rw [hp.2]
    exact if_pos h
   rw [e, ih (paN ns j) (by omega) (by omega)]
   constructor
   ·rintro ⟨t, ht⟩
    exact ⟨t + 1, ht⟩
   ·rintro ⟨t, ht⟩
    cases t with
    | zero =>
     have ht : j = k := ht
     omega
    | succ t => exact ⟨t, ht⟩
  ·have e : blGo ns (k : Int) (m + 1) (j : Int) = (j : Int) := if_neg h
   rw [e]
   refine ⟨fun h2 => ⟨0, by show j = k; omega⟩, fun ⟨t, ht⟩ => ?_⟩
   have := up_le hf t j
   omega
theorem bl_in {ns : List Nd} (hv : Vl ns) {k : Nat} (hk : k < ns.length) {i : Nat} (hi : i < ns.length) : blB ns (k : Int) (i : Int) = decide (k ≤ i ∧ i < behN ns (k : Int)) := by
 unfold blB
 rw [Int.toNat_natCast]
 exact decide_eq_decide.2 ((bl_up hv.f i i (nR9 _) hi).trans (in_iff hv (beh_facts hv hk) hi))
def lfN (k e i : Nat) : Nat := if i ≤ k then i else if i ≤ e then k else i - (e - k)
theorem lf0 (k e : Nat) : lfN k e 0 = 0 := if_pos (nZ9 _)
theorem lf_in {k e i : Nat} (h : k ≤ i ∧ i < e) : lfN k e (i + 1) = lfN k e i := by
 unfold lfN
 by_cases h1 : i = k
 ·rw [if_neg (show ¬ i + 1 ≤ k by omega), if_pos (show i + 1 ≤ e by omega), if_pos (show i ≤ k by omega), h1]
 ·rw [if_neg (show ¬ i + 1 ≤ k by omega), if_pos (show i + 1 ≤ e by omega), if_neg (show ¬ i ≤ k by omega), if_pos (show i ≤ e by omega)]
theorem lf_out {k e i : Nat} (hke : k < e) (h : ¬ (k ≤ i ∧ i < e)) : lfN k e (i + 1) = lfN k e i + 1 := by
 unfold lfN
 by_cases h1 : i < k
 ·rw [if_pos (show i + 1 ≤ k by omega), if_pos (show i ≤ k by omega)]
 ·rw [if_neg (show ¬ i + 1 ≤ k by omega), if_neg (show ¬ i + 1 ≤ e by omega), if_neg (show ¬ i ≤ k by omega)]
  split <;> omega
theorem rv_go {ns : List Nd} (hv : Vl ns) {k : Nat} (k0 : 0 < k) (hk : k < ns.length) : ∀ m i z out, i + m = ns.length → z.length = ns.length →
  out = (rmN ns (k : Int)).take (lfN k (behN ns (k : Int)) i) → (∀ j, j < i → ¬ (k ≤ j ∧ j < behN ns (k : Int)) → z.getD j 0 = ((lfN k (behN ns (k : Int)) j : Nat) : Int)) → rvGo ns (k : Int) m i z out = rmN ns (k : Int) := by
 have hb := beh_facts hv hk
 obtain ⟨e, hee⟩ : ∃ e, behN ns (k : Int) = e := ⟨_, rfl⟩
 have hys : rmN ns (k : Int) = woV (ns.map (mvGo (e : Int) ((k : Int) - (e : Int))), (k : Int), (e : Int)) := by
  unfold rmN
  rw [hee]
 have hbl : ∀ i, i < ns.length → blB ns (k : Int) (i : Int) = decide (k ≤ i ∧ i < e) := fun i hi => by rw [bl_in hv hk hi, hee]
 rw [hee] at hb ⊢
 obtain ⟨b1, b2, b3, b4⟩ := id hb
 have hl := rm_len (ns := ns) b1 b2 (mvGo (e : Int) ((k : Int) - (e : Int)))
 have hat := fun (i : Nat) (hi : i < ns.length - (e - k)) => rm_at b1 b2 (mvGo (e : Int) ((k : Int) - (e : Int))) hi
 rw [← hys] at hl hat
 generalize rmN ns (k : Int) = X at hl hat
 intro m
 induction m with
 | zero =>
  intro i z out him _ ho _
  have hL : lfN k e i = X.length := by
   rw [hl]
   unfold lfN
   split
   ·omega
   ·split <;> omega
  show out = X
  rw [ho, hL, List.take_length]
 | succ m ih =>
  intro i z out him hz ho hzs
  have hi : i < ns.length := by omega
  unfold rvGo
  rw [hbl i hi]
  by_cases h : k ≤ i ∧ i < e
  ·rw [if_pos (dT9 h)]
   refine ih (i + 1) z out (by omega) hz (by rw [lf_in h]; exact ho) fun j hj hn => ?_
   by_cases hji : j = i
   ·rw [hji] at hn
    exact absurd h hn
   ·exact hzs j (by omega) hn
  ·rw [if_neg (by rw [dF9 h]; decide)]
   have hLi : lfN k e i < X.length := by
    rw [hl]
    unfold lfN
    split
    ·omega
    ·split <;> omega
   have hol : out.length = lfN k e i := by rw [ho, List.length_take]; omega
   have hg : gRm k e (lfN k e i) = i := by
    unfold gRm lfN
    by_cases h1 : i < k
    ·rw [if_pos (show i ≤ k by omega), if_pos h1]
    ·rw [if_neg (show ¬ i ≤ k by omega)]
     by_cases h2 : i ≤ e
     ·rw [if_pos h2, if_neg (Nat.lt_irrefl k)]
      omega
     ·rw [if_neg h2, if_neg (by omega)]
      omega
   have hXi := hat (lfN k e i) (by rw [← hl]; exact hLi)
   rw [hg] at hXi
   have hx : rvX ns i z out.length = X[lfN k e i] := by
    rw [← nd_at' hLi, hXi]
    unfold rvX mvGo
    by_cases h0 : 0 < i
    ·rw [if_pos h0]
     have hp := par_lt hv.f.par h0 hi
     have hkeep : ¬ (k ≤ paN ns i ∧ paN ns i < e) := fun h2 => by
      obtain ⟨t, ht⟩ := (in_iff hv hb (j := paN ns i) (by omega)).2 h2
      exact h ((in_iff hv hb hi).1 ⟨t + 1, ht⟩)
     have hpar : paI ns i = ((paN ns i : Nat) : Int) := hp.2.symm
     have hgz : (z.set i (out.length : Int)).getD (paI ns i).toNat 0 = ((lfN k e (paN ns i) : Nat) : Int) := by
      rw [hpar, Int.toNat_natCast, List.getD_eq_getElem?_getD, List.getElem?_set, if_neg (by omega), ← List.getD_eq_getElem?_getD]
      exact hzs _ hp.1 hkeep
     rw [hgz]
     have hpar2 : (ndAt ns i).1 = ((paN ns i : Nat) : Int) := hp.2.symm
     rw [hpar2]
     by_cases h3 : e ≤ paN ns i
     ·rw [if_pos (show (e : Int) ≤ ((paN ns i : Nat) : Int) by omega)]
      refine Prod.ext ?_ rfl
      show ((lfN k e (paN ns i) : Nat) : Int) = ((paN ns i : Nat) : Int) + ((k : Int) - (e : Int))
      unfold lfN
      rw [if_neg (by omega)]
      split <;> omega
     ·rw [if_neg (show ¬ (e : Int) ≤ ((paN ns i : Nat) : Int) by omega)]
      refine Prod.ext ?_ rfl
      show ((lfN k e (paN ns i) : Nat) : Int) = (ndAt ns i).1
      unfold lfN
      rw [if_pos (by omega), hpar2]
    ·rw [if_neg h0]
     obtain rfl : i = 0 := by omega
     rw [if_neg]
     rw [pa_0 hv.f]
     omega
   rw [hx]
   refine ih (i + 1) _ _ (by omega) (by rw [List.length_set]; exact hz) ?_ fun j hj hn => ?_
   ·rw [lf_out b1 h, ho, List.take_succ_eq_append_getElem hLi]
   ·rw [List.getD_eq_getElem?_getD, List.getElem?_set]
    by_cases hji : i = j
    ·subst hji
     rw [if_pos rfl, if_pos (by omega), hol]
     rfl
    ·rw [if_neg hji, ← List.getD_eq_getElem?_getD]
     exact hzs j (by omega) hn
theorem rem_same (a : List Nd × ByteArray) : rRemV a = RemV a := by
 obtain ⟨ns, p⟩ := a
 unfold rRemV RemV
 dsimp only
 rw [beg_fnd]
 by_cases h : chkP ns = 0
 ·rw [if_pos h, if_pos h]
  by_cases h2 : (fndV (ns, p)).2 = true
  ·rw [if_pos h2, if_pos h2]
   dsimp only
   have hv := vld_vl (chk_vld.1 h)
   rw [if_neg (by decide)]
   have hkl := fnd_lt h2
   have hk0 : 0 ≤ (fndV (ns, p)).1 := by
    unfold fndV
    split
    ·exact Int.le_refl _
    ·exact Int.natCast_nonneg _
   obtain ⟨k, hk⟩ : ∃ k : Nat, (fndV (ns, p)).1 = k := ⟨(fndV (ns, p)).1.toNat, by omega⟩
   rw [hk] at hkl ⊢
   unfold rmR rmE
   dsimp only
   by_cases h3 : (k : Int) = 0
   ·rw [if_pos h3, if_pos h3, if_pos h3]
   ·rw [if_neg h3, if_neg h3, if_neg h3]
    rw [rv_go hv (by omega) (by omega) ns.length 0 _ [] (Nat.zero_add _) (List.length_replicate ..) (by rw [lf0]; rfl) fun j hj => absurd hj (nN9 j)]
  ·rw [if_neg h2, if_neg h2]
   rfl
 ·rw [if_neg h, if_neg h]
  exact if_pos h
theorem emb_eq {x y : List Nd} {g : Nat → Nat} (hx : Vl x) (he : Emb x y g) (h : x.length ≤ y.length) : y = x := by
 refine emb_full hx he fun k hk => ?_
 refine Classical.byContradiction fun hn => ?_
 have h2 : ∀ i, i < y.length → ¬ g i = k := fun i hi hg => hn (by unfold inT; rw [in_of hx he hi hg])
 have := emb_len hx he hk h2
 omega
theorem ad_srt {ns : List Nd} (hv : Vl ns) {k : Nat} (hk : k < ns.length) {s : ByteArray} (h : adbV (ns, (k : Int), s) = 0) : adV ns (k : Int) s = srtV (ns ++ [((k : Int), s, [])]) := by
 obtain ⟨hnam, hno, hdep, hlen⟩ := add_f h
 have hk1 : (k : Int) < (ns.length : Nat) := by omega
 have hfa := frm_app hv.f (Int.natCast_nonneg k) hk1 hnam hlen
 have hd := dst_app hv hno
 have hm := vl_add hv (Int.natCast_nonneg k) hk1 hnam hlen (any_no _ _ fun j _ hj => hno j (by omega)) hdep
 have fA : ∀ j, j < ns.length → ndAt (ns ++ [((k : Int), s, [])]) j = ndAt ns j := fun j hj => app_at hj
 have fP : ∀ j, j < ns.length → paN (ns ++ [((k : Int), s, [])]) j = paN ns j := fun j hj => app_pa hj
 have fL : ndAt (ns ++ [((k : Int), s, [])]) ns.length = ((k : Int), s, []) := app_last
 have fPL : paN (ns ++ [((k : Int), s, [])]) ns.length = k := by
  unfold paN paI
  rw [app_last]
  rfl
 have fN : (ns ++ [(((k : Int), s, []) : Nd)]).length = ns.length + 1 := app_len
 generalize (ns ++ [(((k : Int), s, []) : Nd)]) = T at hfa hd hm fA fP fL fPL fN
 obtain ⟨f, hf⟩ := wk_place hfa
 have hf1 : ∀ i, i < T.length → f i < (srtV T).length := fun i hi => by rw [srt_length]; exact (hf i hi).1
 have inj : ∀ i j, i < T.length → j < T.length → f i = f j → i = j := by
  intro i j hi hj hij
  obtain ⟨h1, h2⟩ := hf i hi
  obtain ⟨h3, h4⟩ := hf j hj
  have h5 : (wkT T)[f i] = (wkT T)[f j] := by congr 1
  rw [h2, h4] at h5
  omega
 have h0 : f 0 = 0 := by
  obtain ⟨h1, h2⟩ := hf 0 (by omega)
  exact wkT_inj hfa h1 wkT_pos (by rw [h2, wkT_zero]; rfl)
 have hpa : ∀ i, i < T.length → f (paN T i) = paN (srtV T) (f i) := by
  intro i hi
  obtain ⟨h1, h2⟩ := hf i hi
  obtain ⟨h3, h4⟩ := srt_pa hfa hd h1
  have h5 := par_le hfa i
  obtain ⟨h6, h7⟩ := hf (paN T i) (by omega)
  refine wkT_inj hfa h6 h3 ?_
  rw [h7, h4, h2, Int.toNat_natCast]
 have hrest : ∀ i, i < T.length → (ndAt (srtV T) (f i)).2 = (ndAt T i).2 := by
  intro i hi
  obtain ⟨h1, h2⟩ := hf i hi
  rw [srt_nam h1, h2, Int.toNat_natCast]
 obtain ⟨g, he, hg⟩ := emb_of hv hm (f := f) (fun i hi => hf1 i (by omega)) (fun i j hi hj => inj i j (by omega) (by omega)) h0 (fun i _ hi => by rw [← fP i hi]; exact hpa i (by omega)) fun i hi => by rw [hrest i (by omega), fA i hi]
 have hj0 : 0 < f ns.length := by
  rcases Nat.eq_zero_or_pos (f ns.length) with h1 | h1
  ·have := inj ns.length 0 (by omega) (by omega) (by rw [h1, h0])
   omega
  ·exact h1
 have hname : (ndAt (srtV T) (f ns.length)).2 = (s, []) := by rw [hrest _ (by omega), fL]
 obtain ⟨g2, he2, hl2, _⟩ := ins_emb (p := k) hm he hj0 (hf1 _ (by omega)) hk (by rw [hg k hk, ← hpa ns.length (by omega), fPL]) (fun i hi h1 => by
  rw [hg i hi] at h1
  have := inj i ns.length (by omega) (by omega) h1
  omega) (by rw [hname])
 rw [show (ndAt (srtV T) (f ns.length)).2.1 = s by rw [hname]] at he2 hl2
 refine emb_eq hm he2 ?_
 rw [hl2, srt_length]
 have := wkT_le hfa
 omega
theorem any_sk {p : Nat → Bool} : ∀ m i, anyGo p m i = decide (skGo p m i < i + m) := by
 intro m
 induction m with
 | zero =>
  intro i
  exact (dF9 (Nat.lt_irrefl i)).symm
 | succ m ih =>
  intro i
  show (p i || anyGo p m (i + 1)) = decide ((if p i = true then i else skGo p m (i + 1)) < i + (m + 1))
  cases h : p i with
  | true =>
   rw [if_pos rfl, Bool.true_or]
   exact (dT9 (by omega)).symm
  | false =>
   rw [if_neg (by decide), Bool.false_or, ih (i + 1)]
   exact decide_eq_decide.2 (by omega)
theorem add_same (a : List Nd × ByteArray × ByteArray) : rAddV a = AddV a := by
 obtain ⟨ns, p, s⟩ := a
 unfold rAddV AddV
 dsimp only
 rw [beg_fnd]
 by_cases h : chkP ns = 0
 ·rw [if_pos h, if_pos h]
  by_cases h2 : (fndV (ns, p)).2 = true
  ·rw [if_pos h2, if_pos h2]
   dsimp only
   have hv := vld_vl (chk_vld.1 h)
   rw [if_neg (by decide)]
   have hkl := fnd_lt h2
   have hk0 : 0 ≤ (fndV (ns, p)).1 := by
    unfold fndV
    split
    ·exact Int.le_refl _
    ·exact Int.natCast_nonneg _
   obtain ⟨k, hk⟩ : ∃ k : Nat, (fndV (ns, p)).1 = k := ⟨(fndV (ns, p)).1.toNat, by omega⟩
   rw [hk, Int.toNat_natCast] at hkl ⊢
   have hsk : anyGo (samB ns (k : Int) s) ns.length 0 = decide (skV (samB ns (k : Int) s) ns.length < ns.length) := by
    rw [any_sk, Nat.zero_add]
    rfl
   have had : ∀ e, adbV (ns, (k : Int), s) = e → ¬ e = 0 → (adR (ns, (k : Int), s), adbV (ns, (k : Int), s)) = (([] : List Nd), e) := fun e h1 h2 => by
    unfold adR
    dsimp only
    rw [h1, if_neg h2]
   by_cases h3 : namB s = false
   ·rw [if_pos h3, had 1 (by unfold adbV; exact if_pos h3) (by decide)]
   ·rw [if_neg h3, hsk]
    by_cases h4 : skV (samB ns (k : Int) s) ns.length < ns.length
    ·rw [if_pos (dT9 h4), had 5 (by unfold adbV; rw [if_neg h3]; exact if_pos h4) (by decide)]
    ·rw [if_neg (by rw [dF9 h4]; decide)]
     by_cases h5 : 8 ≤ dpV ns k
     ·rw [if_pos h5, had 2 (by unfold adbV; rw [if_neg h3]; dsimp only; rw [if_neg h4]; exact if_pos h5) (by decide)]
     ·rw [if_neg h5]
      by_cases h6 : 120 ≤ ns.length
      ·rw [if_pos h6, had 3 (by unfold adbV; rw [if_neg h3]; dsimp only; rw [if_neg h4, Int.toNat_natCast, if_neg h5]; exact if_pos h6) (by decide)]
      ·rw [if_neg h6]
       have h7 : adbV (ns, (k : Int), s) = 0 := by unfold adbV; rw [if_neg h3]; dsimp only; rw [if_neg h4, Int.toNat_natCast, if_neg h5]; exact if_neg h6
       unfold adR
       dsimp only
       rw [h7, if_pos rfl, ad_srt hv (by omega) h7]
  ·rw [if_neg h2, if_neg h2]
   rfl
 ·rw [if_neg h, if_neg h]
  exact if_pos h
theorem sm_nil : SmN 400 [] := ⟨nZ9 _, fun n hn => by cases hn⟩
theorem vl_sm4 {ns : List Nd} (hv : Vl ns) : SmN 400 ns := ⟨by have := (vl_smN hv).len; omega, fun n hn => by have := (vl_smN hv).ps n hn; omega⟩
theorem add_sm (a : List Nd × ByteArray × ByteArray) : SmN 400 (AddV a).1 := by
 rw [← add_same]
 by_cases h : (rAddV a).2 = 0
 ·have hb : ¬ ¬ (begV (a.1, a.2.1)).2 = 0 := fun h1 => by
   unfold rAddV at h
   rw [if_pos h1] at h
   exact h1 h
  have hv : Vl a.1 := by
   rw [beg_fnd] at hb
   by_cases h2 : chkP a.1 = 0
   ·exact vld_vl (chk_vld.1 h2)
   ·rw [if_neg h2] at hb
    exact absurd h2 hb
  exact vl_sm4 (add_vl hv h)
 ·have h1 : (rAddV a).1 = [] := by
   unfold rAddV at h ⊢
   split; rfl
   split; rfl
   split; rfl
   split; rfl
   split; rfl
   simp_all
  rw [h1]
  exact sm_nil
theorem set_sm4 (a : List Nd × ByteArray × ByteArray × ByteArray) : SmN 400 (SetV a).1 := by
 rw [← set_same]
 by_cases h : (rSetV a).2 = 0
 ·have hb : ¬ ¬ (begV (a.1, a.2.1)).2 = 0 := fun h1 => by
   unfold rSetV at h
   rw [if_pos h1] at h
   exact h1 h
  have hv : Vl a.1 := by
   rw [beg_fnd] at hb
   by_cases h2 : chkP a.1 = 0
   ·exact vld_vl (chk_vld.1 h2)
   ·rw [if_neg h2] at hb
    exact absurd h2 hb
  exact vl_sm4 (set_vl hv h)
 ·have h1 : (rSetV a).1 = [] := by
   unfold rSetV at h ⊢
   split; rfl
   split; rfl
   split; rfl
   simp_all
  rw [h1]
  exact sm_nil
theorem del_sm (a : List Nd × ByteArray × ByteArray) : SmN 400 (DelV a).1 := by
 rw [← del_same]
 unfold rDelV
 by_cases h1 : ¬ (begV (a.1, a.2.1)).2 = 0
 ·rw [if_pos h1]
  exact sm_nil
 ·rw [if_neg h1]
  have hv : Vl a.1 := by
   rw [beg_fnd] at h1
   by_cases h2 : chkP a.1 = 0
   ·exact vld_vl (chk_vld.1 h2)
   ·rw [if_neg h2] at h1
    exact absurd h2 h1
  split
  ·exact sm_nil
  ·have hs := vl_sm4 hv
   refine ⟨by show (woN _ _ _).length ≤ _; unfold woN; rw [List.length_set]; exact hs.len, fun n hn => ?_⟩
   have hn : n ∈ woN a.1 (begV (a.1, a.2.1)).1.toNat a.2.2 := hn
   unfold woN at hn
   rcases List.mem_or_eq_of_mem_set hn with h2 | h2
   ·exact hs.ps n h2
   ·rw [h2]
    obtain ⟨_, h3, h4⟩ := beg_ok (Classical.not_not.1 h1)
    have h5 := hs.ps (ndAt a.1 (begV (a.1, a.2.1)).1.toNat) (by rw [nd_at' (by omega)]; exact List.getElem_mem _)
    exact Nat.le_trans (List.length_filter_le ..) h5
theorem rem_sm (a : List Nd × ByteArray) : SmN 400 (RemV a).1 := by
 unfold RemV
 split
 ·rename_i h
  split
  ·rename_i h2
   have hv := vld_vl (chk_vld.1 h)
   have hkl := fnd_lt h2
   unfold rmR
   dsimp only
   split
   ·exact sm_nil
   ·rename_i h3
    have hk0 : 0 ≤ (fndV (a.1, a.2)).1 := by
     unfold fndV
     split
     ·exact Int.le_refl _
     ·exact Int.natCast_nonneg _
    obtain ⟨k, hk⟩ : ∃ k : Nat, (fndV (a.1, a.2)).1 = k := ⟨(fndV (a.1, a.2)).1.toNat, by omega⟩
    rw [hk] at hkl h3 ⊢
    exact vl_sm4 ((rm_emb hv (k := k) (by omega) (by omega)).vl hv)
  ·exact sm_nil
 ·exact sm_nil
def saysTe : Says := fun args H => match args, H with
 | [.c (.p (.l (.int .i64) _)), .agg [.p (.l (.pair (.int .i64) (.pair .str (.list (.pair .str .str)))) raw)], .c (.p (.v (.string _))), .c (.p (.v (.string _))), .c (.p (.v (.string _)))], [] => some (some (LenM raw), .bool true, [])
 | _, _ => none
set_option maxHeartbeats 4000000 in
theorem te_law : TS9 (ext BT11 4 saysTe) := by
 refine ext_run bT11 (f := 4) (fn := Tryz.f4) rfl rfl [0, 1, 2, 3, 4, 6, 10, 11, 12, 14, 15, 16, 17, 18, 19, 20, 21, 22, 23, 24, 25, 26, 27, 28, 29, 30, 31, 32, 33, 34, 35, 48, 59, 60, 61, 62, 66, 74, 181] fun args H p r' H' hs hp => ?_
 unfold saysTe at hs
 split at hs
 ·rename_i zs raw path name value
  cases hs
  have hm : LenM raw := hp
  refine ⟨nB9 rfl, [], rfl, nK9, ?_⟩
  repeat ((conv => whnf); refine ⟨by first | exact ⟨rfl, hm⟩ | (unfold inI64; omega) | omega | exact ⟨by omega, by omega⟩ | exact rfl | decide +kernel, ?_⟩)
  conv => whnf
  refine cI9 ?_ ?_<;>intro h
  ·repeat ((conv => whnf); refine ⟨by first | (unfold inI64; omega) | omega | exact ⟨by omega, by omega⟩ | exact rfl | decide +kernel, ?_⟩)
   conv => whnf
   exact eR9
  have hsm : smB raw = true := by
   have h2 : ((!smB raw || decide ((400 : Int) < (path.size : Nat))) || decide ((400 : Int) < (value.size : Nat))) = false := h
   rw [Bool.or_eq_false_iff, Bool.or_eq_false_iff] at h2
   have h4 := h2.1.1
   cases h5 : smB raw with
   | true => rfl
   | false => rw [h5] at h4; cases h4
  have hr := sm_raw hsm
  have ht0 : tapeOk (zs.take 500) 0 := by
   have := List.length_take_le 500 zs
   exact ⟨by decide, by decide, by omega⟩
  generalize hz : (zs : List Int).take 500 = ys at ht0
  have hv := gr_vl ys 0 10
  have htt := gr_ok (zs := ys) (n := 0) (k := 10) ht0
  obtain ⟨R, hR⟩ : ∃ R, grV ys 0 10 = R := ⟨_, rfl⟩
  rw [hR] at hv htt
  obtain ⟨a, x0⟩ := R
  have hv : Vl a := hv
  have ha : SmN 120 a := vl_smN hv
  have htt : tapeOk ys x0 := htt
  have q1 : tapeOk ys 0 ∧ (0 : Int) ≤ 10 ∧ (10 : Int) ≤ 100 := ⟨ht0, by decide, by decide⟩
  conv => whnf
  rw [hz]
  repeat ((conv => whnf); refine ⟨by first | exact q1 | (unfold inI64; omega) | omega | exact ⟨by omega, by omega⟩ | exact rfl | decide +kernel, ?_⟩)
  conv => whnf
  rw [hR]
  have hb1 : SmN 121 (bnV ys x0 a).1 := bn_sm ha
  have hp1 : tapeOk ys (bnV ys x0 a).2 := bn_tp htt
  have hal : a.length ≤ 1000 := by have := ha.len; omega
  have c1 : (tapeOk ys x0 ∧ LenN a ∧ a.length ≤ 1000) ∧ True := ⟨⟨htt, ha.lenN (by decide), hal⟩, trivial⟩
  repeat ((conv => whnf); refine ⟨by first | exact c1 | (repeat ((conv => whnf); refine ⟨by ((conv => whnf); first | exact ⟨rfl, rfl, rfl⟩ | exact ⟨rfl, rfl⟩ | exact ⟨by assumption, rfl, rfl, rfl⟩), ?_⟩)); ((conv => whnf); exact trivial) | ((conv => whnf); exact ⟨⟨rfl, rfl, rfl⟩, trivial⟩) | exact Early.one (by decide +kernel) (by (conv => whnf); exact ⟨rfl, rfl, rfl⟩) trivial | (unfold inI64; omega) | omega | exact ⟨by omega, by omega⟩ | exact rfl | decide +kernel, ?_⟩)
  conv => whnf
  have hL : ∀ x ∈ ([raw, a, (bnV ys x0 a).1] : List (List Nd)), SmN 400 x := fun x hx => by
   simp only [List.mem_cons, List.not_mem_nil, or_false] at hx
   rcases hx with rfl | rfl | rfl
   ·exact hr
   ·exact ⟨by have := ha.len; omega, fun n hn => by have := ha.ps n hn; omega⟩
   ·exact ⟨by have := hb1.len; omega, fun n hn => by have := hb1.ps n hn; omega⟩
  have hL3 : ([raw, a, (bnV ys x0 a).1] : List (List Nd)).length = 3 := rfl
  refine lI9 (σ := Nat × Int) (fun ⟨i, _⟩ => [(0, nX9), (1, nX9), (2, XV.s (.str path)), (3, XV.s (.str name)), (4, XV.s (.str value)), (6, XV.s (.a (.c (.ptr 0 0)))), (10, nX9), (11, XV.s (.a (.c (.ptr 1 0)))), (12, XV.s (.a (.c (.ptr 2 0)))), (14, nX9), (15, nX9), (16, nX9), (17, nX9), (18, nX9), (19, nX9), (20, nX9), (21, nX9), (22, nX9), (23, nX9), (24, nX9), (25, nX9), (26, nX9), (27, nX9), (28, nX9), (29, nX9), (30, nX9), (31, nX9), (32, nX9), (33, nX9), (34, nX9), (35, nX9), (48, nX9), (59, XV.s (.a (.c (.p (.l (.list ndC) ([raw, a, (bnV ys x0 a).1] : List (List Nd))))))), (60, XV.s (.int .i64 3)), (61, XV.s (.int .i64 (i : Nat))), (62, nX9), (66, nX9), (74, nX9), (181, nX9)])
   (fun ⟨_, p⟩ => [.row [.p (.l ndC raw)], tapeO ys p, .row [.p (.l ndC a)]]) (fun ⟨i, p⟩ => i ≤ 3 ∧ tapeOk ys p) (fun ⟨i, _⟩ => 3 - i) (0, (bnV ys x0 a).2) ?_ rfl ⟨by decide, hp1⟩ ?_
  ·repeat first|exact lN9|refine lD9 ?_|refine lS9 ?_
  rintro ⟨i, p⟩ ⟨hi, hp⟩
  generalize ([raw, a, (bnV ys x0 a).1] : List (List Nd)) = L at hL hL3 ⊢
  repeat ((conv => whnf); refine ⟨by first | (unfold inI64; omega) | omega | exact ⟨by omega, by omega⟩ | exact rfl | decide +kernel, ?_⟩)
  conv => whnf
  refine cI9 ?_ ?_<;>intro h1
  ·have hlt : i < 3 := by
    have h2 : (i : Int) < 3 := oT9 h1
    omega
   have hin : 0 ≤ (i : Int) ∧ (i : Int) < (L.length : Nat) := by omega
   repeat ((conv => whnf); refine ⟨by first | exact hin | (unfold inI64; omega) | omega | exact ⟨by omega, by omega⟩ | exact rfl | decide +kernel, ?_⟩)
   conv => whnf
   generalize L.getD (i : Int).toNat (CT.list ndC).dflt = x
   refine lI9 (σ := Nat × Int) (fun ⟨j, _⟩ => [(0, nX9), (1, nX9), (2, XV.s (.str path)), (3, XV.s (.str name)), (4, XV.s (.str value)), (6, XV.s (.a (.c (.ptr 0 0)))), (10, nX9), (11, XV.s (.a (.c (.ptr 1 0)))), (12, XV.s (.a (.c (.ptr 2 0)))), (14, XV.s (.a (.c (.ptr 3 0)))), (15, XV.s (.int .i64 (j : Nat))), (16, nX9), (17, nX9), (18, nX9), (19, nX9), (20, nX9), (21, nX9), (22, nX9), (23, nX9), (24, nX9), (25, nX9), (26, nX9), (27, nX9), (28, nX9), (29, nX9), (30, nX9), (31, nX9), (32, nX9), (33, nX9), (34, nX9), (35, nX9), (48, nX9), (59, XV.s (.a (.c (.p (.l (.list ndC) L))))), (60, XV.s (.int .i64 3)), (61, XV.s (.int .i64 (i : Nat))), (62, nX9), (66, nX9), (74, nX9), (181, nX9)])
    (fun ⟨_, p⟩ => [.row [.p (.l ndC raw)], tapeO ys p, .row [.p (.l ndC a)], .row [.p (.l ndC x)]]) (fun ⟨j, p⟩ => j ≤ 3 ∧ tapeOk ys p) (fun ⟨j, _⟩ => 3 - j) (0, p) ?_ rfl ⟨by decide, hp⟩ ?_
   ·repeat first|exact lN9|refine lD9 ?_|refine lS9 ?_
   rintro ⟨j, p⟩ ⟨hj, hp⟩
   repeat ((conv => whnf); refine ⟨by first | (unfold inI64; omega) | omega | exact ⟨by omega, by omega⟩ | exact rfl | decide +kernel, ?_⟩)
   conv => whnf
   refine cI9 ?_ ?_<;>intro h3
   ·have hjt : j < 3 := by
     have h2 : (j : Int) < 3 := oT9 h3
     omega
    repeat ((conv => whnf); refine ⟨by first | (unfold inI64; omega) | omega | exact ⟨by omega, by omega⟩ | exact rfl | decide +kernel, ?_⟩)
    conv => whnf
    refine cI9 ?_ ?_<;>intro h4
    ·have ho : ([.c (.ptr 0 0), .agg [.p (.l ndC a)]] : List AV) = [.c (.ptr 0 0), .agg [.p (.l ndC a)]] ∧ tapeOk ys p ∧ a.length ≤ 1000000000 := ⟨rfl, hp, by omega⟩
     have t1 := rawN_ok9 (rawN_ok9 hp)
     have t2 := rawN_ok9 t1
     have t3 := rawN_ok9 t2
     have t4 := val_ok t3
     repeat ((conv => whnf); refine ⟨by first | exact ho | exact t1 | exact t2 | exact t3 | (unfold inI64; omega) | omega | exact ⟨by omega, by omega⟩ | exact rfl | decide +kernel, ?_⟩)
     conv => whnf
     generalize gpV ys p a = P9
     generalize pickS nameL ys (rawN ys (rawN ys p)) = N9
     generalize pickS propL ys (rawN ys (rawN ys (rawN ys p))) = Q9
     obtain ⟨V9, hV9⟩ : ∃ V9, (valV ys (rawN ys (rawN ys (rawN ys (rawN ys p))))).1 = V9 := ⟨_, rfl⟩
     rw [hV9]
     have d1 : TTOk ((AddV (x, P9, N9)).1, (rAddV (x, P9, N9)).1) := (add_sm (x, P9, N9)).tt (by decide) _
     have d2 : TTOk ((SetV (x, P9, Q9, V9)).1, (rSetV (x, P9, Q9, V9)).1) := (set_sm4 (x, P9, Q9, V9)).tt (by decide) _
     have d3 : TTOk ((DelV (x, P9, Q9)).1, (rDelV (x, P9, Q9)).1) := (del_sm (x, P9, Q9)).tt (by decide) _
     have d4 : TTOk ((RemV (x, P9)).1, (rRemV (x, P9)).1) := (rem_sm (x, P9)).tt (by decide) _
     repeat ((conv => whnf); refine ⟨by first | exact ⟨rfl, trivial⟩ | exact ⟨rfl, d1⟩ | exact ⟨rfl, d2⟩ | exact ⟨rfl, d3⟩ | exact ⟨rfl, d4⟩ | exact fun _ => ⟨rfl, d1⟩ | exact fun _ => ⟨rfl, d2⟩ | exact fun _ => ⟨rfl, d3⟩ | exact fun _ => ⟨rfl, d4⟩ | (repeat ((conv => whnf); refine ⟨by ((conv => whnf); first | exact ⟨rfl, rfl, rfl⟩ | exact ⟨rfl, rfl⟩ | exact ⟨by assumption, rfl, rfl, rfl⟩), ?_⟩)); ((conv => whnf); exact trivial) | ((conv => whnf); exact ⟨⟨rfl, rfl, rfl⟩, trivial⟩) | exact Early.one (by decide +kernel) (by (conv => whnf); exact ⟨rfl, rfl, rfl⟩) trivial | (unfold inI64; omega) | omega | exact ⟨by omega, by omega⟩ | exact rfl | decide +kernel, ?_⟩)
     conv => whnf
     refine cI9 ?_ ?_<;>intro h5
     ·exfalso
      have h6 : ((((((((!decide ((AddV (x, P9, N9)).2 = (rAddV (x, P9, N9)).2)) || !decide ((SetV (x, P9, Q9, V9)).2 = (rSetV (x, P9, Q9, V9)).2)) || !decide ((DelV (x, P9, Q9)).2 = (rDelV (x, P9, Q9)).2)) || !decide ((RemV (x, P9)).2 = (rRemV (x, P9)).2)) || !eqTB ((AddV (x, P9, N9)).1, (rAddV (x, P9, N9)).1)) || !eqTB ((SetV (x, P9, Q9, V9)).1, (rSetV (x, P9, Q9, V9)).1)) || !eqTB ((DelV (x, P9, Q9)).1, (rDelV (x, P9, Q9)).1)) || !eqTB ((RemV (x, P9)).1, (rRemV (x, P9)).1)) = true := h5
      rw [add_same, set_same, del_same, rem_same] at h6
      simp [eqTB] at h6
     repeat ((conv => whnf); refine ⟨by first | (unfold inI64; omega) | omega | exact ⟨by omega, by omega⟩ | exact rfl | decide +kernel, ?_⟩)
     conv => whnf
     refine kI9 (j + 1, (valV ys (rawN ys (rawN ys (rawN ys (rawN ys p))))).2) [0, 1, 2, 3] rfl (fun k hk => ?_) rfl ?_ ⟨hjt, t4⟩ (by show 3 - (j + 1) < 3 - j; omega)
     ·have hk : k < 4 := hk
      obtain rfl | rfl | rfl | rfl : k = 0 ∨ k = 1 ∨ k = 2 ∨ k = 3 := by omega
      all_goals rfl
     ·repeat first|exact kN9|refine kD9 ?_|refine kR9 rfl ?_
    have d1 : TTOk ((AddV (x, path, name)).1, (rAddV (x, path, name)).1) := (add_sm (x, path, name)).tt (by decide) _
    have d2 : TTOk ((SetV (x, path, name, value)).1, (rSetV (x, path, name, value)).1) := (set_sm4 (x, path, name, value)).tt (by decide) _
    have d3 : TTOk ((DelV (x, path, name)).1, (rDelV (x, path, name)).1) := (del_sm (x, path, name)).tt (by decide) _
    have d4 : TTOk ((RemV (x, path)).1, (rRemV (x, path)).1) := (rem_sm (x, path)).tt (by decide) _
    repeat ((conv => whnf); refine ⟨by first | exact ⟨rfl, trivial⟩ | exact ⟨rfl, d1⟩ | exact ⟨rfl, d2⟩ | exact ⟨rfl, d3⟩ | exact ⟨rfl, d4⟩ | exact fun _ => ⟨rfl, d1⟩ | exact fun _ => ⟨rfl, d2⟩ | exact fun _ => ⟨rfl, d3⟩ | exact fun _ => ⟨rfl, d4⟩ | (repeat ((conv => whnf); refine ⟨by ((conv => whnf); first | exact ⟨rfl, rfl, rfl⟩ | exact ⟨rfl, rfl⟩ | exact ⟨by assumption, rfl, rfl, rfl⟩), ?_⟩)); ((conv => whnf); exact trivial) | ((conv => whnf); exact ⟨⟨rfl, rfl, rfl⟩, trivial⟩) | exact Early.one (by decide +kernel) (by (conv => whnf); exact ⟨rfl, rfl, rfl⟩) trivial | (unfold inI64; omega) | omega | exact ⟨by omega, by omega⟩ | exact rfl | decide +kernel, ?_⟩)
    conv => whnf
    refine cI9 ?_ ?_<;>intro h5
    ·exfalso
     have h6 : ((((((((!decide ((AddV (x, path, name)).2 = (rAddV (x, path, name)).2)) || !decide ((SetV (x, path, name, value)).2 = (rSetV (x, path, name, value)).2)) || !decide ((DelV (x, path, name)).2 = (rDelV (x, path, name)).2)) || !decide ((RemV (x, path)).2 = (rRemV (x, path)).2)) || !eqTB ((AddV (x, path, name)).1, (rAddV (x, path, name)).1)) || !eqTB ((SetV (x, path, name, value)).1, (rSetV (x, path, name, value)).1)) || !eqTB ((DelV (x, path, name)).1, (rDelV (x, path, name)).1)) || !eqTB ((RemV (x, path)).1, (rRemV (x, path)).1)) = true := h5
     rw [add_same, set_same, del_same, rem_same] at h6
     simp [eqTB] at h6
    repeat ((conv => whnf); refine ⟨by first | (unfold inI64; omega) | omega | exact ⟨by omega, by omega⟩ | exact rfl | decide +kernel, ?_⟩)
    conv => whnf
    refine kI9 (j + 1, p) [0, 1, 2, 3] rfl (fun k hk => ?_) rfl ?_ ⟨hjt, hp⟩ (by show 3 - (j + 1) < 3 - j; omega)
    ·have hk : k < 4 := hk
     obtain rfl | rfl | rfl | rfl : k = 0 ∨ k = 1 ∨ k = 2 ∨ k = 3 := by omega
     all_goals rfl
    ·repeat first|exact kN9|refine kD9 ?_|refine kR9 rfl ?_
   ·repeat ((conv => whnf); refine ⟨by first | (unfold inI64; omega) | omega | exact ⟨by omega, by omega⟩ | exact rfl | decide +kernel, ?_⟩)
    conv => whnf
    refine kI9 (i + 1, p) [0, 1, 2] rfl (fun k hk => ?_) rfl ?_ ⟨hlt, hp⟩ (by show 3 - (i + 1) < 3 - i; omega)
    ·have hk : k < 3 := hk
     obtain rfl | rfl | rfl : k = 0 ∨ k = 1 ∨ k = 2 := by omega
     all_goals rfl
    ·repeat first|exact kN9|refine kD9 ?_|refine kR9 rfl ?_
  ·repeat ((conv => whnf); refine ⟨by first | (unfold inI64; omega) | omega | exact ⟨by omega, by omega⟩ | exact rfl | decide +kernel, ?_⟩)
   conv => whnf
   exact eR9
 ·cases hs
end Go.Ab
namespace Go.Ab
open Go.RowKit
set_option linter.unusedSectionVars false
def nestGo (P : Program) (f : TypeId → Option CT) (tot : Nat) : List Field → Nat → Option CT
 | [], _ => none
 | [x], off => match f x.type with
  | some c => if x.offset = off ∧ P.cellsOf x.type = c.width ∧ tot = off + c.width then some c else none
  | none => none
 | x :: r, off => match f x.type, nestGo P f tot r (off + P.cellsOf x.type) with
  | some a, some b => if x.offset = off ∧ P.cellsOf x.type = a.width then some (.pair a b) else none
  | _, _ => none
def nestOf (P : Program) : Nat → TypeId → Option CT
 | 0, _ => none
 | d + 1, t => match P.underlying t with
  | some (.int k) => some (.int k)
  | some .bool => some .bool
  | some .string => some .str
  | some (.slice e) => match nestOf P d e with
   | some c => if P.cellsOf e = c.width then some (.list c) else none
   | none => none
  | some (.struct fs) => nestGo P (nestOf P d) (P.cellsOf t) fs.toList 0
  | _ => none
theorem CT.width_pos : ∀ t : CT, 0 < t.width
 | .pair a b => by have := CT.width_pos a; show 0 < a.width + b.width; omega
 | .int _ => Nat.one_pos
 | .bool => Nat.one_pos
 | .str => Nat.one_pos
 | .list _ => Nat.one_pos
 | .fn => Nat.one_pos
 | .map _ _ => Nat.one_pos
variable {H : Type} {enc : TypeId × Value → H} {P : Program} {w : World} {base : Nat} {spare : Nat → Bool} {held : Bool} {I : Cells}
theorem nestGo_tot {f : TypeId → Option CT} {tot : Nat} : ∀ (fs : List Field) (o : Nat) (c : CT), nestGo P f tot fs o = some c → o ≤ tot := by
 intro fs
 induction fs with
 | nil => intro o c h; cases h
 | cons u v ihh =>
  intro o c h
  cases v with
  | nil =>
   simp only [nestGo] at h
   split at h
   ·split at h
    ·rename_i hc; omega
    ·cases h
   ·cases h
  | cons v1 v2 =>
   simp only [nestGo] at h
   split at h
   ·rename_i hh
    have := ihh _ _ hh
    omega
   ·cases h
theorem choose_list' {α : Type} (n : Nat) (p : Nat → α → Prop) (h : ∀ i, i < n → ∃ z, p i z) : ∃ zs : List α, zs.length = n ∧ ∀ i z, zs[i]? = some z → p i z := by
 induction n with
 | zero => exact ⟨[], rfl, fun i z hz => by simp at hz⟩
 | succ n ih =>
  obtain ⟨zs, h1, h2⟩ := ih fun i hi => h i (by omega)
  obtain ⟨z, hz⟩ := h n (by omega)
  refine ⟨zs ++ [z], by simp [h1], fun i x hx => ?_⟩
  rcases Nat.lt_or_ge i zs.length with hi | hi
  ·rw [List.getElem?_append_left hi] at hx
   exact h2 i x hx
  ·have e : i = n := by
    have := (List.getElem?_eq_some_iff.1 hx).1
    simp at this
    omega
   subst e
   rw [List.getElem?_append_right (by omega), show i - zs.length = 0 by omega] at hx
   cases hx
   exact hz
theorem addr_add4 (b off n : Nat) : (⟨b, off, none⟩ : Addr).add n = ⟨b, off + n, none⟩ := by unfold Addr.add; split <;> simp_all
theorem cell_nospot {w : World} {a : Addr} {v : Value} (h : w.cell? a = some v) : a.spot = none := by
 unfold World.cell? at h
 split at h
 ·split at h
  ·cases h
  ·rename_i hs
   cases hsp : a.spot with
   | none => rfl
   | some s => rw [hsp] at hs; simp at hs
 ·cases h
def Bnd : (c : CT) → c.den → Prop
 | .str, (s : ByteArray) => s.size ≤ reachBytes
 | .pair a b, z => Bnd a z.1 ∧ Bnd b z.2
 | .list c, (zs : List c.den) => zs.length ≤ reachBytes ∧ ∀ z ∈ zs, Bnd c z
 | _, _ => True
def nestPos (P : Program) : Nat → TypeId → Bool
 | 0, _ => true
 | d + 1, t => match P.underlying t with
  | some (.slice e) => decide (1 ≤ P.bytesOf e) && nestPos P d e
  | some (.struct fs) => fs.toList.all fun x => nestPos P d x.type
  | _ => true
variable {H : Type} {enc : TypeId × Value → H} {P : Program} {w : World} {base : Nat} {spare : Nat → Bool} {held : Bool} {I : Cells}
theorem nestGo_repB {f : TypeId → Option CT} {tot : Nat} {cs : List Value} (htot : tot = cs.length) :
  ∀ (fs : List Field) (off : Nat) (c : CT), nestGo P f tot fs off = some c → off ≤ cs.length →
   (∀ x ∈ fs, ∀ a, f x.type = some a → ∃ z : a.den, Rep I w a z ((cs.drop x.offset).take (P.cellsOf x.type)) ∧ Bnd a z) → ∃ z : c.den, Rep I w c z (cs.drop off) ∧ Bnd c z := by
 intro fs
 induction fs with
 | nil => intro off c h; cases h
 | cons x r ih =>
  intro off c h ho hx
  cases r with
  | nil =>
   simp only [nestGo] at h
   cases hf : f x.type with
   | none => rw [hf] at h; cases h
   | some a =>
    rw [hf] at h
    dsimp only at h
    split at h
    ·rename_i hc
     obtain rfl : a = c := Option.some.inj h
     obtain ⟨h1, h2, h3⟩ := hc
     obtain ⟨z, hz, hzb⟩ := hx x (by simp) a hf
     refine ⟨z, ?_, hzb⟩
     rwa [h1, List.take_of_length_le (by rw [List.length_drop]; omega)] at hz
    ·cases h
  | cons y r =>
   simp only [nestGo] at h
   cases hf : f x.type with
   | none => rw [hf] at h; cases h
   | some a =>
    rw [hf] at h
    cases hg : nestGo P f tot (y :: r) (off + P.cellsOf x.type) with
    | none =>
     rw [hg] at h
     cases h
    | some b =>
     rw [hg] at h
     dsimp only at h
     split at h
     ·rename_i hc
      cases h
      obtain ⟨h1, h2⟩ := hc
      have hle : off + P.cellsOf x.type ≤ cs.length := by
       have := nestGo_tot _ _ _ hg
       omega
      obtain ⟨z1, hz1, hb1⟩ := hx x (by simp) a hf
      obtain ⟨z2, hz2, hb2⟩ := ih _ b hg hle fun u hu => hx u (by simp [hu])
      refine ⟨(z1, z2), ⟨(cs.drop off).take (P.cellsOf x.type), cs.drop (off + P.cellsOf x.type), ?_, ?_, hz2⟩, hb1, hb2⟩
      ·rw [← List.drop_drop, List.take_append_drop]
      ·rwa [h1] at hz1
     ·cases h
theorem weightsAll_mem {e : TypeId} : ∀ {l : List (DataW H)} {x : DataW H}, x ∈ l → ∀ n ∈ x.weights P e, n ∈ DataW.weightsAll P e l := by
 intro l
 induction l with
 | nil => intro x hx; cases hx
 | cons a r ih =>
  intro x hx n hn
  unfold DataW.weightsAll
  rcases List.mem_cons.1 hx with rfl | hx
  ·exact List.mem_append.2 (.inl hn)
  ·exact List.mem_append.2 (.inr (ih hx n hn))
theorem nest_repB (hI : ∀ b o, b < w.heap.size → I b o) : ∀ (d : Nat) (t : TypeId) (c : CT), nestOf P d t = some c → ∀ (fuel : Nat) (cs : List Value) (y : DataW H × List MemPlace), DataW.trod enc P w base spare held fuel t cs = some y → nestPos P d t = true → (∀ n ∈ y.1.weights P t, n ≤ reachBytes) → ∃ z : c.den, Rep I w c z cs ∧ Bnd c z := by
 intro d
 induction d with
 | zero => intro t c h; cases h
 | succ d ih =>
  intro t c h fuel cs y hy hp hwt
  unfold nestOf at h
  unfold nestPos at hp
  split at h
  ·rename_i k hu
   cases h
   obtain ⟨n, rfl, _⟩ := DataW.trod_int hu hy
   exact ⟨n, rfl, trivial⟩
  ·rename_i hu
   cases h
   obtain ⟨b, rfl, _⟩ := DataW.trod_bool hu hy
   exact ⟨b, rfl, trivial⟩
  ·rename_i hu
   cases h
   obtain ⟨s, rfl, rfl, _⟩ := DataW.trod_string hu hy
   have hs : s.data.toList.length ≤ reachBytes := hwt s.data.toList.length (by simp [DataW.weights])
   rw [Array.length_toList] at hs
   exact ⟨s, rfl, hs⟩
  ·rename_i e hu
   split at h
   ·rename_i c' hc
    split at h
    ·rename_i hw
     cases h
     simp only [hu, Bool.and_eq_true, decide_eq_true_eq] at hp
     rcases DataW.trod_slice hu hy with ⟨rfl, _⟩ | ⟨a, len, cap, elems, rest, n, _, rfl, rfl, _, hl, hmx, hlen, hel, _, _⟩
     ·exact ⟨[], .inl ⟨rfl, rfl⟩, nZ9 _, fun z hz => by cases hz⟩
     ·have hwl : len ≤ reachBytes := by
       have h1 := hwt ((elems.length + rest.length) * P.bytesOf e) (by simp [DataW.weights, hu])
       have h2 : (elems.length + rest.length) * 1 ≤ (elems.length + rest.length) * P.bytesOf e := Nat.mul_le_mul_left _ hp.1
       omega
      have hwe : ∀ (i : Nat) (x : DataW H × List MemPlace), elems[i]? = some x → ∀ m ∈ x.1.weights P e, m ≤ reachBytes := fun i x hx m hm => hwt m (by
       simp only [DataW.weights, hu, List.mem_cons, List.mem_append]
       exact .inr (.inl (weightsAll_mem (List.mem_map_of_mem (List.mem_of_getElem? hx)) m hm)))
      rcases Nat.eq_zero_or_pos len with h0 | h0
      ·subst h0
       exact ⟨[], .inr (.inr ⟨rfl, a, cap, rfl⟩), nZ9 _, fun z hz => by cases hz⟩
      ·have hwp := CT.width_pos c'
       have get : ∀ i, i < len → ∃ (cs : List Value) (z : c'.den), cs.length = c'.width ∧ (Rep I w c' z cs ∧ Bnd c' z) ∧ ∀ j, j < c'.width → w.cell? ((a.add (i * P.cellsOf e)).add j) = cs[j]? := by
        intro i hi
        have h1 := hel i hi
        rw [List.getElem?_eq_getElem (by omega)] at h1
        obtain ⟨cs, h2, h3⟩ := Option.bind_eq_some_iff.1 h1
        obtain ⟨_, h4, h5⟩ := World.cells?_some h2
        obtain ⟨z, hz⟩ := ih e c' hc n cs _ h3 hp.2 (hwe i _ (List.getElem?_eq_getElem (by omega)))
        exact ⟨cs, z, by rw [h4, hw], hz, fun j hj => h5 j (by rw [hw]; exact hj)⟩
       have hsp : a.spot = none := by
        obtain ⟨cs, _, hcl, _, hcell⟩ := get 0 h0
        have h6 := hcell 0 hwp
        rw [List.getElem?_eq_getElem (by omega)] at h6
        have h7 := cell_nospot h6
        have h8 : (a.add (0 * P.cellsOf e)).add 0 = a := by simp [Addr.add]
        rwa [h8] at h7
       obtain ⟨b, off, sp⟩ := a
       obtain rfl : sp = none := hsp
       have each : ∀ i, i < len → ∃ z : c'.den, ∃ us : List Value, us.length = c'.width ∧ (Rep I w c' z us ∧ Bnd c' z) ∧ ∀ j u, us[j]? = some u → w.at' b (off + i * c'.width + j) = some u := by
        intro i hi
        obtain ⟨cs, z, hcl, hz, hcell⟩ := get i hi
        refine ⟨z, cs, hcl, hz, fun j u hj => ?_⟩
        have hjl : j < c'.width := by
         have := (List.getElem?_eq_some_iff.1 hj).1
         omega
        have h6 := hcell j hjl
        rw [addr_add4, addr_add4, hj, hw] at h6
        exact h6
       obtain ⟨zs, hz1, hz2⟩ := choose_list' len _ each
       refine ⟨zs, .inr (.inl ⟨b, off, cap, by rw [hz1], by rw [hz1]; exact hl, fun i z hi => ?_⟩), by rw [hz1]; exact hwl, fun z hz => ?_⟩
       ·obtain ⟨us, _, ⟨h2, _⟩, h3⟩ := hz2 i z hi
        exact ⟨us, h2, fun j u hj => ⟨hI _ _ (cell_lt (h3 j u hj)), h3 j u hj⟩⟩
       ·obtain ⟨i, hi⟩ := List.getElem?_of_mem hz
        obtain ⟨_, _, h2, _⟩ := hz2 i z hi
        exact h2.2
    ·cases h
   ·cases h
  ·rename_i fs hu
   simp only [hu, List.all_eq_true] at hp
   obtain ⟨xs, n, _, rfl, hl, hxl, hf⟩ := DataW.trod_struct hu hy
   obtain ⟨z, hz, hzb⟩ := nestGo_repB (P := P) hl.symm fs.toList 0 c h (nZ9 _) fun x hx a ha => by
    obtain ⟨i, hi⟩ := List.getElem?_of_mem hx
    have hi' : fs[i]? = some x := by rw [← Array.getElem?_toList]; exact hi
    have h2 := hf i x hi'
    have hil : i < xs.length := by
     have := (Array.getElem?_eq_some_iff.1 hi').1
     omega
    rw [List.getElem?_eq_getElem hil] at h2
    refine ih x.type a ha n _ _ h2 (hp x hx) fun m hm => hwt m ?_
    simp only [DataW.weights, hu]
    refine DataW.weights_mem_each (j := i) (t := x.type) (d := xs[i].1) ?_ ?_ m hm
    ·rw [List.getElem?_map, Array.getElem?_toList, hi']; rfl
    ·rw [List.getElem?_map, List.getElem?_eq_getElem hil]; rfl
   exact ⟨z, by rwa [List.drop_zero] at hz, hzb⟩
  ·cases h
theorem arr_one {cs : Array Value} (h : cs.size = 1) : ∃ x, cs = #[x] := by
 obtain ⟨l⟩ := cs
 match l, h with
 | [x], _ => exact ⟨x, rfl⟩
theorem nest_any {t : TypeId} {c : CT} {d : Nat} {v : Value} {y : DataW H} {ps : List MemPlace} (hI : ∀ b o, b < w.heap.size → I b o) (hc : nestOf P d t = some c) (hp : nestPos P d t = true)
  (h : DataW.Trod enc P w base spare held t v y ps) (hw : ∀ n ∈ y.weights P t, n ≤ reachBytes) : ∃ z : c.den, Rep I w c z v.cells.toList ∧ Bnd c z := by
 obtain ⟨fuel, hf⟩ := h
 exact nest_repB hI d t _ hc fuel _ _ hf hp hw
end Go.Ab
