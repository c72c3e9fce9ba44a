/- A part of a valid tree is valid, and its nodes have the paths that they had. -/
import Derived.Test.YtnlifjljmbfomaaGreatTY90toY101
namespace Go.Ab
open Go.Proofs
set_option linter.unusedSectionVars false
set_option maxRecDepth 100000
variable [Base]
structure Emb (ns ys : List Nd) (g : Nat → Nat) : Prop where
 pos : 0 < ys.length
 len : ys.length ≤ 120
 zero : g 0 = 0
 mono : ∀ i j, i < j → g i < g j
 lt : ∀ i, i < ys.length → g i < ns.length
 root : (ndAt ys 0).1 = -1
 rest : ∀ i, i < ys.length → (ndAt ys i).2 = (ndAt ns (g i)).2
 par : ∀ i, 0 < i → i < ys.length → ∃ p : Nat, (ndAt ys i).1 = (p : Int) ∧ p < i ∧ g p = paN ns (g i)
 flw : ∀ i, i + 1 < ys.length → paN ns (g (i + 1)) = g i ∨ ∃ t, 0 < upN ns t (g i) ∧ paN ns (upN ns t (g i)) = paN ns (g (i + 1)) ∧ bLe (ndAt ns (upN ns t (g i))).2.1 (ndAt ns (g (i + 1))).2.1 = true
section
variable {ns ys : List Nd} {g : Nat → Nat} (hv : Vl ns) (he : Emb ns ys g)
include he
theorem Emb.inj {i j : Nat} (h : g i = g j) : i = j := by
 rcases Nat.lt_trichotomy i j with h1 | h1 | h1
 ·have := he.mono i j h1; omega
 ·exact h1
 ·have := he.mono j i h1; omega
theorem Emb.gpos {i : Nat} (h : 0 < i) : 0 < g i := by have := he.mono 0 i h; omega
include hv
theorem Emb.frm : FrmT ys := by
 constructor
 ·unfold limV
  rw [dF9 (by have := he.pos; omega), dT9 he.len]
  have : ys.all ndLim = true := by
   rw [List.all_eq_true]
   intro n hn
   obtain ⟨i, hi, rfl⟩ := nd_mem hn
   have hl := hv.f.lim
   unfold limV at hl
   simp only [Bool.and_eq_true, List.all_eq_true] at hl
   have hg := he.lt i hi
   have h1 := hl.2 (ndAt ns (g i)) (by
    have : ndAt ns (g i) = ns[g i] := by unfold ndAt; simp [hg]
    rw [this]
    exact List.getElem_mem hg)
   unfold ndLim at h1 ⊢
   rw [he.rest i hi]
   exact h1
  rw [this]
  rfl
 ·refine frm_of _ _ fun i hi => ?_
  rw [Nat.zero_add, ← nd_at' hi]
  have hps := frm_ps hv.f.frm (he.lt i hi)
  rcases Nat.eq_zero_or_pos i with h0 | h0
  ·subst h0
   have h1 := frm_nd hv.f.frm hv.f.len.1
   have hr := he.rest 0 he.pos
   rw [he.zero] at hr hps
   unfold ndFrm at h1 ⊢
   rw [hr, he.root]
   obtain ⟨h2, h3⟩ := bA9.1 h1
   rw [h3]
   obtain ⟨h4, _⟩ := bA9.1 h2
   simp at h4
   simp [h4.2]
  ·obtain ⟨p, hp, hpi, _⟩ := he.par i h0 hi
   have hn := frm_nam hv.f.frm (he.gpos h0) (he.lt i hi)
   unfold ndFrm
   rw [he.rest i hi, hp, hn, hps, dF9 (show ¬ ((i : Nat) : Int) = 0 by omega), dF9 (show ¬ ((p : Nat) : Int) < 0 by omega), dF9 (show ¬ ((i : Nat) : Int) ≤ (p : Nat) by omega)]
   simp
theorem Emb.pa {i : Nat} (hi : i < ys.length) : g (paN ys i) = paN ns (g i) := by
 rcases Nat.eq_zero_or_pos i with h0 | h0
 ·subst h0
  have h1 := par_le (he.frm hv) 0
  have h2 := par_le hv.f 0
  rw [show paN ys 0 = 0 by omega, he.zero]
  omega
 ·obtain ⟨p, hp, _, hg⟩ := he.par i h0 hi
  rw [← hg]
  congr 1
  unfold paN paI
  rw [hp]
  rfl
theorem Emb.up : ∀ t i, i < ys.length → g (upN ys t i) = upN ns t (g i) := by
 intro t
 induction t with
 | zero => intro i _; rfl
 | succ t ih =>
  intro i hi
  have h1 := par_le (he.frm hv) i
  show g (upN ys t (paN ys i)) = upN ns t (paN ns (g i))
  rw [ih _ (by omega), he.pa hv hi]
theorem Emb.vl : Vl ys := by
 have hf := he.frm hv
 refine ⟨hf, ?_, ?_, ?_, ?_⟩
 ·intro a b a0 a1 b0 b1 hp hn
  refine he.inj (hv.d _ _ (he.gpos a0) (he.lt a a1) (he.gpos b0) (he.lt b b1) ?_ ?_)
  ·rw [← he.pa hv a1, ← he.pa hv b1, hp]
  ·rw [← he.rest a a1, ← he.rest b b1]; exact hn
 ·intro i hi
  rw [he.rest i hi]
  exact hv.asc _ (he.lt i hi)
 ·intro i hi
  obtain ⟨h3, h4⟩ := dp_up hv.f (g i + 1) (g i) (nS9 _) (he.lt i hi)
  rw [dp_of hf (d := dpV ns (g i)) hi (he.inj (by rw [he.up hv _ _ hi, he.zero]; exact h3)) fun t ht => by
   rcases Nat.eq_zero_or_pos (upN ys t i) with h | h
   ·have h5 := h4 t ht
    rw [← he.up hv _ _ hi, h, he.zero] at h5
    omega
   ·exact h]
  exact hv.dep _ (he.lt i hi)
 ·intro i h0 hi
  obtain ⟨i, rfl⟩ : ∃ q, i = q + 1 := ⟨i - 1, by omega⟩
  have hpe := (par_lt hf.par h0 hi).2
  unfold flwV
  rcases he.flw i hi with h | ⟨t, t1, t2, t3⟩
  ·rw [← he.pa hv hi] at h
   have h5 : paN ys (i + 1) = i := he.inj h
   have h6 : (ndAt ys (i + 1)).1 = ((i + 1 : Nat) : Int) - 1 := hpe.symm.trans (by rw [h5]; exact (by omega : ((i : Nat) : Int) = ((i + 1 : Nat) : Int) - 1))
   rw [if_pos h6]
  ·split
   ·rfl
   ·obtain ⟨c, hc⟩ : ∃ c, upN ys t i = c := ⟨_, rfl⟩
    have hci : c ≤ i := by rw [← hc]; exact up_le hf t i
    have hgc : g c = upN ns t (g i) := by rw [← hc]; exact he.up hv t i (by omega)
    rw [← hgc] at t1 t2 t3
    have hc0 : 0 < c := by
     rcases Nat.eq_zero_or_pos c with h | h
     ·rw [h, he.zero] at t1; omega
     ·exact h
    have hcp : paN ys c = paN ys (i + 1) := he.inj (by rw [he.pa hv (by omega), he.pa hv hi, t2])
    have hce := (par_lt hf.par hc0 (by omega)).2
    refine flw_up hf _ t (i + 1) i (by omega) (by omega) (by rw [hc]; exact hc0) (by rw [hc, ← hce, ← hpe, hcp]) fun s s1 s2 s3 => ?_
    have hsl : upN ys s i < ys.length := by
     have := up_le hf s i
     omega
    have hse := (par_lt hf.par s2 hsl).2
    have es : upN ys s i = c := up_same hf (i := paN ys c) s2 hsl hc0 (by omega) (by
     rw [s3, ← hpe, hcp.symm] at hse
     omega) rfl rfl hc
    rw [es, he.rest c (by omega), he.rest (i + 1) hi]
    exact t3
theorem Emb.pL : ∀ n i, i ≤ n → i < ys.length → Go.Ab.pL ys i = Go.Ab.pL ns (g i) := by
 have hf := he.frm hv
 intro n
 induction n with
 | zero =>
  intro i h1 _
  obtain rfl : i = 0 := by omega
  rw [he.zero]
  rfl
 | succ n ih =>
  intro i h1 hi
  rcases Nat.eq_zero_or_pos i with h0 | h0
  ·subst h0
   rw [he.zero]
   rfl
  ·have hpi := (par_lt hf.par h0 hi).1
   rw [pL_succ hf h0 hi, pL_succ hv.f (he.gpos h0) (he.lt i hi), ih _ (by omega) (by omega), he.pa hv hi]
   unfold nmL
   rw [he.rest i hi]
theorem Emb.path {i : Nat} (hi : i < ys.length) : pathV ys i = pathV ns (g i) := by
 refine ba_ext9 ?_
 rw [pathV_L, pathV_L]
 rcases Nat.eq_zero_or_pos i with h0 | h0
 ·rw [if_pos h0, h0, he.zero]
  rfl
 ·have := he.gpos h0
  rw [if_neg (by omega), if_neg (by omega)]
  exact he.pL hv i i (nR9 _) hi
end
theorem skGo_spec (p : Nat → Bool) : ∀ m i, (∀ j, i ≤ j → j < skGo p m i → p j = false) ∧ (skGo p m i < i + m → p (skGo p m i) = true) := by
 intro m
 induction m with
 | zero => intro i; exact ⟨fun j h1 h2 => by have : skGo p 0 i = i := rfl; omega, fun h => by have : skGo p 0 i = i := rfl; omega⟩
 | succ m ih =>
  intro i
  unfold skGo
  split
  ·rename_i h
   exact ⟨fun j h1 h2 => by omega, fun _ => h⟩
  ·rename_i h
   obtain ⟨h1, h2⟩ := ih (i + 1)
   refine ⟨fun j h3 h4 => ?_, fun h3 => h2 (by omega)⟩
   by_cases hj : j = i
   ·rw [hj]; simpa using h
   ·exact h1 j (by omega) h4
structure BehF (ns : List Nd) (k e : Nat) : Prop where
 gt : k < e
 le : e ≤ ns.length
 ins : ∀ j, k < j → j < e → k ≤ paN ns j
 out : e < ns.length → paN ns e < k
theorem beh_facts {ns : List Nd} (hv : Vl ns) {k : Nat} (hk : k < ns.length) : BehF ns k (behN ns (k : Int)) := by
 obtain ⟨h1, h2⟩ := skGo_spec (behB ns (k : Int)) ns.length 0
 have hle := skV_le (behB ns (k : Int)) ns.length
 have he : behN ns (k : Int) = skGo (behB ns (k : Int)) ns.length 0 := rfl
 have hle : behN ns (k : Int) ≤ ns.length := hle
 rw [← he] at h1 h2
 obtain ⟨e, hee⟩ : ∃ e, behN ns (k : Int) = e := ⟨_, rfl⟩
 rw [hee] at h1 h2 hle ⊢
 have hgt : k < e := by
  rcases Nat.lt_or_ge k e with h | h
  ·exact h
  ·have h3 := h2 (by omega)
   unfold behB at h3
   obtain ⟨h4, _⟩ := bA9.1 h3
   have h4 : ((k : Nat) : Int) < (e : Nat) := oT9 h4
   omega
 refine ⟨hgt, hle, fun j h3 h4 => ?_, fun h3 => ?_⟩
 ·have h5 := h1 j (by omega) h4
  unfold behB at h5
  rw [dT9 (show ((k : Nat) : Int) < (j : Nat) by omega), Bool.true_and] at h5
  have h5 : ¬ @LT.lt Int _ (ndAt ns j).1 ((k : Nat) : Int) := oF9 h5
  have h6 := (par_lt hv.f.par (j := j) (by omega) (by omega)).2
  omega
 ·have h4 := h2 (by omega)
  unfold behB at h4
  obtain ⟨_, h5⟩ := bA9.1 h4
  have h5 : @LT.lt Int _ (ndAt ns e).1 ((k : Nat) : Int) := oT9 h5
  have h6 := (par_lt hv.f.par (j := e) (by omega) h3).2
  omega
theorem in_iff {ns : List Nd} (hv : Vl ns) {k e : Nat} (hb : BehF ns k e) {j : Nat} (hj : j < ns.length) : (∃ t, upN ns t j = k) ↔ k ≤ j ∧ j < e := by
 constructor
 ·rintro ⟨t, ht⟩
  have h1 : k ≤ j := by rw [← ht]; exact up_le hv.f t j
  refine ⟨h1, ?_⟩
  rcases Nat.lt_or_ge j e with h | h
  ·exact h
  ·exfalso
   obtain ⟨u, hu⟩ := below_all hv j hj ⟨t, ht⟩ e (by have := hb.gt; omega) h
   cases u with
   | zero =>
    have : e = k := hu
    have := hb.gt
    omega
   | succ u =>
    have hu : upN ns u (paN ns e) = k := hu
    have := up_le hv.f u (paN ns e)
    have := hb.out (by omega)
    omega
 ·rintro ⟨h1, h2⟩
  have key : ∀ n j, j ≤ n → k ≤ j → j < e → ∃ t, upN ns t j = k := by
   intro n
   induction n with
   | zero => intro j a b _; exact ⟨0, by show j = k; omega⟩
   | succ n ih =>
    intro j a b c
    rcases Nat.lt_or_eq_of_le b with h | h
    ·have h3 := hb.ins j h c
     have h4 := (par_lt hv.f.par (j := j) (by omega) (by have := hb.le; omega)).1
     obtain ⟨t, ht⟩ := ih (paN ns j) (by omega) h3 (by omega)
     exact ⟨t + 1, ht⟩
    ·exact ⟨0, h.symm⟩
  exact key j j (nR9 _) h1 h2
def gRm (k e i : Nat) : Nat := if i < k then i else i + (e - k)
theorem rm_len {ns : List Nd} {k e : Nat} (h1 : k < e) (h2 : e ≤ ns.length) (g : Nd → Nd) : (woV (ns.map g, (k : Int), (e : Int))).length = ns.length - (e - k) := by
 unfold woV
 dsimp only
 rw [Int.toNat_natCast, Int.toNat_natCast, zP9, List.length_take, List.length_drop, List.length_map]
 omega
theorem rm_at {ns : List Nd} {k e : Nat} (h1 : k < e) (h2 : e ≤ ns.length) (g : Nd → Nd) {i : Nat} (hi : i < ns.length - (e - k)) : ndAt (woV (ns.map g, (k : Int), (e : Int))) i = g (ndAt ns (gRm k e i)) := by
 have hgl : gRm k e i < ns.length := by unfold gRm; split <;> omega
 have e1 : ndAt ns (gRm k e i) = ns[gRm k e i] := by unfold ndAt; simp [hgl]
 rw [e1]
 unfold woV ndAt
 dsimp only
 rw [Int.toNat_natCast, Int.toNat_natCast, List.getD_eq_getElem?_getD]
 by_cases h : i < k
 ·have e2 : gRm k e i = i := if_pos h
  rw [List.getElem?_append_left (by rw [List.length_take, List.length_map]; omega), List.getElem?_take, if_pos h, List.getElem?_map, List.getElem?_eq_getElem (by omega)]
  simp only [Option.map_some, Option.getD_some]
  congr 1
  simp only [e2]
 ·have e2 : gRm k e i = i + (e - k) := if_neg h
  have ht : ((ns.map g).take k).length = k := by rw [List.length_take, List.length_map]; omega
  rw [List.getElem?_append_right (by omega), ht, List.getElem?_drop, List.getElem?_map, List.getElem?_eq_getElem (by omega)]
  simp only [Option.map_some, Option.getD_some]
  congr 1
  simp only [e2]
  congr 1
  omega
theorem rm_emb {ns : List Nd} (hv : Vl ns) {k : Nat} (hk0 : 0 < k) (hk : k < ns.length) : Emb ns (rmN ns (k : Int)) (gRm k (behN ns (k : Int))) := by
 have hb := beh_facts hv hk
 obtain ⟨e, hee⟩ : ∃ e, behN ns (k : Int) = e := ⟨_, rfl⟩
 have hys : rmN ns (k : Int) = woV (ns.map (mvGo (e : Int) ((k : Int) - (e : Int))), (k : Int), (e : Int)) := by
  unfold rmN
  rw [hee]
 rw [hee] at hb ⊢
 obtain ⟨b1, b2, b3, b4⟩ := id hb
 have hlen := hv.f.len
 have hl := rm_len (ns := ns) b1 b2 (mvGo (e : Int) ((k : Int) - (e : Int)))
 have hat := fun (i : Nat) (hi : i < ns.length - (e - k)) => rm_at b1 b2 (mvGo (e : Int) ((k : Int) - (e : Int))) hi
 rw [← hys] at hl hat
 have hrest : ∀ n : Nd, (mvGo (e : Int) ((k : Int) - (e : Int)) n).2 = n.2 := by
  intro n
  unfold mvGo
  split <;> rfl
 have hstay : ∀ j, 0 < j → j < ns.length → ¬ (k ≤ j ∧ j < e) → ¬ (k ≤ paN ns j ∧ paN ns j < e) := by
  intro j j0 j1 h1 h2
  have hp := (par_lt hv.f.par j0 j1).1
  obtain ⟨t, ht⟩ := (in_iff hv hb (by omega)).2 h2
  exact h1 ((in_iff hv hb j1).1 ⟨t + 1, ht⟩)
 have hout : ∀ i, ¬ (k ≤ gRm k e i ∧ gRm k e i < e) := by
  intro i
  unfold gRm
  split <;> omega
 have hinv : ∀ j, ¬ (k ≤ j ∧ j < e) → ∃ i, gRm k e i = j ∧ (i : Int) = if (e : Int) ≤ (j : Int) then (j : Int) + ((k : Int) - (e : Int)) else (j : Int) := by
  intro j h
  by_cases h1 : j < k
  ·refine ⟨j, if_pos h1, ?_⟩
   rw [if_neg (by omega)]
  ·refine ⟨j - (e - k), ?_, ?_⟩
   ·unfold gRm
    rw [if_neg (by omega)]
    omega
   ·rw [if_pos (by omega)]
    omega
 have hgl : ∀ i, i < ns.length - (e - k) → gRm k e i < ns.length := by
  intro i hi
  unfold gRm
  split <;> omega
 have hmono : ∀ i j, i < j → gRm k e i < gRm k e j := by
  intro i j h
  unfold gRm
  split <;> split <;> omega
 refine ⟨by omega, by omega, if_pos hk0, hmono, fun i hi => hgl i (by omega), ?_, fun i hi => ?_, fun i h0 hi => ?_, fun i hi => ?_⟩
 ·rw [hat 0 (by omega), show gRm k e 0 = 0 from if_pos hk0]
  have h4 := frm_nd hv.f.frm (i := 0) (by omega)
  unfold ndFrm at h4
  obtain ⟨h5, _⟩ := bA9.1 h4
  obtain ⟨h6, _⟩ := bA9.1 h5
  simp at h6
  have h7 : (ndAt ns 0).1 = -1 := h6.1
  unfold mvGo
  rw [h7, if_neg (by omega), h7]
 ·rw [hat i (by omega), hrest]
 ·have hil : i < ns.length - (e - k) := by omega
  have hg0 : 0 < gRm k e i := by
   have := hmono 0 i h0
   omega
  have hp := par_lt hv.f.par hg0 (hgl i hil)
  obtain ⟨p, hp1, hp2⟩ := hinv _ (hstay _ hg0 (hgl i hil) (hout i))
  refine ⟨p, ?_, ?_, hp1⟩
  ·rw [hat i hil]
   unfold mvGo
   rw [← hp.2, hp2]
   split
   ·rfl
   ·exact hp.2.symm
  ·rcases Nat.lt_or_ge p i with h | h
   ·exact h
   ·exfalso
    rcases Nat.lt_or_eq_of_le h with h2 | h2
    ·have := hmono i p h2
     omega
    ·subst h2
     omega
 ·have hil : i + 1 < ns.length - (e - k) := by omega
  by_cases hik : i + 1 = k
  ·-- the node behind what is gone
   have e1 : gRm k e (i + 1) = e := by unfold gRm; rw [if_neg (by omega)]; omega
   have e2 : gRm k e i = i := if_pos (by omega)
   rw [e1, e2]
   have hel : e < ns.length := by omega
   have hpe := b4 hel
   obtain ⟨m, rfl⟩ : ∃ m, e = m + 1 := ⟨e - 1, by omega⟩
   rcases vl_flw hv hel with h | ⟨t, t1, t2, t3⟩
   ·omega
   ·obtain ⟨c, hc⟩ : ∃ c, upN ns t m = c := ⟨_, rfl⟩
    rw [hc] at t1 t2 t3
    obtain ⟨u, hu⟩ := (in_iff hv hb (j := m) (by omega)).2 ⟨by omega, by omega⟩
    have hck : ∃ s, upN ns s k = c := by
     rcases Nat.lt_or_ge u t with h | h
     ·exact ⟨t - u, by rw [← hu, ← upN_add, show u + (t - u) = t by omega, hc]⟩
     ·have h1 : upN ns (u - t) c = k := by rw [← hc, ← upN_add, show t + (u - t) = u by omega, hu]
      cases hd : u - t with
      | zero => rw [hd] at h1; exact ⟨0, h1.symm⟩
      | succ d =>
       exfalso
       rw [hd] at h1
       have h1 : upN ns d (paN ns c) = k := h1
       have := up_le hv.f d (paN ns c)
       omega
    obtain ⟨s, hs⟩ := hck
    have hki : k = i + 1 := by omega
    subst hki
    rcases vl_flw hv (m := i) hk with h | ⟨w, w1, w2, w3⟩
    ·cases s with
     | zero =>
      have hs : i + 1 = c := hs
      subst hs
      exact .inl (by omega)
     | succ s =>
      have hs : upN ns s (paN ns (i + 1)) = c := hs
      rw [h] at hs
      exact .inr ⟨s, by rw [hs]; exact t1, by rw [hs]; exact t2, by rw [hs]; exact t3⟩
    ·cases s with
     | zero =>
      have hs : i + 1 = c := hs
      subst hs
      exact .inr ⟨w, w1, by rw [w2]; exact t2, bLe_trans w3 t3⟩
     | succ s =>
      have hs : upN ns s (paN ns (i + 1)) = c := hs
      have hs2 : upN ns (w + (s + 1)) i = c := by
       rw [upN_add]
       show upN ns s (paN ns (upN ns w i)) = c
       rw [w2, hs]
      exact .inr ⟨w + (s + 1), by rw [hs2]; exact t1, by rw [hs2]; exact t2, by rw [hs2]; exact t3⟩
  ·have e1 : gRm k e (i + 1) = gRm k e i + 1 := by
    unfold gRm
    split <;> split <;> omega
   rw [e1]
   exact vl_flw hv (by rw [← e1]; exact hgl _ hil)
theorem up_child {ns : List Nd} (hf : FrmT ns) {q : Nat} : ∀ t a, a < ns.length → upN ns t a = q → q < a → ∃ u, upN ns u a ≤ a ∧ 0 < upN ns u a ∧ paN ns (upN ns u a) = q ∧ q < upN ns u a := by
 intro t
 induction t with
 | zero => intro a _ h hq; have : a = q := h; omega
 | succ t ih =>
  intro a ha h hq
  have h : upN ns t (paN ns a) = q := h
  have hlt := (par_lt hf.par (j := a) (by omega) ha).1
  by_cases hp : paN ns a = q
  ·exact ⟨0, nR9 _, (show 0 < a by omega), hp, hq⟩
  ·have hle := up_le hf t (paN ns a)
   obtain ⟨u, h1, h2, h3, h4⟩ := ih (paN ns a) (by omega) h (by omega)
   exact ⟨u + 1, Nat.le_trans (show upN ns u (paN ns a) ≤ paN ns a from h1) (by omega), h2, h3, h4⟩
theorem emb_flw {ns : List Nd} (hv : Vl ns) {a b : Nat} (hab : a < b) (hb : b < ns.length) (hq : paN ns b ≤ a) : paN ns b = a ∨ ∃ t, 0 < upN ns t a ∧ paN ns (upN ns t a) = paN ns b ∧ bLe (ndAt ns (upN ns t a)).2.1 (ndAt ns b).2.1 = true := by
 by_cases h : paN ns b = a
 ·exact .inl h
 ·obtain ⟨t, ht⟩ := below_all hv (a := paN ns b) b hb ⟨1, rfl⟩ a hq (by omega)
  obtain ⟨u, h1, h2, h3, h4⟩ := up_child hv.f t a (by omega) ht (by omega)
  exact .inr ⟨u, h2, h3, bLe_iff.2 (.inl (sib_lt hv _ _ b (nR9 _) h2 (by omega) hb h3 rfl))⟩
theorem emb_mk {ns ys : List Nd} {g : Nat → Nat} (hv : Vl ns) (pos : 0 < ys.length) (zero : g 0 = 0) (mono : ∀ i j, i < j → g i < g j) (lt : ∀ i, i < ys.length → g i < ns.length) (root : (ndAt ys 0).1 = -1)
  (rest : ∀ i, i < ys.length → (ndAt ys i).2 = (ndAt ns (g i)).2) (par : ∀ i, 0 < i → i < ys.length → ∃ p : Nat, (ndAt ys i).1 = (p : Int) ∧ p < i ∧ g p = paN ns (g i)) : Emb ns ys g := by
 refine ⟨pos, ?_, zero, mono, lt, root, rest, par, fun i hi => ?_⟩
 ·have key : ∀ i, i ≤ g i := by
   intro i
   induction i with
   | zero => exact nZ9 _
   | succ i ih => have := mono i (i + 1) (nS9 i); omega
  have h1 := key (ys.length - 1)
  have h2 := lt (ys.length - 1) (by omega)
  have := hv.f.len
  omega
 ·obtain ⟨p, _, h2, h3⟩ := par (i + 1) (Nat.succ_pos i) hi
  refine emb_flw hv (mono i (i + 1) (nS9 i)) (lt (i + 1) hi) ?_
  rw [← h3]
  rcases Nat.lt_or_eq_of_le (Nat.le_of_lt_succ h2) with h | h
  ·exact Nat.le_of_lt (mono p i h)
  ·rw [h]; exact nR9 _
theorem gap_of (g : Nat → Nat) (mono : ∀ i j, i < j → g i < g j) (j : Nat) (hno : ∀ i, ¬ g i = j) : ∃ at', (∀ i, i < at' → g i < j) ∧ ∀ i, at' ≤ i → j < g i := by
 have key : ∀ n, (∀ i, i < n → g i < j) ∨ ∃ at', (∀ i, i < at' → g i < j) ∧ ∀ i, at' ≤ i → j < g i := by
  intro n
  induction n with
  | zero => exact .inl fun i h => absurd h (nN9 i)
  | succ n ih =>
   rcases ih with h | h
   ·rcases Nat.lt_trichotomy (g n) j with h1 | h1 | h1
    ·refine .inl fun i hi => ?_
     by_cases hin : i = n
     ·rw [hin]; exact h1
     ·exact h i (by omega)
    ·exact absurd h1 (hno n)
    ·refine .inr ⟨n, h, fun i hi => ?_⟩
     rcases Nat.lt_or_eq_of_le hi with h2 | h2
     ·have := mono n i h2; omega
     ·rw [← h2]; exact h1
   ·exact .inr h
 rcases key (j + 2) with h | h
 ·exfalso
  have h1 : ∀ i, i ≤ g i := by
   intro i
   induction i with
   | zero => exact nZ9 _
   | succ i ih => have := mono i (i + 1) (nS9 i); omega
  have := h1 (j + 1)
  have := h (j + 1) (by omega)
  omega
 ·exact h
theorem bLe_not9 {a b : ByteArray} (h : bLt a b = true) : bLe b a = false := by
 cases h2 : bLe b a with
 | false => rfl
 | true =>
  exfalso
  rcases bLe_iff.1 h2 with h3 | h3
  ·have := bLt_trans h h3
   rw [bLt_irrefl] at this
   cases this
  ·rw [h3, bLt_irrefl] at h
   cases h
def gIn (g : Nat → Nat) (at' j i : Nat) : Nat := if i < at' then g i else if i = at' then j else g (i - 1)
section
variable {ns ys : List Nd} {g : Nat → Nat} {p j at' : Nat} (hv : Vl ns) (he : Emb ns ys g) (hj0 : 0 < j) (hj : j < ns.length) (hp : p < ys.length) (hpj : g p = paN ns j) (h1 : ∀ i, i < at' → g i < j) (h2 : ∀ i, at' ≤ i → j < g i)
include hv he hj0 hj hp hpj h1 h2
theorem ins_plt : p < at' := by
 rcases Nat.lt_or_ge p at' with h | h
 ·exact h
 ·have := h2 p h
  have := (par_lt hv.f.par hj0 hj).1
  omega
theorem ins_at (hat : at' ≤ ys.length) : atV ys (p : Int) (ndAt ns j).2.1 = at' := by
 have hvy := he.vl hv
 have hb := beh_facts hvy hp
 have hpa := ins_plt hv he hj0 hj hp hpj h1 h2
 have hjp := (par_lt hv.f.par hj0 hj).1
 obtain ⟨e, hee⟩ : ∃ e, behN ys (p : Int) = e := ⟨_, rfl⟩
 have hea : at' ≤ e := by
  rw [hee] at hb
  rcases Nat.lt_or_ge e at' with h | h
  ·exfalso
   have hel : e < ys.length := by omega
   have h3 := h1 e h
   have h4 := he.mono p e hb.gt
   obtain ⟨t, ht⟩ := below_all hv (a := paN ns j) j hj ⟨1, rfl⟩ (g e) (by omega) (by omega)
   rw [← hpj, ← he.up hv _ _ hel] at ht
   have h5 := he.inj ht
   have := ((in_iff hvy hb hel).1 ⟨t, h5⟩).2
   omega
  ·exact h
 have hsib : ∀ i, i < ys.length → 0 < i → paN ys i = p → paN ns (g i) = paN ns j := fun i hi _ h => by rw [← he.pa hv hi, h, hpj]
 have hpi : ∀ i, 0 < i → i < ys.length → ((ndAt ys i).1 = (p : Int) ↔ paN ys i = p) := fun i i0 hi => by
  have h := (par_lt hvy.f.par i0 hi).2
  refine ⟨fun h3 => ?_, fun h3 => ?_⟩
  ·have h4 : ((paN ys i : Nat) : Int) = (p : Nat) := h.trans h3
   omega
  ·rw [← h3]
   exact h.symm
 have hno : ∀ i, i < at' → addB (e : Nat) ys (p : Int) (ndAt ns j).2.1 i = false := by
  intro i hi
  unfold addB
  rw [dF9 (show ¬ (i : Int) = (e : Nat) by omega), Bool.false_or]
  rcases Nat.eq_zero_or_pos i with i0 | i0
  ·subst i0
   rw [he.root, dF9 (show ¬ (-1 : Int) = (p : Nat) by omega), Bool.false_and]
  ·have hil : i < ys.length := by omega
   by_cases hpp : paN ys i = p
   ·have h3 := sib_lt hv (j - g i) (g i) j (nR9 _) (he.gpos i0) (h1 i hi) hj (hsib i hil i0 hpp) rfl
    have h4 : bLe (ndAt ys i).2.1 (ndAt ns j).2.1 = true := by
     rw [he.rest i hil]
     exact bLe_iff.2 (.inl h3)
    rw [h4, Bool.not_true, Bool.and_false]
   ·rw [dF9 (fun h => hpp ((hpi i i0 hil).1 h)), Bool.false_and]
 show skV (addB (behN ys (p : Int) : Nat) ys (p : Int) (ndAt ns j).2.1) ys.length = at'
 rw [hee] at hb ⊢
 rcases Nat.lt_or_eq_of_le hat with hlt | heq
 ·refine skGo_yes _ _ _ (nZ9 _) (by omega) ?_ fun i _ hi => hno i hi
  unfold addB
  by_cases hae : at' = e
  ·rw [dT9 (show (at' : Int) = (e : Nat) by omega), Bool.true_or]
  ·rw [Bool.or_eq_true]
   refine .inr ?_
   obtain ⟨t, ht⟩ := (in_iff hvy hb hlt).2 ⟨by omega, by omega⟩
   obtain ⟨u, u1, u2, u3, u4⟩ := up_child hvy.f t at' hlt ht hpa
   obtain ⟨c, hc⟩ : ∃ c, upN ys u at' = c := ⟨_, rfl⟩
   rw [hc] at u1 u2 u3 u4
   have hcl : c < ys.length := by omega
   have hcat : c = at' := by
    rcases Nat.lt_or_eq_of_le u1 with h | h
    ·exfalso
     have h3 := h1 c h
     have h4 := h2 at' (nR9 _)
     have h5 : upN ns u (g at') = g c := by rw [← he.up hv _ _ hlt, hc]
     obtain ⟨w, hw⟩ := below_all hv (g at') (he.lt at' hlt) ⟨u, h5⟩ j (by omega) (by omega)
     cases w with
     | zero => have : j = g c := hw; omega
     | succ w =>
      have hw : upN ns w (paN ns j) = g c := hw
      have := up_le hv.f w (paN ns j)
      have := he.mono p c u4
      omega
    ·exact h
   subst hcat
   rw [dT9 ((hpi c u2 hcl).2 u3), Bool.true_and]
   have h3 := sib_lt hv (g c - j) j (g c) (nR9 _) hj0 (h2 c (nR9 _)) (he.lt c hcl) rfl (hsib c hcl u2 u3)
   rw [he.rest c hcl, bLe_not9 h3]
   rfl
 ·have := skGo_no (p := addB (e : Nat) ys (p : Int) (ndAt ns j).2.1) ys.length 0 fun i _ hi => hno i (by omega)
  rw [Nat.zero_add] at this
  rw [heq]
  exact this
end
theorem wi_at {ys : List Nd} {k : Int} {s : ByteArray} {at' : Nat} (hat : at' ≤ ys.length) (f : Nd → Nd) {i : Nat} (hi : i < ys.length + 1) :
  ndAt (wiV (ys.map f, (at' : Int), k, s)) i = if i < at' then f (ndAt ys i) else if i = at' then (k, s, []) else f (ndAt ys (i - 1)) := by
 have ht : ((ys.map f).take at').length = at' := by rw [List.length_take, List.length_map]; omega
 unfold wiV ndAt
 dsimp only
 rw [Int.toNat_natCast, List.getD_eq_getElem?_getD]
 by_cases h1 : i < at'
 ·rw [if_pos h1, List.getElem?_append_left (by omega), List.getElem?_take, if_pos h1, List.getElem?_map, List.getElem?_eq_getElem (by omega)]
  simp [show i < ys.length by omega]
 ·rw [if_neg h1, List.getElem?_append_right (by omega), ht]
  by_cases h2 : i = at'
  ·rw [if_pos h2, h2, Nat.sub_self]
   rfl
  ·rw [if_neg h2]
   obtain ⟨m, rfl⟩ : ∃ m, i = at' + 1 + m := ⟨i - at' - 1, by omega⟩
   rw [show at' + 1 + m - at' = m + 1 by omega, List.getElem?_cons_succ, List.getElem?_drop, List.getElem?_map, List.getElem?_eq_getElem (by omega)]
   simp [show at' + 1 + m - 1 = at' + m by omega, show at' + m < ys.length by omega]
theorem wi_len {ys : List Nd} {k : Int} {s : ByteArray} {at' : Nat} (hat : at' ≤ ys.length) (f : Nd → Nd) : (wiV (ys.map f, (at' : Int), k, s)).length = ys.length + 1 := by
 unfold wiV
 dsimp only
 rw [Int.toNat_natCast, zP9, zC9, List.length_take, List.length_drop, List.length_map]
 omega
theorem mv_snd (a b : Int) (n : Nd) : (mvGo a b n).2 = n.2 := by
 unfold mvGo
 split <;> rfl
theorem emb_big {ns ys : List Nd} {g : Nat → Nat} (he : Emb ns ys g) : ∃ g2, Emb ns ys g2 ∧ (∀ i, i < ys.length → g2 i = g i) ∧ ∀ i, ys.length ≤ i → ns.length ≤ g2 i := by
 obtain ⟨a1, a2, a3, a4, a5, a6, a7, a8, a9⟩ := he
 have e1 : ∀ i, i < ys.length → (if i < ys.length then g i else g i + ns.length) = g i := fun i h => if_pos h
 refine ⟨fun i => if i < ys.length then g i else g i + ns.length, ⟨a1, a2, ?_, ?_, ?_, a6, ?_, ?_, ?_⟩, fun i h => if_pos h, fun i h => ?_⟩
 ·show (if 0 < ys.length then g 0 else _) = 0
  rw [if_pos a1, a3]
 ·intro i j h
  have := a4 i j h
  show (if i < ys.length then g i else g i + ns.length) < (if j < ys.length then g j else g j + ns.length)
  split <;> split <;> omega
 ·intro i h
  show (if i < ys.length then g i else g i + ns.length) < _
  rw [if_pos h]
  exact a5 i h
 ·intro i h
  show _ = (ndAt ns (if i < ys.length then g i else g i + ns.length)).2
  rw [if_pos h]
  exact a7 i h
 ·intro i h0 h
  obtain ⟨p, p1, p2, p3⟩ := a8 i h0 h
  refine ⟨p, p1, p2, ?_⟩
  show (if p < ys.length then g p else g p + ns.length) = paN ns (if i < ys.length then g i else g i + ns.length)
  rw [if_pos h, if_pos (by omega)]
  exact p3
 ·intro i h
  have := a9 i h
  show paN ns (if i + 1 < ys.length then g (i + 1) else g (i + 1) + ns.length) = (if i < ys.length then g i else g i + ns.length) ∨ ∃ t, 0 < upN ns t (if i < ys.length then g i else g i + ns.length) ∧ paN ns (upN ns t (if i < ys.length then g i else g i + ns.length)) = paN ns (if i + 1 < ys.length then g (i + 1) else g (i + 1) + ns.length) ∧ bLe (ndAt ns (upN ns t (if i < ys.length then g i else g i + ns.length))).2.1 (ndAt ns (if i + 1 < ys.length then g (i + 1) else g (i + 1) + ns.length)).2.1 = true
  rw [if_pos h, if_pos (by omega)]
  exact this
 ·show ns.length ≤ (if i < ys.length then g i else g i + ns.length)
  rw [if_neg (by omega)]
  omega
theorem ins_emb {ns ys : List Nd} {g : Nat → Nat} {p j : Nat} (hv : Vl ns) (he : Emb ns ys g) (hj0 : 0 < j) (hj : j < ns.length) (hp : p < ys.length) (hpj : g p = paN ns j) (hno : ∀ i, i < ys.length → ¬ g i = j) (hnp : (ndAt ns j).2.2 = []) :
  ∃ g2, Emb ns (adV ys (p : Int) (ndAt ns j).2.1) g2 ∧ (adV ys (p : Int) (ndAt ns j).2.1).length = ys.length + 1 ∧ (∃ i, i < ys.length + 1 ∧ g2 i = j) ∧ ∀ i, i < ys.length → ∃ m, m < ys.length + 1 ∧ g2 m = g i := by
 obtain ⟨g0, he0, hg0, hbig⟩ := emb_big he
 obtain ⟨at', h1, h2⟩ := gap_of g0 he0.mono j fun i h => by
  rcases Nat.lt_or_ge i ys.length with h3 | h3
  ·rw [hg0 i h3] at h; exact hno i h3 h
  ·have := hbig i h3; omega
 have hat : at' ≤ ys.length := by
  rcases Nat.lt_or_ge ys.length at' with h | h
  ·have := h1 _ h
   have := hbig ys.length (nR9 _)
   omega
  ·exact h
 have hpj0 : g0 p = paN ns j := by rw [hg0 p hp]; exact hpj
 have hpa := ins_plt hv he0 hj0 hj hp hpj0 h1 h2
 have hatV := ins_at hv he0 hj0 hj hp hpj0 h1 h2 hat
 have had : adV ys (p : Int) (ndAt ns j).2.1 = wiV (ys.map (mvGo (at' : Int) 1), (at' : Int), (p : Int), (ndAt ns j).2.1) := by
  unfold adV
  rw [hatV]
 have hl : (adV ys (p : Int) (ndAt ns j).2.1).length = ys.length + 1 := by rw [had]; exact wi_len hat _
 have hA := fun (i : Nat) (hi : i < ys.length + 1) => wi_at (k := (p : Int)) (s := (ndAt ns j).2.1) hat (mvGo (at' : Int) 1) hi
 rw [← had] at hA
 obtain ⟨ms, hms⟩ : ∃ ms, adV ys (p : Int) (ndAt ns j).2.1 = ms := ⟨_, rfl⟩
 rw [hms] at hA hl ⊢
 have g_lo : ∀ i, i < at' → gIn g0 at' j i = g0 i := fun i h => if_pos h
 have g_at : gIn g0 at' j at' = j := by unfold gIn; rw [if_neg (by omega), if_pos rfl]
 have g_hi : ∀ i, at' < i → gIn g0 at' j i = g0 (i - 1) := fun i h => by unfold gIn; rw [if_neg (by omega), if_neg (by omega)]
 have hmono : ∀ a b, a < b → gIn g0 at' j a < gIn g0 at' j b := by
  intro a b hab
  rcases Nat.lt_trichotomy a at' with ha | ha | ha
  ·rw [g_lo a ha]
   rcases Nat.lt_trichotomy b at' with hb | hb | hb
   ·rw [g_lo b hb]; exact he0.mono a b hab
   ·rw [hb, g_at]; exact h1 a ha
   ·rw [g_hi b hb]
    have := h1 a ha
    have := h2 (b - 1) (by omega)
    omega
  ·rw [ha, g_at, g_hi b (by omega)]
   exact h2 (b - 1) (by omega)
  ·rw [g_hi a ha, g_hi b (by omega)]
   exact he0.mono (a - 1) (b - 1) (by omega)
 have hmv : ∀ n : Nd, ∀ q : Nat, n.1 = (q : Int) → (mvGo (at' : Int) 1 n).1 = ((if q < at' then q else q + 1 : Nat) : Int) := by
  intro n q h
  unfold mvGo
  rw [h]
  by_cases hq : q < at'
  ·rw [if_pos hq, if_neg (by omega), h]
  ·rw [if_neg hq, if_pos (by omega)]
   show ((q : Nat) : Int) + 1 = _
   omega
 have g_mv : ∀ q, gIn g0 at' j (if q < at' then q else q + 1) = g0 q := by
  intro q
  by_cases hq : q < at'
  ·rw [if_pos hq, g_lo q hq]
  ·rw [if_neg hq, g_hi (q + 1) (by omega), Nat.add_sub_cancel]
 refine ⟨gIn g0 at' j, emb_mk hv (by omega) ?_ hmono (fun i hi => ?_) ?_ (fun i hi => ?_) (fun i i0 hi => ?_), hl, ⟨at', by omega, g_at⟩, fun i hi => ?_⟩
 ·rw [g_lo 0 (by omega), he0.zero]
 ·rw [hl] at hi
  rcases Nat.lt_trichotomy i at' with h | h | h
  ·rw [g_lo i h]; exact he0.lt i (by omega)
  ·rw [h, g_at]; exact hj
  ·rw [g_hi i h]; exact he0.lt (i - 1) (by omega)
 ·rw [hA 0 (by omega), if_pos (by omega)]
  unfold mvGo
  rw [he0.root, if_neg (by omega), he0.root]
 ·rw [hl] at hi
  rw [hA i hi]
  rcases Nat.lt_trichotomy i at' with h | h | h
  ·rw [if_pos h, mv_snd, g_lo i h]; exact he0.rest i (by omega)
  ·rw [if_neg (by omega), if_pos h, h, g_at]
   show ((ndAt ns j).2.1, ([] : List Pt)) = _
   rw [← hnp]
  ·rw [if_neg (by omega), if_neg (by omega), mv_snd, g_hi i h]; exact he0.rest (i - 1) (by omega)
 ·rw [hl] at hi
  rw [hA i hi]
  rcases Nat.lt_trichotomy i at' with h | h | h
  ·rw [if_pos h, g_lo i h]
   obtain ⟨q, q1, q2, q3⟩ := he0.par i i0 (by omega)
   exact ⟨_, hmv _ q q1, by rw [if_pos (by omega)]; exact q2, by rw [g_mv]; exact q3⟩
  ·rw [if_neg (by omega), if_pos h, h, g_at]
   exact ⟨p, rfl, hpa, by rw [g_lo p hpa]; exact hpj0⟩
  ·rw [if_neg (by omega), if_neg (by omega), g_hi i h]
   obtain ⟨q, q1, q2, q3⟩ := he0.par (i - 1) (by omega) (by omega)
   exact ⟨_, hmv _ q q1, by split <;> omega, by rw [g_mv]; exact q3⟩
 ·rw [← hg0 i hi, ← g_mv i]
  exact ⟨_, by split <;> omega, rfl⟩
theorem vl_div {ns : List Nd} (hv : Vl ns) : ∀ n a b, b ≤ n → a < b → b < ns.length → (∃ t, upN ns t b = a) ∨ ∃ u w, 0 < upN ns u a ∧ 0 < upN ns w b ∧ paN ns (upN ns u a) = paN ns (upN ns w b) ∧ bLt (ndAt ns (upN ns u a)).2.1 (ndAt ns (upN ns w b)).2.1 = true := by
 intro n
 induction n with
 | zero => intro a b h1 h2; omega
 | succ n ih =>
  intro a b h1 h2 h3
  have hlt := (par_lt hv.f.par (j := b) (by omega) h3).1
  rcases Nat.lt_trichotomy (paN ns b) a with h | h | h
  ·obtain ⟨t, ht⟩ := below_all hv (a := paN ns b) b h3 ⟨1, rfl⟩ a (by omega) (by omega)
   obtain ⟨u, u1, u2, u3, u4⟩ := up_child hv.f t a (by omega) ht h
   exact .inr ⟨u, 0, u2, (show 0 < b by omega), u3, sib_lt hv _ _ b (nR9 _) u2 (by omega) h3 u3 rfl⟩
  ·exact .inl ⟨1, h⟩
  ·rcases ih a (paN ns b) (by omega) h (by omega) with ⟨t, ht⟩ | ⟨u, w, k1, k2, k3, k4⟩
   ·exact .inl ⟨t + 1, ht⟩
   ·exact .inr ⟨u, w + 1, k1, k2, k3, k4⟩
theorem vl_sib {ns : List Nd} (hv : Vl ns) {c d : Nat} (hc : c < ns.length) (d0 : 0 < d) (hp : paN ns c = paN ns d) (h : bLt (ndAt ns c).2.1 (ndAt ns d).2.1 = true) : c < d := by
 rcases Nat.lt_trichotomy c d with h1 | h1 | h1
 ·exact h1
 ·rw [h1, bLt_irrefl] at h; cases h
 ·have h2 := bLt_trans h (sib_lt hv _ d c (nR9 _) d0 h1 hc rfl hp)
  rw [bLt_irrefl] at h2
  cases h2
theorem vl_div_lt {ns : List Nd} (hv : Vl ns) {a b u w : Nat} (ha : a < ns.length) (c0 : 0 < upN ns u a) (d0 : 0 < upN ns w b) (hp : paN ns (upN ns u a) = paN ns (upN ns w b)) (h : bLt (ndAt ns (upN ns u a)).2.1 (ndAt ns (upN ns w b)).2.1 = true) : a < b := by
 obtain ⟨c, hc⟩ : ∃ c, upN ns u a = c := ⟨_, rfl⟩
 obtain ⟨d, hd⟩ : ∃ d, upN ns w b = d := ⟨_, rfl⟩
 have hca := up_le hv.f u a
 have hdb := up_le hv.f w b
 rw [hc] at c0 hp h hca
 rw [hd] at d0 hp h hdb
 have hcd := vl_sib hv (by omega) d0 hp h
 rcases Nat.lt_or_ge a d with h1 | h1
 ·omega
 ·exfalso
  obtain ⟨t, ht⟩ := below_all hv a ha ⟨u, hc⟩ d (by omega) h1
  cases t with
  | zero => have : d = c := ht; omega
  | succ t =>
   have ht : upN ns t (paN ns d) = c := ht
   have h2 := up_le hv.f t (paN ns d)
   have h3 := (par_lt hv.f.par c0 (by omega)).1
   omega
theorem mono_of {ns ms : List Nd} (hv : Vl ns) (hm : Vl ms) {f : Nat → Nat} (hlt : ∀ i, i < ns.length → f i < ms.length) (inj : ∀ i j, i < ns.length → j < ns.length → f i = f j → i = j) (h0 : f 0 = 0)
  (pa : ∀ i, 0 < i → i < ns.length → f (paN ns i) = paN ms (f i)) (nm : ∀ i, i < ns.length → (ndAt ms (f i)).2.1 = (ndAt ns i).2.1) : ∀ a b, a < b → b < ns.length → f a < f b := by
 intro a b hab hb
 have up : ∀ t i, i < ns.length → f (upN ns t i) = upN ms t (f i) := by
  intro t
  induction t with
  | zero => intro i _; rfl
  | succ t ih =>
   intro i hi
   have hle := par_le hv.f i
   show f (upN ns t (paN ns i)) = upN ms t (paN ms (f i))
   rw [ih _ (by omega)]
   rcases Nat.eq_zero_or_pos i with h | h
   ·subst h
    have h2 := par_le hm.f 0
    rw [show paN ns 0 = 0 by omega, h0, show paN ms 0 = 0 by omega]
   ·rw [pa i h hi]
 have pos : ∀ i, 0 < i → i < ns.length → 0 < f i := by
  intro i h hi
  rcases Nat.eq_zero_or_pos (f i) with h1 | h1
  ·have := inj i 0 hi (by omega) (by rw [h1, h0])
   omega
  ·exact h1
 rcases vl_div hv b a b (nR9 _) hab hb with ⟨t, ht⟩ | ⟨u, w, k1, k2, k3, k4⟩
 ·have h1 := up t b hb
  rw [ht] at h1
  have h2 := up_le hm.f t (f b)
  rcases Nat.lt_or_eq_of_le (h1 ▸ h2) with h3 | h3
  ·exact h3
  ·have := inj a b (by omega) hb h3
   omega
 ·have hu := up_le hv.f u a
  have hw := up_le hv.f w b
  refine vl_div_lt hm (u := u) (w := w) (hlt a (by omega)) ?_ ?_ ?_ ?_
  ·rw [← up u a (by omega)]; exact pos _ k1 (by omega)
  ·rw [← up w b hb]; exact pos _ k2 (by omega)
  ·rw [← up u a (by omega), ← up w b hb, ← pa _ k1 (by omega), ← pa _ k2 (by omega), k3]
  ·rw [← up u a (by omega), ← up w b hb, nm _ (by omega), nm _ (by omega)]; exact k4
theorem emb_of {ns ms : List Nd} (hv : Vl ns) (hm : Vl ms) {f : Nat → Nat} (hlt : ∀ i, i < ns.length → f i < ms.length) (inj : ∀ i j, i < ns.length → j < ns.length → f i = f j → i = j) (h0 : f 0 = 0)
  (pa : ∀ i, 0 < i → i < ns.length → f (paN ns i) = paN ms (f i)) (rest : ∀ i, i < ns.length → (ndAt ms (f i)).2 = (ndAt ns i).2) : ∃ g, Emb ms ns g ∧ ∀ i, i < ns.length → g i = f i := by
 have mono := mono_of hv hm hlt inj h0 pa fun i hi => by rw [rest i hi]
 have e1 : ∀ i, i < ns.length → (if i < ns.length then f i else ms.length + i) = f i := fun i h => if_pos h
 refine ⟨fun i => if i < ns.length then f i else ms.length + i, emb_mk hm hv.f.len.1 ?_ (fun i j h => ?_) (fun i h => ?_) ?_ (fun i h => ?_) (fun i i0 h => ?_), fun i h => if_pos h⟩
 ·show (if 0 < ns.length then f 0 else _) = 0
  rw [if_pos hv.f.len.1, h0]
 ·show (if i < ns.length then f i else ms.length + i) < (if j < ns.length then f j else ms.length + j)
  by_cases hj : j < ns.length
  ·rw [if_pos hj, if_pos (by omega)]
   exact mono i j h hj
  ·rw [if_neg hj]
   split
   ·rename_i hi
    have := hlt i hi
    omega
   ·omega
 ·show (if i < ns.length then f i else ms.length + i) < _
  rw [if_pos h]
  exact hlt i h
 ·have h4 := frm_nd hv.f.frm hv.f.len.1
  unfold ndFrm at h4
  obtain ⟨h5, _⟩ := bA9.1 h4
  obtain ⟨h6, _⟩ := bA9.1 h5
  simp at h6
  exact h6.1
 ·show _ = (ndAt ms (if i < ns.length then f i else ms.length + i)).2
  rw [if_pos h]
  exact (rest i h).symm
 ·have h2 := par_lt hv.f.par i0 h
  refine ⟨paN ns i, h2.2.symm, h2.1, ?_⟩
  show (if paN ns i < ns.length then f (paN ns i) else ms.length + paN ns i) = paN ms (if i < ns.length then f i else ms.length + i)
  rw [if_pos h, if_pos (by omega)]
  exact pa i i0 h
theorem st_tok {zs : List Int} : ∀ m n ns, tapeOk zs n → tapeOk zs (stGo zs m n ns).2 := by
 intro m
 induction m with
 | zero => intro n ns h; exact h
 | succ m ih => intro n ns h; exact ih _ _ (rawN_ok9 (rawN_ok9 (rawN_ok9 h)))
theorem sl_tok {zs : List Int} : ∀ m n ns, tapeOk zs n → tapeOk zs (slGo zs m n ns).2 := by
 intro m
 induction m with
 | zero => intro n ns h; exact h
 | succ m ih => intro n ns h; exact ih _ _ (val_ok (rawN_ok9 (rawN_ok9 (rawN_ok9 h))))
theorem gr_ok {zs : List Int} {n k : Int} (h : tapeOk zs n) : tapeOk zs (grV zs n k).2 := sl_tok _ _ _ (rawN_ok9 (st_tok _ _ _ (rawN_ok9 h)))
end Go.Ab
