/- Valid trees stay valid when a node is added. -/
import Derived.Test.YtnlifjljmbfomaaGreatTY84toY89
namespace Go.Ab
open Go.Proofs
set_option linter.unusedSectionVars false
set_option maxRecDepth 100000
variable [Base]
structure Vl (ns : List Nd) : Prop where
 f : FrmT ns
 d : Dst ns
 asc : ∀ i, i < ns.length → ascV (ndAt ns i).2.2 = true
 dep : ∀ i, i < ns.length → dpV ns i ≤ 8
 flw : ∀ i, 0 < i → i < ns.length → flwV ns i = true
theorem anyGo_no {p : Nat → Bool} : ∀ m i, anyGo p m i = false → ∀ j, i ≤ j → j < i + m → p j = false := by
 intro m
 induction m with
 | zero => intro i _ j h1 h2; omega
 | succ m ih =>
  intro i h j h1 h2
  obtain ⟨h3, h4⟩ := Bool.or_eq_false_iff.1 (show (p i || anyGo p m (i + 1)) = false from h)
  by_cases hj : j = i
  ·rw [hj]; exact h3
  ·exact ih (i + 1) h4 j (by omega) (by omega)
theorem app_at {ns : List Nd} {x : Nd} {i : Nat} (hi : i < ns.length) : ndAt (ns ++ [x]) i = ndAt ns i := by
 unfold ndAt
 rw [List.getD_eq_getElem?_getD, List.getD_eq_getElem?_getD, List.getElem?_append_left hi]
theorem app_last {ns : List Nd} {x : Nd} : ndAt (ns ++ [x]) ns.length = x := by
 unfold ndAt
 rw [List.getD_eq_getElem?_getD, List.getElem?_append_right (nR9 _), Nat.sub_self]
 rfl
theorem app_pa {ns : List Nd} {x : Nd} {i : Nat} (hi : i < ns.length) : paN (ns ++ [x]) i = paN ns i := by
 unfold paN paI
 rw [app_at hi]
theorem app_up {ns : List Nd} (hf : FrmT ns) {x : Nd} : ∀ t i, i < ns.length → upN (ns ++ [x]) t i = upN ns t i := by
 intro t
 induction t with
 | zero => intro i _; rfl
 | succ t ih =>
  intro i hi
  show upN (ns ++ [x]) t (paN (ns ++ [x]) i) = upN ns t (paN ns i)
  rw [app_pa hi]
  exact ih _ (Nat.lt_of_le_of_lt (par_le hf i) hi)
theorem app_len {ns : List Nd} {x : Nd} : (ns ++ [x]).length = ns.length + 1 := by rw [zP9]; rfl
theorem vl_add {ns : List Nd} {k : Int} {s : ByteArray} (hv : Vl ns) (h0 : 0 ≤ k) (h1 : k < (ns.length : Nat)) (hs : namB s = true) (hl : ns.length < 120) (hany : anyGo (samB ns k s) ns.length 0 = false) (hdp : dpV ns k.toNat < 8) : Vl (srtV (ns ++ [(k, s, [])])) := by
 have hf := hv.f
 have hfa := frm_app hf h0 h1 hs hl
 have hno : ∀ j, j < ns.length → samB ns k s j = false := fun j hj => anyGo_no _ _ hany j (nZ9 _) (by omega)
 have hpl : paN (ns ++ [(k, s, [])]) ns.length = k.toNat := by
  unfold paN paI
  rw [app_last]
 have hnew : ∀ b, 0 < b → b < ns.length → paN ns b = k.toNat → (ndAt ns b).2.1 = s → False := by
  intro b b0 b1 hp hn
  have h2 := (par_lt hf.par b0 b1).2
  have h3 := hno b b1
  unfold samB at h3
  have h5 : (ndAt ns b).1 = k := by
   rw [← h2, hp]
   exact Int.toNat_of_nonneg h0
  rw [dT9 h5, dT9 hn] at h3
  cases h3
 have hd : Dst (ns ++ [(k, s, [])]) := by
  intro a b a0 a1 b0 b1 hp hn
  rw [app_len] at a1 b1
  rcases Nat.lt_or_eq_of_le (Nat.le_of_lt_succ a1) with ha | ha
  ·rcases Nat.lt_or_eq_of_le (Nat.le_of_lt_succ b1) with hb | hb
   ·rw [app_pa ha, app_pa hb] at hp
    rw [app_at ha, app_at hb] at hn
    exact hv.d a b a0 ha b0 hb hp hn
   ·exfalso
    subst hb
    rw [app_pa ha, hpl] at hp
    rw [app_at ha, app_last] at hn
    exact hnew a a0 ha hp hn
  ·rcases Nat.lt_or_eq_of_le (Nat.le_of_lt_succ b1) with hb | hb
   ·exfalso
    subst ha
    rw [app_pa hb, hpl] at hp
    rw [app_at hb, app_last] at hn
    exact hnew b b0 hb hp.symm hn.symm
   ·rw [ha, hb]
 have hdT : ∀ j, j < (ns ++ [((k, s, []) : Nd)]).length → dpV (ns ++ [(k, s, [])]) j ≤ 8 := by
  intro j hj
  rw [app_len] at hj
  rcases Nat.lt_or_eq_of_le (Nat.le_of_lt_succ hj) with h | h
  ·obtain ⟨h3, h4⟩ := dp_up hf (j + 1) j (nS9 _) h
   rw [dp_of hfa (d := dpV ns j) (by rw [app_len]; omega) (by rw [app_up hf _ _ h]; exact h3) fun t ht => by rw [app_up hf _ _ h]; exact h4 t ht]
   exact hv.dep j h
  ·subst h
   have hkn : k.toNat < ns.length := by omega
   obtain ⟨h3, h4⟩ := dp_up hf (k.toNat + 1) k.toNat (nS9 _) hkn
   rw [dp_of hfa (d := dpV ns k.toNat + 1) (by rw [app_len]; omega) (by
    show upN _ (dpV ns k.toNat) (paN (ns ++ [(k, s, [])]) ns.length) = 0
    rw [hpl, app_up hf _ _ hkn]
    exact h3) fun t ht => by
     cases t with
     | zero => exact hf.len.1
     | succ t =>
      show 0 < upN _ t (paN (ns ++ [(k, s, [])]) ns.length)
      rw [hpl, app_up hf _ _ hkn]
      exact h4 t (Nat.lt_of_succ_lt_succ ht)]
   omega
 have fA : ∀ j, j < ns.length → ndAt (ns ++ [(k, s, [])]) j = ndAt ns j := fun j hj => app_at hj
 have fL : ndAt (ns ++ [(k, s, [])]) ns.length = (k, s, []) := app_last
 have fN : (ns ++ [((k, s, []) : Nd)]).length = ns.length + 1 := app_len
 generalize (ns ++ [((k, s, []) : Nd)]) = T at hfa hd hdT fA fL fN ⊢
 refine ⟨srt_frm hfa hd, srt_dst hfa hd, fun i hi => ?_, fun i hi => ?_, fun i i0 hi => ?_⟩
 ·rw [srt_length] at hi
  have hin := wkT_in hfa hi
  rw [srt_nam hi]
  rw [fN] at hin
  rcases Nat.lt_or_eq_of_le (show ((wkT T)[i]).toNat ≤ ns.length by omega) with h | h
  ·rw [fA _ h]
   exact hv.asc _ h
  ·rw [h, fL]
   rfl
 ·rw [srt_length] at hi
  have hin := wkT_in hfa hi
  rw [srt_dp hfa hd hi]
  exact hdT _ (by omega)
 ·rw [srt_length] at hi
  exact srt_flw hfa hd i0 hi
abbrev Asc (l : List Pt) : Prop := l.Pairwise fun p q => bLt p.1 q.1 = true
theorem asc_iff : ∀ l : List Pt, ascV l = true ↔ Asc l := by
 intro l
 induction l with
 | nil => exact ⟨fun _ => List.Pairwise.nil, fun _ => rfl⟩
 | cons p r ih =>
  cases r with
  | nil => exact ⟨fun _ => List.pairwise_cons.2 ⟨fun x hx => (by cases hx), List.Pairwise.nil⟩, fun _ => rfl⟩
  | cons q r =>
   have e : ascV (p :: q :: r) = (bLt p.1 q.1 && ascV (q :: r)) := rfl
   rw [e, Bool.and_eq_true]
   constructor
   ·rintro ⟨h1, h2⟩
    have h3 := ih.1 h2
    refine List.pairwise_cons.2 ⟨fun x hx => ?_, h3⟩
    rcases List.mem_cons.1 hx with rfl | hx
    ·exact h1
    ·exact bLt_trans h1 ((List.pairwise_cons.1 h3).1 x hx)
   ·intro h
    obtain ⟨h1, h2⟩ := List.pairwise_cons.1 h
    exact ⟨h1 q (List.mem_cons_self ..), ih.2 h2⟩
theorem lt_take {nm : ByteArray} : ∀ (l : List Pt), ∀ q ∈ l.take (ltC nm l), bLt q.1 nm = true := by
 intro l
 induction l with
 | nil => intro c hc; cases hc
 | cons a r ih =>
  intro c hc
  unfold ltC at hc
  split at hc
  ·rename_i h
   rw [List.take_succ_cons] at hc
   rcases List.mem_cons.1 hc with rfl | hc
   ·exact h
   ·exact ih c hc
  ·cases hc
theorem lt_drop {nm : ByteArray} : ∀ (l : List Pt), ∀ q r, l.drop (ltC nm l) = q :: r → bLt q.1 nm = false := by
 intro l
 induction l with
 | nil => intro q r h; cases h
 | cons a l ih =>
  intro q r h
  unfold ltC at h
  split at h
  ·exact ih q r (by simpa using h)
  ·rename_i h1
   cases h
   exact Bool.eq_false_iff.2 h1
theorem put_mem {l : List Pt} {x q : Pt} (h : q ∈ putV (l, x)) : q = x ∨ q ∈ l := by
 unfold putV at h
 dsimp only at h
 rcases List.mem_append.1 h with h | h
 ·exact .inr (List.mem_of_mem_take h)
 ·rcases List.mem_cons.1 h with h | h
  ·exact .inl h
  ·refine .inr ?_
   split at h
   ·cases h
   ·rename_i a r hd
    have hs : ∀ y ∈ a :: r, y ∈ l := fun y hy => List.mem_of_mem_drop (by rw [hd]; exact hy)
    split at h
    ·exact hs q (List.mem_cons_of_mem _ h)
    ·exact hs q h
theorem put_asc {l : List Pt} {x : Pt} (h : Asc l) : Asc (putV (l, x)) := by
 unfold putV
 dsimp only
 have h0 : Asc (l.take (ltC x.1 l) ++ l.drop (ltC x.1 l)) := by rw [List.take_append_drop]; exact h
 obtain ⟨h1, h2, h3⟩ := List.pairwise_append.1 h0
 have key : ∀ m : List Pt, Asc m → (∀ q ∈ m, bLt x.1 q.1 = true) → (∀ q ∈ m, q ∈ l.drop (ltC x.1 l)) → Asc (l.take (ltC x.1 l) ++ x :: m) := by
  intro m m1 m2 m3
  refine List.pairwise_append.2 ⟨h1, List.pairwise_cons.2 ⟨m2, m1⟩, fun a ha b hb => ?_⟩
  rcases List.mem_cons.1 hb with rfl | hb
  ·exact lt_take l a ha
  ·exact h3 a ha b (m3 b hb)
 split
 ·exact key [] List.Pairwise.nil (fun q hq => by cases hq) (fun q hq => by cases hq)
 ·rename_i q r hd
  rw [hd] at h2
  obtain ⟨h4, h5⟩ := List.pairwise_cons.1 h2
  have h6 := lt_drop l q r hd
  split
  ·rename_i he
   exact key r h5 (fun y hy => by rw [← he]; exact h4 y hy) fun y hy => by rw [hd]; exact List.mem_cons_of_mem _ hy
  ·rename_i hne
   have h7 : bLt x.1 q.1 = true := by
    rcases bs_total q.1.toList x.1.toList with h | h | h
    ·have : bLt q.1 x.1 = true := h
     rw [h6] at this
     cases this
    ·exact absurd (ba_ext h) hne
    ·exact h
   refine key (q :: r) h2 (fun y hy => ?_) fun y hy => by rw [hd]; exact hy
   rcases List.mem_cons.1 hy with rfl | hy
   ·exact h7
   ·exact bLt_trans h7 (h4 y hy)
structure Sm (ns ms : List Nd) : Prop where
 len : ms.length = ns.length
 pa : ∀ i, (ndAt ms i).1 = (ndAt ns i).1
 nm : ∀ i, (ndAt ms i).2.1 = (ndAt ns i).2.1
theorem Sm.paN {ns ms : List Nd} (h : Sm ns ms) (i : Nat) : paN ms i = Ab.paN ns i := by
 unfold Ab.paN paI
 rw [h.pa]
theorem Sm.dp {ns ms : List Nd} (h : Sm ns ms) : ∀ k j, dpGo ms k j = dpGo ns k j := by
 intro k
 induction k with
 | zero => intro j; rfl
 | succ k ih =>
  intro j
  unfold dpGo
  rw [h.paN, ih]
theorem Sm.flwGo {ns ms : List Nd} (h : Sm ns ms) {x y : Nd} (h1 : y.1 = x.1) (h2 : y.2.1 = x.2.1) : ∀ k j, Ab.flwGo ms y k j = Ab.flwGo ns x k j := by
 intro k
 induction k with
 | zero => intro j; rfl
 | succ k ih =>
  intro j
  unfold Ab.flwGo
  rw [h.paN, ih, h.pa, h.nm, h1, h2]
theorem Sm.flw {ns ms : List Nd} (h : Sm ns ms) (i : Nat) : flwV ms i = flwV ns i := by
 unfold flwV
 rw [h.flwGo (h.pa i) (h.nm i), h.pa]
theorem set_sm (ns : List Nd) (k : Nat) (n v : ByteArray) : Sm ns (setN ns k n v) ∧ (∀ i, i < ns.length → (ndAt (setN ns k n v) i).2.2 = if i = k then putV ((ndAt ns k).2.2, n, v) else (ndAt ns i).2.2) := by
 have hat : ∀ i, ndAt (setN ns k n v) i = if i = k ∧ i < ns.length then ((ndAt ns k).1, (ndAt ns k).2.1, putV ((ndAt ns k).2.2, n, v)) else ndAt ns i := by
  intro i
  unfold setN
  generalize ((ndAt ns k).1, (ndAt ns k).2.1, putV ((ndAt ns k).2.2, n, v)) = x
  unfold ndAt
  simp only [List.getD_eq_getElem?_getD, List.getElem?_set]
  by_cases hi : k = i
  ·subst hi
   by_cases hl : k < ns.length
   ·rw [if_pos rfl, if_pos hl, if_pos ⟨rfl, hl⟩]
    rfl
   ·rw [if_pos rfl, if_neg hl, if_neg fun h => hl h.2, List.getElem?_eq_none (by omega)]
  ·rw [if_neg hi, if_neg fun h => hi h.1.symm]
 refine ⟨⟨?_, fun i => ?_, fun i => ?_⟩, fun i hi => ?_⟩
 ·unfold setN
  rw [List.length_set]
 ·rw [hat]
  split
  ·rename_i h; rw [h.1]
  ·rfl
 ·rw [hat]
  split
  ·rename_i h; rw [h.1]
  ·rfl
 ·rw [hat]
  by_cases h : i = k
  ·rw [if_pos ⟨h, hi⟩, if_pos h]
  ·rw [if_neg fun h' => h h'.1, if_neg h]
theorem vl_set {ns : List Nd} {k : Nat} {n v : ByteArray} (hv : Vl ns) (hk : k < ns.length) (hn : prpB n = true) (hl : limV (setN ns k n v) = true) : Vl (setN ns k n v) := by
 obtain ⟨hs, hp⟩ := set_sm ns k n v
 have hlen := hs.len
 generalize setN ns k n v = ms at hs hp hl hlen ⊢
 have hps : ∀ i, i < ns.length → (ndAt ms i).2.2.all ptFrm = true ∧ Asc (ndAt ms i).2.2 := by
  intro i hi
  have h1 := frm_ps hv.f.frm hi
  have h2 := (asc_iff _).1 (hv.asc i hi)
  rw [hp i hi]
  split
  ·rename_i h
   subst h
   refine ⟨List.all_eq_true.2 fun q hq => ?_, put_asc h2⟩
   rcases put_mem hq with rfl | h
   ·exact hn
   ·exact List.all_eq_true.1 h1 q h
  ·exact ⟨h1, h2⟩
 refine ⟨⟨hl, frm_of _ _ fun i hi => ?_⟩, ?_, fun i hi => ?_, fun i hi => ?_, fun i h0 hi => ?_⟩
 ·rw [Nat.zero_add, ← nd_at' hi]
  rw [hlen] at hi
  have h1 := frm_nd hv.f.frm hi
  unfold ndFrm at h1 ⊢
  rw [hs.pa, hs.nm, (hps i hi).1]
  rw [frm_ps hv.f.frm hi] at h1
  exact h1
 ·intro a b a0 a1 b0 b1 h1 h2
  rw [hs.paN, hs.paN] at h1
  rw [hs.nm, hs.nm] at h2
  exact hv.d a b a0 (by omega) b0 (by omega) h1 h2
 ·exact (asc_iff _).2 (hps i (by omega)).2
 ·show dpGo ms (i + 1) i ≤ 8
  rw [hs.dp]
  exact hv.dep i (by omega)
 ·rw [hs.flw]
  exact hv.flw i h0 (by omega)
theorem rt_vl : Vl rtL := by
 have hl : rtL.length = 1 := rfl
 refine ⟨⟨by decide +kernel, by decide +kernel⟩, fun a b a0 a1 => ?_, fun i hi => ?_, fun i hi => ?_, fun i h0 hi => ?_⟩
 ·rw [hl] at a1
  omega
 ·rw [hl] at hi
  obtain rfl : i = 0 := by omega
  rfl
 ·rw [hl] at hi
  obtain rfl : i = 0 := by omega
  exact nZ9 _
 ·rw [hl] at hi
  omega
theorem add_vl {a : List Nd × ByteArray × ByteArray} (hv : Vl a.1) (h : (rAddV a).2 = 0) : Vl (rAddV a).1 := by
 unfold rAddV at *
 split at h
 ·rename_i h1
  exact absurd h h1
 ·rename_i h1
  rw [if_neg h1]
  split at h
  ·cases h
  ·rename_i h2
   rw [if_neg h2]
   split at h
   ·cases h
   ·rename_i h3
    rw [if_neg h3]
    split at h
    ·cases h
    ·rename_i h4
     rw [if_neg h4]
     split at h
     ·cases h
     ·rename_i h5
      rw [if_neg h5]
      have hb : (begV (a.1, a.2.1)).2 = 0 := Classical.not_not.1 h1
      obtain ⟨_, h6, h7⟩ := beg_ok hb
      exact vl_add hv h6 h7 (by simpa using h2) (by omega) (by simpa using h3) (by omega)
theorem set_vl {a : List Nd × ByteArray × ByteArray × ByteArray} (hv : Vl a.1) (h : (rSetV a).2 = 0) : Vl (rSetV a).1 := by
 unfold rSetV at *
 split at h
 ·rename_i h1
  exact absurd h h1
 ·rename_i h1
  rw [if_neg h1]
  split at h
  ·cases h
  ·rename_i h2
   rw [if_neg h2]
   split at h
   ·cases h
   ·rename_i h3
    rw [if_neg h3]
    have hb : (begV (a.1, a.2.1)).2 = 0 := Classical.not_not.1 h1
    obtain ⟨_, h6, h7⟩ := beg_ok hb
    exact vl_set hv (by omega) (by simpa using h2) (by simpa using h3)
theorem st_vl (zs : List Int) : ∀ m n ns, Vl ns → Vl (stGo zs m n ns).1 := by
 intro m
 induction m with
 | zero => intro n ns h; exact h
 | succ m ih =>
  intro n ns h
  refine ih _ _ ?_
  unfold gsV
  split
  ·rename_i h1
   exact add_vl (a := (ns, _, _)) h h1
  ·exact h
theorem sl_vl (zs : List Int) : ∀ m n ns, Vl ns → Vl (slGo zs m n ns).1 := by
 intro m
 induction m with
 | zero => intro n ns h; exact h
 | succ m ih =>
  intro n ns h
  refine ih _ _ ?_
  unfold slV
  split
  ·rename_i h1
   exact set_vl (a := (ns, _, _, _)) h h1
  ·exact h
theorem gr_vl (zs : List Int) (n k : Int) : Vl (grV zs n k).1 := sl_vl zs _ _ _ (st_vl zs _ _ _ rt_vl)
theorem ky_eq {p q : kyC.den} (h : keyEq kyC p q = true) : p = q := by
 obtain ⟨a, b⟩ := p
 obtain ⟨c, d⟩ := q
 simp only [keyEq, Bool.and_eq_true, decide_eq_true_eq] at h
 rw [Prod.mk.injEq]
 exact h
theorem find_ky9 : ∀ (es : twE) (p : kyC.den) (x : Bool), findE (k := kyC) (v := .bool) es p = some x → p ∈ es.map (·.1) := by
 intro es
 induction es with
 | nil => intro p x h; cases h
 | cons e es ih =>
  intro p x h
  obtain ⟨a, y⟩ := e
  unfold findE at h
  split at h
  ·rename_i hk
   rw [ky_eq hk]
   exact List.mem_cons_self ..
  ·exact List.mem_cons_of_mem _ (ih p x h)
theorem set_key : ∀ (es : twE) (p q : kyC.den) (x : Bool), q ∈ (setE (k := kyC) (v := .bool) p x es).map (·.1) → q = p ∨ q ∈ es.map (·.1) := by
 intro es
 induction es with
 | nil =>
  intro p q x h
  exact .inl (by simpa [setE] using h)
 | cons e es ih =>
  intro p q x h
  obtain ⟨a, y⟩ := e
  unfold setE at h
  split at h
  ·rcases List.mem_cons.1 h with h | h
   ·exact .inl h
   ·exact .inr (List.mem_cons_of_mem _ h)
  ·rcases List.mem_cons.1 h with h | h
   ·exact .inr (by rw [h]; exact List.mem_cons_self ..)
   ·rcases ih p q x h with h | h
    ·exact .inl h
    ·exact .inr (List.mem_cons_of_mem _ h)
theorem twGo_no : ∀ (l : List Nd) (es : twE), (l.map fun n : Nd => ((n.1, n.2.1) : kyC.den)).Pairwise (· ≠ ·) → (∀ n ∈ l, ((n.1, n.2.1) : kyC.den) ∉ es.map (·.1)) → twGo es l = false := by
 intro l
 induction l with
 | nil => intro es _ _; rfl
 | cons n l ih =>
  intro es h1 h2
  obtain ⟨h3, h4⟩ := List.pairwise_cons.1 h1
  unfold twGo
  have h5 : findE (k := kyC) (v := .bool) es (n.1, n.2.1) = none := by
   cases hf : findE (k := kyC) (v := .bool) es (n.1, n.2.1) with
   | none => rfl
   | some x => exact absurd (find_ky9 es _ x hf) (h2 n (List.mem_cons_self ..))
  rw [h5]
  rw [if_neg (by simp)]
  refine ih _ h4 fun m hm hk => ?_
  rcases set_key es _ _ _ hk with h | h
  ·exact h3 _ (List.mem_map.2 ⟨m, hm, rfl⟩) h.symm
  ·exact h2 m (List.mem_cons_of_mem _ hm) h
theorem skGo_no {p : Nat → Bool} : ∀ m i, (∀ j, i ≤ j → j < i + m → p j = false) → skGo p m i = i + m := by
 intro m
 induction m with
 | zero => intro i _; rfl
 | succ m ih =>
  intro i h
  unfold skGo
  rw [if_neg (by rw [h i (nR9 _) (by omega)]; exact Bool.false_ne_true), ih (i + 1) fun j h1 h2 => h j (by omega) (by omega)]
  omega
theorem ordGo_all {ns : List Nd} : ∀ m i, (∀ j, i ≤ j → j < i + m → ordAt ns j = true) → ordGo ns m i = true := by
 intro m
 induction m with
 | zero => intro i _; rfl
 | succ m ih =>
  intro i h
  show (ordAt ns i && ordGo ns m (i + 1)) = true
  rw [h i (nR9 _) (by omega), ih (i + 1) fun j h1 h2 => h j (by omega) (by omega)]
  rfl
theorem flwGo_ex {ns : List Nd} {n : Nd} : ∀ k j, flwGo ns n k j = true → ∃ t, 0 < upN ns t j ∧ (ndAt ns (upN ns t j)).1 = n.1 ∧ bLe (ndAt ns (upN ns t j)).2.1 n.2.1 = true := by
 intro k
 induction k with
 | zero => intro j h; cases h
 | succ k ih =>
  intro j h
  unfold flwGo at h
  split at h
  ·cases h
  ·rename_i h0
   split at h
   ·rename_i h1
    exact ⟨0, (show 0 < j by omega), h1, h⟩
   ·obtain ⟨t, h1, h2, h3⟩ := ih _ h
    exact ⟨t + 1, h1, h2, h3⟩
theorem vl_flw {ns : List Nd} (hv : Vl ns) {m : Nat} (hm : m + 1 < ns.length) : paN ns (m + 1) = m ∨ ∃ t, 0 < upN ns t m ∧ paN ns (upN ns t m) = paN ns (m + 1) ∧ bLe (ndAt ns (upN ns t m)).2.1 (ndAt ns (m + 1)).2.1 = true := by
 have h := hv.flw (m + 1) (by omega) hm
 unfold flwV at h
 split at h
 ·rename_i h1
  left
  unfold paN paI
  rw [h1]
  omega
 ·obtain ⟨t, h1, h2, h3⟩ := flwGo_ex _ _ h
  refine .inr ⟨t, h1, ?_, h3⟩
  have h2' : (ndAt ns (upN ns t m)).1 = (ndAt ns (m + 1)).1 := h2
  unfold paN paI
  rw [h2']
theorem below_all {ns : List Nd} (hv : Vl ns) {a : Nat} : ∀ m, m < ns.length → (∃ t, upN ns t m = a) → ∀ j, a ≤ j → j ≤ m → ∃ t, upN ns t j = a := by
 intro m
 induction m with
 | zero =>
  intro _ h j _ h2
  obtain rfl : j = 0 := by omega
  exact h
 | succ m ih =>
  intro hm h j h1 h2
  by_cases hj : j = m + 1
  ·rw [hj]; exact h
  ·obtain ⟨t, ht⟩ := h
   cases t with
   | zero =>
    have : m + 1 = a := ht
    omega
   | succ t =>
    have ht : upN ns t (paN ns (m + 1)) = a := ht
    refine ih (by omega) ?_ j h1 (by omega)
    rcases vl_flw hv hm with h3 | ⟨u, h3, h4, _⟩
    ·rw [h3] at ht
     exact ⟨t, ht⟩
    ·rw [← h4, ← up_succ, ← upN_add] at ht
     exact ⟨_, ht⟩
theorem next_child {ns : List Nd} (hv : Vl ns) {i c d : Nat} (hd : d < ns.length) (c0 : 0 < c) (hcd : c < d) (hpc : paN ns c = i) (hpd : paN ns d = i) (hno : ∀ e, c < e → e < d → ¬ paN ns e = i) : bLt (ndAt ns c).2.1 (ndAt ns d).2.1 = true := by
 obtain ⟨d, rfl⟩ : ∃ q, d = q + 1 := ⟨d - 1, by omega⟩
 have hci := (par_lt hv.f.par c0 (by omega)).1
 rcases vl_flw hv hd with h | ⟨t, h1, h2, h3⟩
 ·omega
 ·have hle := up_le hv.f t d
  obtain ⟨e, he⟩ : ∃ e, upN ns t d = e := ⟨_, rfl⟩
  rw [he] at h1 h2 h3 hle
  have hec : e ≤ c := by
   rcases Nat.lt_or_ge c e with h | h
   ·exact absurd (by omega) (hno e h (by omega))
   ·exact h
  obtain ⟨u, hu⟩ := below_all hv d (by omega) ⟨t, he⟩ c hec (by omega)
  have hec2 : c = e := up_same hv.f (i := i) (j := c) (t := 0) (u := u) c0 (by omega) h1 (by omega) hpc (by omega) rfl hu
  subst hec2
  rcases bLe_iff.1 h3 with h | h
  ·exact h
  ·exfalso
   have := hv.d c (d + 1) c0 (by omega) (by omega) hd (by omega) h
   omega
def woV (a : List Nd × Int × Int) : List Nd := a.1.take a.2.1.toNat ++ a.1.drop a.2.2.toNat
def daNII : List AV → Option (List Nd × Int × Int)
 | [.c (.p (.l c0 ns)), .c (.p (.v (.int .i64 k))), .c (.p (.v (.int .i64 q)))] => match castD (e := ndC) (e' := c0) ns with | some ns => some (ns, k, q) | _ => none
 | _ => none
def eaNII (a : List Nd × Int × Int) : List AV := [.c (.p (.l ndC a.1)), .c (.int .i64 a.2.1), .c (.int .i64 a.2.2)]
theorem daNII_at (a : List Nd × Int × Int) : daNII (eaNII a) = some a := by
 unfold daNII eaNII
 dsimp only
 rw [castD_self]
def E1 : Table := ext C29 134 (saysG daNII eaNII fun a => (some (a.1.length ≤ 1000000000 ∧ 0 < a.2.1 ∧ a.2.1 ≤ (a.1.length : Nat) ∧ 0 ≤ a.2.2 ∧ a.2.2 ≤ (a.1.length : Nat)), .a (.c (.p (.l ndC (woV a))))))
theorem e1 : TS9 E1 := by
 refine extG c29 134 (fn := Tryz.f134) rfl rfl daNII eaNII _ (fun _ => nB9 rfl) [0, 1, 2, 6] fun a hok => ?_
 obtain ⟨ns, k, q⟩ := a
 obtain ⟨h1, h2, h3, h4, h5⟩ : ns.length ≤ 1000000000 ∧ 0 < k ∧ k ≤ (ns.length : Nat) ∧ 0 ≤ q ∧ q ≤ (ns.length : Nat) := hok
 show runF _ _ _ [] [.c (.p (.l ndC ns)), .c (.int .i64 k), .c (.int .i64 q)] [] fun r H => Ends r H (.a (.c (.p (.l ndC (woV (ns, k, q)))))) []
 have ht : (ns.take k.toNat).length = k.toNat := by rw [List.length_take]; omega
 have hz1 : (ns.take k.toNat).length ≤ capBound := by rw [ht]; exact Nat.le_trans (m := 1000000001) (by omega) (by decide)
 repeat ((conv => whnf); refine ⟨by first | exact ⟨Int.le_refl _, by omega, h3⟩ | ((conv => whnf); exact ⟨⟨rfl, rfl, rfl⟩, trivial⟩) | exact Early.one (by decide +kernel) (by (conv => whnf); exact ⟨rfl, rfl, rfl⟩) trivial | (unfold inI64; omega) | omega | exact ⟨by omega, by omega⟩ | exact rfl | decide +kernel, ?_⟩)
 conv => whnf
 refine Or.inl (Or.inl ?_)
 have hn : (((ns.length : Nat) : Int)).toNat = ns.length := rfl
 have hz6 : ns.take (((ns.length : Nat) : Int)).toNat = ns := by rw [hn, List.take_length]
 have hz5 : (ns.drop q.toNat).length = ns.length - q.toNat := List.length_drop ..
 have hz4 : (ns.take k.toNat).length + ((ns.take (((ns.length : Nat) : Int)).toNat).drop q.toNat).length ≤ capBound := by rw [hz6, ht, hz5]; exact Nat.le_trans (m := 2000000001) (by omega) (by decide)
 repeat ((conv => whnf); refine ⟨by first | exact hz1 | exact ⟨h4, h5, Int.le_refl _⟩ | exact hz4 | ((conv => whnf); exact ⟨⟨rfl, rfl, rfl⟩, trivial⟩) | exact Early.one (by decide +kernel) (by (conv => whnf); exact ⟨rfl, rfl, rfl⟩) trivial | (unfold inI64; omega) | omega | exact ⟨by omega, by omega⟩ | exact rfl | decide +kernel, ?_⟩)
 conv => whnf
 show Ends (.a (.c (.p (.l ndC (ns.take k.toNat ++ (ns.take (((ns.length : Nat) : Int)).toNat).drop q.toNat))))) [] _ _
 rw [hz6]
 exact eR9
def saysWoS : Says := fun args H => match args, H with
 | [.c (.sl _ _ _ _), .c (.p (.v (.int .i64 k))), .c (.p (.v (.int .i64 q)))], [.arr _ c0 ns _] => match castD (e := ndC) (e' := c0) ns with
  | some ns => some (some (args = [.c (.sl 0 ndC 0 ns.length), .c (.int .i64 k), .c (.int .i64 q)] ∧ H = hpN ns ∧ ns.length ≤ 1000000000 ∧ 0 < k ∧ k ≤ (ns.length : Nat) ∧ 0 ≤ q ∧ q ≤ (ns.length : Nat)), .a (.c (.p (.l ndC (woV (ns, k, q))))), [.dead])
  | _ => none
 | _, _ => none
def E2 : Table := ext C29 134 saysWoS
theorem e2 : TS9 E2 := by
 refine ext_give e1 c29 fun args H p r H' hs hp => ?_
 unfold saysWoS at hs
 split at hs
 ·split at hs
  ·rename_i k q _ _ _ _ _ ns _
   cases hs
   obtain ⟨ha, hH, h1, h2, h3, h4, h5⟩ := hp
   refine ⟨ndT, ndC, ns, eaNII (ns, k, q), hH, rfl, by omega, ?_, saysG_at (daNII_at _) ⟨h1, h2, h3, h4, h5⟩, _, rfl⟩
   rw [ha]
   exact .cons .sl (.cons (.p _) (.cons (.p _) .nil))
  ·cases hs
 ·cases hs
def behN (ns : List Nd) (k : Int) : Nat := skV (behB ns k) ns.length
def rmN (ns : List Nd) (k : Int) : List Nd := woV (ns.map (mvGo (behN ns k : Nat) (k - (behN ns k : Nat))), k, (behN ns k : Nat))
def rmR (a : List Nd × Int) : List Nd := if a.2 = 0 then [] else rmN a.1 a.2
def rmE (a : List Nd × Int) : Int := if a.2 = 0 then 1 else 0
abbrev rmS (a : List Nd × Int) : SV := .tup [.c (.p (.l ndC (rmR a))), .c (.int .i64 (rmE a))]
structure RmOk (ns : List Nd) (k : Int) : Prop where
 pos : 0 < ns.length
 len : ns.length ≤ 120
 pm : ParM ns
 k0 : 0 ≤ k
 k1 : k < (ns.length : Nat)
def saysRmX (c : Int → Prop) (h : List Nd → List AO) : Says := fun args H => match args, H with
 | [.c (.sl _ _ _ _), .c (.p (.v (.int .i64 k)))], [.arr _ c0 ns _] => match castD (e := ndC) (e' := c0) ns with
  | some ns => some (some (args = [.c (.sl 0 ndC 0 ns.length), .c (.int .i64 k)] ∧ H = hpN ns ∧ RmOk ns k ∧ c k), rmS (ns, k), h ns)
  | none => none
 | _, _ => none
theorem rm_er : TS9 (ext E2 94 (saysRmX (fun k => k = 0) hpN)) := by
 refine ext_run e2 (f := 94) (fn := Tryz.f94) rfl rfl [0, 1, 4, 5, 6, 8] fun args H p r' H' hs hp => ?_
 unfold saysRmX at hs
 split at hs
 ·split at hs
  ·rename_i k _ _ _ _ _ ns _
   cases hs
   obtain ⟨ha, hH, hok, rfl⟩ := hp
   rw [ha, hH]
   refine ⟨nB9 rfl, [0], rfl, id0, ?_⟩
   repeat ((conv => whnf); refine ⟨by first | (unfold inI64; omega) | omega | exact ⟨by omega, by omega⟩ | exact rfl | decide +kernel, ?_⟩)
   conv => whnf
   refine eO9 (fun G v hv => ?_) rfl
   obtain ⟨vs, rfl, hvs⟩ := hv
   cases hvs with
   | cons a b =>
    refine ⟨_, rfl, .cons ?_ b⟩
    obtain ⟨_, rfl⟩ := a
    exact .inl ⟨rfl, rfl⟩
  ·cases hs
 ·cases hs
theorem rm_ok : TS9 (ext E2 94 (saysRmX (fun k => ¬ k = 0) fun _ => [.dead])) := by
 refine ext_run e2 (f := 94) (fn := Tryz.f94) rfl rfl [0, 1, 4, 5, 6, 8] fun args H p r' H' hs hp => ?_
 unfold saysRmX at hs
 split at hs
 ·split at hs
  ·rename_i k _ _ _ _ _ ns _
   cases hs
   obtain ⟨ha, hH, hok, hk⟩ := hp
   rw [ha, hH]
   obtain ⟨h0, h1, h2, h4, h5⟩ := hok
   refine ⟨nB9 rfl, [0], rfl, id0, ?_⟩
   have h1' : ns.length ≤ 1000000000 := by omega
   have hle : skV (behB ns k) ns.length ≤ ns.length := skV_le _ _
   have hd : -1000 ≤ k - ((skV (behB ns k) ns.length : Nat) : Int) ∧ k - ((skV (behB ns k) ns.length : Nat) : Int) ≤ 1000 := by omega
   have hw : (([.c (.sl 0 ndC 0 ns.length), .c (.int .i64 k), .c (.int .i64 (skV (behB ns k) ns.length : Nat))] : List AV) = [.c (.sl 0 ndC 0 (ns.map (mvGo (skV (behB ns k) ns.length : Nat) (k - (skV (behB ns k) ns.length : Nat)))).length), .c (.int .i64 k), .c (.int .i64 (skV (behB ns k) ns.length : Nat))]) ∧ hpN (ns.map (mvGo (skV (behB ns k) ns.length : Nat) (k - (skV (behB ns k) ns.length : Nat)))) = hpN (ns.map (mvGo (skV (behB ns k) ns.length : Nat) (k - (skV (behB ns k) ns.length : Nat)))) ∧ (ns.map (mvGo (skV (behB ns k) ns.length : Nat) (k - (skV (behB ns k) ns.length : Nat)))).length ≤ 1000000000 ∧ 0 < k ∧ k ≤ ((ns.map (mvGo (skV (behB ns k) ns.length : Nat) (k - (skV (behB ns k) ns.length : Nat)))).length : Nat) ∧ (0 : Int) ≤ (skV (behB ns k) ns.length : Nat) ∧ ((skV (behB ns k) ns.length : Nat) : Int) ≤ ((ns.map (mvGo (skV (behB ns k) ns.length : Nat) (k - (skV (behB ns k) ns.length : Nat)))).length : Nat) := by
    rw [List.length_map]
    exact ⟨rfl, rfl, h1', by omega, by omega, by omega, by omega⟩
   repeat ((conv => whnf); refine ⟨by first | (unfold inI64; omega) | omega | exact ⟨by omega, by omega⟩ | exact rfl | decide +kernel, ?_⟩)
   conv => whnf
   refine cI9 ?_ ?_<;>intro h
   ·exact absurd (oT9 h) hk
   have ho : inI64 (k - ((skV (behB ns k) ns.length : Nat) : Int)) := by unfold inI64; omega
   repeat ((conv => whnf); refine ⟨by first | exact ⟨rfl, rfl, h0, h1'⟩ | exact ho | exact ⟨rfl, rfl, h1', hd, h2⟩ | exact hw | (unfold inI64; omega) | omega | exact ⟨by omega, by omega⟩ | exact rfl | decide +kernel, ?_⟩)
   conv => whnf
   have e1 : rmR (ns, k) = rmN ns k := by
    unfold rmR
    rw [if_neg hk]
   have e2 : rmE (ns, k) = 0 := by
    unfold rmE
    rw [if_neg hk]
   show Ends (.tup [.c (.p (.l ndC (rmN ns k))), .c (.int .i64 0)]) [.dead] (.tup [.c (.p (.l ndC (rmR (ns, k)))), .c (.int .i64 (rmE (ns, k)))]) [.dead]
   rw [e1, e2]
   exact eR9
  ·cases hs
 ·cases hs
theorem rm_e2 : TS9 (ext E2 94 (saysRmX (fun k => k = 0) fun _ => [.dead])) := by
 refine ext_kill rm_er e2 fun args H p r H' hs hp => ?_
 unfold saysRmX at hs
 split at hs
 ·split at hs
  ·rename_i k _ _ _ _ _ ns hc
   cases hs
   refine ⟨rfl, fun v hv => ?_, _, ndT, ndC, ns, hp, hp.2.2.1.pos, ?_⟩
   ·rcases List.mem_cons.1 hv with rfl | hv
    ·exact ⟨_, rfl⟩
    ·rcases List.mem_cons.1 hv with rfl | hv
     ·exact ⟨_, rfl⟩
     ·cases hv
   ·unfold saysRmX
    dsimp only
    rw [hc]
  ·cases hs
 ·cases hs
def saysRm : Says := saysRmX (fun _ => True) fun _ => [.dead]
def E3 : Table := ext E2 94 saysRm
theorem e3 : TS9 E3 := by
 refine ext_case rm_ok rm_e2 e2 fun args H p r H' hs hp => ?_
 unfold saysRm saysRmX at hs
 split at hs
 ·split at hs
  ·rename_i k _ _ _ _ _ ns hc
   cases hs
   obtain ⟨h1, h2, h3, _⟩ := hp
   by_cases he : k = 0
   ·refine .inr ⟨_, ?_, by unfold saysRmX; dsimp only; rw [hc]⟩
    exact ⟨h1, h2, h3, he⟩
   ·refine .inl ⟨_, ?_, by unfold saysRmX; dsimp only; rw [hc]⟩
    exact ⟨h1, h2, h3, he⟩
  ·cases hs
 ·cases hs
def RemV (a : List Nd × ByteArray) : List Nd × Int :=
 if chkP a.1 = 0 then if (fndV (a.1, a.2)).2 = true then (rmR (a.1, (fndV (a.1, a.2)).1), rmE (a.1, (fndV (a.1, a.2)).1)) else ([], 4) else ([], chkP a.1)
def daTSF : List AV → Option (List Nd × ByteArray)
 | [.agg [.p (.l c0 ns)], .c (.p (.v (.string p))), .c (.p (.v (.func _ _ _)))] => match castD (e := ndC) (e' := c0) ns with | some ns => some (ns, p) | none => none
 | _ => none
def eaTSF (a : List Nd × ByteArray) : List AV := [.agg [.p (.l ndC a.1)], .c (.str a.2), .c (.p (.v (.func (.func 94) #[] #[])))]
theorem vld_rm {ns : List Nd} {p : ByteArray} (hv : VldT ns) (hf : (fndV (ns, p)).2 = true) : RmOk ns (fndV (ns, p)).1 := by
 obtain ⟨h1, h2, _, h4, h5, h6⟩ := vld_ad hv hf
 exact ⟨h1, (lim_len hv.lim).2.2, h4, h5, h6⟩
def E4 : Table := ext E3 82 (saysG daTSF eaTSF fun a => (none, treR (RemV a)))
theorem e4 : TS9 E4 := by
 refine extG e3 82 (fn := Tryz.f82) rfl rfl daTSF eaTSF _ (fun _ => nB9 rfl) [0, 1, 2, 3, 6, 7, 8, 9, 10, 11, 12, 16, 27] fun a _ => ?_
 obtain ⟨ns, p⟩ := a
 show runF _ _ _ [] [.agg [.p (.l ndC ns)], .c (.str p), .c (.p (.v (.func (.func 94) #[] #[])))] [] fun r H => Ends r H (treR (RemV (ns, p))) []
 repeat ((conv => whnf); refine ⟨by first | exact ⟨rfl, trivial⟩ | (unfold inI64; omega) | omega | exact ⟨by omega, by omega⟩ | exact rfl | decide +kernel, ?_⟩)
 conv => whnf
 refine cI9 ?_ ?_<;>intro h
 ·have h1 : ¬ chkP ns = 0 := by
   have h2 : (!decide (chkP ns = 0)) = true := h
   simpa using h2
  repeat ((conv => whnf); refine ⟨by first | (unfold inI64; omega) | omega | exact ⟨by omega, by omega⟩ | exact rfl | decide +kernel, ?_⟩)
  conv => whnf
  exact ends_nil (by unfold RemV; rw [if_neg h1])
 have h1 : chkP ns = 0 := by
  have h2 : (!decide (chkP ns = 0)) = false := h
  simpa using h2
 have hv := chk_vld.1 h1
 repeat ((conv => whnf); refine ⟨by first | exact ⟨rfl, hv⟩ | (unfold inI64; omega) | omega | exact ⟨by omega, by omega⟩ | exact rfl | decide +kernel, ?_⟩)
 conv => whnf
 refine cI9 ?_ ?_<;>intro h3
 ·have h4 : ¬ (fndV (ns, p)).2 = true := ne_t (not_b h3)
  repeat ((conv => whnf); refine ⟨by first | (unfold inI64; omega) | omega | exact ⟨by omega, by omega⟩ | exact rfl | decide +kernel, ?_⟩)
  conv => whnf
  exact ends_nil (by unfold RemV; rw [if_pos h1, if_neg h4])
 have h4 : (fndV (ns, p)).2 = true := not_f h3
 have hok := vld_rm hv h4
 obtain ⟨hl, hp0, _⟩ := lim_len hv.lim
 repeat ((conv => whnf); refine ⟨by first | exact ⟨rfl, hl, hp0⟩ | exact ⟨rfl, rfl, hok, trivial⟩ | (unfold inI64; omega) | omega | exact ⟨by omega, by omega⟩ | exact rfl | decide +kernel, ?_⟩)
 conv => whnf
 have e : RemV (ns, p) = (rmR (ns, (fndV (ns, p)).1), rmE (ns, (fndV (ns, p)).1)) := by
  unfold RemV
  rw [if_pos h1, if_pos h4]
 show Ends (treR (rmR (ns, (fndV (ns, p)).1), rmE (ns, (fndV (ns, p)).1))) _ (treR (RemV (ns, p))) _
 rw [e]
 exact eR9
def E5 : Table := ext E4 41 (saysG daTS eaTS fun a => (none, treR (RemV a)))
theorem e5 : TS9 E5 := by
 refine extG e4 41 (fn := Tryz.f41) rfl rfl daTS eaTS _ (fun _ => nB9 rfl) [0, 1, 2, 4, 5] fun a _ => ?_
 obtain ⟨ns, p⟩ := a
 show runF _ _ _ [] [.agg [.p (.l ndC ns)], .c (.str p)] [] _
 repeat ((conv => whnf); refine ⟨by first | exact ⟨rfl, trivial⟩ | ((conv => whnf); exact ⟨⟨rfl, rfl, rfl⟩, trivial⟩) | exact Early.one (by decide +kernel) (by (conv => whnf); exact ⟨rfl, rfl, rfl⟩) trivial | (unfold inI64; omega) | omega | exact ⟨by omega, by omega⟩ | exact rfl | decide +kernel, ?_⟩)
 conv => whnf
 exact eR9
def nmL (ns : List Nd) (j : Nat) : List UInt8 := (ndAt ns j).2.1.data.toList
def pthL (ns : List Nd) : Nat → Nat → List UInt8
 | 0, _ => []
 | k + 1, j => if j = 0 then [] else pthL ns k (paN ns j) ++ 47 :: nmL ns j
theorem pathGo_L (ns : List Nd) : ∀ k j s, (pathGo ns k j s).data.toList = pthL ns k j ++ s.data.toList := by
 intro k
 induction k with
 | zero => intro j s; rfl
 | succ k ih =>
  intro j s
  unfold pathGo pthL
  split
  ·rfl
  ·rw [ih]
   simp [nmL, ByteArray.data_append]
theorem pthL_fuel {ns : List Nd} (hf : FrmT ns) : ∀ k m j, j < k → j < m → j < ns.length → pthL ns k j = pthL ns m j := by
 intro k
 induction k with
 | zero => intro m j h; omega
 | succ k ih =>
  intro m j h1 h2 h3
  obtain ⟨m, rfl⟩ : ∃ q, m = q + 1 := ⟨m - 1, by omega⟩
  unfold pthL
  split
  ·rfl
  ·have := (par_lt hf.par (j := j) (by omega) h3).1
   rw [ih m (paN ns j) (by omega) (by omega) (by omega)]
def pL (ns : List Nd) (j : Nat) : List UInt8 := pthL ns (j + 1) j
theorem pL_zero (ns : List Nd) : pL ns 0 = [] := rfl
theorem pL_succ {ns : List Nd} (hf : FrmT ns) {j : Nat} (h0 : 0 < j) (hj : j < ns.length) : pL ns j = pL ns (paN ns j) ++ 47 :: nmL ns j := by
 have := (par_lt hf.par h0 hj).1
 unfold pL
 rw [pthL_fuel hf (paN ns j + 1) j (paN ns j) (by omega) this (by omega)]
 show (if j = 0 then [] else _) = _
 rw [if_neg (by omega)]
theorem pathV_L (ns : List Nd) (i : Nat) : (pathV ns i).data.toList = if i = 0 then [47] else pL ns i := by
 unfold pathV
 split
 ·rfl
 ·rw [pathGo_L]
  exact List.append_nil _
theorem nm_ok {ns : List Nd} (hf : FrmT ns) {j : Nat} (h0 : 0 < j) (hj : j < ns.length) : (47 : UInt8) ∉ nmL ns j ∧ nmL ns j ≠ [] := by
 have h := frm_nam hf.frm h0 hj
 unfold nmL
 obtain ⟨l, hl⟩ : ∃ l, (ndAt ns j).2.1 = B l := ⟨(ndAt ns j).2.1.data.toList, rfl⟩
 rw [hl] at h ⊢
 have hd : (B l).data.toList = l := rfl
 rw [hd]
 cases l with
 | nil => rw [namB_nil] at h; cases h
 | cons a r =>
  rw [namB_cons] at h
  simp only [Bool.and_eq_true, List.all_eq_true] at h
  obtain ⟨_, h1, h2⟩ := h
  have h47 : nameB (((47 : UInt8).toNat : Nat) : Int) = false := by decide
  refine ⟨fun hm => ?_, List.cons_ne_nil _ _⟩
  rcases List.mem_cons.1 hm with h3 | h3
  ·rw [← h3, h47] at h1; cases h1
  ·have := h2 _ h3
   rw [h47] at this
   cases this
theorem app47 {a c b d : List UInt8} (hb : (47 : UInt8) ∉ b) (h : a ++ 47 :: b = c ++ 47 :: d) : (a = c ∧ b = d) ∨ ∃ e, a = c ++ 47 :: e ∧ d = e ++ 47 :: b := by
 rcases List.append_eq_append_iff.1 h with ⟨a', h1, h2⟩ | ⟨c', h1, h2⟩
 ·cases a' with
  | nil =>
   rw [List.append_nil] at h1
   exact .inl ⟨h1.symm, (List.cons.inj h2).2⟩
  | cons x a' =>
   obtain ⟨_, h3⟩ := List.cons.inj h2
   exact absurd (by rw [h3]; simp) hb
 ·cases c' with
  | nil =>
   rw [List.append_nil] at h1
   exact .inl ⟨h1, (List.cons.inj h2).2.symm⟩
  | cons x c' =>
   obtain ⟨h3, h4⟩ := List.cons.inj h2
   exact .inr ⟨c', by rw [h1, ← h3], h4⟩
theorem pL_ne {ns : List Nd} (hf : FrmT ns) {j : Nat} (h0 : 0 < j) (hj : j < ns.length) : pL ns j ≠ [] := by
 rw [pL_succ hf h0 hj]
 simp
theorem ba_ext9 {a b : ByteArray} (h : a.data.toList = b.data.toList) : a = b := by
 cases a; cases b
 congr
 exact Array.toList_inj.1 h
theorem pL_inj {ns : List Nd} (hv : Vl ns) : ∀ n i j, i ≤ n → i < ns.length → j < ns.length → pL ns i = pL ns j → i = j := by
 intro n
 induction n with
 | zero =>
  intro i j h1 h2 h3 h
  obtain rfl : i = 0 := by omega
  rcases Nat.eq_zero_or_pos j with h0 | h0
  ·exact h0.symm
  ·exact absurd (h.symm.trans (pL_zero ns)) (pL_ne hv.f h0 h3)
 | succ n ih =>
  intro i j h1 h2 h3 h
  rcases Nat.eq_zero_or_pos j with h0 | h0
  ·subst h0
   rcases Nat.eq_zero_or_pos i with h4 | h4
   ·exact h4
   ·exact absurd (h.trans (pL_zero ns)) (pL_ne hv.f h4 h2)
  rcases Nat.eq_zero_or_pos i with h4 | h4
  ·subst h4
   exact absurd (h.symm.trans (pL_zero ns)) (pL_ne hv.f h0 h3)
  have hpi := (par_lt hv.f.par h4 h2).1
  have hpj := (par_lt hv.f.par h0 h3).1
  rw [pL_succ hv.f h4 h2, pL_succ hv.f h0 h3] at h
  rcases app47 (nm_ok hv.f h4 h2).1 h with ⟨h5, h6⟩ | ⟨e, h5, h6⟩
  ·exact hv.d i j h4 h2 h0 h3 (ih _ _ (by omega) (by omega) (by omega) h5) (ba_ext9 h6)
  ·exact absurd (by rw [h6]; simp) (nm_ok hv.f h0 h3).1
theorem path_inj {ns : List Nd} (hv : Vl ns) {i j : Nat} (hi : i < ns.length) (hj : j < ns.length) (h : pathV ns i = pathV ns j) : i = j := by
 have h1 := congrArg (fun s : ByteArray => s.data.toList) h
 rw [pathV_L, pathV_L] at h1
 have key : ∀ j, 0 < j → j < ns.length → [47] ≠ pL ns j := by
  intro j h0 hj h2
  rw [pL_succ hv.f h0 hj] at h2
  rcases app47 (a := []) (b := []) (by simp) h2 with ⟨_, h3⟩ | ⟨e, h3, _⟩
  ·exact (nm_ok hv.f h0 hj).2 h3.symm
  ·simp at h3
 split at h1
 ·split at h1
  ·omega
  ·exact absurd h1 (key j (by omega) hj)
 ·split at h1
  ·exact absurd h1.symm (key i (by omega) hi)
  ·exact pL_inj hv i i j (nR9 _) hi hj h1
theorem skGo_yes {p : Nat → Bool} : ∀ m i k, i ≤ k → k < i + m → p k = true → (∀ j, i ≤ j → j < k → p j = false) → skGo p m i = k := by
 intro m
 induction m with
 | zero => intro i k h1 h2; omega
 | succ m ih =>
  intro i k h1 h2 h3 h4
  unfold skGo
  by_cases h : i = k
  ·subst h
   rw [if_pos h3]
  ·rw [if_neg (by rw [h4 i (nR9 _) (by omega)]; exact Bool.false_ne_true)]
   exact ih (i + 1) k (by omega) (by omega) h3 fun j a b => h4 j (by omega) b
theorem fnd_path {ns : List Nd} (hv : Vl ns) {i : Nat} (hi : i < ns.length) : fndV (ns, pathV ns i) = ((i : Int), true) := by
 have h : skV (isB ns (pathV ns i)) ns.length = i := skGo_yes _ _ _ (nZ9 _) (by omega) (dT9 rfl) fun j _ hj => dF9 fun he => by
  have := path_inj hv (by omega) hi he
  omega
 unfold fndV
 dsimp only
 rw [h, if_neg (by omega)]
theorem fnd_none {ns : List Nd} {s : ByteArray} (h : ∀ j, j < ns.length → ¬ pathV ns j = s) : fndV (ns, s) = (0, false) := by
 have h : skV (isB ns s) ns.length = ns.length := by
  have := skGo_no (p := isB ns s) ns.length 0 fun j _ hj => dF9 (h j (by omega))
  rw [Nat.zero_add] at this
  exact this
 unfold fndV
 dsimp only
 rw [if_pos h]
theorem sib_lt {ns : List Nd} (hv : Vl ns) {i : Nat} : ∀ n c d, d - c ≤ n → 0 < c → c < d → d < ns.length → paN ns c = i → paN ns d = i → bLt (ndAt ns c).2.1 (ndAt ns d).2.1 = true := by
 intro n
 induction n with
 | zero => intro c d h1 h2 h3; omega
 | succ n ih =>
  intro c d h1 c0 h3 hd hc hp
  by_cases hno : ∀ e, c < e → e < d → ¬ paN ns e = i
  ·exact next_child hv hd c0 h3 hc hp hno
  ·have hno : ∃ e, c < e ∧ e < d ∧ paN ns e = i := by
    refine Classical.byContradiction fun h => hno fun e a b k => h ⟨e, a, b, k⟩
   obtain ⟨e, e1, e2, e3⟩ := hno
   exact bLt_trans (ih c e (by omega) c0 e1 (by omega) hc e3) (ih e d (by omega) (by omega) e2 hd e3 hp)
theorem asc_id : ∀ (l : List Int) (k n : Nat), (l.Pairwise fun a b => a < b) → (∀ c ∈ l, (k : Int) ≤ c ∧ c < (n : Nat)) → (∀ j : Nat, k ≤ j → j < n → (j : Int) ∈ l) → idOk k l = true := by
 intro l
 induction l with
 | nil => intro k n _ _ _; rfl
 | cons a l ih =>
  intro k n h1 h2 h3
  obtain ⟨h4, h5⟩ := List.pairwise_cons.1 h1
  have ha := h2 a (List.mem_cons_self ..)
  have hk : a = (k : Int) := by
   rcases List.mem_cons.1 (h3 k (nR9 _) (by omega)) with h | h
   ·exact h.symm
   ·have := h4 _ h
    omega
  unfold idOk
  rw [dT9 hk.symm, Bool.true_and]
  refine ih (k + 1) n h5 (fun c hc => ?_) fun j h6 h7 => ?_
  ·have := h4 c hc
   have := (h2 c (List.mem_cons_of_mem _ hc)).2
   omega
  ·rcases List.mem_cons.1 (h3 j (by omega) h7) with h | h
   ·omega
   ·exact h
end Go.Ab
