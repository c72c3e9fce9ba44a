/- Children in a valid tree. -/
import Derived.Test.YtnlifjljmbfomaaTY86toY93
namespace Go.Ab
open Go.Proofs
set_option linter.unusedSectionVars false
set_option maxRecDepth 100000
variable [Base]

/-- What 'follows' says: the parent is the node before, or a node above it has the same parent and an earlier name. -/
theorem flwGo_ex {ns : List Nd} {n : Nd} : ∀ k j, flwGo ns n k j = true → ∃ t, 0 < upN ns t j ∧ (ndAt ns (upN ns t j)).1 = n.1 ∧ bLe (ndAt ns (upN ns t j)).2.1 n.2.1 = true := by
  intro k
  induction k with
  | zero => intro j h; cases h
  | succ k ih =>
    intro j h
    unfold flwGo at h
    split at h
    · cases h
    · rename_i h0
      split at h
      · rename_i h1
        exact ⟨0, (show 0 < j by omega), h1, h⟩
      · obtain ⟨t, h1, h2, h3⟩ := ih _ h
        exact ⟨t + 1, h1, h2, h3⟩
theorem vl_flw {ns : List Nd} (hv : Vl ns) {m : Nat} (hm : m + 1 < ns.length) : paN ns (m + 1) = m ∨ ∃ t, 0 < upN ns t m ∧ paN ns (upN ns t m) = paN ns (m + 1) ∧ bLe (ndAt ns (upN ns t m)).2.1 (ndAt ns (m + 1)).2.1 = true := by
  have h := hv.flw (m + 1) (by omega) hm
  unfold flwV at h
  split at h
  · rename_i h1
    left
    unfold paN paI
    rw [h1]
    omega
  · obtain ⟨t, h1, h2, h3⟩ := flwGo_ex _ _ h
    refine .inr ⟨t, h1, ?_, h3⟩
    have h2' : (ndAt ns (upN ns t m)).1 = (ndAt ns (m + 1)).1 := h2
    unfold paN paI
    rw [h2']
/-- What lies between a node and one below it is below it too. -/
theorem below_all {ns : List Nd} (hv : Vl ns) {a : Nat} : ∀ m, m < ns.length → (∃ t, upN ns t m = a) → ∀ j, a ≤ j → j ≤ m → ∃ t, upN ns t j = a := by
  intro m
  induction m with
  | zero =>
    intro _ h j _ h2
    obtain rfl : j = 0 := by omega
    exact h
  | succ m ih =>
    intro hm h j h1 h2
    by_cases hj : j = m + 1
    · rw [hj]; exact h
    · obtain ⟨t, ht⟩ := h
      cases t with
      | zero =>
        have : m + 1 = a := ht
        omega
      | succ t =>
        have ht : upN ns t (paN ns (m + 1)) = a := ht
        refine ih (by omega) ?_ j h1 (by omega)
        rcases vl_flw hv hm with h3 | ⟨u, h3, h4, _⟩
        · rw [h3] at ht
          exact ⟨t, ht⟩
        · rw [← h4, ← up_succ, ← upN_add] at ht
          exact ⟨_, ht⟩
/-- The first child is the next node. -/
theorem first_child {ns : List Nd} (hv : Vl ns) {i c : Nat} (hc : c < ns.length) (h0 : 0 < c) (hp : paN ns c = i) : i + 1 < ns.length ∧ paN ns (i + 1) = i := by
  have hlt := (par_lt hv.f.par h0 hc).1
  have hi1 : i + 1 < ns.length := by omega
  obtain ⟨t, ht⟩ := below_all hv c hc ⟨1, hp⟩ (i + 1) (by omega) (by omega)
  refine ⟨hi1, ?_⟩
  cases t with
  | zero =>
    have : i + 1 = i := ht
    omega
  | succ t =>
    have ht : upN ns t (paN ns (i + 1)) = i := ht
    have h1 := up_le hv.f t (paN ns (i + 1))
    have h2 := (par_lt hv.f.par (j := i + 1) (by omega) hi1).1
    omega
/-- Neighbours among children have ascending names. -/
theorem next_child {ns : List Nd} (hv : Vl ns) {i c d : Nat} (hd : d < ns.length) (c0 : 0 < c) (hcd : c < d) (hpc : paN ns c = i) (hpd : paN ns d = i) (hno : ∀ e, c < e → e < d → ¬ paN ns e = i) : bLt (ndAt ns c).2.1 (ndAt ns d).2.1 = true := by
  obtain ⟨d, rfl⟩ : ∃ q, d = q + 1 := ⟨d - 1, by omega⟩
  have hci := (par_lt hv.f.par c0 (by omega)).1
  rcases vl_flw hv hd with h | ⟨t, h1, h2, h3⟩
  · omega
  · have hle := up_le hv.f t d
    obtain ⟨e, he⟩ : ∃ e, upN ns t d = e := ⟨_, rfl⟩
    rw [he] at h1 h2 h3 hle
    have hec : e ≤ c := by
      rcases Nat.lt_or_ge c e with h | h
      · exact absurd (by omega) (hno e h (by omega))
      · exact h
    obtain ⟨u, hu⟩ := below_all hv d (by omega) ⟨t, he⟩ c hec (by omega)
    have hec2 : c = e := up_same hv.f (i := i) (j := c) (t := 0) (u := u) c0 (by omega) h1 (by omega) hpc (by omega) rfl hu
    subst hec2
    rcases bLe_iff.1 h3 with h | h
    · exact h
    · exfalso
      have := hv.d c (d + 1) c0 (by omega) (by omega) hd (by omega) h
      omega

/-- The nodes from one on with this parent. -/
def kidL (ns : List Nd) (i : Int) : Nat → Nat → List Nat
  | 0, _ => []
  | m + 1, j => if (ndAt ns j).1 = i then j :: kidL ns i m (j + 1) else kidL ns i m (j + 1)
theorem chl_eq (ns : List Nd) (i : Int) : ∀ (m j : Nat) (out : List Int), chlGo ns i m j out = out ++ (kidL ns i m j).map fun q : Nat => (q : Int) := by
  intro m
  induction m with
  | zero => intro j out; exact (List.append_nil _).symm
  | succ m ih =>
    intro j out
    unfold chlGo kidL
    rw [ih]
    split
    · rw [List.map_cons, List.append_assoc]
      rfl
    · rfl
theorem kid_mem {ns : List Nd} {i : Int} : ∀ m j q, q ∈ kidL ns i m j ↔ j ≤ q ∧ q < j + m ∧ (ndAt ns q).1 = i := by
  intro m
  induction m with
  | zero =>
    intro j q
    constructor
    · intro h; cases h
    · intro ⟨h1, h2, _⟩; omega
  | succ m ih =>
    intro j q
    unfold kidL
    split
    · rename_i h0
      rw [List.mem_cons, ih]
      constructor
      · rintro (rfl | ⟨h1, h2, h3⟩)
        · exact ⟨Nat.le_refl _, by omega, h0⟩
        · exact ⟨by omega, by omega, h3⟩
      · rintro ⟨h1, h2, h3⟩
        by_cases hq : q = j
        · exact .inl hq
        · exact .inr ⟨by omega, by omega, h3⟩
    · rename_i h0
      rw [ih]
      constructor
      · rintro ⟨h1, h2, h3⟩
        exact ⟨by omega, by omega, h3⟩
      · rintro ⟨h1, h2, h3⟩
        by_cases hq : q = j
        · subst hq
          exact absurd h3 h0
        · exact ⟨by omega, by omega, h3⟩
theorem kid_asc {ns : List Nd} {i : Int} : ∀ m j, (kidL ns i m j).Pairwise (· < ·) := by
  intro m
  induction m with
  | zero => intro j; exact List.Pairwise.nil
  | succ m ih =>
    intro j
    unfold kidL
    split
    · refine List.pairwise_cons.2 ⟨fun q hq => ?_, ih _⟩
      have := ((kid_mem m (j + 1) q).1 hq).1
      omega
    · exact ih _
/-- How many have a parent before one. -/
def kcnt (ns : List Nd) (b : Int) : Nat → Nat → Nat
  | 0, _ => 0
  | m + 1, j => (if 0 ≤ (ndAt ns j).1 ∧ (ndAt ns j).1 < b then 1 else 0) + kcnt ns b m (j + 1)
theorem kcnt_step {ns : List Nd} {b : Int} (hb : 0 ≤ b) : ∀ m j, kcnt ns (b + 1) m j = kcnt ns b m j + (kidL ns b m j).length := by
  intro m
  induction m with
  | zero => intro j; rfl
  | succ m ih =>
    intro j
    unfold kcnt kidL
    rw [ih]
    generalize hx : @id Int (ndAt ns j).1 = x
    have hx : (ndAt ns j).1 = x := hx
    rw [hx]
    by_cases h1 : x = b
    · rw [if_pos h1, if_pos (show 0 ≤ x ∧ x < b + 1 by omega), if_neg (show ¬ (0 ≤ x ∧ x < b) by omega), List.length_cons]
      omega
    · rw [if_neg h1]
      by_cases h2 : 0 ≤ x ∧ x < b
      · rw [if_pos h2, if_pos (show 0 ≤ x ∧ x < b + 1 by omega)]
        omega
      · rw [if_neg h2, if_neg (show ¬ (0 ≤ x ∧ x < b + 1) by omega)]
        omega
theorem kcnt_zero (ns : List Nd) : ∀ m j, kcnt ns 0 m j = 0 := by
  intro m
  induction m with
  | zero => intro j; rfl
  | succ m ih =>
    intro j
    unfold kcnt
    rw [ih, if_neg (fun h => absurd (Int.lt_of_le_of_lt h.1 h.2) (Int.lt_irrefl _))]
theorem kcnt_all {ns : List Nd} (hf : FrmT ns) : ∀ m j, 0 < j → j + m = ns.length → kcnt ns (ns.length : Nat) m j = m := by
  intro m
  induction m with
  | zero => intro j _ _; rfl
  | succ m ih =>
    intro j h0 hj
    have hp := hf.par j h0 (by omega)
    unfold kcnt
    rw [ih (j + 1) (by omega) (by omega), if_pos (show 0 ≤ (ndAt ns j).1 ∧ (ndAt ns j).1 < ((ns.length : Nat) : Int) from ⟨hp.1, Int.lt_of_lt_of_le hp.2 (by omega)⟩)]
    omega

def nmL (ns : List Nd) (j : Nat) : List UInt8 := (ndAt ns j).2.1.data.toList
def pthL (ns : List Nd) : Nat → Nat → List UInt8
  | 0, _ => []
  | k + 1, j => if j = 0 then [] else pthL ns k (paN ns j) ++ 47 :: nmL ns j
theorem pathGo_L (ns : List Nd) : ∀ k j s, (pathGo ns k j s).data.toList = pthL ns k j ++ s.data.toList := by
  intro k
  induction k with
  | zero => intro j s; rfl
  | succ k ih =>
    intro j s
    unfold pathGo pthL
    split
    · rfl
    · rw [ih]
      simp [nmL, ByteArray.data_append]
theorem pthL_fuel {ns : List Nd} (hf : FrmT ns) : ∀ k m j, j < k → j < m → j < ns.length → pthL ns k j = pthL ns m j := by
  intro k
  induction k with
  | zero => intro m j h; omega
  | succ k ih =>
    intro m j h1 h2 h3
    obtain ⟨m, rfl⟩ : ∃ q, m = q + 1 := ⟨m - 1, by omega⟩
    unfold pthL
    split
    · rfl
    · have := (par_lt hf.par (j := j) (by omega) h3).1
      rw [ih m (paN ns j) (by omega) (by omega) (by omega)]
def pL (ns : List Nd) (j : Nat) : List UInt8 := pthL ns (j + 1) j
theorem pL_zero (ns : List Nd) : pL ns 0 = [] := rfl
theorem pL_succ {ns : List Nd} (hf : FrmT ns) {j : Nat} (h0 : 0 < j) (hj : j < ns.length) : pL ns j = pL ns (paN ns j) ++ 47 :: nmL ns j := by
  have := (par_lt hf.par h0 hj).1
  unfold pL
  rw [pthL_fuel hf (paN ns j + 1) j (paN ns j) (by omega) this (by omega)]
  show (if j = 0 then [] else _) = _
  rw [if_neg (by omega)]
theorem pathV_L (ns : List Nd) (i : Nat) : (pathV ns i).data.toList = if i = 0 then [47] else pL ns i := by
  unfold pathV
  split
  · rfl
  · rw [pathGo_L]
    exact List.append_nil _
theorem nm_ok {ns : List Nd} (hf : FrmT ns) {j : Nat} (h0 : 0 < j) (hj : j < ns.length) : (47 : UInt8) ∉ nmL ns j ∧ nmL ns j ≠ [] := by
  have h := frm_nam hf.frm h0 hj
  unfold nmL
  obtain ⟨l, hl⟩ : ∃ l, (ndAt ns j).2.1 = B l := ⟨(ndAt ns j).2.1.data.toList, rfl⟩
  rw [hl] at h ⊢
  have hd : (B l).data.toList = l := rfl
  rw [hd]
  cases l with
  | nil => rw [namB_nil] at h; cases h
  | cons a r =>
    rw [namB_cons] at h
    simp only [Bool.and_eq_true, List.all_eq_true] at h
    obtain ⟨_, h1, h2⟩ := h
    have h47 : nameB (((47 : UInt8).toNat : Nat) : Int) = false := by decide
    refine ⟨fun hm => ?_, List.cons_ne_nil _ _⟩
    rcases List.mem_cons.1 hm with h3 | h3
    · rw [← h3, h47] at h1; cases h1
    · have := h2 _ h3
      rw [h47] at this
      cases this
theorem app47 {a c b d : List UInt8} (hb : (47 : UInt8) ∉ b) (h : a ++ 47 :: b = c ++ 47 :: d) : (a = c ∧ b = d) ∨ ∃ e, a = c ++ 47 :: e ∧ d = e ++ 47 :: b := by
  rcases List.append_eq_append_iff.1 h with ⟨a', h1, h2⟩ | ⟨c', h1, h2⟩
  · cases a' with
    | nil =>
      rw [List.append_nil] at h1
      exact .inl ⟨h1.symm, (List.cons.inj h2).2⟩
    | cons x a' =>
      obtain ⟨_, h3⟩ := List.cons.inj h2
      exact absurd (by rw [h3]; simp) hb
  · cases c' with
    | nil =>
      rw [List.append_nil] at h1
      exact .inl ⟨h1, (List.cons.inj h2).2.symm⟩
    | cons x c' =>
      obtain ⟨h3, h4⟩ := List.cons.inj h2
      exact .inr ⟨c', by rw [h1, ← h3], h4⟩
theorem pL_ne {ns : List Nd} (hf : FrmT ns) {j : Nat} (h0 : 0 < j) (hj : j < ns.length) : pL ns j ≠ [] := by
  rw [pL_succ hf h0 hj]
  simp
theorem ba_ext9 {a b : ByteArray} (h : a.data.toList = b.data.toList) : a = b := by
  cases a; cases b
  congr
  exact Array.toList_inj.1 h
theorem pL_inj {ns : List Nd} (hv : Vl ns) : ∀ n i j, i ≤ n → i < ns.length → j < ns.length → pL ns i = pL ns j → i = j := by
  intro n
  induction n with
  | zero =>
    intro i j h1 h2 h3 h
    obtain rfl : i = 0 := by omega
    rcases Nat.eq_zero_or_pos j with h0 | h0
    · exact h0.symm
    · exact absurd (h.symm.trans (pL_zero ns)) (pL_ne hv.f h0 h3)
  | succ n ih =>
    intro i j h1 h2 h3 h
    rcases Nat.eq_zero_or_pos j with h0 | h0
    · subst h0
      rcases Nat.eq_zero_or_pos i with h4 | h4
      · exact h4
      · exact absurd (h.trans (pL_zero ns)) (pL_ne hv.f h4 h2)
    rcases Nat.eq_zero_or_pos i with h4 | h4
    · subst h4
      exact absurd (h.symm.trans (pL_zero ns)) (pL_ne hv.f h0 h3)
    have hpi := (par_lt hv.f.par h4 h2).1
    have hpj := (par_lt hv.f.par h0 h3).1
    rw [pL_succ hv.f h4 h2, pL_succ hv.f h0 h3] at h
    rcases app47 (nm_ok hv.f h4 h2).1 h with ⟨h5, h6⟩ | ⟨e, h5, h6⟩
    · exact hv.d i j h4 h2 h0 h3 (ih _ _ (by omega) (by omega) (by omega) h5) (ba_ext9 h6)
    · exact absurd (by rw [h6]; simp) (nm_ok hv.f h0 h3).1
theorem path_inj {ns : List Nd} (hv : Vl ns) {i j : Nat} (hi : i < ns.length) (hj : j < ns.length) (h : pathV ns i = pathV ns j) : i = j := by
  have h1 := congrArg (fun s : ByteArray => s.data.toList) h
  rw [pathV_L, pathV_L] at h1
  have key : ∀ j, 0 < j → j < ns.length → [47] ≠ pL ns j := by
    intro j h0 hj h2
    rw [pL_succ hv.f h0 hj] at h2
    rcases app47 (a := []) (b := []) (by simp) h2 with ⟨_, h3⟩ | ⟨e, h3, _⟩
    · exact (nm_ok hv.f h0 hj).2 h3.symm
    · simp at h3
  split at h1
  · split at h1
    · omega
    · exact absurd h1 (key j (by omega) hj)
  · split at h1
    · exact absurd h1.symm (key i (by omega) hi)
    · exact pL_inj hv i i j (Nat.le_refl _) hi hj h1
/-- What has a node's path and a '/' in front is below it. -/
theorem pre_below {ns : List Nd} (hv : Vl ns) {k : Nat} (hk : k < ns.length) : ∀ n i r, i ≤ n → i < ns.length → pL ns i = pL ns k ++ 47 :: r → ∃ t, upN ns t i = k := by
  intro n
  induction n with
  | zero =>
    intro i r h1 h2 h
    obtain rfl : i = 0 := by omega
    rw [pL_zero] at h
    simp at h
  | succ n ih =>
    intro i r h1 h2 h
    rcases Nat.eq_zero_or_pos i with h4 | h4
    · subst h4
      rw [pL_zero] at h
      simp at h
    have hpi := (par_lt hv.f.par h4 h2).1
    rw [pL_succ hv.f h4 h2] at h
    rcases app47 (nm_ok hv.f h4 h2).1 h with ⟨h5, _⟩ | ⟨e, h5, _⟩
    · exact ⟨1, show paN ns i = k from pL_inj hv _ _ _ (Nat.le_refl _) (by omega) hk h5⟩
    · obtain ⟨t, ht⟩ := ih (paN ns i) e (by omega) (by omega) h5
      exact ⟨t + 1, ht⟩
theorem below_pre {ns : List Nd} (hf : FrmT ns) {k : Nat} (hk0 : 0 < k) : ∀ t i, i < ns.length → upN ns t i = k → pL ns i = pL ns k ∨ ∃ r, pL ns i = pL ns k ++ 47 :: r := by
  intro t
  induction t with
  | zero => intro i _ h; exact .inl (by rw [show i = k from h])
  | succ t ih =>
    intro i hi h
    rcases Nat.eq_zero_or_pos i with h4 | h4
    · subst h4
      rw [up_zero hf] at h
      omega
    have hpi := (par_lt hf.par h4 hi).1
    refine .inr ?_
    rw [pL_succ hf h4 hi]
    rcases ih (paN ns i) (by omega) h with h5 | ⟨r, h5⟩
    · exact ⟨_, by rw [h5]⟩
    · exact ⟨r ++ 47 :: nmL ns i, by rw [h5]; simp⟩
theorem skGo_yes {p : Nat → Bool} : ∀ m i k, i ≤ k → k < i + m → p k = true → (∀ j, i ≤ j → j < k → p j = false) → skGo p m i = k := by
  intro m
  induction m with
  | zero => intro i k h1 h2; omega
  | succ m ih =>
    intro i k h1 h2 h3 h4
    unfold skGo
    by_cases h : i = k
    · subst h
      rw [if_pos h3]
    · rw [if_neg (by rw [h4 i (Nat.le_refl _) (by omega)]; exact Bool.false_ne_true)]
      exact ih (i + 1) k (by omega) (by omega) h3 fun j a b => h4 j (by omega) b
theorem fnd_path {ns : List Nd} (hv : Vl ns) {i : Nat} (hi : i < ns.length) : fndV (ns, pathV ns i) = ((i : Int), true) := by
  have h : skV (isB ns (pathV ns i)) ns.length = i := skGo_yes _ _ _ (Nat.zero_le _) (by omega) (decide_eq_true rfl) fun j _ hj => decide_eq_false fun he => by
    have := path_inj hv (by omega) hi he
    omega
  unfold fndV
  dsimp only
  rw [h, if_neg (by omega)]
theorem fnd_none {ns : List Nd} {s : ByteArray} (h : ∀ j, j < ns.length → ¬ pathV ns j = s) : fndV (ns, s) = (0, false) := by
  have h : skV (isB ns s) ns.length = ns.length := by
    have := skGo_no (p := isB ns s) ns.length 0 fun j _ hj => decide_eq_false (h j (by omega))
    rw [Nat.zero_add] at this
    exact this
  unfold fndV
  dsimp only
  rw [if_pos h]

/-- Children come in the order of their names. -/
theorem sib_lt {ns : List Nd} (hv : Vl ns) {i : Nat} : ∀ n c d, d - c ≤ n → 0 < c → c < d → d < ns.length → paN ns c = i → paN ns d = i → bLt (ndAt ns c).2.1 (ndAt ns d).2.1 = true := by
  intro n
  induction n with
  | zero => intro c d h1 h2 h3; omega
  | succ n ih =>
    intro c d h1 c0 h3 hd hc hp
    by_cases hno : ∀ e, c < e → e < d → ¬ paN ns e = i
    · exact next_child hv hd c0 h3 hc hp hno
    · have hno : ∃ e, c < e ∧ e < d ∧ paN ns e = i := by
        refine Classical.byContradiction fun h => hno fun e a b k => h ⟨e, a, b, k⟩
      obtain ⟨e, e1, e2, e3⟩ := hno
      exact bLt_trans (ih c e (by omega) c0 e1 (by omega) hc e3) (ih e d (by omega) (by omega) e2 hd e3 hp)
theorem nx_lt {ns : List Nd} (hv : Vl ns) {a b : Nat} (ha : a < ns.length) (hb0 : 0 < b) (hb : b < ns.length) (h : Nx ns a b) : a < b := by
  rcases h with h | ⟨t, h1, h2, h3⟩
  · have := (par_lt hv.f.par hb0 hb).1
    omega
  · obtain ⟨c, hc⟩ : ∃ c, upN ns t a = c := ⟨_, rfl⟩
    rw [hc] at h1 h2 h3
    have hca : c ≤ a := by rw [← hc]; exact up_le hv.f t a
    have hcb : c < b := by
      rcases Nat.lt_trichotomy c b with h | h | h
      · exact h
      · subst h
        rw [bLt_irrefl] at h3
        cases h3
      · have h4 := sib_lt hv (c - b) b c (Nat.le_refl _) hb0 h (by omega) h2.symm rfl
        have h5 := bLt_trans h3 h4
        rw [bLt_irrefl] at h5
        cases h5
    rcases Nat.lt_or_ge a b with h | h
    · exact h
    · exfalso
      obtain ⟨u, hu⟩ := below_all hv a ha ⟨t, hc⟩ b (by omega) h
      cases u with
      | zero =>
        have : b = c := hu
        omega
      | succ u =>
        have hu : upN ns u (paN ns b) = c := hu
        have h4 := up_le hv.f u (paN ns b)
        have h5 := (par_lt hv.f.par h1 (by omega)).1
        omega
theorem asc_id : ∀ (l : List Int) (k n : Nat), (l.Pairwise fun a b => a < b) → (∀ c ∈ l, (k : Int) ≤ c ∧ c < (n : Nat)) → (∀ j : Nat, k ≤ j → j < n → (j : Int) ∈ l) → idOk k l = true := by
  intro l
  induction l with
  | nil => intro k n _ _ _; rfl
  | cons a l ih =>
    intro k n h1 h2 h3
    obtain ⟨h4, h5⟩ := List.pairwise_cons.1 h1
    have ha := h2 a (List.mem_cons_self ..)
    have hk : a = (k : Int) := by
      rcases List.mem_cons.1 (h3 k (Nat.le_refl _) (by omega)) with h | h
      · exact h.symm
      · have := h4 _ h
        omega
    unfold idOk
    rw [decide_eq_true hk.symm, Bool.true_and]
    refine ih (k + 1) n h5 (fun c hc => ?_) fun j h6 h7 => ?_
    · have := h4 c hc
      have := (h2 c (List.mem_cons_of_mem _ hc)).2
      omega
    · rcases List.mem_cons.1 (h3 j (by omega) h7) with h | h
      · omega
      · exact h
theorem chn_asc {ns : List Nd} (hv : Vl ns) : ∀ (l : List Int), ChN ns l → (∀ c ∈ l, 0 ≤ c ∧ c < (ns.length : Nat)) → (∀ c ∈ l.drop 1, 0 < c) → l.Pairwise fun a b => a < b := by
  intro l
  induction l with
  | nil => intro _ _ _; exact List.Pairwise.nil
  | cons a l ih =>
    intro h1 h2 h3
    cases l with
    | nil => exact List.Pairwise.cons (fun b hb => by cases hb) List.Pairwise.nil
    | cons b l =>
      obtain ⟨h4, h5⟩ := h1
      have h3 : ∀ c ∈ b :: l, 0 < c := h3
      have ih := ih h5 (fun c hc => h2 c (List.mem_cons_of_mem _ hc)) fun c hc => h3 c (List.mem_cons_of_mem _ hc)
      have ha := h2 a (List.mem_cons_self ..)
      have hb := h2 b (List.mem_cons_of_mem _ (List.mem_cons_self ..))
      have hb0 := h3 b (List.mem_cons_self ..)
      have hab : a < b := by
        have := nx_lt hv (a := a.toNat) (b := b.toNat) (by omega) (by omega) (by omega) h4
        omega
      refine List.pairwise_cons.2 ⟨fun c hc => ?_, ih⟩
      rcases List.mem_cons.1 hc with rfl | hc
      · exact hab
      · have := (List.pairwise_cons.1 ih).1 c hc
        omega
theorem vl_ord {ns : List Nd} (hv : Vl ns) : idOk 0 (wk 120 ns 0) = true := by
  have hin : ∀ c ∈ wkT ns, 0 ≤ c ∧ c < (ns.length : Nat) := fun c hc => by
    obtain ⟨i, hi, rfl⟩ := List.getElem_of_mem hc
    exact wkT_in hv.f hi
  refine asc_id _ 0 ns.length (chn_asc hv _ (wkT_chain hv.f hv.d) hin fun c hc => ?_) (fun c hc => by have := hin c hc; omega) fun j _ hj => wkT_all hv.f hj
  obtain ⟨i, hi, rfl⟩ := List.getElem_of_mem hc
  rw [List.getElem_drop]
  rw [List.length_drop] at hi
  have hi : i < (wkT ns).length - 1 := hi
  exact wkT_gt hv.f (by omega) (by omega)
theorem vl_rchk {ns : List Nd} (hv : Vl ns) : rchk ns = 0 := by
  have h1 : rOrd ns = true := by
    unfold rOrd
    rw [vl_ord hv, Bool.true_and, List.all_eq_true]
    intro n hn
    obtain ⟨i, hi, rfl⟩ := nd_mem hn
    exact hv.asc i hi
  have h2 : rtGo ns ns.length 0 = false := by
    have hin : ∀ i, i < ns.length → ∀ m k, 0 < k → k + m ≤ i → rtIn ns i m k = false := by
      intro i hi m
      induction m with
      | zero => intro k _ _; rfl
      | succ m ih =>
        intro k hk hm
        unfold rtIn
        rw [ih (k + 1) (by omega) (by omega), Bool.or_false]
        unfold twnB
        rw [Bool.and_eq_false_iff]
        by_cases hp : (ndAt ns k).1 = (ndAt ns i).1
        · refine .inr (decide_eq_false fun hn => ?_)
          have := hv.d k i hk (by omega) (by omega) hi (by unfold paN paI; rw [hp]) hn
          omega
        · exact .inl (decide_eq_false hp)
    have : ∀ m i, i + m ≤ ns.length → rtGo ns m i = false := by
      intro m
      induction m with
      | zero => intro i _; rfl
      | succ m ih =>
        intro i hi
        unfold rtGo
        rw [ih (i + 1) (by omega), Bool.or_false]
        rcases Nat.eq_zero_or_pos i with h0 | h0
        · subst h0; rfl
        · exact hin i (by omega) (i - 1) 1 (by decide) (by omega)
    exact this _ _ (by omega)
  have h3 : rlGo ns ns.length 0 = false := by
    have : ∀ m i, i + m ≤ ns.length → rlGo ns m i = false := by
      intro m
      induction m with
      | zero => intro i _; rfl
      | succ m ih =>
        intro i hi
        unfold rlGo
        rw [ih (i + 1) (by omega), Bool.or_false]
        have := hv.dep i (by omega)
        exact decide_eq_false (by omega)
    exact this _ _ (by omega)
  unfold rchk
  rw [if_neg (ne_f hv.f.lim), if_neg (ne_f hv.f.frm), if_neg (ne_f h1), if_neg (ne_t h2), if_neg (ne_t h3)]
theorem rpath_vl {ns : List Nd} (hv : Vl ns) {i : Nat} (hi : i < ns.length) : rPathV (ns, (i : Int)) = pathV ns i := by
  unfold rPathV
  rw [if_pos ⟨vl_rchk hv, by show (0 : Int) ≤ (i : Nat); omega, by show ((i : Nat) : Int) < (ns.length : Nat); omega⟩]
  rfl

def bL (s : ByteArray) : List Int := s.data.toList.map fun b => (b.toNat : Int)
theorem bL_len (s : ByteArray) : (bL s).length = s.size := by
  unfold bL
  rw [List.length_map]
  rfl
def alN (n : Nat) : Nat := (n + 3) / 4 * 4
theorem al_le (n : Nat) : n ≤ alN n ∧ alN n < n + 4 := by unfold alN; omega
theorem al_mod (n : Nat) : 4 ∣ alN n := ⟨(n + 3) / 4, by unfold alN; omega⟩
theorem al_of {n : Nat} (h : 4 ∣ n) : alN n = n := by
  obtain ⟨k, rfl⟩ := h
  unfold alN
  omega
theorem al_add {m : Nat} (h : 4 ∣ m) (n : Nat) : alN (m + n) = m + alN n := by
  obtain ⟨k, rfl⟩ := h
  unfold alN
  omega
def padL (b : List Int) : List Int := b ++ List.replicate (alN b.length - b.length) 0
theorem pad_len (b : List Int) : (padL b).length = alN b.length := by
  unfold padL
  rw [List.length_append, List.length_replicate]
  have := al_le b.length
  omega
def apV (b : List Int) (v : ByteArray) : List Int := padL (b ++ bL v)
theorem apV_len (b : List Int) (v : ByteArray) : (apV b v).length = alN (b.length + v.size) := by
  unfold apV
  rw [pad_len, List.length_append, bL_len]
def zro : ByteArray := ⟨#[0]⟩
def apT (b : List Int) (s : ByteArray) : List Int := apV b (s ++ zro)
theorem apT_len (b : List Int) (s : ByteArray) : (apT b s).length = alN (b.length + (s.size + 1)) := by
  unfold apT
  rw [apV_len, ByteArray.size_append]
  rfl
theorem celO_app (a b : List Int) : celO (a ++ b) = celO a ++ celO b := by
  unfold celO
  rw [List.flatMap_append]

/-! Nodes that end. -/
def clG (ns : List Nd) (q : Int) : Nat → Int → Nat
  | 0, _ => 0
  | k + 1, x => if x = q then 0 else clG ns q k (ndAt ns x.toNat).1 + 1
def clB (ns : List Nd) (q : Int) : Nat → Int → Bool
  | 0, x => decide (x = q)
  | k + 1, x => if x = q then true else (decide (0 ≤ x) && decide (x < (ns.length : Nat))) && clB ns q k (ndAt ns x.toNat).1
theorem cl_self (ns : List Nd) (q : Int) (k : Nat) : clG ns q k q = 0 ∧ clB ns q k q = true := by
  cases k with
  | zero => exact ⟨rfl, decide_eq_true rfl⟩
  | succ k => exact ⟨if_pos rfl, if_pos rfl⟩
theorem vl_pa0 {ns : List Nd} (hf : FrmT ns) : (ndAt ns 0).1 = -1 := by
  have h4 := frm_nd hf.frm (i := 0) (by have := hf.len; omega)
  unfold ndFrm at h4
  obtain ⟨h5, _⟩ := Bool.and_eq_true_iff.1 h4
  obtain ⟨h6, _⟩ := Bool.and_eq_true_iff.1 h5
  simp at h6
  exact h6.1
theorem pa_lt {ns : List Nd} (hf : FrmT ns) {j : Nat} (hj : j < ns.length) : @LT.lt Int _ (ndAt ns j).1 (j : Int) := by
  rcases Nat.eq_zero_or_pos j with h0 | h0
  · subst h0
    rw [vl_pa0 hf]
    decide
  · obtain ⟨h1, h2⟩ := par_lt hf.par h0 hj
    rw [← h2]
    exact Int.ofNat_lt.2 h1
theorem cl_up {ns : List Nd} (hf : FrmT ns) : ∀ t j k, j < ns.length → t < k → (∀ s, s < t → 0 < upN ns s j) → clB ns (ndAt ns (upN ns t j)).1 k (j : Int) = true ∧ clG ns (ndAt ns (upN ns t j)).1 k (j : Int) = t + 1 := by
  intro t
  induction t with
  | zero =>
    intro j k hj hk _
    obtain ⟨k, rfl⟩ : ∃ m, k = m + 1 := ⟨k - 1, by omega⟩
    have h1 := pa_lt hf hj
    have hne : ¬ (j : Int) = (ndAt ns j).1 := fun h => by
      rw [← h] at h1
      exact absurd h1 (Int.lt_irrefl _)
    obtain ⟨h2, h3⟩ := cl_self ns (ndAt ns j).1 k
    rw [show upN ns 0 j = j from rfl]
    constructor
    · show (if (j : Int) = (ndAt ns j).1 then true else _) = true
      rw [if_neg hne, Int.toNat_natCast, h3]
      simp [hj]
    · show (if (j : Int) = (ndAt ns j).1 then 0 else _) = 1
      rw [if_neg hne, Int.toNat_natCast, h2]
  | succ t ih =>
    intro j k hj hk h
    obtain ⟨k, rfl⟩ : ∃ m, k = m + 1 := ⟨k - 1, by omega⟩
    have h0 : 0 < j := h 0 (by omega)
    obtain ⟨p1, p2⟩ := par_lt hf.par h0 hj
    obtain ⟨h2, h3⟩ := ih (paN ns j) k (by omega) (by omega) fun s hs => h (s + 1) (by omega)
    have e : upN ns t (paN ns j) = upN ns (t + 1) j := rfl
    rw [e] at h2 h3
    have hle : upN ns (t + 1) j ≤ paN ns j := by rw [← e]; exact up_le hf t _
    have h1 := pa_lt hf (j := upN ns (t + 1) j) (by omega)
    have hne : ¬ (j : Int) = (ndAt ns (upN ns (t + 1) j)).1 := fun h => by
      rw [← h] at h1
      have := Int.ofNat_lt.1 h1
      omega
    constructor
    · show (if (j : Int) = _ then true else _) = true
      rw [if_neg hne, Int.toNat_natCast, ← p2, h2]
      simp [hj]
    · show (if (j : Int) = _ then 0 else _) = t + 1 + 1
      rw [if_neg hne, Int.toNat_natCast, ← p2, h3]
theorem dp_par {ns : List Nd} (hf : FrmT ns) {j : Nat} (h0 : 0 < j) (hj : j < ns.length) : dpV ns j = dpV ns (paN ns j) + 1 := by
  obtain ⟨h1, h2⟩ := dp_up hf (paN ns j + 1) (paN ns j) (Nat.lt_succ_self _) (by have := (par_lt hf.par h0 hj).1; omega)
  refine dp_of hf hj h1 fun t ht => ?_
  cases t with
  | zero => exact h0
  | succ t => exact h2 t (by unfold dpV at ht; omega)
theorem dp_upN {ns : List Nd} (hf : FrmT ns) : ∀ t j, j < ns.length → (∀ s, s < t → 0 < upN ns s j) → dpV ns j = dpV ns (upN ns t j) + t := by
  intro t
  induction t with
  | zero => intro j _ _; rfl
  | succ t ih =>
    intro j hj h
    have h0 : 0 < j := h 0 (by omega)
    have := ih (paN ns j) (by have := (par_lt hf.par h0 hj).1; omega) fun s hs => h (s + 1) (by omega)
    rw [dp_par hf h0 hj, this]
    show _ = dpV ns (upN ns t (paN ns j)) + (t + 1)
    omega
theorem up_pos {ns : List Nd} (hf : FrmT ns) {t j : Nat} (h : 0 < upN ns t j) : ∀ s, s < t → 0 < upN ns s j := by
  intro s hs
  rcases Nat.eq_zero_or_pos (upN ns s j) with h0 | h0
  · exfalso
    obtain ⟨u, rfl⟩ : ∃ u, t = s + u := ⟨t - s, by omega⟩
    rw [upN_add, h0, up_zero hf] at h
    omega
  · exact h0
theorem up_sub {ns : List Nd} (hf : FrmT ns) : ∀ t m, m < ns.length → 0 < upN ns t m → t + upN ns t m ≤ m := by
  intro t
  induction t with
  | zero => intro m _ _; exact Nat.le_of_eq (Nat.zero_add _)
  | succ t ih =>
    intro m hm h1
    have h7 := up_pos hf h1 t (Nat.lt_succ_self t)
    have h6 := ih m hm h7
    have h8 := (par_lt hf.par h7 (by omega)).1
    rw [up_succ]
    omega
/-- How many nodes end before a node begins. -/
def cnB (ns : List Nd) (i : Nat) : Nat := if i = 0 then 0 else dpV ns (i - 1) + 1 - dpV ns i
theorem cl_vl {ns : List Nd} (hv : Vl ns) {m : Nat} (hm : m + 1 < ns.length) {k : Nat} (hk : ns.length ≤ k) : clB ns (ndAt ns (m + 1)).1 k (m : Int) = true ∧ clG ns (ndAt ns (m + 1)).1 k (m : Int) = cnB ns (m + 1) ∧ dpV ns (m + 1) ≤ dpV ns m + 1 := by
  have hf := hv.f
  have hc : cnB ns (m + 1) = dpV ns m + 1 - dpV ns (m + 1) := if_neg (by omega)
  obtain ⟨p1, p2⟩ := par_lt hf.par (j := m + 1) (by omega) hm
  have hd := dp_par hf (j := m + 1) (by omega) hm
  rcases vl_flw hv hm with h | ⟨t, h1, h2, _⟩
  · rw [h] at p2 hd
    rw [← p2]
    obtain ⟨h3, h4⟩ := cl_self ns (m : Int) k
    exact ⟨h4, by rw [h3, hc]; omega, by omega⟩
  · have hul : upN ns t m ≤ m := up_le hf t m
    obtain ⟨q1, q2⟩ := par_lt hf.par h1 (by omega)
    have e : (ndAt ns (m + 1)).1 = (ndAt ns (upN ns t m)).1 := by rw [← p2, ← q2, h2]
    have hd1 := dp_upN hf t m (by omega) (up_pos hf h1)
    have hd2 := dp_par hf h1 (by omega)
    rw [h2] at hd2
    have ht : t ≤ m := by have := up_sub hf t m (by omega) h1; omega
    obtain ⟨h3, h4⟩ := cl_up hf t m k (by omega) (by omega) (up_pos hf h1)
    rw [e]
    exact ⟨h3, by rw [h4, hc]; omega, by omega⟩
theorem cl_end {ns : List Nd} (hv : Vl ns) {m : Nat} (hm : m < ns.length) {k : Nat} (hk : ns.length ≤ k) : clB ns (-1) k (m : Int) = true ∧ clG ns (-1) k (m : Int) = dpV ns m + 1 := by
  have hf := hv.f
  obtain ⟨h1, h2⟩ := dp_up hf (m + 1) m (Nat.lt_succ_self _) hm
  have h1 : upN ns (dpV ns m) m = 0 := h1
  have hl : dpV ns m < k := by
    have h3 : dpV ns m ≤ m := by
      rcases Nat.eq_zero_or_pos (dpV ns m) with h0 | h0
      · omega
      · have := up_sub hf (dpV ns m - 1) m hm (h2 _ (by show _ < dpV ns m; omega))
        have := h2 (dpV ns m - 1) (by show _ < dpV ns m; omega)
        omega
    omega
  have := cl_up hf (dpV ns m) m k hm hl h2
  rw [h1, vl_pa0 hf] at this
  exact this

/-! Structure and strings. -/
abbrev PlE : Type := List (CT.str.den × (CT.int .i64).den)
abbrev B8 : Type := List Int × List Int × PlE
def kn (M : PlE) (s : ByteArray) : Option Int := findE (k := .str) (v := .int .i64) M s
def nwM (N : List Int) (M : PlE) (s : ByteArray) : PlE := match kn M s with | some _ => M | none => setE (k := .str) (v := .int .i64) s (N.length : Nat) M
def nwN (N : List Int) (M : PlE) (s : ByteArray) : List Int := match kn M s with | some _ => N | none => N ++ bL s ++ [0]
def b8P (b : B8) (p : Pt) : B8 := (apV (b.1 ++ celO [3, (p.2.size : Nat), (kn (nwM b.2.1 b.2.2 p.1) p.1).getD 0]) p.2, nwN b.2.1 b.2.2 p.1, nwM b.2.1 b.2.2 p.1)
def b8B (ns : List Nd) (b : B8) (i : Nat) : B8 := (apT (b.1 ++ celO (List.replicate (cnB ns i) 2) ++ celO [1]) (ndAt ns i).2.1, b.2)
def b8N (ns : List Nd) (b : B8) (i : Nat) : B8 := (ndAt ns i).2.2.foldl b8P (b8B ns b i)
def b8G (ns : List Nd) : Nat → B8
  | 0 => ([], [], [])
  | i + 1 => b8N ns (b8G ns i) i
def b8S (ns : List Nd) : List Int := (b8G ns ns.length).1 ++ celO (List.replicate (dpV ns (ns.length - 1) + 1) 2) ++ celO [9]
def b8L (ns : List Nd) : List Int := (b8G ns ns.length).2.1

/-- How long things are. -/
def szP (p : Pt) : Nat := 12 + alN p.2.size
def szN (n : Nd) : Nat := 8 + alN (n.2.1.size + 1) + (n.2.2.map szP).sum
theorem b8P_len (b : B8) (p : Pt) (h : 4 ∣ b.1.length) : (b8P b p).1.length = b.1.length + szP p := by
  unfold b8P szP
  dsimp only
  rw [apV_len, List.length_append, celO_length, al_add (by omega)]
  show b.1.length + 4 * 3 + _ = _
  omega
theorem fold_len : ∀ (l : List Pt) (b : B8), 4 ∣ b.1.length → (l.foldl b8P b).1.length = b.1.length + (l.map szP).sum ∧ 4 ∣ (l.foldl b8P b).1.length := by
  intro l
  induction l with
  | nil => intro b h; exact ⟨rfl, h⟩
  | cons p l ih =>
    intro b h
    have h1 := b8P_len b p h
    have h2 : 4 ∣ szP p := Nat.dvd_add ⟨3, rfl⟩ (al_mod _)
    obtain ⟨h3, h4⟩ := ih (b8P b p) (by rw [h1]; exact Nat.dvd_add h h2)
    refine ⟨?_, h4⟩
    rw [List.foldl_cons, h3, h1, List.map_cons, List.sum_cons]
    omega
theorem b8B_len (ns : List Nd) (b : B8) (i : Nat) (h : 4 ∣ b.1.length) : (b8B ns b i).1.length = b.1.length + 4 * cnB ns i + 4 + alN ((ndAt ns i).2.1.size + 1) := by
  unfold b8B
  dsimp only
  rw [apT_len, List.length_append, List.length_append, celO_length, celO_length, List.length_replicate, al_add (by show 4 ∣ _ + 4 * 1; omega)]
  rfl
def cnS (ns : List Nd) : Nat → Nat
  | 0 => 0
  | i + 1 => cnS ns i + cnB ns i
theorem cnS_eq {ns : List Nd} (hv : Vl ns) : ∀ i, i < ns.length → cnS ns (i + 1) + dpV ns i = i := by
  intro i
  induction i with
  | zero => intro _; rfl
  | succ i ih =>
    intro hi
    have h1 := ih (by omega)
    obtain ⟨_, _, h2⟩ := cl_vl hv hi (Nat.le_refl _)
    have hc : cnB ns (i + 1) = dpV ns i + 1 - dpV ns (i + 1) := if_neg (by omega)
    show cnS ns (i + 1) + cnB ns (i + 1) + _ = _
    omega
theorem b8G_len {ns : List Nd} : ∀ i, i ≤ ns.length → (b8G ns i).1.length + 4 * i = 4 * cnS ns i + ((ns.take i).map szN).sum ∧ 4 ∣ (b8G ns i).1.length := by
  intro i
  induction i with
  | zero => intro _; exact ⟨rfl, ⟨0, rfl⟩⟩
  | succ i ih =>
    intro hi
    obtain ⟨h1, h2⟩ := ih (by omega)
    have h3 := b8B_len ns (b8G ns i) i h2
    have h5 : 4 ∣ (b8B ns (b8G ns i) i).1.length := by
      rw [h3]
      have := al_mod ((ndAt ns i).2.1.size + 1)
      omega
    obtain ⟨h6, h7⟩ := fold_len (ndAt ns i).2.2 _ h5
    refine ⟨?_, h7⟩
    have e : (ns.take (i + 1)) = ns.take i ++ [ndAt ns i] := by
      rw [List.take_succ_eq_append_getElem hi, nd_at' hi]
    rw [e, List.map_append, List.sum_append]
    show (b8N ns (b8G ns i) i).1.length + _ = 4 * (cnS ns i + cnB ns i) + (_ + (szN (ndAt ns i) + 0))
    have hz : szN (ndAt ns i) = 8 + alN ((ndAt ns i).2.1.size + 1) + ((ndAt ns i).2.2.map szP).sum := rfl
    unfold b8N
    rw [h6, h3, hz]
    omega
theorem b8S_len {ns : List Nd} (hv : Vl ns) : (b8S ns).length = (ns.map szN).sum + 4 := by
  have hl := hv.f.len
  obtain ⟨h1, _⟩ := b8G_len (ns := ns) ns.length (Nat.le_refl _)
  have h2 := cnS_eq hv (ns.length - 1) (by omega)
  rw [show ns.length - 1 + 1 = ns.length by omega] at h2
  rw [List.take_length] at h1
  unfold b8S
  rw [List.length_append, List.length_append, celO_length, celO_length, List.length_replicate]
  show _ + _ + 4 * 1 = _
  omega
end Go.Ab
