/- BlobSizes: the law's own account of names and sizes. -/
import Derived.Test.YtnlifjljmbfomaaTY158toY161
namespace Go.Ab
open Go.Proofs
set_option linter.unusedSectionVars false
set_option maxRecDepth 100000
variable [Base]

def inL (L : List ByteArray) (s : ByteArray) : Bool := L.any fun y => decide (y = s)
theorem inL_app (L : List ByteArray) (x s : ByteArray) : inL (L ++ [x]) s = (inL L s || decide (x = s)) := by
  unfold inL
  rw [List.any_append]
  simp
theorem inL_drop {L : List ByteArray} {j : Nat} (h : j < L.length) (s : ByteArray) : inL (L.drop j) s = (decide (L[j] = s) || inL (L.drop (j + 1)) s) := by
  rw [List.drop_eq_getElem_cons h]
  rfl
abbrev Ls : Type := Nat × List ByteArray
def lwP (st : Ls) (p : Pt) : Ls := if inL st.2 p.1 = true then (st.1 + szP p, st.2) else (st.1 + szP p + p.1.size + 1, st.2 ++ [p.1])
def lwN (st : Ls) (n : Nd) : Ls := n.2.2.foldl lwP (st.1 + (8 + alN (n.2.1.size + 1)), st.2)
theorem lwP_le (st : Ls) (p : Pt) : st.1 + szP p ≤ (lwP st p).1 := by
  unfold lwP
  split
  · exact Nat.le_refl _
  · dsimp only
    omega
theorem lwPs_le : ∀ (l : List Pt) (st : Ls), st.1 ≤ (l.foldl lwP st).1 := by
  intro l
  induction l with
  | nil => intro st; exact Nat.le_refl _
  | cons p l ih => intro st; have := ih (lwP st p); have := lwP_le st p; rw [List.foldl_cons]; omega
theorem lwNs_le : ∀ (l : List Nd) (st : Ls), st.1 ≤ (l.foldl lwN st).1 := by
  intro l
  induction l with
  | nil => intro st; exact Nat.le_refl _
  | cons n l ih =>
    intro st
    have h1 := ih (lwN st n)
    have h2 := lwPs_le n.2.2 (st.1 + (8 + alN (n.2.1.size + 1)), st.2)
    have h3 : (lwN st n).1 = (n.2.2.foldl lwP (st.1 + (8 + alN (n.2.1.size + 1)), st.2)).1 := rfl
    rw [List.foldl_cons]
    dsimp only at h2
    omega

/-! The strings are these names. -/
def nmB (L : List ByteArray) : List Int := L.flatMap fun s => bL s ++ [0]
theorem nmB_app (L : List ByteArray) (s : ByteArray) : nmB (L ++ [s]) = nmB L ++ bL s ++ [0] := by
  unfold nmB
  rw [List.flatMap_append, List.flatMap_singleton, List.append_assoc]
theorem kn_set (M : PlE) (s t : ByteArray) (x : Int) : kn (setE (k := .str) (v := .int .i64) s x M) t = if t = s then some x else kn M t := by
  induction M with
  | nil =>
    show (match decide (t = s) with | true => some x | false => none) = _
    by_cases h : t = s
    · rw [decide_eq_true h, if_pos h]
    · rw [decide_eq_false h, if_neg h]
      rfl
  | cons a M ih =>
    obtain ⟨a, y⟩ := a
    have e1 : kn ((a, y) :: M) t = if t = a then some y else kn M t := by
      show (match decide (t = a) with | true => some y | false => kn M t) = _
      by_cases h : t = a
      · rw [decide_eq_true h, if_pos h]
      · rw [decide_eq_false h, if_neg h]
    by_cases h : s = a
    · have e2 : setE (k := .str) (v := .int .i64) s x ((a, y) :: M) = (s, x) :: M := by
        show (match decide (s = a) with | true => (s, x) :: M | false => _) = _
        rw [decide_eq_true h]
      rw [e2, e1]
      show (match decide (t = s) with | true => some x | false => kn M t) = _
      by_cases h2 : t = s
      · rw [decide_eq_true h2, if_pos h2]
      · rw [decide_eq_false h2, if_neg h2, if_neg (fun h3 => h2 (h3.trans h.symm))]
    · have e2 : setE (k := .str) (v := .int .i64) s x ((a, y) :: M) = (a, y) :: setE (k := .str) (v := .int .i64) s x M := by
        show (match decide (s = a) with | true => (s, x) :: M | false => _) = _
        rw [decide_eq_false h]
      rw [e2, e1]
      show (match decide (t = a) with | true => some y | false => kn (setE (k := .str) (v := .int .i64) s x M) t) = _
      by_cases h2 : t = a
      · rw [decide_eq_true h2, if_pos h2, if_neg (fun h3 => h (h3.symm.trans h2))]
      · rw [decide_eq_false h2, if_neg h2, ih]
/-- The program's strings and places, and the law's names. -/
structure NmR (b : B8) (L : List ByteArray) : Prop where
  n : b.2.1 = nmB L
  m : ∀ s, (kn b.2.2 s).isSome = inL L s
theorem nmr_p {b : B8} {st : Ls} (h : NmR b st.2) (p : Pt) : NmR (b8P b p) (lwP st p).2 ∧ (lwP st p).1 + b.2.1.length = st.1 + szP p + (b8P b p).2.1.length := by
  have h1 := h.m p.1
  unfold b8P lwP nwN nwM
  cases hk : kn b.2.2 p.1 with
  | some q =>
    rw [hk] at h1
    have h1 : inL st.2 p.1 = true := h1.symm
    rw [if_pos h1]
    dsimp only
    exact ⟨⟨h.n, h.m⟩, rfl⟩
  | none =>
    rw [hk] at h1
    have h1 : inL st.2 p.1 = false := h1.symm
    rw [h1, if_neg (by decide)]
    dsimp only
    refine ⟨⟨?_, fun s => ?_⟩, ?_⟩
    · rw [nmB_app, h.n]
    · rw [inL_app]
      show (kn (setE _ _ b.2.2) s).isSome = _
      rw [kn_set]
      by_cases hs : s = p.1
      · rw [if_pos hs, hs]
        simp
      · rw [if_neg hs, h.m s, decide_eq_false (fun h3 => hs h3.symm), Bool.or_false]
    · rw [List.length_append, List.length_append, bL_len]
      show _ = _ + (_ + _ + 1)
      omega
theorem nmr_ps : ∀ (l : List Pt) (b : B8) (st : Ls), NmR b st.2 → NmR (l.foldl b8P b) (l.foldl lwP st).2 ∧ (l.foldl lwP st).1 + b.2.1.length = st.1 + (l.map szP).sum + (l.foldl b8P b).2.1.length := by
  intro l
  induction l with
  | nil => intro b st h; exact ⟨h, rfl⟩
  | cons p l ih =>
    intro b st h
    obtain ⟨h1, h2⟩ := nmr_p h p
    obtain ⟨h3, h4⟩ := ih (b8P b p) (lwP st p) h1
    refine ⟨h3, ?_⟩
    rw [List.foldl_cons, List.foldl_cons, List.map_cons, List.sum_cons]
    omega
theorem nmr_g (ns : List Nd) : ∀ i, i ≤ ns.length → NmR (b8G ns i) ((ns.take i).foldl lwN (32, [])).2 ∧ ((ns.take i).foldl lwN (32, [])).1 = 32 + ((ns.take i).map szN).sum + (b8G ns i).2.1.length := by
  intro i
  induction i with
  | zero => intro _; exact ⟨⟨rfl, fun _ => rfl⟩, rfl⟩
  | succ i ih =>
    intro hi
    obtain ⟨h1, h2⟩ := ih (by omega)
    have e : (ns.take (i + 1)) = ns.take i ++ [ndAt ns i] := by rw [List.take_succ_eq_append_getElem hi, nd_at' hi]
    obtain ⟨st, hst⟩ : ∃ st, (ns.take i).foldl lwN (32, []) = st := ⟨_, rfl⟩
    rw [hst] at h1 h2
    rw [e, List.foldl_append, List.map_append, List.sum_append, hst]
    have h3 : NmR (b8B ns (b8G ns i) i) (st.1 + (8 + alN ((ndAt ns i).2.1.size + 1)), st.2).2 := ⟨h1.n, h1.m⟩
    obtain ⟨h4, h5⟩ := nmr_ps (ndAt ns i).2.2 _ _ h3
    refine ⟨h4, ?_⟩
    have h6 : (b8B ns (b8G ns i) i).2.1 = (b8G ns i).2.1 := rfl
    rw [h6] at h5
    dsimp only at h5
    show (lwN st (ndAt ns i)).1 = 32 + (((ns.take i).map szN).sum + (szN (ndAt ns i) + 0)) + (b8N ns (b8G ns i) i).2.1.length
    have hz : szN (ndAt ns i) = 8 + alN ((ndAt ns i).2.1.size + 1) + ((ndAt ns i).2.2.map szP).sum := rfl
    unfold lwN b8N
    rw [hz]
    omega
theorem law_sz {ns : List Nd} (hv : Vl ns) : (ns.foldl lwN (32, [])).1 = (encV ns).length ∧ b8L ns = nmB (ns.foldl lwN (32, [])).2 := by
  obtain ⟨h1, h2⟩ := nmr_g ns ns.length (Nat.le_refl _)
  rw [List.take_length] at h1 h2
  refine ⟨?_, h1.n⟩
  rw [h2, encV_len hv]
  unfold b8L
  omega

/-! Numbers. -/
theorem u8_wrap (n : Int) : IntKind.u8.wrap n = n % 256 := by
  unfold IntKind.wrap
  simp [IntKind.bits, IntKind.signed]
theorem cel4_eq (n : Int) : cel4 n = [(n / 16777216) % 256, (n / 65536) % 256, (n / 256) % 256, n % 256] := by
  unfold cel4
  rw [u8_wrap, u8_wrap, u8_wrap, u8_wrap]
  show [Int.fdiv n 16777216 % 256, Int.fdiv n 65536 % 256, Int.fdiv n 256 % 256, n % 256] = _
  rw [Int.fdiv_eq_ediv_of_nonneg _ (by decide), Int.fdiv_eq_ediv_of_nonneg _ (by decide), Int.fdiv_eq_ediv_of_nonneg _ (by decide)]
def R32 (n : Int) : Prop := 0 ≤ n ∧ n < 4294967296
theorem cel4_inj {n m : Int} (hn : R32 n) (hm : R32 m) (h : cel4 n = cel4 m) : n = m := by
  rw [cel4_eq, cel4_eq] at h
  simp only [List.cons.injEq] at h
  obtain ⟨h1, h2, h3, h4, _⟩ := h
  unfold R32 at hn hm
  omega
theorem cel4_len (n : Int) : (cel4 n).length = 4 := rfl
theorem celO_cons (n : Int) (l : List Int) : celO (n :: l) = cel4 n ++ celO l := by
  unfold celO
  rw [List.flatMap_cons]
theorem celO_one (n : Int) : celO [n] = cel4 n := by
  rw [celO_cons]
  exact List.append_nil _
theorem cel_head {n m : Int} {r s : List Int} (hn : R32 n) (hm : R32 m) (h : cel4 n ++ r = cel4 m ++ s) : n = m ∧ r = s := by
  obtain ⟨h1, h2⟩ := List.append_inj h (by rw [cel4_len, cel4_len])
  exact ⟨cel4_inj hn hm h1, h2⟩

/-! Texts. -/
def ZF (s : ByteArray) : Prop := ∀ x ∈ bL s, x ≠ 0
theorem bL_inj {s t : ByteArray} (h : bL s = bL t) : s = t := by
  have bb : ∀ s : ByteArray, bytesOf (bL s) = s := fun s => by
    unfold bytesOf bL
    rw [List.map_map]
    have : ((fun n : Int => UInt8.ofNat n.toNat) ∘ fun b : UInt8 => (b.toNat : Int)) = id := by
      funext b
      show UInt8.ofNat ((b.toNat : Int)).toNat = b
      rw [Int.toNat_natCast]
      simp
    rw [this, List.map_id]
  rw [← bb s, ← bb t, h]
theorem zf_split : ∀ (a b : List Int) (r s : List Int), (∀ x ∈ a, x ≠ 0) → (∀ x ∈ b, x ≠ 0) → a ++ 0 :: r = b ++ 0 :: s → a = b ∧ r = s := by
  intro a
  induction a with
  | nil =>
    intro b r s _ hb h
    cases b with
    | nil => exact ⟨rfl, (List.cons.inj h).2⟩
    | cons y b => exact absurd (List.cons.inj h).1.symm (hb y (by simp))
  | cons x a ih =>
    intro b r s ha hb h
    cases b with
    | nil => exact absurd (List.cons.inj h).1 (ha x (by simp))
    | cons y b =>
      obtain ⟨h1, h2⟩ := List.cons.inj h
      obtain ⟨h3, h4⟩ := ih b r s (fun z hz => ha z (by simp [hz])) (fun z hz => hb z (by simp [hz])) h2
      exact ⟨by rw [h1, h3], h4⟩
theorem txt_split {s t : ByteArray} {r q : List Int} (hs : ZF s) (ht : ZF t) (h : padL (bL s ++ [0]) ++ r = padL (bL t ++ [0]) ++ q) : s = t ∧ r = q := by
  have e : ∀ (s : ByteArray) (r : List Int), padL (bL s ++ [0]) ++ r = bL s ++ 0 :: (List.replicate (alN (bL s ++ [(0 : Int)]).length - (bL s ++ [(0 : Int)]).length) 0 ++ r) := fun s r => by
    unfold padL
    simp [List.append_assoc]
  rw [e, e] at h
  obtain ⟨h1, h2⟩ := zf_split _ _ _ _ hs ht h
  have h3 := bL_inj h1
  subst h3
  exact ⟨rfl, (List.append_cancel_left h2)⟩
theorem val_split {v w : ByteArray} {r q : List Int} (hl : v.size = w.size) (h : padL (bL v) ++ r = padL (bL w) ++ q) : v = w ∧ r = q := by
  obtain ⟨h1, h2⟩ := List.append_inj h (by rw [pad_len, pad_len, bL_len, bL_len, hl])
  unfold padL at h1
  obtain ⟨h3, _⟩ := List.append_inj h1 (by rw [bL_len, bL_len, hl])
  exact ⟨bL_inj h3, h2⟩

/-! Nodes. -/
abbrev PrD : Type := Int × ByteArray
abbrev NdD : Type := Nat × ByteArray × List PrD
def prB (q : PrD) : List Int := celO [3, (q.2.size : Nat), q.1] ++ padL (bL q.2)
def ndB (d : NdD) : List Int := celO (List.replicate d.1 2) ++ (celO [1] ++ (padL (bL d.2.1 ++ [0]) ++ d.2.2.flatMap prB))
def stB (X : List NdD) (e : Nat) : List Int := X.flatMap ndB ++ (celO (List.replicate e 2) ++ celO [9])
/-- What follows the properties of a node. -/
def Hd (r : List Int) : Prop := ∃ w q, r = cel4 w ++ q ∧ (w = 1 ∨ w = 2 ∨ w = 9)
structure DOk (d : NdD) : Prop where
  nm : ZF d.2.1
  pr : ∀ q ∈ d.2.2, R32 q.1 ∧ q.2.size < 4294967296
theorem prs_split : ∀ (l m : List PrD) (r q : List Int), (∀ x ∈ l, R32 x.1 ∧ x.2.size < 4294967296) → (∀ x ∈ m, R32 x.1 ∧ x.2.size < 4294967296) → Hd r → Hd q → l.flatMap prB ++ r = m.flatMap prB ++ q → l = m ∧ r = q := by
  have no : ∀ (x : PrD) (m : List PrD) (r q : List Int), Hd r → ¬ r = (x :: m).flatMap prB ++ q := by
    intro x m r q ⟨w, z, hr, hw⟩ h
    rw [hr, List.flatMap_cons] at h
    unfold prB at h
    rw [celO_cons, List.append_assoc, List.append_assoc] at h
    have h1 : R32 w := by unfold R32; omega
    have := (cel_head h1 (by unfold R32; omega) h).1
    omega
  intro l
  induction l with
  | nil =>
    intro m r q _ _ hr _ h
    cases m with
    | nil => exact ⟨rfl, h⟩
    | cons x m => exact absurd h (no x m r q hr)
  | cons x l ih =>
    intro m r q hl hm hr hq h
    cases m with
    | nil => exact absurd h.symm (no x l q r hq)
    | cons y m =>
      rw [List.flatMap_cons, List.flatMap_cons] at h
      unfold prB at h
      simp only [celO_cons, List.append_assoc] at h
      obtain ⟨hx1, hx2⟩ := hl x (by simp)
      obtain ⟨hy1, hy2⟩ := hm y (by simp)
      obtain ⟨_, h2⟩ := cel_head (by unfold R32; omega) (by unfold R32; omega) h
      obtain ⟨h3, h4⟩ := cel_head (by unfold R32; omega) (by unfold R32; omega) h2
      obtain ⟨h5, h6⟩ := cel_head hx1 hy1 h4
      have h7 : padL (bL x.2) ++ (l.flatMap prB ++ r) = padL (bL y.2) ++ (m.flatMap prB ++ q) := h6
      obtain ⟨h8, h9⟩ := val_split (by omega) h7
      obtain ⟨h10, h11⟩ := ih m r q (fun z hz => hl z (by simp [hz])) (fun z hz => hm z (by simp [hz])) hr hq h9
      exact ⟨by rw [h10, show x = y from Prod.ext h5 h8], h11⟩
/-- As many ends. -/
theorem run_split : ∀ (a b : Nat) (u v : Int) (r q : List Int), R32 u → R32 v → u ≠ 2 → v ≠ 2 → celO (List.replicate a 2) ++ (cel4 u ++ r) = celO (List.replicate b 2) ++ (cel4 v ++ q) → a = b ∧ u = v ∧ r = q := by
  intro a
  induction a with
  | zero =>
    intro b u v r q hu hv hu2 hv2 h
    cases b with
    | zero =>
      obtain ⟨h1, h2⟩ := cel_head hu hv h
      exact ⟨rfl, h1, h2⟩
    | succ b =>
      exfalso
      rw [List.replicate_succ, celO_cons, List.append_assoc] at h
      exact hu2 (cel_head hu (by unfold R32; omega) h).1
  | succ a ih =>
    intro b u v r q hu hv hu2 hv2 h
    cases b with
    | zero =>
      exfalso
      rw [List.replicate_succ, celO_cons, List.append_assoc] at h
      exact hv2 (cel_head (by unfold R32; omega) hv h).1.symm
    | succ b =>
      rw [List.replicate_succ, List.replicate_succ, celO_cons, celO_cons, List.append_assoc, List.append_assoc] at h
      obtain ⟨h1, h2, h3⟩ := ih b u v r q hu hv hu2 hv2 (cel_head (by unfold R32; omega) (by unfold R32; omega) h).2
      exact ⟨by rw [h1], h2, h3⟩
theorem st_hd (X : List NdD) (e : Nat) : Hd (stB X e) := by
  have two : ∀ (c : Nat) (w : Int) (r : List Int), (w = 1 ∨ w = 9) → Hd (celO (List.replicate c 2) ++ (cel4 w ++ r)) := by
    intro c w r hw
    cases c with
    | zero => exact ⟨w, r, rfl, by omega⟩
    | succ c => exact ⟨2, _, by rw [List.replicate_succ, celO_cons, List.append_assoc], by omega⟩
  unfold stB
  cases X with
  | nil =>
    have := two e 9 [] (by omega)
    rw [List.append_nil] at this
    rw [celO_one]
    exact this
  | cons d X =>
    rw [List.flatMap_cons]
    unfold ndB
    rw [celO_one, List.append_assoc, List.append_assoc, List.append_assoc]
    exact two _ 1 _ (by omega)
theorem st_inj : ∀ (X Y : List NdD) (e f : Nat), (∀ d ∈ X, DOk d) → (∀ d ∈ Y, DOk d) → stB X e = stB Y f → X = Y ∧ e = f := by
  have fin : ∀ (Y : List NdD) (e f : Nat), stB [] e = stB Y f → [] = Y ∧ e = f := by
    intro Y e f h
    cases Y with
    | nil =>
      unfold stB at h
      simp only [List.flatMap_nil, List.nil_append, celO_one] at h
      have h2 := run_split e f 9 9 [] [] (by unfold R32; omega) (by unfold R32; omega) (by decide) (by decide) (by rw [List.append_nil]; exact h)
      exact ⟨rfl, h2.1⟩
    | cons d Y =>
      exfalso
      unfold stB at h
      rw [List.flatMap_cons] at h
      unfold ndB at h
      simp only [List.flatMap_nil, List.nil_append, celO_one, List.append_assoc] at h
      have h2 := run_split e d.1 9 1 [] _ (by unfold R32; omega) (by unfold R32; omega) (by decide) (by decide) (by rw [List.append_nil]; exact h)
      exact absurd h2.2.1 (by decide)
  intro X
  induction X with
  | nil => intro Y e f _ _ h; exact fin Y e f h
  | cons d X ih =>
    intro Y e f hX hY h
    cases Y with
    | nil =>
      obtain ⟨h1, _⟩ := fin (d :: X) f e h.symm
      cases h1
    | cons g Y =>
      unfold stB at h
      rw [List.flatMap_cons, List.flatMap_cons] at h
      unfold ndB at h
      simp only [celO_one, List.append_assoc] at h
      obtain ⟨h1, _, h2⟩ := run_split d.1 g.1 1 1 _ _ (by unfold R32; omega) (by unfold R32; omega) (by decide) (by decide) h
      have hd := hX d (by simp)
      have hg := hY g (by simp)
      obtain ⟨h3, h4⟩ := txt_split hd.nm hg.nm h2
      have e1 : ∀ (Z : List NdD) (k : Nat), Z.flatMap (fun d => celO (List.replicate d.1 2) ++ (cel4 1 ++ (padL (bL d.2.1 ++ [0]) ++ d.2.2.flatMap prB))) ++ (celO (List.replicate k 2) ++ cel4 9) = stB Z k := fun Z k => by
        unfold stB ndB
        simp only [celO_one]
      rw [e1 X e, e1 Y f] at h4
      obtain ⟨h5, h6⟩ := prs_split _ _ _ _ hd.pr hg.pr (st_hd X e) (st_hd Y f) h4
      obtain ⟨h7, h8⟩ := ih Y e f (fun z hz => hX z (by simp [hz])) (fun z hz => hY z (by simp [hz])) h6
      refine ⟨?_, h8⟩
      rw [h7, show d = g from Prod.ext h1 (Prod.ext h3 h5)]

theorem apV_al {b : List Int} (h : 4 ∣ b.length) (v : ByteArray) : apV b v = b ++ padL (bL v) := by
  unfold apV padL
  rw [List.length_append, al_add h, List.append_assoc, show b.length + alN (bL v).length - (b.length + (bL v).length) = alN (bL v).length - (bL v).length by omega]
theorem bL_z (s : ByteArray) : bL (s ++ zro) = bL s ++ [0] := by
  unfold bL
  have e : (s ++ zro).data.toList = s.data.toList ++ [0] := by
    obtain ⟨l, rfl⟩ : ∃ l, s = B l := ⟨s.data.toList, rfl⟩
    show (B l ++ B [0]).data.toList = _
    rw [B_append]
  rw [e, List.map_append]
  rfl
theorem apT_al {b : List Int} (h : 4 ∣ b.length) (s : ByteArray) : apT b s = b ++ padL (bL s ++ [0]) := by
  unfold apT
  rw [apV_al h, bL_z]
def plc (b : B8) (p : Pt) : Int := (kn (nwM b.2.1 b.2.2 p.1) p.1).getD 0
def prD : B8 → List Pt → List PrD
  | _, [] => []
  | b, p :: r => (plc b p, p.2) :: prD (b8P b p) r
theorem b8P_B (b : B8) (p : Pt) (h : 4 ∣ b.1.length) : (b8P b p).1 = b.1 ++ prB (plc b p, p.2) := by
  unfold b8P prB
  dsimp only
  rw [apV_al (by rw [List.length_append, celO_length]; show 4 ∣ _ + 4 * 3; omega), List.append_assoc]
  rfl
theorem b8P_dv (b : B8) (p : Pt) (h : 4 ∣ b.1.length) : 4 ∣ (b8P b p).1.length := by
  rw [b8P_len b p h]
  unfold szP
  have := al_mod p.2.size
  omega
theorem prD_B : ∀ (l : List Pt) (b : B8), 4 ∣ b.1.length → (l.foldl b8P b).1 = b.1 ++ (prD b l).flatMap prB := by
  intro l
  induction l with
  | nil => intro b _; exact (List.append_nil _).symm
  | cons p l ih =>
    intro b h
    rw [List.foldl_cons, ih _ (b8P_dv b p h), b8P_B b p h]
    show _ = b.1 ++ ((plc b p, p.2) :: prD (b8P b p) l).flatMap prB
    rw [List.flatMap_cons, List.append_assoc]
def dN (ns : List Nd) (j : Nat) : NdD := (cnB ns j, (ndAt ns j).2.1, prD (b8B ns (b8G ns j) j) (ndAt ns j).2.2)
def datG (ns : List Nd) (i : Nat) : List NdD := (List.range i).map (dN ns)
theorem dat_G (ns : List Nd) : ∀ i, i ≤ ns.length → (b8G ns i).1 = (datG ns i).flatMap ndB := by
  intro i
  induction i with
  | zero => intro _; rfl
  | succ i ih =>
    intro hi
    have h1 := ih (by omega)
    obtain ⟨_, h2⟩ := b8G_len (ns := ns) i (by omega)
    have h3 : 4 ∣ (b8B ns (b8G ns i) i).1.length := by
      rw [b8B_len ns _ i h2]
      have := al_mod ((ndAt ns i).2.1.size + 1)
      omega
    show (b8N ns (b8G ns i) i).1 = _
    unfold b8N datG
    rw [prD_B _ _ h3, List.range_succ, List.map_append, List.flatMap_append]
    have e : (b8B ns (b8G ns i) i).1 = (b8G ns i).1 ++ (celO (List.replicate (cnB ns i) 2) ++ (celO [1] ++ padL (bL (ndAt ns i).2.1 ++ [0]))) := by
      unfold b8B
      dsimp only
      rw [apT_al (by rw [List.length_append, List.length_append, celO_length, celO_length]; show 4 ∣ _ + _ + 4 * 1; omega)]
      simp only [List.append_assoc]
    rw [e, h1]
    unfold datG
    rw [List.map_singleton, List.flatMap_singleton]
    unfold ndB dN
    simp only [List.append_assoc]
theorem dat_S (ns : List Nd) : b8S ns = stB (datG ns ns.length) (dpV ns (ns.length - 1) + 1) := by
  unfold b8S stB
  rw [dat_G ns _ (Nat.le_refl _), List.append_assoc]

/-! Places of names. -/
def EdZ (u : List Int) : Prop := u = [] ∨ ∃ w, u = w ++ [0]
structure PlOk (b : B8) : Prop where
  at' : ∀ s pl, kn b.2.2 s = some pl → ∃ u r, b.2.1 = u ++ (bL s ++ 0 :: r) ∧ pl = (u.length : Nat) ∧ EdZ u
  ed : EdZ b.2.1
def PrOk (N : List Int) (d : PrD) (p : Pt) : Prop := d.2 = p.2 ∧ ∃ u r, N = u ++ (bL p.1 ++ 0 :: r) ∧ d.1 = (u.length : Nat) ∧ EdZ u
theorem pl_step {b : B8} (h : PlOk b) (p : Pt) : PlOk (b8P b p) ∧ (∃ ext, (b8P b p).2.1 = b.2.1 ++ ext) ∧ ∃ u r, (b8P b p).2.1 = u ++ (bL p.1 ++ 0 :: r) ∧ plc b p = (u.length : Nat) ∧ EdZ u := by
  have hb : b8P b p = ((b8P b p).1, nwN b.2.1 b.2.2 p.1, nwM b.2.1 b.2.2 p.1) := rfl
  rw [hb]
  dsimp only
  unfold plc nwN nwM
  cases hk : kn b.2.2 p.1 with
  | some q =>
    dsimp only
    refine ⟨⟨h.at', h.ed⟩, ⟨[], (List.append_nil _).symm⟩, ?_⟩
    obtain ⟨u, r, h1, h2, h3⟩ := h.at' _ _ hk
    exact ⟨u, r, h1, by rw [hk]; exact h2, h3⟩
  | none =>
    dsimp only
    refine ⟨⟨fun s pl hs => ?_, .inr ⟨_, rfl⟩⟩, ⟨bL p.1 ++ [0], by rw [List.append_assoc]⟩, ⟨b.2.1, [], by rw [List.append_assoc], ?_, h.ed⟩⟩
    · have hs : kn (setE (k := .str) (v := .int .i64) p.1 (b.2.1.length : Nat) b.2.2) s = some pl := hs
      rw [kn_set] at hs
      by_cases h1 : s = p.1
      · rw [if_pos h1] at hs
        cases hs
        exact ⟨b.2.1, [], by rw [h1, List.append_assoc], rfl, h.ed⟩
      · rw [if_neg h1] at hs
        obtain ⟨u, r, h2, h3, h4⟩ := h.at' _ _ hs
        exact ⟨u, r ++ (bL p.1 ++ [0]), by show b.2.1 ++ bL p.1 ++ [0] = _; rw [h2]; simp [List.append_assoc], h3, h4⟩
    · rw [kn_set, if_pos rfl]
      rfl
theorem pr_ext {N ext : List Int} {d : PrD} {p : Pt} (h : PrOk N d p) : PrOk (N ++ ext) d p := by
  obtain ⟨h1, u, r, h2, h3, h4⟩ := h
  exact ⟨h1, u, r ++ ext, by rw [h2]; simp [List.append_assoc], h3, h4⟩
theorem pl_all : ∀ (l : List Pt) (b : B8), PlOk b → PlOk (l.foldl b8P b) ∧ (∃ ext, (l.foldl b8P b).2.1 = b.2.1 ++ ext) ∧ All2 (PrOk (l.foldl b8P b).2.1) (prD b l) l := by
  intro l
  induction l with
  | nil => intro b h; exact ⟨h, ⟨[], (List.append_nil _).symm⟩, .nil⟩
  | cons p l ih =>
    intro b h
    obtain ⟨h1, ⟨e1, h2⟩, u, r, h3, h4, h8⟩ := pl_step h p
    obtain ⟨h5, ⟨e2, h6⟩, h7⟩ := ih _ h1
    refine ⟨h5, ⟨e1 ++ e2, by rw [List.foldl_cons, h6, h2, List.append_assoc]⟩, .cons ?_ h7⟩
    rw [List.foldl_cons, h6]
    exact pr_ext ⟨rfl, u, r, h3, h4, h8⟩
theorem pl_g (ns : List Nd) : ∀ i, i ≤ ns.length → PlOk (b8G ns i) ∧ ∀ j, j < i → All2 (PrOk (b8G ns i).2.1) (dN ns j).2.2 (ndAt ns j).2.2 := by
  intro i
  induction i with
  | zero => intro _; exact ⟨⟨(fun s pl h => by cases h), .inl rfl⟩, fun j hj => absurd hj (Nat.not_lt_zero j)⟩
  | succ i ih =>
    intro hi
    obtain ⟨h1, h2⟩ := ih (by omega)
    have hb : PlOk (b8B ns (b8G ns i) i) := ⟨h1.at', h1.ed⟩
    obtain ⟨h3, ⟨ext, h4⟩, h5⟩ := pl_all (ndAt ns i).2.2 _ hb
    refine ⟨h3, fun j hj => ?_⟩
    by_cases hji : j = i
    · subst hji
      exact h5
    · have h6 : (b8G ns (i + 1)).2.1 = (b8G ns i).2.1 ++ ext := h4
      rw [h6]
      exact (h2 j (by omega)).mono fun _ _ h => pr_ext h
theorem pr_uni {N : List Int} {d : PrD} {p q : Pt} (hp : ZF p.1) (hq : ZF q.1) (h : PrOk N d p) (k : PrOk N d q) : p = q := by
  obtain ⟨h1, u, r, h2, h3, _⟩ := h
  obtain ⟨k1, v, s, k2, k3, _⟩ := k
  rw [h2] at k2
  obtain ⟨_, k4⟩ := List.append_inj k2 (by omega)
  obtain ⟨k5, _⟩ := zf_split _ _ _ _ hp hq k4
  exact Prod.ext (bL_inj k5) (h1.symm.trans k1)
theorem prs_uni {N : List Int} : ∀ {D : List PrD} {l m : List Pt}, All2 (PrOk N) D l → All2 (PrOk N) D m → (∀ p ∈ l, ZF p.1) → (∀ p ∈ m, ZF p.1) → l = m := by
  intro D
  induction D with
  | nil => intro l m h k _ _; cases h; cases k; rfl
  | cons d D ih =>
    intro l m h k hl hm
    cases h with
    | cons h1 h2 =>
      cases k with
      | cons k1 k2 =>
        rw [pr_uni (hl _ (by simp)) (hm _ (by simp)) h1 k1, ih h2 k2 (fun p hp => hl p (by simp [hp])) (fun p hp => hm p (by simp [hp]))]

/-! Names have no zero bytes. -/
theorem zf_all {l : List UInt8} (h : l.all (fun u : UInt8 => nameB ((u.toNat : Nat) : Int)) = true) : ZF (B l) := by
  intro x hx
  unfold bL at hx
  obtain ⟨u, hu, rfl⟩ := List.mem_map.1 hx
  have h1 := List.all_eq_true.1 h u hu
  intro h2
  have h3 : ((u.toNat : Nat) : Int) = 0 := h2
  rw [h3] at h1
  exact absurd h1 (by decide +kernel)
theorem zf_nam {s : ByteArray} (h : namB s = true) : ZF s := by
  obtain ⟨l, rfl⟩ : ∃ l, s = B l := ⟨s.data.toList, rfl⟩
  cases l with
  | nil => rw [namB_nil] at h; cases h
  | cons a r =>
    rw [namB_cons] at h
    obtain ⟨_, h2⟩ := Bool.and_eq_true_iff.1 h
    exact zf_all (by rw [List.all_cons]; exact h2)
theorem zf_prp {s : ByteArray} (h : prpB s = true) : ZF s := by
  rw [← prp_same] at h
  obtain ⟨l, rfl⟩ : ∃ l, s = B l := ⟨s.data.toList, rfl⟩
  unfold rPrp at h
  split at h
  · cases h
  · split at h
    · cases h
    · split at h
      · rename_i h35
        cases l with
        | nil => intro x hx; cases hx
        | cons a r =>
          have e1 : (B (a :: r)).extract 1 (B (a :: r)).size = B r := by
            rw [B_extract, B_size]
            simp
          have f1 : (⟨#[97]⟩ ++ B r : ByteArray) = B (97 :: r) := by show B [97] ++ B r = _; rw [B_append]; rfl
          rw [e1, f1] at h
          have ha : ((a.toNat : Nat) : Int) = 35 := h35
          have hr : ZF (B r) := by
            rcases Bool.or_eq_true_iff.1 h with h1 | h1
            · have h2 : (((B (a :: r)).size : Nat) : Int) = 1 := of_decide_eq_true h1
              have h3 : (((r.length + 1 : Nat) : Nat) : Int) = 1 := h2
              have : r = [] := List.length_eq_zero_iff.1 (by omega)
              subst this
              intro x hx
              cases hx
            · rw [namB_cons] at h1
              obtain ⟨_, h2⟩ := Bool.and_eq_true_iff.1 h1
              exact zf_all (Bool.and_eq_true_iff.1 h2).2
          intro x hx
          have hx : x ∈ ((a.toNat : Nat) : Int) :: bL (B r) := hx
          rcases List.mem_cons.1 hx with h4 | h4
          · rw [h4, ha]; decide
          · exact hr x h4
      · exact zf_nam h

theorem vl_zf {ns : List Nd} (hf : FrmT ns) {i : Nat} (hi : i < ns.length) : ZF (ndAt ns i).2.1 ∧ ∀ p ∈ (ndAt ns i).2.2, ZF p.1 := by
  refine ⟨?_, fun p hp => zf_prp (List.all_eq_true.1 (frm_ps hf.frm hi) p hp)⟩
  rcases Nat.eq_zero_or_pos i with h0 | h0
  · subst h0
    have h6 := frm_nd hf.frm hi
    unfold ndFrm at h6
    obtain ⟨h7, _⟩ := Bool.and_eq_true_iff.1 h6
    obtain ⟨h8, _⟩ := Bool.and_eq_true_iff.1 h7
    simp at h8
    rw [h8.2]
    intro x hx
    cases hx
  · exact zf_nam (frm_nam hf.frm h0 hi)
theorem dat_at (ns : List Nd) {i : Nat} (hi : i < ns.length) : (datG ns ns.length)[i]? = some (dN ns i) := by
  unfold datG
  simp [hi]
theorem dat_len (ns : List Nd) : (datG ns ns.length).length = ns.length := by
  unfold datG
  simp
theorem dat_ok {ns : List Nd} (hv : Vl ns) : ∀ d ∈ datG ns ns.length, DOk d := by
  intro d hd
  unfold datG at hd
  obtain ⟨i, hi, rfl⟩ := List.mem_map.1 hd
  have hi := List.mem_range.1 hi
  obtain ⟨_, h2⟩ := pl_g ns ns.length (Nat.le_refl _)
  have h3 := h2 i hi
  have hz := vl_sz hv.f hi
  obtain ⟨_, hN⟩ := b8_lens hv
  have hN : (b8G ns ns.length).2.1.length ≤ 100000 := hN
  refine ⟨(vl_zf hv.f hi).1, fun q hq => ?_⟩
  obtain ⟨k, hk, rfl⟩ := List.getElem_of_mem hq
  obtain ⟨p, hp, h4, u, r, h5, h6, _⟩ := h3.get (List.getElem?_eq_getElem hk)
  have h7 := hz.pn p (List.mem_of_getElem? hp)
  have h8 := congrArg List.length h5
  rw [List.length_append] at h8
  refine ⟨?_, by rw [h4]; omega⟩
  rw [h6]
  unfold R32
  omega
/-- Where a node hangs is told by how many nodes end before it. -/
theorem par_of {ns : List Nd} (hv : Vl ns) {m : Nat} (hm : m + 1 < ns.length) : (cnB ns (m + 1) = 0 ∧ (ndAt ns (m + 1)).1 = (m : Int)) ∨ ∃ t, cnB ns (m + 1) = t + 1 ∧ (ndAt ns (m + 1)).1 = (ndAt ns (upN ns t m)).1 := by
  have hf := hv.f
  have hc : cnB ns (m + 1) = dpV ns m + 1 - dpV ns (m + 1) := if_neg (by omega)
  obtain ⟨p1, p2⟩ := par_lt hf.par (j := m + 1) (by omega) hm
  have hd := dp_par hf (j := m + 1) (by omega) hm
  rcases vl_flw hv hm with h | ⟨t, h1, h2, _⟩
  · rw [h] at p2 hd
    exact .inl ⟨by rw [hc]; omega, p2.symm⟩
  · have hul : upN ns t m ≤ m := up_le hf t m
    obtain ⟨q1, q2⟩ := par_lt hf.par h1 (by omega)
    have e : (ndAt ns (m + 1)).1 = (ndAt ns (upN ns t m)).1 := by rw [← p2, ← q2, h2]
    have hd1 := dp_upN hf t m (by omega) (up_pos hf h1)
    have hd2 := dp_par hf h1 (by omega)
    rw [h2] at hd2
    exact .inr ⟨t, by rw [hc]; omega, e⟩
theorem up_sam8 {x y : List Nd} (hx : FrmT x) (n : Nat) (h : ∀ i, i ≤ n → (ndAt x i).1 = (ndAt y i).1) : ∀ t j, j ≤ n → upN x t j = upN y t j := by
  intro t
  induction t with
  | zero => intro j _; rfl
  | succ t ih =>
    intro j hj
    show upN x t (paN x j) = upN y t (paN y j)
    have h1 : paN x j = paN y j := by
      unfold paN paI
      rw [h j hj]
    have h2 := par_le hx j
    rw [← h1]
    exact ih _ (by omega)
theorem par_same {x y : List Nd} (hx : Vl x) (hy : Vl y) (hl : x.length = y.length) (hc : ∀ i, i < x.length → cnB x i = cnB y i) : ∀ n, n < x.length → ∀ i, i ≤ n → (ndAt x i).1 = (ndAt y i).1 := by
  intro n
  induction n with
  | zero =>
    intro _ i hi
    obtain rfl : i = 0 := by omega
    rw [vl_pa0 hx.f, vl_pa0 hy.f]
  | succ n ih =>
    intro hn i hi
    have h1 := ih (by omega)
    by_cases hin : i = n + 1
    · subst hin
      have hcn := hc (n + 1) hn
      rcases par_of hx hn with ⟨a1, a2⟩ | ⟨t, a1, a2⟩
      · rcases par_of hy (m := n) (by omega) with ⟨b1, b2⟩ | ⟨u, b1, b2⟩
        · rw [a2, b2]
        · omega
      · rcases par_of hy (m := n) (by omega) with ⟨b1, b2⟩ | ⟨u, b1, b2⟩
        · omega
        · obtain rfl : t = u := by omega
          rw [a2, b2, ← up_sam8 hx.f n h1 t n (Nat.le_refl _)]
          exact h1 _ (up_le hx.f t n)
    · exact h1 i (by omega)
theorem str_inj {x y : List Nd} (hx : Vl x) (hy : Vl y) (hS : b8S x = b8S y) (hN : b8L x = b8L y) : x = y := by
  rw [dat_S, dat_S] at hS
  obtain ⟨hD, _⟩ := st_inj _ _ _ _ (dat_ok hx) (dat_ok hy) hS
  have hl : x.length = y.length := by rw [← dat_len x, ← dat_len y, hD]
  have hd : ∀ i, i < x.length → dN x i = dN y i := fun i hi => by
    have h1 := dat_at x hi
    have h2 := dat_at y (i := i) (by omega)
    rw [hD, h2] at h1
    exact (Option.some.inj h1).symm
  have hp := par_same hx hy hl fun i hi => congrArg Prod.fst (hd i hi)
  refine List.ext_getElem hl fun i h1 h2 => ?_
  rw [← nd_at' h1, ← nd_at' h2]
  have e1 : (ndAt x i).1 = (ndAt y i).1 := hp i h1 i (Nat.le_refl _)
  have e2 : (ndAt x i).2.1 = (ndAt y i).2.1 := congrArg (fun d : NdD => d.2.1) (hd i h1)
  have e3 : (ndAt x i).2.2 = (ndAt y i).2.2 := by
    have a1 := (pl_g x x.length (Nat.le_refl _)).2 i h1
    have a2 := (pl_g y y.length (Nat.le_refl _)).2 i h2
    have hN : (b8G x x.length).2.1 = (b8G y y.length).2.1 := hN
    rw [hN, hd i h1] at a1
    exact prs_uni a1 a2 (vl_zf hx.f h1).2 (vl_zf hy.f h2).2
  exact Prod.ext e1 (Prod.ext e2 e3)
theorem enc_inj {x y : List Nd} (hx : Vl x) (hy : Vl y) (h : encV x = encV y) : x = y := by
  obtain ⟨a1, a2⟩ := b8_lens hx
  obtain ⟨c1, c2⟩ := b8_lens hy
  unfold encV encL at h
  simp only [List.append_assoc] at h
  obtain ⟨h1, h2⟩ := List.append_inj h (by rw [hd24_len, hd24_len])
  unfold hd24 hdL at h1
  simp only [List.nil_append, celO_cons] at h1
  obtain ⟨_, h3⟩ := List.append_inj h1 (by simp only [cel4_len])
  obtain ⟨_, h4⟩ := List.append_inj h3 (by simp only [cel4_len])
  obtain ⟨h5, _⟩ := cel_head (by unfold R32; omega) (by unfold R32; omega) h4
  obtain ⟨_, h6⟩ := List.append_inj h2 (by simp only [celO_one, cel4_len])
  obtain ⟨h7, h8⟩ := List.append_inj h6 (by omega)
  exact str_inj hx hy h7 h8

/-! Bytes. -/
theorem bt_app {a b : List Int} (ha : BtL a) (hb : BtL b) : BtL (a ++ b) := fun z hz => by
  rcases List.mem_append.1 hz with h | h
  · exact ha z h
  · exact hb z h
theorem bt_cel (l : List Int) : BtL (celO l) := by
  intro z hz
  unfold celO at hz
  obtain ⟨n, _, h⟩ := List.mem_flatMap.1 hz
  rw [cel4_eq] at h
  simp only [List.mem_cons, List.not_mem_nil, or_false] at h
  omega
theorem bt_bL (s : ByteArray) : BtL (bL s) := by
  intro z hz
  unfold bL at hz
  obtain ⟨u, _, rfl⟩ := List.mem_map.1 hz
  have := u.toNat_lt
  omega
theorem bt_pad {l : List Int} (h : BtL l) : BtL (padL l) := by
  refine bt_app h fun z hz => ?_
  rw [(List.mem_replicate.1 hz).2]
  decide
theorem bt_S (ns : List Nd) : BtL (b8S ns) := by
  rw [dat_S]
  unfold stB
  refine bt_app (fun z hz => ?_) (bt_app (bt_cel _) (bt_cel _))
  obtain ⟨d, _, h⟩ := List.mem_flatMap.1 hz
  have : BtL (ndB d) := by
    unfold ndB
    refine bt_app (bt_cel _) (bt_app (bt_cel _) (bt_app (bt_pad (bt_app (bt_bL _) fun z hz => ?_)) fun z hz => ?_))
    · rw [List.mem_singleton.1 hz]
      decide
    · obtain ⟨q, _, h⟩ := List.mem_flatMap.1 hz
      exact (bt_app (bt_cel _) (bt_pad (bt_bL _))) z h
  exact this z h
theorem bt_N {ns : List Nd} (hv : Vl ns) : BtL (b8L ns) := by
  rw [(law_sz hv).2]
  intro z hz
  unfold nmB at hz
  obtain ⟨s, _, h⟩ := List.mem_flatMap.1 hz
  rcases List.mem_append.1 h with h | h
  · exact bt_bL s z h
  · rw [List.mem_singleton.1 h]
    decide
theorem bt_enc {ns : List Nd} (hv : Vl ns) : BtL (encV ns) := by
  unfold encV encL hd24
  exact bt_app (bt_app (bt_app (bt_app (fun z hz => by cases hz) (bt_cel _)) (bt_cel _)) (bt_S ns)) (bt_N hv)
theorem bof_inj {a b : List Int} (ha : BtL a) (hb : BtL b) (h : bytesOf a = bytesOf b) : a = b := by
  have key : ∀ l : List Int, BtL l → bL (bytesOf l) = l := fun l hl => by
    unfold bL bytesOf
    show (l.map fun n => UInt8.ofNat n.toNat).map (fun b : UInt8 => (b.toNat : Int)) = l
    rw [List.map_map]
    conv => rhs; rw [← List.map_id l]
    refine List.map_congr_left fun z hz => ?_
    have := hl z hz
    show ((UInt8.ofNat z.toNat).toNat : Int) = z
    rw [UInt8.toNat_ofNat']
    omega
  rw [← key a ha, ← key b hb, h]
end Go.Ab
