/- BlobSizes: the law's own account of names and sizes. -/
import Derived.Test.YtidnfbnpndnnoaaTY158toY161
namespace Go.Ab
open Go.Proofs
set_option linter.unusedSectionVars false
set_option maxRecDepth 100000
variable [Base]

def inL (L : List ByteArray) (s : ByteArray) : Bool := L.any fun y => decide (y = s)
theorem inL_app (L : List ByteArray) (x s : ByteArray) : inL (L ++ [x]) s = (inL L s || decide (x = s)) := by
  unfold inL
  rw [List.any_append]
  simp
theorem inL_drop {L : List ByteArray} {j : Nat} (h : j < L.length) (s : ByteArray) : inL (L.drop j) s = (decide (L[j] = s) || inL (L.drop (j + 1)) s) := by
  rw [List.drop_eq_getElem_cons h]
  rfl
abbrev Ls : Type := Nat × List ByteArray
def lwP (st : Ls) (p : Pt) : Ls := if inL st.2 p.1 = true then (st.1 + szP p, st.2) else (st.1 + szP p + p.1.size + 1, st.2 ++ [p.1])
def lwN (st : Ls) (n : Nd) : Ls := n.2.2.foldl lwP (st.1 + (8 + alN (n.2.1.size + 1)), st.2)
theorem lwP_le (st : Ls) (p : Pt) : st.1 + szP p ≤ (lwP st p).1 := by
  unfold lwP
  split
  · exact Nat.le_refl _
  · dsimp only
    omega
theorem lwPs_le : ∀ (l : List Pt) (st : Ls), st.1 ≤ (l.foldl lwP st).1 := by
  intro l
  induction l with
  | nil => intro st; exact Nat.le_refl _
  | cons p l ih => intro st; have := ih (lwP st p); have := lwP_le st p; rw [List.foldl_cons]; omega
theorem lwNs_le : ∀ (l : List Nd) (st : Ls), st.1 ≤ (l.foldl lwN st).1 := by
  intro l
  induction l with
  | nil => intro st; exact Nat.le_refl _
  | cons n l ih =>
    intro st
    have h1 := ih (lwN st n)
    have h2 := lwPs_le n.2.2 (st.1 + (8 + alN (n.2.1.size + 1)), st.2)
    have h3 : (lwN st n).1 = (n.2.2.foldl lwP (st.1 + (8 + alN (n.2.1.size + 1)), st.2)).1 := rfl
    rw [List.foldl_cons]
    dsimp only at h2
    omega

/-! The strings are these names. -/
def nmB (L : List ByteArray) : List Int := L.flatMap fun s => bL s ++ [0]
theorem nmB_app (L : List ByteArray) (s : ByteArray) : nmB (L ++ [s]) = nmB L ++ bL s ++ [0] := by
  unfold nmB
  rw [List.flatMap_append, List.flatMap_singleton, List.append_assoc]
theorem kn_set (M : PlE) (s t : ByteArray) (x : Int) : kn (setE (k := .str) (v := .int .i64) s x M) t = if t = s then some x else kn M t := by
  induction M with
  | nil =>
    show (match decide (t = s) with | true => some x | false => none) = _
    by_cases h : t = s
    · rw [decide_eq_true h, if_pos h]
    · rw [decide_eq_false h, if_neg h]
      rfl
  | cons a M ih =>
    obtain ⟨a, y⟩ := a
    have e1 : kn ((a, y) :: M) t = if t = a then some y else kn M t := by
      show (match decide (t = a) with | true => some y | false => kn M t) = _
      by_cases h : t = a
      · rw [decide_eq_true h, if_pos h]
      · rw [decide_eq_false h, if_neg h]
    by_cases h : s = a
    · have e2 : setE (k := .str) (v := .int .i64) s x ((a, y) :: M) = (s, x) :: M := by
        show (match decide (s = a) with | true => (s, x) :: M | false => _) = _
        rw [decide_eq_true h]
      rw [e2, e1]
      show (match decide (t = s) with | true => some x | false => kn M t) = _
      by_cases h2 : t = s
      · rw [decide_eq_true h2, if_pos h2]
      · rw [decide_eq_false h2, if_neg h2, if_neg (fun h3 => h2 (h3.trans h.symm))]
    · have e2 : setE (k := .str) (v := .int .i64) s x ((a, y) :: M) = (a, y) :: setE (k := .str) (v := .int .i64) s x M := by
        show (match decide (s = a) with | true => (s, x) :: M | false => _) = _
        rw [decide_eq_false h]
      rw [e2, e1]
      show (match decide (t = a) with | true => some y | false => kn (setE (k := .str) (v := .int .i64) s x M) t) = _
      by_cases h2 : t = a
      · rw [decide_eq_true h2, if_pos h2, if_neg (fun h3 => h (h3.symm.trans h2))]
      · rw [decide_eq_false h2, if_neg h2, ih]
/-- The program's strings and places, and the law's names. -/
structure NmR (b : B8) (L : List ByteArray) : Prop where
  n : b.2.1 = nmB L
  m : ∀ s, (kn b.2.2 s).isSome = inL L s
theorem nmr_p {b : B8} {st : Ls} (h : NmR b st.2) (p : Pt) : NmR (b8P b p) (lwP st p).2 ∧ (lwP st p).1 + b.2.1.length = st.1 + szP p + (b8P b p).2.1.length := by
  have h1 := h.m p.1
  unfold b8P lwP nwN nwM
  cases hk : kn b.2.2 p.1 with
  | some q =>
    rw [hk] at h1
    have h1 : inL st.2 p.1 = true := h1.symm
    rw [if_pos h1]
    dsimp only
    exact ⟨⟨h.n, h.m⟩, rfl⟩
  | none =>
    rw [hk] at h1
    have h1 : inL st.2 p.1 = false := h1.symm
    rw [h1, if_neg (by decide)]
    dsimp only
    refine ⟨⟨?_, fun s => ?_⟩, ?_⟩
    · rw [nmB_app, h.n]
    · rw [inL_app]
      show (kn (setE _ _ b.2.2) s).isSome = _
      rw [kn_set]
      by_cases hs : s = p.1
      · rw [if_pos hs, hs]
        simp
      · rw [if_neg hs, h.m s, decide_eq_false (fun h3 => hs h3.symm), Bool.or_false]
    · rw [List.length_append, List.length_append, bL_len]
      show _ = _ + (_ + _ + 1)
      omega
theorem nmr_ps : ∀ (l : List Pt) (b : B8) (st : Ls), NmR b st.2 → NmR (l.foldl b8P b) (l.foldl lwP st).2 ∧ (l.foldl lwP st).1 + b.2.1.length = st.1 + (l.map szP).sum + (l.foldl b8P b).2.1.length := by
  intro l
  induction l with
  | nil => intro b st h; exact ⟨h, rfl⟩
  | cons p l ih =>
    intro b st h
    obtain ⟨h1, h2⟩ := nmr_p h p
    obtain ⟨h3, h4⟩ := ih (b8P b p) (lwP st p) h1
    refine ⟨h3, ?_⟩
    rw [List.foldl_cons, List.foldl_cons, List.map_cons, List.sum_cons]
    omega
theorem nmr_g (ns : List Nd) : ∀ i, i ≤ ns.length → NmR (b8G ns i) ((ns.take i).foldl lwN (32, [])).2 ∧ ((ns.take i).foldl lwN (32, [])).1 = 32 + ((ns.take i).map szN).sum + (b8G ns i).2.1.length := by
  intro i
  induction i with
  | zero => intro _; exact ⟨⟨rfl, fun _ => rfl⟩, rfl⟩
  | succ i ih =>
    intro hi
    obtain ⟨h1, h2⟩ := ih (by omega)
    have e : (ns.take (i + 1)) = ns.take i ++ [ndAt ns i] := by rw [List.take_succ_eq_append_getElem hi, nd_at' hi]
    obtain ⟨st, hst⟩ : ∃ st, (ns.take i).foldl lwN (32, []) = st := ⟨_, rfl⟩
    rw [hst] at h1 h2
    rw [e, List.foldl_append, List.map_append, List.sum_append, hst]
    have h3 : NmR (b8B ns (b8G ns i) i) (st.1 + (8 + alN ((ndAt ns i).2.1.size + 1)), st.2).2 := ⟨h1.n, h1.m⟩
    obtain ⟨h4, h5⟩ := nmr_ps (ndAt ns i).2.2 _ _ h3
    refine ⟨h4, ?_⟩
    have h6 : (b8B ns (b8G ns i) i).2.1 = (b8G ns i).2.1 := rfl
    rw [h6] at h5
    dsimp only at h5
    show (lwN st (ndAt ns i)).1 = 32 + (((ns.take i).map szN).sum + (szN (ndAt ns i) + 0)) + (b8N ns (b8G ns i) i).2.1.length
    have hz : szN (ndAt ns i) = 8 + alN ((ndAt ns i).2.1.size + 1) + ((ndAt ns i).2.2.map szP).sum := rfl
    unfold lwN b8N
    rw [hz]
    omega
theorem law_sz {ns : List Nd} (hv : Vl ns) : (ns.foldl lwN (32, [])).1 = (encV ns).length ∧ b8L ns = nmB (ns.foldl lwN (32, [])).2 := by
  obtain ⟨h1, h2⟩ := nmr_g ns ns.length (Nat.le_refl _)
  rw [List.take_length] at h1 h2
  refine ⟨?_, h1.n⟩
  rw [h2, encV_len hv]
  unfold b8L
  omega

theorem tape_nw8 (zs : List Int) : tapeOk (zs.take 500) 0 := by
  have := List.length_take_le 500 zs
  exact ⟨by decide, by decide, by omega⟩
/-- The law's expression for a multiple of 4. -/
theorem quo_n (n c : Nat) (hn : n + c ≤ 1000000000000) : IntKind.i64.wrap (((n : Int) + (c : Nat)).tdiv 4) * 4 = (((n + c) / 4 * 4 : Nat) : Int) := by
  have e : ((n : Int) + (c : Nat)) = ((n + c : Nat) : Int) := by omega
  have h1 : ((n + c : Nat) : Int).tdiv (4 : Nat) = (((n + c) / 4 : Nat) : Int) := (Int.ofNat_tdiv (n + c) 4).symm
  rw [e, show ((4 : Int)) = ((4 : Nat) : Int) from rfl, h1, wrap_i64 (by unfold inI64; omega)]
  omega
theorem lwP_ln {st : Ls} (h : st.2.length ≤ st.1) (p : Pt) : (lwP st p).2.length ≤ (lwP st p).1 := by
  unfold lwP
  split
  · dsimp only
    omega
  · rw [List.length_append]
    show _ + 1 ≤ _ + _ + _ + 1
    omega
abbrev tokS (n : Nat) : AO := .tok 9 .str n true
def saysBsz : Says := fun args H => match args, H with
  | [.c (.p (.l (.int .i64) _))], [] => some (none, .bool true, [])
  | _, _ => none
abbrev slE (ns : List Nd) (b : List Int) (size : Nat) (L : List ByteArray) (i : Nat) (a10 a12 a13 a42 a43 a44 a57 a58 a59 : XV) : Env := [(0, XV.s .none), (2, XV.s .none), (3, XV.s .none), (4, XV.s (.a (.c (.ptr 1 0)))), (5, XV.s (.a (.c (.p (.l u8C b))))), (6, XV.s (.int .i64 0)), (7, XV.s (.int .i64 (size : Nat))), (8, XV.s (.a (.c (.own 2 .str L)))), (10, a10), (12, a12), (13, a13), (15, XV.s .none), (26, XV.s (.a (.c (.p (.l ndC ns))))), (27, XV.s (.int .i64 (ns.length : Nat))), (28, XV.s (.int .i64 (i : Nat))), (29, XV.s .none), (42, a42), (43, a43), (44, a44), (45, XV.s .none), (57, a57), (58, a58), (59, a59), (60, XV.s .none), (72, XV.s .none)]
theorem id012 : ∀ k, k < 2 → [0, 1, 2][k]? = some k := fun k hk => by
  obtain rfl | rfl : k = 0 ∨ k = 1 := by omega
  all_goals rfl
def BB1 : Table := ext BA23 5 saysBsz
theorem bB1 : TSound Try.prog BB1 := by
  refine ext_run bA23 (f := 5) (fn := Try.f5) rfl rfl [0, 2, 3, 4, 5, 6, 7, 8, 10, 12, 13, 15, 26, 27, 28, 29, 42, 43, 44, 45, 57, 58, 59, 60, 72] fun args H p r' H' hs hp => ?_
  unfold saysBsz at hs
  split at hs
  · rename_i zs
    cases hs
    refine ⟨Nat.le_of_ble_eq_true rfl, [], rfl, fun k hk => absurd hk (Nat.not_lt_zero k), ?_⟩
    have ht0 := tape_nw8 zs
    generalize hz : (zs : List Int).take 500 = ys at ht0
    have hv := gr_vl ys 0 8
    have he := gr_enc ys 0 8 (by decide)
    have hle := encV_le hv
    have hsz := gr_sz ys 0 8
    obtain ⟨R, hR⟩ : ∃ R, grV ys 0 8 = R := ⟨_, rfl⟩
    rw [show ((8 : Nat) : Int) = 8 from rfl] at he hsz
    rw [hR] at hv he hle hsz
    obtain ⟨ns, x⟩ := R
    have hv : Vl ns := hv
    have he : EncV ns = (encV ns, 0) := he
    have hle : (encV ns).length ≤ 32 + 44 * ns.length + 300 * tpS ns := hle
    have hsz : ns.length ≤ 8 + 1 ∧ tpS ns ≤ 2 * 8 := hsz
    obtain ⟨hlw, _⟩ := law_sz hv
    have hlen := hv.f.len
    have q1 : tapeOk ys 0 ∧ (0 : Int) ≤ 8 ∧ (8 : Int) ≤ 100 := ⟨ht0, by decide, by decide⟩
    conv => whnf
    rw [hz]
    repeat ((conv => whnf); refine ⟨by first | exact q1 | (unfold inI64; omega) | omega | exact ⟨by omega, by omega⟩ | exact rfl | decide +kernel, ?_⟩)
    conv => whnf
    rw [hR]
    repeat ((conv => whnf); refine ⟨by first | exact ⟨rfl, hv⟩ | (unfold inI64; omega) | omega | exact ⟨by omega, by omega⟩ | exact rfl | decide +kernel, ?_⟩)
    conv => whnf
    rw [he]
    repeat ((conv => whnf); refine ⟨by first | (unfold inI64; omega) | omega | exact ⟨by omega, by omega⟩ | exact rfl | decide +kernel, ?_⟩)
    conv => whnf
    obtain ⟨F, hF⟩ : ∃ F, ns.foldl lwN (32, []) = F := ⟨_, rfl⟩
    rw [hF] at hlw
    refine loop_weak (σ := Nat × Ls) (fun ⟨i, st⟩ => slE ns (encV ns) st.1 st.2 i (XV.s .none) (XV.s .none) (XV.s .none) (XV.s .none) (XV.s .none) (XV.s .none) (XV.s .none) (XV.s .none) (XV.s .none))
      (fun ⟨_, st⟩ => [tapeO ys x, .row [.p (.l ndC ns)], tokS st.2.length]) (fun ⟨i, st⟩ => i ≤ ns.length ∧ (ns.drop i).foldl lwN st = F ∧ st.2.length ≤ st.1) (fun ⟨i, _⟩ => ns.length - i) (0, 32, []) ?_ ⟨Nat.zero_le _, hF, Nat.zero_le _⟩ ?_
    · refine Weak.own 9 ?_
      repeat (first | exact OwnL.nil | refine OwnL.drop ?_ | refine OwnL.same ?_ | refine OwnL.own ?_)
    rintro ⟨i, size, L⟩ ⟨hi, hgo, hll⟩
    have hll : L.length ≤ size := hll
    repeat ((conv => whnf); refine ⟨by first | (unfold inI64; omega) | omega | exact ⟨by omega, by omega⟩ | exact rfl | decide +kernel, ?_⟩)
    conv => whnf
    refine cond_intro (fun h => ?_) (fun h => ?_)
    · have hlt : i < ns.length := lt_of_dec h
      have hin : 0 ≤ (i : Int) ∧ (i : Int) < (ns.length : Nat) := by omega
      rw [List.drop_eq_getElem_cons hlt, ← nd_at' hlt, List.foldl_cons] at hgo
      obtain ⟨nd, hnd⟩ : ∃ nd, ndAt ns i = nd := ⟨_, rfl⟩
      have hzz := vl_sz hv.f hlt
      rw [hnd] at hgo hzz
      have hnm := hzz.nm
      have hs0 : size + (8 + alN (nd.2.1.size + 1)) ≤ 6000 := by
        have h1 := lwNs_le (ns.drop (i + 1)) (lwN (size, L) nd)
        rw [hgo] at h1
        have h2 := lwPs_le nd.2.2 (size + (8 + alN (nd.2.1.size + 1)), L)
        have h3 : (lwN (size, L) nd).1 = (nd.2.2.foldl lwP (size + (8 + alN (nd.2.1.size + 1)), L)).1 := rfl
        dsimp only at h2
        omega
      have hq : IntKind.i64.wrap ((((nd.2.1.size : Nat) : Int) + 4).tdiv 4) * 4 = ((alN (nd.2.1.size + 1) : Nat) : Int) := quo_n nd.2.1.size 4 (by omega)
      have o1 : inI64 (((nd.2.1.size : Nat) : Int) + 4) := by unfold inI64; omega
      have o3 : inI64 (IntKind.i64.wrap ((((nd.2.1.size : Nat) : Int) + 4).tdiv 4) * 4) := by rw [hq]; unfold inI64; omega
      have o4 : inI64 (8 + IntKind.i64.wrap ((((nd.2.1.size : Nat) : Int) + 4).tdiv 4) * 4) := by rw [hq]; unfold inI64; omega
      have o5 : inI64 (((size : Nat) : Int) + (8 + IntKind.i64.wrap ((((nd.2.1.size : Nat) : Int) + 4).tdiv 4) * 4)) := by rw [hq]; unfold inI64; omega
      have hnd' : ns.getD ((i : Int)).toNat ndC.dflt = nd := hnd
      conv => whnf
      refine ⟨hin, ?_⟩
      conv => whnf
      rw [hnd']
      repeat ((conv => whnf); refine ⟨by first | exact o1 | exact o3 | exact o4 | exact o5 | (unfold inI64; omega) | omega | exact ⟨by omega, by omega⟩ | exact rfl | decide +kernel, ?_⟩)
      conv => whnf
      rw [hq]
      obtain ⟨ps, hps⟩ : ∃ ps : List Pt, nd.2.2 = ps := ⟨_, rfl⟩
      have hpl : ps.length ≤ 24 := by rw [← hps]; exact hzz.pl
      have hpn : ∀ p ∈ ps, p.1.size ≤ 31 ∧ p.2.size ≤ 256 := by rw [← hps]; exact hzz.pn
      have hR2 : ps.foldl lwP (size + (8 + alN (nd.2.1.size + 1)), L) = lwN (size, L) nd := by rw [← hps]; rfl
      have hbd : (lwN (size, L) nd).1 ≤ 6000 := by
        have h1 := lwNs_le (ns.drop (i + 1)) (lwN (size, L) nd)
        rw [hgo] at h1
        omega
      rw [hps]
      refine loop_intro (σ := Nat × Ls) (fun ⟨k, st⟩ => slE ns (encV ns) st.1 st.2 i (XV.s .none) (XV.s .none) (XV.s .none) (XV.s (.a (.c (.p (.l ptC ps))))) (XV.s (.int .i64 (ps.length : Nat))) (XV.s (.int .i64 (k : Nat))) (XV.s .none) (XV.s .none) (XV.s .none))
        (fun ⟨_, st⟩ => [tapeO ys x, .row [.p (.l ndC ns)], tokS st.2.length, .row [.int .i64 nd.1, .str nd.2.1, .p (.l ptC ps)]]) (fun ⟨k, st⟩ => k ≤ ps.length ∧ (ps.drop k).foldl lwP st = lwN (size, L) nd ∧ st.2.length ≤ st.1) (fun ⟨k, _⟩ => ps.length - k) (0, size + (8 + alN (nd.2.1.size + 1)), L) ?_ rfl ⟨Nat.zero_le _, hR2, by show L.length ≤ _ + _; omega⟩ ?_
      · repeat (first | exact LeL.nil | refine LeL.drop ?_ | refine LeL.same ?_)
      rintro ⟨k, sz, L⟩ ⟨hk, hgo2, hll2⟩
      have hll2 : L.length ≤ sz := hll2
      repeat ((conv => whnf); refine ⟨by first | (unfold inI64; omega) | omega | exact ⟨by omega, by omega⟩ | exact rfl | decide +kernel, ?_⟩)
      conv => whnf
      refine cond_intro (fun h2 => ?_) (fun h2 => ?_)
      · have hkl : k < ps.length := lt_of_dec h2
        have hin2 : 0 ≤ (k : Int) ∧ (k : Int) < (ps.length : Nat) := by omega
        rw [List.drop_eq_getElem_cons hkl, List.foldl_cons] at hgo2
        obtain ⟨p, hp⟩ : ∃ p : Pt, ps.getD ((k : Int)).toNat ptC.dflt = p := ⟨_, rfl⟩
        have hpk : ps[k] = p := by rw [← hp, Int.toNat_natCast]; simp [hkl]
        rw [hpk] at hgo2
        have hp2 := hpn p (hpk ▸ List.getElem_mem hkl)
        have hs1 : sz + szP p ≤ 6000 := by
          have h3 := lwPs_le (ps.drop (k + 1)) (lwP (sz, L) p)
          rw [hgo2] at h3
          have h4 := lwP_le (sz, L) p
          dsimp only at h4
          omega
        have hs1' : sz + (12 + alN p.2.size) ≤ 6000 := hs1
        have hq2 : IntKind.i64.wrap ((((p.2.size : Nat) : Int) + 3).tdiv 4) * 4 = ((alN p.2.size : Nat) : Int) := quo_n p.2.size 3 (by omega)
        have u1 : inI64 (((p.2.size : Nat) : Int) + 3) := by unfold inI64; omega
        have u3 : inI64 (IntKind.i64.wrap ((((p.2.size : Nat) : Int) + 3).tdiv 4) * 4) := by rw [hq2]; unfold inI64; omega
        have u4 : inI64 (12 + IntKind.i64.wrap ((((p.2.size : Nat) : Int) + 3).tdiv 4) * 4) := by rw [hq2]; unfold inI64; omega
        have u5 : inI64 (((sz : Nat) : Int) + (12 + IntKind.i64.wrap ((((p.2.size : Nat) : Int) + 3).tdiv 4) * 4)) := by rw [hq2]; unfold inI64; omega
        conv => whnf
        refine ⟨hin2, ?_⟩
        conv => whnf
        rw [hp]
        repeat ((conv => whnf); refine ⟨by first | exact u1 | exact u3 | exact u4 | exact u5 | (unfold inI64; omega) | omega | exact ⟨by omega, by omega⟩ | exact rfl | decide +kernel, ?_⟩)
        conv => whnf
        rw [hq2]
        refine loop_intro (σ := Nat × Bool) (fun ⟨j, kn⟩ => slE ns (encV ns) (sz + szP p) L i (XV.s .none) (XV.s (.a (.c (.ptr 4 0)))) (XV.s (.bool kn)) (XV.s (.a (.c (.p (.l ptC ps))))) (XV.s (.int .i64 (ps.length : Nat))) (XV.s (.int .i64 (k : Nat))) (XV.s (.a (.c (.own 2 .str L)))) (XV.s (.int .i64 (L.length : Nat))) (XV.s (.int .i64 (j : Nat))))
          (fun _ => [tapeO ys x, .row [.p (.l ndC ns)], tokS L.length, .row [.int .i64 nd.1, .str nd.2.1, .p (.l ptC ps)], .row [.str p.1, .str p.2]]) (fun ⟨j, kn⟩ => j ≤ L.length ∧ (kn || inL (L.drop j) p.1) = inL L p.1) (fun ⟨j, _⟩ => L.length - j) (0, false) ?_ rfl ⟨Nat.zero_le _, rfl⟩ ?_
        · repeat (first | exact LeL.nil | refine LeL.drop ?_ | refine LeL.same ?_)
        rintro ⟨j, kn⟩ ⟨hj, hkn⟩
        repeat ((conv => whnf); refine ⟨by first | (unfold inI64; omega) | omega | exact ⟨by omega, by omega⟩ | exact rfl | decide +kernel, ?_⟩)
        conv => whnf
        refine cond_intro (fun h3 => ?_) (fun h3 => ?_)
        · have hjl : j < L.length := lt_of_dec h3
          have hin3 : 0 ≤ (j : Int) ∧ (j : Int) < (L.length : Nat) := by omega
          repeat ((conv => whnf); refine ⟨by first | exact hin3 | (unfold inI64; omega) | omega | exact ⟨by omega, by omega⟩ | exact rfl | decide +kernel, ?_⟩)
          conv => whnf
          have hjg : L.getD ((j : Int)).toNat CT.str.dflt = L[j] := by rw [Int.toNat_natCast]; simp [hjl]
          rw [inL_drop hjl, ← Bool.or_assoc, ← hjg] at hkn
          refine head_intro (j + 1, kn || decide (L.getD ((j : Int)).toNat CT.str.dflt = p.1)) ?_ rfl ⟨hjl, hkn⟩ (by show L.length - (j + 1) < L.length - j; omega)
          repeat (first | exact LeL.nil | refine LeL.drop ?_ | refine LeL.same ?_)
        · obtain rfl : j = L.length := by have := ge_of_dec h3; omega
          rw [List.drop_length, show inL [] p.1 = false from rfl, Bool.or_false] at hkn
          repeat ((conv => whnf); refine ⟨by first | (unfold inI64; omega) | omega | exact ⟨by omega, by omega⟩ | exact rfl | decide +kernel, ?_⟩)
          conv => whnf
          refine cond_intro (fun h4 => ?_) (fun h4 => ?_)
          · have h5 : inL L p.1 = false := by
              have h6 : (!kn) = true := h4
              rw [← hkn]
              cases kn with
              | false => rfl
              | true => cases h6
            have hst : lwP (sz, L) p = (sz + szP p + p.1.size + 1, L ++ [p.1]) := by
              unfold lwP
              rw [if_neg (by dsimp only; rw [h5]; decide)]
            have hs2 : sz + szP p + p.1.size + 1 ≤ 6000 := by
              have h7 := lwPs_le (ps.drop (k + 1)) (lwP (sz, L) p)
              rw [hgo2, hst] at h7
              dsimp only at h7
              omega
            have c1 : L.length + 1 ≤ capBound := Nat.le_trans (m := 100000) (by omega) (by decide)
            have v1 : inI64 (((sz + szP p : Nat) : Int) + (p.1.size : Nat)) := by unfold inI64; omega
            have v2 : inI64 (((sz + szP p : Nat) : Int) + (p.1.size : Nat) + 1) := by unfold inI64; omega
            repeat ((conv => whnf); refine ⟨by first | exact c1 | exact v1 | exact v2 | ((conv => whnf); exact ⟨⟨rfl, rfl, rfl⟩, trivial⟩) | exact Early.one (by decide +kernel) (by (conv => whnf); exact ⟨rfl, rfl, rfl⟩) trivial | (unfold inI64; omega) | omega | exact ⟨by omega, by omega⟩ | exact rfl | decide +kernel, ?_⟩)
            conv => whnf
            refine head_keep (k + 1, lwP (sz, L) p) [0, 1, 2, 3] rfl id4 ?_ ?_ ⟨hkl, hgo2, lwP_ln hll2 p⟩ (by show ps.length - (k + 1) < ps.length - k; omega)
            · rw [hst]
              show _ = some [tapeO ys x, AO.row [.p (.l ndC ns)], tokS (L ++ [p.1]).length, _]
              rw [List.length_append]
              rfl
            · rw [hst]
              repeat (first | exact KeepL.nil | refine KeepL.drop ?_ | refine KeepL.ren rfl ?_)
          · have h5 : inL L p.1 = true := by
              have h6 : (!kn) = false := h4
              rw [← hkn]
              cases kn with
              | true => rfl
              | false => cases h6
            have hst : lwP (sz, L) p = (sz + szP p, L) := by
              unfold lwP
              rw [if_pos h5]
            repeat ((conv => whnf); refine ⟨by first | (unfold inI64; omega) | omega | exact ⟨by omega, by omega⟩ | exact rfl | decide +kernel, ?_⟩)
            conv => whnf
            refine head_keep (k + 1, lwP (sz, L) p) [0, 1, 2, 3] rfl id4 ?_ ?_ ⟨hkl, hgo2, lwP_ln hll2 p⟩ (by show ps.length - (k + 1) < ps.length - k; omega)
            · rw [hst]
              rfl
            · rw [hst]
              repeat (first | exact KeepL.nil | refine KeepL.drop ?_ | refine KeepL.ren rfl ?_)
      · obtain rfl : k = ps.length := by have := ge_of_dec h2; omega
        rw [List.drop_length] at hgo2
        have hgo2 : (sz, L) = lwN (size, _) nd := hgo2
        rw [← hgo2] at hgo
        repeat ((conv => whnf); refine ⟨by first | (unfold inI64; omega) | omega | exact ⟨by omega, by omega⟩ | exact rfl | decide +kernel, ?_⟩)
        conv => whnf
        refine head_keep (i + 1, sz, L) [0, 1, 2] rfl id012 rfl ?_ ⟨hlt, hgo, hll2⟩ (by show ns.length - (i + 1) < ns.length - i; omega)
        repeat (first | exact KeepL.nil | refine KeepL.drop ?_ | refine KeepL.ren rfl ?_)
    · obtain rfl : i = ns.length := by have := ge_of_dec h; omega
      rw [List.drop_length] at hgo
      have hgo : (size, L) = F := hgo
      rw [← hgo] at hlw
      have hlw : size = (encV ns).length := hlw
      repeat ((conv => whnf); refine ⟨by first | (unfold inI64; omega) | omega | exact ⟨by omega, by omega⟩ | exact rfl | decide +kernel, ?_⟩)
      conv => whnf
      refine ends_eq ⟨congrArg (fun b => SV.bool b) (?_ : _ = true), rfl⟩
      dsimp only
      rw [hlw]
      simp
  · cases hs
end Go.Ab
