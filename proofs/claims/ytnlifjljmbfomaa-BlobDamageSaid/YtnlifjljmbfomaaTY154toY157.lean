/- Package blob: the structure and the strings. -/
import Derived.Test.YtnlifjljmbfomaaTY151toY153
namespace Go.Ab
open Go.Proofs
set_option linter.unusedSectionVars false
set_option maxRecDepth 100000
variable [Base]

theorem szP_le {p : Pt} (h : p.2.size ≤ 256) : szP p ≤ 268 := by
  unfold szP alN
  omega
theorem sum_le {α : Type} (f : α → Nat) (c : Nat) : ∀ l : List α, (∀ x ∈ l, f x ≤ c) → (l.map f).sum ≤ c * l.length := by
  intro l
  induction l with
  | nil => intro _; exact Nat.zero_le _
  | cons a l ih =>
    intro h
    have h1 := h a (by simp)
    have h2 := ih fun x hx => h x (by simp [hx])
    rw [List.map_cons, List.sum_cons, List.length_cons, Nat.mul_succ]
    omega
structure SzOk (n : Nd) : Prop where
  nm : n.2.1.size ≤ 31
  pl : n.2.2.length ≤ 24
  pn : ∀ p ∈ n.2.2, p.1.size ≤ 31 ∧ p.2.size ≤ 256
theorem SzOk.sz {n : Nd} (h : SzOk n) : szN n ≤ 7000 := by
  have h1 := sum_le szP 268 n.2.2 fun p hp => szP_le (h.pn p hp).2
  have h2 := h.pl
  have h3 := h.nm
  have h4 := al_le (n.2.1.size + 1)
  unfold szN
  have : 268 * n.2.2.length ≤ 268 * 24 := Nat.mul_le_mul_left _ h2
  omega
theorem vl_sz {ns : List Nd} (hf : FrmT ns) {i : Nat} (hi : i < ns.length) : SzOk (ndAt ns i) := by
  have h1 := hf.lim
  unfold limV at h1
  obtain ⟨_, h2⟩ := Bool.and_eq_true_iff.1 h1
  have h3 : ndLim (ndAt ns i) = true := by rw [nd_at' hi]; exact List.all_eq_true.1 h2 _ (List.getElem_mem hi)
  unfold ndLim at h3
  obtain ⟨h4, h5⟩ := Bool.and_eq_true_iff.1 h3
  refine ⟨?_, of_decide_eq_true h4, fun p hp => ⟨?_, ?_⟩⟩
  · rcases Nat.eq_zero_or_pos i with h0 | h0
    · subst h0
      have h6 := frm_nd hf.frm hi
      unfold ndFrm at h6
      obtain ⟨h7, _⟩ := Bool.and_eq_true_iff.1 h6
      obtain ⟨h8, _⟩ := Bool.and_eq_true_iff.1 h7
      simp at h8
      rw [h8.2]
      decide
    · exact nam_size (frm_nam hf.frm h0 hi)
  · have h6 : prpB p.1 = true := List.all_eq_true.1 (frm_ps hf.frm hi) p hp
    unfold prpB at h6
    by_cases h7 : 31 < (p.1.size : Int)
    · rw [if_pos h7] at h6
      cases h6
    · omega
  · exact of_decide_eq_true (List.all_eq_true.1 h5 p hp)

/-- What is known of a part of the structure. -/
theorem take_sum {ns : List Nd} (hf : FrmT ns) {i : Nat} (hi : i ≤ ns.length) : ((ns.take i).map szN).sum ≤ 7000 * i := by
  have := sum_le szN 7000 (ns.take i) fun x hx => by
    obtain ⟨k, hk, he⟩ := List.getElem_of_mem hx
    rw [List.length_take] at hk
    rw [List.getElem_take] at he
    rw [← he, ← nd_at' (by omega)]
    exact (vl_sz hf (by omega)).sz
  rw [List.length_take, Nat.min_eq_left hi] at this
  exact this
theorem cnS_le {ns : List Nd} (hv : Vl ns) {i : Nat} (hi : i ≤ ns.length) : cnS ns i ≤ i := by
  cases i with
  | zero => exact Nat.le_refl _
  | succ i =>
    have := cnS_eq hv i hi
    omega
theorem b8G_le {ns : List Nd} (hv : Vl ns) {i : Nat} (hi : i ≤ ns.length) : (b8G ns i).1.length ≤ 840000 := by
  obtain ⟨h1, _⟩ := b8G_len (ns := ns) i hi
  have h2 := take_sum hv.f hi
  have h3 := cnS_le hv hi
  have h4 := hv.f.len
  have h5 : 7000 * i ≤ 7000 * 120 := Nat.mul_le_mul_left _ (by omega)
  omega

abbrev hpD (ns : List Nd) (S N : List Int) (M : PlE) (x : Int) : List AO := [.row [.p (.l ndC ns)], .row [.own 4 u8C S], .map .str (.int .i64) M, .row [.int .i64 x], tokB S.length, tokB N.length]
abbrev slD (ns : List Nd) (N : List Int) (a7 : XV) (i : Nat) (a8 a34 a35 a36 : XV) : Env := [(0, XV.s .none), (1, XV.s (.a (.c (.ptr 0 0)))), (2, XV.s (.a (.c (.ptr 1 0)))), (3, XV.s (.a (.c (.own 5 u8C N)))), (4, XV.s (.a (.c (.mp 2)))), (5, XV.s (.a (.c (.ptr 3 0)))), (6, XV.s (.a (.c (.clo false 58 [3, 0, 1])))), (7, a7), (8, a8), (10, XV.s .none), (12, XV.s .none), (15, XV.s (.a (.c (.p (.l ndC ns))))), (16, XV.s (.int .i64 (ns.length : Nat))), (17, XV.s (.int .i64 (i : Nat))), (18, XV.s .none), (34, a34), (35, a35), (36, a36), (37, XV.s .none), (48, XV.s .none)]
theorem id7 : ∀ k, k < 7 → [0, 1, 2, 3, 4, 5, 6][k]? = some k := fun k hk => by
  obtain rfl | rfl | rfl | rfl | rfl | rfl | rfl : k = 0 ∨ k = 1 ∨ k = 2 ∨ k = 3 ∨ k = 4 ∨ k = 5 ∨ k = 6 := by omega
  all_goals rfl
theorem id6 : ∀ k, k < 4 → [0, 1, 2, 3, 4, 5][k]? = some k := fun k hk => by
  obtain rfl | rfl | rfl | rfl : k = 0 ∨ k = 1 ∨ k = 2 ∨ k = 3 := by omega
  all_goals rfl
def daN' : List AV → Option (List Nd) := daN
def BA7 : Table := ext BA6 29 (saysG daN eaN fun ns => (some (Vl ns), .tup [.c (.p (.l u8C (b8S ns))), .c (.p (.l u8C (b8L ns)))]))
theorem bA7 : TSound Try.prog BA7 := by
  refine extG bA6 29 (fn := Try.f29) rfl rfl daN eaN _ (fun _ => Nat.le_of_ble_eq_true rfl) [0, 1, 2, 3, 4, 5, 6, 7, 8, 10, 12, 15, 16, 17, 18, 34, 35, 36, 37, 48] fun ns hok => ?_
  have hv : Vl ns := hok
  have hlen := hv.f.len
  dsimp only
  repeat ((conv => whnf); refine ⟨by first | (unfold inI64; omega) | omega | exact ⟨by omega, by omega⟩ | exact rfl | decide +kernel, ?_⟩)
  conv => whnf
  refine loop_weak (σ := Nat × B8) (fun ⟨i, _, N, _⟩ => slD ns N (XV.s .none) i (XV.s .none) (XV.s .none) (XV.s .none) (XV.s .none))
    (fun ⟨i, S, N, M⟩ => hpD ns S N M ((i : Int) - 1)) (fun ⟨i, b⟩ => i ≤ ns.length ∧ b = b8G ns i ∧ b.2.1.length ≤ 800 * i) (fun ⟨i, _⟩ => ns.length - i) (0, [], [], []) ?_ ⟨Nat.zero_le _, rfl, Nat.zero_le _⟩ ?_
  · refine (Weak.cell 1 rfl 0 rfl 5 u8C).trans (Weak.own 5 (c := u8C) ?_)
    repeat (first | exact OwnL.nil | refine OwnL.drop ?_ | refine OwnL.same ?_ | refine OwnL.own ?_)
  rintro ⟨i, S, N, M⟩ ⟨hi, hg, hnl⟩
  repeat ((conv => whnf); refine ⟨by first | (unfold inI64; omega) | omega | exact ⟨by omega, by omega⟩ | exact rfl | decide +kernel, ?_⟩)
  conv => whnf
  refine cond_intro (fun h => ?_) (fun h => ?_)
  · have hlt : i < ns.length := lt_of_dec h
    have hin : 0 ≤ (i : Int) ∧ (i : Int) < (ns.length : Nat) := by omega
    obtain ⟨hcl, hcv⟩ : clB ns (ndAt ns i).1 (ns.length + 1) ((i : Int) - 1) = true ∧ clV ns (ndAt ns i).1 ((i : Int) - 1) S = S ++ celO (List.replicate (cnB ns i) 2) := by
      unfold clV
      cases i with
      | zero =>
        rw [vl_pa0 hv.f]
        obtain ⟨h1, h2⟩ := cl_self ns (-1) (ns.length + 1)
        exact ⟨h2, by rw [show (((0 : Nat) : Int) - 1) = -1 from rfl, h1]; rfl⟩
      | succ m =>
        obtain ⟨h1, h2, _⟩ := cl_vl hv hlt (k := ns.length + 1) (by omega)
        rw [show (((m + 1 : Nat) : Int) - 1) = (m : Int) by omega]
        exact ⟨h1, by rw [h2]⟩
    have hSl : S.length ≤ 840000 := by have := b8G_le hv hi; rw [← hg] at this; exact this
    have hz := vl_sz hv.f hlt
    have hnm := hz.nm
    have hok1 : hpC ((i : Int) - 1) ns S = hpC ((i : Int) - 1) ns S ∧ ns.length ≤ 1000000 ∧ S.length ≤ 100000000 ∧ clB ns (ndAt ns i).1 (ns.length + 1) ((i : Int) - 1) = true := ⟨rfl, by omega, by omega, hcl⟩
    have hcn : cnB ns i ≤ 200 := by
      have := cnS_le hv (i := i + 1) hlt
      have e : cnS ns (i + 1) = cnS ns i + cnB ns i := rfl
      omega
    have hl2 : (clV ns (ndAt ns i).1 ((i : Int) - 1) S).length ≤ 900000 := by
      rw [hcv, List.length_append, celO_length, List.length_replicate]
      omega
    have hok2 : [tokB (clV ns (ndAt ns i).1 ((i : Int) - 1) S).length] = [tokB (clV ns (ndAt ns i).1 ((i : Int) - 1) S).length] ∧ (clV ns (ndAt ns i).1 ((i : Int) - 1) S).length + 4 * [(1 : Int)].length ≤ 1000000000 := ⟨rfl, by simp; omega⟩
    have hl3 : (clV ns (ndAt ns i).1 ((i : Int) - 1) S ++ celO [1]).length + (ndAt ns i).2.1.size ≤ 100000000 := by rw [List.length_append, celO_length]; simp; omega
    have hok3 : [tokB (clV ns (ndAt ns i).1 ((i : Int) - 1) S ++ celO [1]).length] = [tokB (clV ns (ndAt ns i).1 ((i : Int) - 1) S ++ celO [1]).length] ∧ (clV ns (ndAt ns i).1 ((i : Int) - 1) S ++ celO [1]).length + (ndAt ns i).2.1.size ≤ 100000000 := ⟨rfl, hl3⟩
    repeat ((conv => whnf); refine ⟨by first | exact hin | exact hok1 | exact hok2 | exact hok3 | ((conv => whnf); exact ⟨⟨rfl, rfl, rfl⟩, trivial⟩) | exact Early.one (by decide +kernel) (by (conv => whnf); exact ⟨rfl, rfl, rfl⟩) trivial | (unfold inI64; omega) | omega | exact ⟨by omega, by omega⟩ | exact rfl | decide +kernel, ?_⟩)
    conv => whnf
    obtain ⟨ps, hps⟩ : ∃ ps : List Pt, (ndAt ns i).2.2 = ps := ⟨_, rfl⟩
    have hpl : ps.length ≤ 24 := by rw [← hps]; exact hz.pl
    have hpn : ∀ p ∈ ps, p.1.size ≤ 31 ∧ p.2.size ≤ 256 := by rw [← hps]; exact hz.pn
    have hR : ps.foldl b8P (apT (clV ns (ndAt ns i).1 ((i : Int) - 1) S ++ celO [1]) (ndAt ns i).2.1, N, M) = b8G ns (i + 1) := by
      show _ = b8N ns (b8G ns i) i
      rw [← hg, ← hps, hcv]
      rfl
    obtain ⟨nd, hnd⟩ : ∃ nd, ns.getD ((i : Int)).toNat ndC.dflt = nd := ⟨_, rfl⟩
    have hnd2 : nd = ndAt ns i := by rw [← hnd]; exact nd_at i
    rw [← hnd2] at hR hps hl3 hl2 hcv
    rw [hnd, hps]
    have hT0 : (apT (clV ns nd.1 ((i : Int) - 1) S ++ celO [1]) nd.2.1).length ≤ 1000000 := by
      rw [apT_len, List.length_append, celO_length]
      have := al_le ((clV ns nd.1 ((i : Int) - 1) S).length + 4 * [(1 : Int)].length + (nd.2.1.size + 1))
      rw [hnd2] at this ⊢
      rw [hnd2] at hl2
      simp at this ⊢
      omega
    have hnl' : N.length ≤ 800 * i := hnl
    refine loop_intro (σ := Nat × B8) (fun ⟨k, _, N, _⟩ => slD ns N (XV.s .none) i (XV.s .none) (XV.s (.a (.c (.p (.l ptC ps))))) (XV.s (.int .i64 (ps.length : Nat))) (XV.s (.int .i64 (k : Nat))))
      (fun ⟨_, T, N, M⟩ => [.row [.p (.l ndC ns)], .row [.own 4 u8C T], .map .str (.int .i64) M, .row [.int .i64 (i : Nat)], tokB T.length, tokB N.length, .row [.int .i64 nd.1, .str nd.2.1, .p (.l ptC ps)]])
      (fun ⟨k, b⟩ => k ≤ ps.length ∧ (ps.drop k).foldl b8P b = b8G ns (i + 1) ∧ b.1.length ≤ 1000000 + 300 * k ∧ b.2.1.length ≤ 800 * i + 32 * k) (fun ⟨k, _⟩ => ps.length - k) (0, apT (clV ns nd.1 ((i : Int) - 1) S ++ celO [1]) nd.2.1, N, M) ?_ rfl ⟨Nat.zero_le _, hR, by omega, by show N.length ≤ _; omega⟩ ?_
    · repeat (first | exact LeL.nil | refine LeL.drop ?_ | refine LeL.same ?_)
    rintro ⟨k, T, N, M⟩ ⟨hk, hgo, hTl, hNl⟩
    repeat ((conv => whnf); refine ⟨by first | (unfold inI64; omega) | omega | exact ⟨by omega, by omega⟩ | exact rfl | decide +kernel, ?_⟩)
    conv => whnf
    refine cond_intro (fun h2 => ?_) (fun h2 => ?_)
    · have hkl : k < ps.length := lt_of_dec h2
      have hin2 : 0 ≤ (k : Int) ∧ (k : Int) < (ps.length : Nat) := by omega
      repeat ((conv => whnf); refine ⟨by first | exact hin2 | (unfold inI64; omega) | omega | exact ⟨by omega, by omega⟩ | exact rfl | decide +kernel, ?_⟩)
      conv => whnf
      obtain ⟨p, hp⟩ : ∃ p : Pt, ps.getD ((k : Int)).toNat ptC.dflt = p := ⟨_, rfl⟩
      have hpk : ps[k] = p := by rw [← hp, Int.toNat_natCast]; simp [hkl]
      have hps2 := hpn p (hpk ▸ List.getElem_mem hkl)
      rw [List.drop_eq_getElem_cons hkl, hpk, List.foldl_cons] at hgo
      have hTl : T.length ≤ 1000000 + 300 * k := hTl
      have hNl : N.length ≤ 800 * i + 32 * k := hNl
      rw [hp]
      refine cond_intro (fun h3 => ?_) (fun h3 => ?_)
      · have h4 : kn M p.1 = none := by
          have h5 : (!(kn M p.1).isSome) = true := h3
          cases hq : kn M p.1 with
          | none => rfl
          | some q => rw [hq] at h5; cases h5
        have hb : b8P (T, N, M) p = (apV (T ++ celO [3, (p.2.size : Nat), (kn (setE (k := .str) (v := .int .i64) p.1 (N.length : Nat) M) p.1).getD 0]) p.2, N ++ bL p.1 ++ [0], setE (k := .str) (v := .int .i64) p.1 (N.length : Nat) M) := by
          unfold b8P nwM nwN
          dsimp only
          rw [h4]
        have c1 : N.length + (bL p.1).length ≤ capBound := by rw [bL_len]; exact Nat.le_trans (m := 10000000000) (by omega) (by decide)
        have c2 : N.length + (bL p.1).length + 1 ≤ capBound := by rw [bL_len]; exact Nat.le_trans (m := 10000000000) (by omega) (by decide)
        have c3 : T.length + 4 * 3 ≤ 1000000000 := by omega
        have c4 : ∀ x y z : Int, (T ++ celO [x, y, z]).length + p.2.size ≤ 1000000000 := fun x y z => by rw [List.length_append, celO_length]; simp; omega
        have c5 : N.length + (bL p.1).length = (N ++ bL p.1).length := List.length_append.symm
        repeat ((conv => whnf); refine ⟨by first | exact c1 | exact c2 | exact c5 | exact ⟨rfl, c3⟩ | exact ⟨rfl, c4 _ _ _⟩ | (unfold inI64; omega) | omega | exact ⟨by omega, by omega⟩ | exact rfl | decide +kernel, ?_⟩)
        conv => whnf
        have c6 : N.length + (bL p.1).length + 1 = (N ++ bL p.1 ++ [0]).length := by rw [List.length_append, List.length_append]; rfl
        refine head_keep (k + 1, b8P (T, N, M) p) [0, 1, 2, 3, 4, 5, 6] rfl id7 ?_ ?_ ⟨hkl, hgo, ?_, ?_⟩ (by show ps.length - (k + 1) < ps.length - k; omega)
        · rw [hb]
          dsimp only
          rw [← c6]
          rfl
        · rw [hb]
          repeat (first | exact KeepL.nil | refine KeepL.drop ?_ | refine KeepL.ren rfl ?_)
        · rw [hb]
          dsimp only
          rw [apV_len, List.length_append, celO_length]
          have := al_le (T.length + 4 * 3 + p.2.size)
          show alN (T.length + 4 * 3 + p.2.size) ≤ _
          omega
        · rw [hb]
          dsimp only
          first | (rw [← c6, bL_len]; omega) | omega
      · obtain ⟨q, h4⟩ : ∃ q, kn M p.1 = some q := by
          have h5 : (!(kn M p.1).isSome) = false := h3
          cases hq : kn M p.1 with
          | none => rw [hq] at h5; cases h5
          | some q => exact ⟨q, rfl⟩
        have hb : b8P (T, N, M) p = (apV (T ++ celO [3, (p.2.size : Nat), (kn M p.1).getD 0]) p.2, N, M) := by
          unfold b8P nwM nwN
          dsimp only
          rw [h4]
          dsimp only
          rw [h4]
        have c3 : T.length + 4 * 3 ≤ 1000000000 := by omega
        have c4 : ∀ x y z : Int, (T ++ celO [x, y, z]).length + p.2.size ≤ 1000000000 := fun x y z => by rw [List.length_append, celO_length]; simp; omega
        repeat ((conv => whnf); refine ⟨by first | exact ⟨rfl, c3⟩ | exact ⟨rfl, c4 _ _ _⟩ | (unfold inI64; omega) | omega | exact ⟨by omega, by omega⟩ | exact rfl | decide +kernel, ?_⟩)
        conv => whnf
        refine head_keep (k + 1, b8P (T, N, M) p) [0, 1, 2, 3, 4, 5, 6] rfl id7 ?_ ?_ ⟨hkl, hgo, ?_, ?_⟩ (by show ps.length - (k + 1) < ps.length - k; omega)
        · rw [hb]
          dsimp only
          rfl
        · rw [hb]
          repeat (first | exact KeepL.nil | refine KeepL.drop ?_ | refine KeepL.ren rfl ?_)
        · rw [hb]
          dsimp only
          rw [apV_len, List.length_append, celO_length]
          have := al_le (T.length + 4 * 3 + p.2.size)
          show alN (T.length + 4 * 3 + p.2.size) ≤ _
          omega
        · rw [hb]
          dsimp only
          first | (rw [← c6, bL_len]; omega) | omega
    · obtain rfl : k = ps.length := by have := ge_of_dec h2; omega
      rw [List.drop_length] at hgo
      have hgo : (T, N, M) = b8G ns (i + 1) := hgo
      repeat ((conv => whnf); refine ⟨by first | (unfold inI64; omega) | omega | exact ⟨by omega, by omega⟩ | exact rfl | decide +kernel, ?_⟩)
      conv => whnf
      refine head_keep (i + 1, T, N, M) [0, 1, 2, 3, 4, 5] rfl id6 ?_ ?_ ⟨hlt, hgo, ?_⟩ (by show ns.length - (i + 1) < ns.length - i; omega)
      · show _ = some (hpD ns T N M (((i + 1 : Nat) : Int) - 1))
        rw [show (((i + 1 : Nat) : Int) - 1) = (i : Int) by omega]
        rfl
      · repeat (first | exact KeepL.nil | refine KeepL.drop ?_ | refine KeepL.ren rfl ?_)
      · show N.length ≤ 800 * (i + 1)
        have hNl : N.length ≤ 800 * i + 32 * ps.length := hNl
        omega
  · obtain rfl : i = ns.length := by have := ge_of_dec h; omega
    obtain ⟨m, hm⟩ : ∃ m, ns.length = m + 1 := ⟨ns.length - 1, by omega⟩
    have e1 : ((ns.length : Nat) : Int) - 1 = (m : Int) := by omega
    obtain ⟨hcl, hcc⟩ := cl_end hv (m := m) (by omega) (k := ns.length + 1) (by omega)
    have hcv : clV ns (-1) (m : Int) S = S ++ celO (List.replicate (dpV ns (ns.length - 1) + 1) 2) := by
      unfold clV
      rw [hcc, show ns.length - 1 = m by omega]
    have hSl : S.length ≤ 840000 := by have := b8G_le hv (Nat.le_refl ns.length); rw [← hg] at this; exact this
    have hd : dpV ns (ns.length - 1) ≤ 8 := hv.dep _ (by omega)
    have hok1 : hpC (m : Int) ns S = hpC (m : Int) ns S ∧ ns.length ≤ 1000000 ∧ S.length ≤ 100000000 ∧ clB ns (-1) (ns.length + 1) (m : Int) = true := ⟨rfl, by omega, by omega, hcl⟩
    have hl2 : (clV ns (-1) (m : Int) S).length + 4 * 1 ≤ 1000000000 := by
      rw [hcv, List.length_append, celO_length, List.length_replicate]
      omega
    rw [e1]
    repeat ((conv => whnf); refine ⟨by first | exact hok1 | exact ⟨rfl, hl2⟩ | (unfold inI64; omega) | omega | exact ⟨by omega, by omega⟩ | exact rfl | decide +kernel, ?_⟩)
    conv => whnf
    have hS9 : clV ns (-1) (m : Int) S ++ celO [9] = b8S ns := by
      unfold b8S
      rw [hcv, ← hg]
    have hN9 : N = b8L ns := by
      unfold b8L
      rw [← hg]
    rw [← hS9, ← hN9]
    exact ends_eq ⟨rfl, rfl⟩

theorem b8G_nl {ns : List Nd} (hv : Vl ns) : ∀ i, i ≤ ns.length → (b8G ns i).2.1.length ≤ 800 * i := by
  intro i
  induction i with
  | zero => intro _; exact Nat.le_refl _
  | succ i ih =>
    intro hi
    have h1 := ih (by omega)
    have hz := vl_sz hv.f hi
    have hf : ∀ (l : List Pt) (b : B8), (∀ p ∈ l, p.1.size ≤ 31 ∧ p.2.size ≤ 256) → (l.foldl b8P b).2.1.length ≤ b.2.1.length + 32 * l.length := by
      intro l
      induction l with
      | nil => intro b _; exact Nat.le_refl _
      | cons p l ih2 =>
        intro b h
        have h2 := ih2 (b8P b p) fun x hx => h x (by simp [hx])
        have h3 := (h p (by simp)).1
        have h4 : (b8P b p).2.1.length ≤ b.2.1.length + 32 := by
          unfold b8P nwN
          dsimp only
          split
          · omega
          · rw [List.length_append, List.length_append, bL_len]
            show _ + _ + 1 ≤ _
            omega
        rw [List.foldl_cons, List.length_cons]
        omega
    have h5 := hf (ndAt ns i).2.2 (b8B ns (b8G ns i) i) hz.pn
    have h6 := hz.pl
    have h7 : (b8B ns (b8G ns i) i).2.1 = (b8G ns i).2.1 := rfl
    rw [h7] at h5
    show (b8N ns (b8G ns i) i).2.1.length ≤ _
    unfold b8N
    omega
theorem b8_lens {ns : List Nd} (hv : Vl ns) : (b8S ns).length ≤ 900000 ∧ (b8L ns).length ≤ 100000 := by
  have h1 := b8S_len hv
  have h2 := take_sum hv.f (Nat.le_refl ns.length)
  rw [List.take_length] at h2
  have h3 := hv.f.len
  have h4 : 7000 * ns.length ≤ 7000 * 120 := Nat.mul_le_mul_left _ h3.2
  have h5 := b8G_nl hv ns.length (Nat.le_refl _)
  refine ⟨by omega, ?_⟩
  unfold b8L
  omega
def hdL (S N : List Int) : List Int := [3490578157, 28 + (S.length : Int) + (N.length : Nat), (S.length : Nat), (N.length : Nat), sumV S, sumV N]
def hd24 (S N : List Int) : List Int := [] ++ celO (hdL S N)
def encL (S N : List Int) : List Int := ((hd24 S N ++ celO [sumV (hd24 S N)]) ++ S) ++ N
def encV (ns : List Nd) : List Int := encL (b8S ns) (b8L ns)
theorem hd24_len (S N : List Int) : (hd24 S N).length = 24 := by
  unfold hd24 hdL
  rw [List.nil_append, celO_length]
  rfl
theorem encL_len (S N : List Int) : (encL S N).length = 28 + S.length + N.length := by
  unfold encL
  rw [List.length_append, List.length_append, List.length_append, hd24_len, celO_length]
  rfl
def BA8 : Table := ext BA7 13 (saysG daN eaN fun ns => (some (Vl ns), .list u8C (encV ns)))
theorem bA8 : TSound Try.prog BA8 := by
  refine extG bA7 13 (fn := Try.f13) rfl rfl daN eaN _ (fun _ => Nat.le_of_ble_eq_true rfl) [0, 2, 3, 4, 5, 6] fun ns hok => ?_
  have hv : Vl ns := hok
  obtain ⟨hS, hN⟩ := b8_lens hv
  dsimp only
  unfold encV
  obtain ⟨S, hS2⟩ : ∃ S, b8S ns = S := ⟨_, rfl⟩
  obtain ⟨N, hN2⟩ : ∃ N, b8L ns = N := ⟨_, rfl⟩
  rw [hS2] at hS ⊢
  rw [hN2] at hN ⊢
  have c1 : (hd24 S N).length ≤ 1000000000 := by rw [hd24_len]; decide
  have c2 : (hd24 S N).length + 4 * 1 ≤ 1000000000 := by rw [hd24_len]; decide
  have c3 : (hd24 S N ++ celO [sumV (hd24 S N)]).length + S.length ≤ capBound := by rw [List.length_append, hd24_len, celO_length]; exact Nat.le_trans (m := 10000000) (by simp; omega) (by decide)
  have c4 : (hd24 S N ++ celO [sumV (hd24 S N)]).length + S.length + N.length ≤ capBound := by rw [List.length_append, hd24_len, celO_length]; exact Nat.le_trans (m := 10000000) (by simp; omega) (by decide)
  have c5 : (hd24 S N ++ celO [sumV (hd24 S N)]).length + S.length = ((hd24 S N ++ celO [sumV (hd24 S N)]) ++ S).length := List.length_append.symm
  repeat ((conv => whnf); refine ⟨by first | exact ⟨rfl, hv⟩ | (unfold inI64; omega) | omega | exact ⟨by omega, by omega⟩ | exact rfl | decide +kernel, ?_⟩)
  conv => whnf
  rw [hS2, hN2]
  have c0 : 4 * (hdL S N).length ≤ 1000000000 := by show 4 * 6 ≤ _; decide
  have d1 : S.length ≤ 1000000000 := by omega
  have d2 : N.length ≤ 1000000000 := by omega
  repeat ((conv => whnf); refine ⟨by first | exact ⟨rfl, d1⟩ | exact ⟨rfl, d2⟩ | (unfold inI64; omega) | omega | exact ⟨by omega, by omega⟩ | exact rfl | decide +kernel, ?_⟩)
  conv => whnf
  refine ⟨c0, ?_⟩
  conv => whnf
  refine ⟨⟨rfl, c1⟩, ?_⟩
  conv => whnf
  refine ⟨⟨rfl, c2⟩, ?_⟩
  conv => whnf
  refine ⟨rfl, c3, ?_⟩
  conv => whnf
  refine ⟨c5, c4, ?_⟩
  conv => whnf
  exact ends_eq ⟨rfl, rfl⟩

def EncV (ns : List Nd) : List Int × Int := if 40000 < (encV ns).length then ([], 3) else (encV ns, 0)
abbrev encR (x : List Int × Int) : SV := .tup [.c (.p (.l u8C x.1)), .c (.int .i64 x.2)]
theorem ends_nilB {e : Int} {x : List Int × Int} {H : List AO} (h : x = ([], e)) : Ends (.tup [.c (.p (.v (.slice none 0 0))), .c (.int .i64 e)]) H (encR x) H := by
  subst h
  refine ends_of (fun G v hv => ?_) rfl
  obtain ⟨vs, rfl, hvs⟩ := hv
  cases hvs with
  | cons a b =>
    refine ⟨_, rfl, .cons ?_ b⟩
    obtain ⟨_, rfl⟩ := a
    exact .inl ⟨rfl, rfl⟩
theorem vl_chk {ns : List Nd} (hv : Vl ns) : chkP ns = 0 := chk_vld.2 hv.vld
def BA9 : Table := ext BA8 7 (saysG daT eaT fun ns => (some (Vl ns), encR (EncV ns)))
theorem bA9 : TSound Try.prog BA9 := by
  refine extG bA8 7 (fn := Try.f7) rfl rfl daT eaT _ (fun _ => Nat.le_of_ble_eq_true rfl) [0, 1, 2, 3, 4, 5, 9, 16] fun ns hok => ?_
  have hv : Vl ns := hok
  dsimp only
  unfold EncV
  have hc := vl_chk hv
  repeat ((conv => whnf); refine ⟨by first | exact ⟨rfl, trivial⟩ | (unfold inI64; omega) | omega | exact ⟨by omega, by omega⟩ | exact rfl | decide +kernel, ?_⟩)
  conv => whnf
  rw [hc]
  repeat ((conv => whnf); refine ⟨by first | exact ⟨rfl, trivial⟩ | exact ⟨rfl, hv⟩ | (unfold inI64; omega) | omega | exact ⟨by omega, by omega⟩ | exact rfl | decide +kernel, ?_⟩)
  conv => whnf
  refine cond_intro (fun h => ?_) (fun h => ?_)
  · have h1 : 40000 < (encV ns).length := Int.ofNat_lt.1 (of_decide_eq_true h)
    rw [if_pos h1]
    repeat ((conv => whnf); refine ⟨by first | (unfold inI64; omega) | omega | exact ⟨by omega, by omega⟩ | exact rfl | decide +kernel, ?_⟩)
    conv => whnf
    exact ends_nilB rfl
  · have h1 : ¬ 40000 < (encV ns).length := fun h2 => of_decide_eq_false h (Int.ofNat_lt.2 h2)
    rw [if_neg h1]
    repeat ((conv => whnf); refine ⟨by first | (unfold inI64; omega) | omega | exact ⟨by omega, by omega⟩ | exact rfl | decide +kernel, ?_⟩)
    conv => whnf
    exact ends_eq ⟨rfl, rfl⟩

def BtL (zs : List Int) : Prop := ∀ z ∈ zs, 0 ≤ z ∧ z < 256
def orS8 (n c : Int) : Int := bitsA .or .i64 (IntKind.i64.wrap (n * 2 ^ min (Int.toNat 8) IntKind.i64.bits)) c
def bnR (l : List Int) : Int := l.foldl orS8 0
def bnV (zs : List Int) (at' : Nat) : Int := bnR ((zs.take (at' + 4)).drop at')
def daBI : List AV → Option (List Int × Int)
  | [.c (.p (.l c0 zs)), .c (.p (.v (.int .i64 n)))] => match castD (e := .int .u8) (e' := c0) zs with | some zs => some (zs, n) | none => none
  | _ => none
def eaBI (a : List Int × Int) : List AV := [.c (.p (.l (.int .u8) a.1)), .c (.int .i64 a.2)]
def BA10 : Table := ext BA9 45 (saysG daBI eaBI fun a => (some (0 ≤ a.2 ∧ a.2 + 4 ≤ (a.1.length : Nat) ∧ a.1.length ≤ 1000000000 ∧ BtL a.1), .int .i64 (bnV a.1 a.2.toNat)))
theorem bA10 : TSound Try.prog BA10 := by
  refine extG bA9 45 (fn := Try.f45) rfl rfl daBI eaBI _ (fun _ => Nat.le_of_ble_eq_true rfl) [0, 1, 4, 5, 7, 12, 13, 14, 15] fun a hok => ?_
  obtain ⟨zs, n⟩ := a
  obtain ⟨h0, h1, h2, h3⟩ : 0 ≤ n ∧ n + 4 ≤ (zs.length : Nat) ∧ zs.length ≤ 1000000000 ∧ BtL zs := hok
  obtain ⟨n, rfl⟩ : ∃ k : Nat, n = k := ⟨n.toNat, by omega⟩
  dsimp only
  rw [Int.toNat_natCast]
  unfold bnV
  obtain ⟨l, hl⟩ : ∃ l, (zs.take (n + 4)).drop n = l := ⟨_, rfl⟩
  have hll : l.length = 4 := by rw [← hl, List.length_drop, List.length_take]; omega
  have hbt : BtL l := fun z hz => h3 z (List.mem_of_mem_take (List.mem_of_mem_drop (hl ▸ hz)))
  obtain ⟨R, hR⟩ : ∃ R, bnR l = R := ⟨_, rfl⟩
  rw [hl, hR]
  have hin : inI64 ((n : Int) + 4) := by unfold inI64; omega
  have hb : 0 ≤ (n : Int) ∧ (n : Int) ≤ (n : Int) + 4 ∧ (n : Int) + 4 ≤ (zs.length : Nat) := by omega
  repeat ((conv => whnf); refine ⟨by first | exact hin | exact hb | (unfold inI64; omega) | omega | exact ⟨by omega, by omega⟩ | exact rfl | decide +kernel, ?_⟩)
  conv => whnf
  have hl' : (zs.take ((n : Int) + 4).toNat).drop ((n : Int)).toNat = l := hl
  rw [hl']
  refine loop_intro (σ := Nat × Int) (fun ⟨i, m⟩ => [(0, XV.s .none), (1, XV.s .none), (4, XV.s .none), (5, XV.s (.int .i64 m)), (7, XV.s .none), (12, XV.s (.a (.c (.p (.l (.int .u8) l))))), (13, XV.s (.int .i64 (l.length : Nat))), (14, XV.s (.int .i64 (i : Nat))), (15, XV.s .none)])
    (fun _ => []) (fun ⟨i, m⟩ => i ≤ l.length ∧ (l.drop i).foldl orS8 m = R) (fun ⟨i, _⟩ => l.length - i) (0, 0) ?_ rfl ⟨Nat.zero_le _, hR⟩ ?_
  · repeat (first | exact LeL.nil | refine LeL.drop ?_ | refine LeL.same ?_)
  rintro ⟨i, m⟩ ⟨hi, hgo⟩
  repeat ((conv => whnf); refine ⟨by first | (unfold inI64; omega) | omega | exact ⟨by omega, by omega⟩ | exact rfl | decide +kernel, ?_⟩)
  conv => whnf
  refine cond_intro (fun h => ?_) (fun h => ?_)
  · have hlt : i < l.length := lt_of_dec h
    have hb2 : 0 ≤ (i : Int) ∧ (i : Int) < (l.length : Nat) := by omega
    have hg : l.getD i 0 = l[i] := by simp [hlt]
    have hc := hbt l[i] (List.getElem_mem hlt)
    have hc2 : inI64 (l.getD ((i : Int)).toNat 0) := by rw [Int.toNat_natCast, hg]; unfold inI64; omega
    rw [List.drop_eq_getElem_cons hlt, List.foldl_cons, ← hg] at hgo
    repeat ((conv => whnf); refine ⟨by first | exact hb2 | exact hc2 | (unfold inI64; omega) | omega | exact ⟨by omega, by omega⟩ | exact rfl | decide +kernel, ?_⟩)
    conv => whnf
    refine head_intro (i + 1, _) ?_ rfl ⟨hlt, hgo⟩ (by show l.length - (i + 1) < l.length - i; omega)
    repeat (first | exact LeL.nil | refine LeL.drop ?_ | refine LeL.same ?_)
  · obtain rfl : i = l.length := by have := ge_of_dec h; omega
    rw [List.drop_length] at hgo
    have hgo : m = R := hgo
    subst hgo
    repeat ((conv => whnf); refine ⟨by first | (unfold inI64; omega) | omega | exact ⟨by omega, by omega⟩ | exact rfl | decide +kernel, ?_⟩)
    conv => whnf
    exact ends_eq ⟨rfl, rfl⟩

def saysIdx : Says := fun args H => match args, H with
  | [.c (.p (.l (.int .u8) zs)), .c (.p (.v (.int .u8 c)))], [] => some (none, .int .i64 (Lib.indexByte (Lib.bytesOf zs) c.toNat.toUInt8), [])
  | _, _ => none
def BA11 : Table := ext BA10 80 saysIdx
theorem bA11 : TSound Try.prog BA11 := by
  refine ext_calls bA10 80 (fn := Try.f80) rfl rfl rfl fun args H p r H' hs hp => ?_
  unfold saysIdx at hs
  split at hs
  · rename_i zs c
    cases hs
    refine ⟨rfl, fun G hS hH cargs ha => ?_⟩
    cases ha with
    | cons h1 t1 =>
      cases t1 with
      | cons h2 t2 =>
        cases t2
        obtain ⟨_, rfl⟩ := h2
        rcases h1 with ⟨rfl, hv⟩ | ⟨b, off, cap, hv, hc, hz⟩ | ⟨rfl, a, cap, hv⟩
        · cases hv
          exact ⟨_, ⟨rfl, rfl⟩, Try.bytes_IndexByte_nil _ _⟩
        · cases hv
          refine ⟨_, ⟨rfl, rfl⟩, Try.bytes_IndexByte b off zs.length cap zs c G.w rfl fun i hi => ?_⟩
          obtain ⟨us, hr, hu⟩ := hz i (zs.getD i 0) (by simp [hi])
          cases hr
          have := (hu 0 _ rfl).2
          rw [show off + i * (CT.int IntKind.u8).width + 0 = off + i by simp [CT.width]] at this
          exact this
        · cases hv
          exact ⟨_, ⟨rfl, rfl⟩, Try.bytes_IndexByte_at a 0 cap [] c G.w rfl fun i hi => absurd hi (Nat.not_lt_zero i)⟩
  · cases hs

abbrev hqN (b : List Int) (a : Int) (nm : ByteArray) (op lv pl e : Int) : List AO := [.row [.p (.l u8C b), .int .i64 a, .str nm, .p (.v (.slice none 0 0)), .int .i64 op, .int .i64 lv, .int .i64 pl, .int .i64 e]]
abbrev hqO (b : List Int) (a : Int) (nm : ByteArray) (ns : List Nd) (op lv pl e : Int) : List AO := [.row [.p (.l u8C b), .int .i64 a, .str nm, .own 1 ndC ns, .int .i64 op, .int .i64 lv, .int .i64 pl, .int .i64 e], tokN ns.length]
structure NumOk (b : List Int) (a : Int) : Prop where
  ge : 0 ≤ a
  le : a + 4 ≤ (b.length : Nat)
  len : b.length ≤ 1000000000
  byt : BtL b
def numRes (b : List Int) (a : Int) : SV := .tup [.c (.int .i64 (bnV b a.toNat)), .c (.bool true)]
def saysRnN : Says := fun args H => match args, H with
  | [.c (.ptr 0 0)], [.row [.p (.l (.int .u8) b), .p (.v (.int .i64 a)), .p (.v (.string nm)), .p (.v (.slice none 0 0)), .p (.v (.int .i64 op)), .p (.v (.int .i64 lv)), .p (.v (.int .i64 pl)), .p (.v (.int .i64 e))]] => some (some (NumOk b a), numRes b a, hqN b (a + 4) nm op lv pl e)
  | _, _ => none
def saysRnO : Says := fun args H => match args, H with
  | [.c (.ptr 0 0)], [.row [.p (.l (.int .u8) b), .p (.v (.int .i64 a)), .p (.v (.string nm)), .own 1 (.pair (.int .i64) (.pair .str (.list (.pair .str .str)))) ns, .p (.v (.int .i64 op)), .p (.v (.int .i64 lv)), .p (.v (.int .i64 pl)), .p (.v (.int .i64 e))], o] => some (some (NumOk b a ∧ o = tokN ns.length), numRes b a, hqO b (a + 4) nm ns op lv pl e)
  | _, _ => none
theorem rn_n : TSound Try.prog (ext BA11 67 saysRnN) := by
  refine ext_run bA11 (f := 67) (fn := Try.f67) rfl rfl [0, 2, 3, 13] fun args H p r H' hs hp => ?_
  unfold saysRnN at hs
  split at hs
  · rename_i b a nm op lv pl e
    cases hs
    have hn : NumOk b a := hp
    have h0 := hn.ge
    have h1 := hn.le
    have h2 := hn.len
    refine ⟨Nat.le_of_ble_eq_true rfl, [0], rfl, id0, ?_⟩
    repeat ((conv => whnf); refine ⟨by first | (unfold inI64; omega) | omega | exact ⟨by omega, by omega⟩ | exact rfl | decide +kernel, ?_⟩)
    conv => whnf
    refine cond_intro (fun h => ?_) (fun h => ?_)
    · exfalso
      have : a = (b.length : Nat) := of_decide_eq_true h
      omega
    have e1 : a + 4 - 4 = a := by omega
    have hi : inI64 (a + 4 - 4) := by unfold inI64; omega
    have hq : [AV.c (.p (.l u8C b)), AV.c (.int .i64 (a + 4 - 4))] = eaBI (b, a + 4 - 4) ∧ (0 ≤ a + 4 - 4 ∧ a + 4 - 4 + 4 ≤ (b.length : Nat) ∧ b.length ≤ 1000000000 ∧ BtL b) := ⟨rfl, by omega, by omega, h2, hn.byt⟩
    repeat ((conv => whnf); refine ⟨by first | exact hi | exact hq | ((conv => whnf); exact ⟨⟨rfl, rfl, rfl⟩, trivial⟩) | exact Early.one (by decide +kernel) (by (conv => whnf); exact ⟨rfl, rfl, rfl⟩) trivial | (unfold inI64; omega) | omega | exact ⟨by omega, by omega⟩ | exact rfl | decide +kernel, ?_⟩)
    conv => whnf
    refine ends_eq ⟨?_, rfl⟩
    show SV.tup [AV.c (.int .i64 (bnV b (a + 4 - 4).toNat)), _] = _
    rw [e1]
    rfl
  · cases hs
theorem rn_o : TSound Try.prog (ext BA11 67 saysRnO) := by
  refine ext_run bA11 (f := 67) (fn := Try.f67) rfl rfl [0, 2, 3, 13] fun args H p r H' hs hp => ?_
  unfold saysRnO at hs
  split at hs
  · rename_i b a nm ns op lv pl e o
    cases hs
    obtain ⟨hn, rfl⟩ : NumOk b a ∧ o = tokN ns.length := hp
    have h0 := hn.ge
    have h1 := hn.le
    have h2 := hn.len
    refine ⟨Nat.le_of_ble_eq_true rfl, [0, 1], rfl, id2, ?_⟩
    repeat ((conv => whnf); refine ⟨by first | (unfold inI64; omega) | omega | exact ⟨by omega, by omega⟩ | exact rfl | decide +kernel, ?_⟩)
    conv => whnf
    refine cond_intro (fun h => ?_) (fun h => ?_)
    · exfalso
      have : a = (b.length : Nat) := of_decide_eq_true h
      omega
    have e1 : a + 4 - 4 = a := by omega
    have hi : inI64 (a + 4 - 4) := by unfold inI64; omega
    have hq : [AV.c (.p (.l u8C b)), AV.c (.int .i64 (a + 4 - 4))] = eaBI (b, a + 4 - 4) ∧ (0 ≤ a + 4 - 4 ∧ a + 4 - 4 + 4 ≤ (b.length : Nat) ∧ b.length ≤ 1000000000 ∧ BtL b) := ⟨rfl, by omega, by omega, h2, hn.byt⟩
    repeat ((conv => whnf); refine ⟨by first | exact hi | exact hq | ((conv => whnf); exact ⟨⟨rfl, rfl, rfl⟩, trivial⟩) | exact Early.one (by decide +kernel) (by (conv => whnf); exact ⟨rfl, rfl, rfl⟩) trivial | (unfold inI64; omega) | omega | exact ⟨by omega, by omega⟩ | exact rfl | decide +kernel, ?_⟩)
    conv => whnf
    refine ends_eq ⟨?_, rfl⟩
    show SV.tup [AV.c (.int .i64 (bnV b (a + 4 - 4).toNat)), _] = _
    rw [e1]
    rfl
  · cases hs
def BA12 : Table := ext BA11 67 (orS saysRnN saysRnO)
theorem bA12 : TSound Try.prog BA12 := ext_or rn_n rn_o

def saysExN : Says := fun args H => match args, H with
  | [.c (.ptr 0 0), .c (.p (.v (.int .i64 w)))], [.row [.p (.l (.int .u8) b), .p (.v (.int .i64 a)), .p (.v (.string nm)), .p (.v (.slice none 0 0)), .p (.v (.int .i64 op)), .p (.v (.int .i64 lv)), .p (.v (.int .i64 pl)), .p (.v (.int .i64 e))]] => some (some (NumOk b a ∧ bnV b a.toNat = w), .bool true, hqN b (a + 4) nm op lv pl e)
  | _, _ => none
def saysExO : Says := fun args H => match args, H with
  | [.c (.ptr 0 0), .c (.p (.v (.int .i64 w)))], [.row [.p (.l (.int .u8) b), .p (.v (.int .i64 a)), .p (.v (.string nm)), .own 1 (.pair (.int .i64) (.pair .str (.list (.pair .str .str)))) ns, .p (.v (.int .i64 op)), .p (.v (.int .i64 lv)), .p (.v (.int .i64 pl)), .p (.v (.int .i64 e))], o] => some (some ((NumOk b a ∧ bnV b a.toNat = w) ∧ o = tokN ns.length), .bool true, hqO b (a + 4) nm ns op lv pl e)
  | _, _ => none
theorem ex_n : TSound Try.prog (ext BA12 47 saysExN) := by
  refine ext_run bA12 (f := 47) (fn := Try.f47) rfl rfl [0, 1, 4, 5, 6, 17] fun args H p r H' hs hp => ?_
  unfold saysExN at hs
  split at hs
  · rename_i w b a nm op lv pl e
    cases hs
    obtain ⟨hn, hw⟩ : NumOk b a ∧ bnV b a.toNat = w := hp
    refine ⟨Nat.le_of_ble_eq_true rfl, [0], rfl, id0, ?_⟩
    repeat ((conv => whnf); refine ⟨by first | exact hn | (unfold inI64; omega) | omega | exact ⟨by omega, by omega⟩ | exact rfl | decide +kernel, ?_⟩)
    conv => whnf
    rw [hw]
    repeat ((conv => whnf); refine ⟨by first | (unfold inI64; omega) | omega | exact ⟨by omega, by omega⟩ | exact rfl | decide +kernel, ?_⟩)
    conv => whnf
    refine cond_intro (fun h => ?_) (fun h => ?_)
    · exfalso
      simp at h
    repeat ((conv => whnf); refine ⟨by first | (unfold inI64; omega) | omega | exact ⟨by omega, by omega⟩ | exact rfl | decide +kernel, ?_⟩)
    conv => whnf
    exact ends_eq ⟨rfl, rfl⟩
  · cases hs
theorem ex_o : TSound Try.prog (ext BA12 47 saysExO) := by
  refine ext_run bA12 (f := 47) (fn := Try.f47) rfl rfl [0, 1, 4, 5, 6, 17] fun args H p r H' hs hp => ?_
  unfold saysExO at hs
  split at hs
  · rename_i w b a nm ns op lv pl e o
    cases hs
    obtain ⟨⟨hn, hw⟩, rfl⟩ : (NumOk b a ∧ bnV b a.toNat = w) ∧ o = tokN ns.length := hp
    refine ⟨Nat.le_of_ble_eq_true rfl, [0, 1], rfl, id2, ?_⟩
    repeat ((conv => whnf); refine ⟨by first | exact ⟨hn, rfl⟩ | (unfold inI64; omega) | omega | exact ⟨by omega, by omega⟩ | exact rfl | decide +kernel, ?_⟩)
    conv => whnf
    rw [hw]
    repeat ((conv => whnf); refine ⟨by first | (unfold inI64; omega) | omega | exact ⟨by omega, by omega⟩ | exact rfl | decide +kernel, ?_⟩)
    conv => whnf
    refine cond_intro (fun h => ?_) (fun h => ?_)
    · exfalso
      simp at h
    repeat ((conv => whnf); refine ⟨by first | (unfold inI64; omega) | omega | exact ⟨by omega, by omega⟩ | exact rfl | decide +kernel, ?_⟩)
    conv => whnf
    exact ends_eq ⟨rfl, rfl⟩
  · cases hs
def BA13 : Table := ext BA12 47 (orS saysExN saysExO)
theorem bA13 : TSound Try.prog BA13 := ext_or ex_n ex_o
end Go.Ab
