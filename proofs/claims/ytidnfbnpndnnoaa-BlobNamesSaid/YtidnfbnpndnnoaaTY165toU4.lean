/- BlobNames: the law. -/
import Derived.Test.YtidnfbnpndnnoaaTY162toY163
import Derived.Test.YtidnfbnpndnnoaaTX0toY60
namespace Go.Ab
open Go.Proofs
set_option linter.unusedSectionVars false
set_option maxRecDepth 100000
variable [Base]

theorem bytes_bL (s : ByteArray) : bytesOf (bL s) = s := by
  unfold bytesOf bL
  rw [List.map_map]
  have : ((fun n : Int => UInt8.ofNat n.toNat) ∘ fun b : UInt8 => (b.toNat : Int)) = id := by
    funext b
    show UInt8.ofNat ((b.toNat : Int)).toNat = b
    rw [Int.toNat_natCast]
    simp
  rw [this, List.map_id]
def nmF (L : List ByteArray) (p : Pt) : List ByteArray := if inL L p.1 = true then L else L ++ [p.1]
def nmN (L : List ByteArray) (n : Nd) : List ByteArray := n.2.2.foldl nmF L
theorem lw_nm (st : Ls) (p : Pt) : (lwP st p).2 = nmF st.2 p := by
  unfold lwP nmF
  split <;> rfl
theorem lw_nms : ∀ (l : List Pt) (st : Ls), (l.foldl lwP st).2 = l.foldl nmF st.2 := by
  intro l
  induction l with
  | nil => intro st; rfl
  | cons p l ih => intro st; rw [List.foldl_cons, List.foldl_cons, ih, lw_nm]
theorem lw_nmn : ∀ (l : List Nd) (st : Ls), (l.foldl lwN st).2 = l.foldl nmN st.2 := by
  intro l
  induction l with
  | nil => intro st; rfl
  | cons n l ih => intro st; rw [List.foldl_cons, List.foldl_cons, ih]; congr 1; exact lw_nms _ _
theorem nmB_len (L : List ByteArray) (s : ByteArray) : (nmB (L ++ [s])).length = (nmB L).length + s.size + 1 := by
  rw [nmB_app, List.length_append, List.length_append, bL_len]
  rfl
theorem nmF_le (L : List ByteArray) (p : Pt) : (nmB L).length ≤ (nmB (nmF L p)).length := by
  unfold nmF
  split
  · exact Nat.le_refl _
  · rw [nmB_len]; omega
theorem nmFs_le : ∀ (l : List Pt) (L : List ByteArray), (nmB L).length ≤ (nmB (l.foldl nmF L)).length := by
  intro l
  induction l with
  | nil => intro L; exact Nat.le_refl _
  | cons p l ih => intro L; exact Nat.le_trans (nmF_le L p) (ih _)
theorem nmNs_le : ∀ (l : List Nd) (L : List ByteArray), (nmB L).length ≤ (nmB (l.foldl nmN L)).length := by
  intro l
  induction l with
  | nil => intro L; exact Nat.le_refl _
  | cons n l ih => intro L; exact Nat.le_trans (nmFs_le n.2.2 L) (ih _)
theorem nmB_ge : ∀ L : List ByteArray, L.length ≤ (nmB L).length := by
  intro L
  induction L with
  | nil => exact Nat.le_refl _
  | cons s L ih =>
    show _ ≤ ((bL s ++ [0]) ++ nmB L).length
    rw [List.length_append, List.length_append, List.length_cons]
    show _ ≤ _ + 1 + _
    omega
theorem nmB_cut {L : List ByteArray} {j : Nat} (h : j < L.length) : nmB L = nmB (L.take j) ++ (bL L[j] ++ ([0] ++ nmB (L.drop (j + 1)))) := by
  have e : L = L.take j ++ (L[j] :: L.drop (j + 1)) := by rw [← List.drop_eq_getElem_cons h, List.take_append_drop]
  conv => lhs; rw [e]
  unfold nmB
  rw [List.flatMap_append, List.flatMap_cons, List.append_assoc]
theorem cut_mid (A B C : List Int) : ((A ++ (B ++ C)).take (A.length + B.length)).drop A.length = B := by
  rw [List.take_append, List.drop_append]
  simp
theorem get_mid (A B C : List Int) (x : Int) : (A ++ (B ++ ([x] ++ C))).getD (A.length + B.length) 0 = x := by
  rw [List.getD_eq_getElem?_getD, List.getElem?_append_right (by omega), List.getElem?_append_right (by omega)]
  simp
/-- What the law asks of the bytes at each name. -/
theorem nm_at {P : List Int} {L : List ByteArray} {j : Nat} (h : j < L.length) : bytesOf (((P ++ nmB L).take (P.length + (nmB (L.take j)).length + (L[j]).size)).drop (P.length + (nmB (L.take j)).length)) = L[j] ∧ (P ++ nmB L).getD (P.length + (nmB (L.take j)).length + (L[j]).size) 0 = 0 ∧
    P.length + (nmB (L.take j)).length + (L[j]).size < (P ++ nmB L).length ∧ (nmB (L.take (j + 1))).length = (nmB (L.take j)).length + (L[j]).size + 1 := by
  have e := nmB_cut h
  have e2 : P ++ nmB L = (P ++ nmB (L.take j)) ++ (bL L[j] ++ ([0] ++ nmB (L.drop (j + 1)))) := by rw [List.append_assoc, ← e]
  have e3 : P.length + (nmB (L.take j)).length = (P ++ nmB (L.take j)).length := List.length_append.symm
  refine ⟨?_, ?_, ?_, ?_⟩
  · rw [e2, e3, ← bL_len, cut_mid, bytes_bL]
  · rw [e2, e3, ← bL_len, get_mid]
  · rw [e2, List.length_append, List.length_append, List.length_append, bL_len, List.length_append]
    simp
    omega
  · rw [List.take_succ_eq_append_getElem h, nmB_len]
abbrev slF (ns : List Nd) (b : List Int) (L : List ByteArray) (size i : Nat) (a12 a13 a43 a44 a45 a49 a50 a51 : XV) : Env := [(0, XV.s .none), (2, XV.s .none), (3, XV.s .none), (4, XV.s .none), (5, XV.s (.a (.c (.p (.l u8C b))))), (6, XV.s .none), (7, XV.s (.a (.c (.own 2 .str L)))), (8, XV.s (.int .i64 (size : Nat))), (10, XV.s .none), (12, a12), (13, a13), (15, XV.s .none), (16, XV.s .none), (18, XV.s .none), (34, XV.s .none), (36, XV.s (.a (.c (.p (.l ndC ns))))), (37, XV.s (.int .i64 (ns.length : Nat))), (38, XV.s (.int .i64 (i : Nat))), (39, XV.s .none), (43, a43), (44, a44), (45, a45), (46, XV.s .none), (49, a49), (50, a50), (51, a51), (52, XV.s .none), (64, XV.s .none), (82, XV.s .none), (87, XV.s .none), (88, XV.s .none), (89, XV.s .none), (90, XV.s .none), (112, XV.s .none)]
def BB2 : Table := ext BA23 4 saysBsz
set_option maxHeartbeats 2000000 in
theorem bB2 : TSound Try.prog BB2 := by
  refine ext_run bA23 (f := 4) (fn := Try.f4) rfl rfl [0, 2, 3, 4, 5, 6, 7, 8, 10, 12, 13, 15, 16, 18, 34, 36, 37, 38, 39, 43, 44, 45, 46, 49, 50, 51, 52, 64, 82, 87, 88, 89, 90, 112] fun args H p r H' hs hp => ?_
  unfold saysBsz at hs
  split at hs
  · rename_i zs
    cases hs
    refine ⟨Nat.le_of_ble_eq_true rfl, [], rfl, fun k hk => absurd hk (Nat.not_lt_zero k), ?_⟩
    have ht0 := tape_nw8 zs
    generalize hz : (zs : List Int).take 500 = ys at ht0
    have hv := gr_vl ys 0 8
    have he := gr_enc ys 0 8 (by decide)
    have hle := encV_le hv
    have hsz := gr_sz ys 0 8
    obtain ⟨R, hR⟩ : ∃ R, grV ys 0 8 = R := ⟨_, rfl⟩
    rw [show ((8 : Nat) : Int) = 8 from rfl] at he hsz
    rw [hR] at hv he hle hsz
    obtain ⟨ns, x⟩ := R
    have hv : Vl ns := hv
    have he : EncV ns = (encV ns, 0) := he
    have hle : (encV ns).length ≤ 32 + 44 * ns.length + 300 * tpS ns := hle
    have hsz : ns.length ≤ 8 + 1 ∧ tpS ns ≤ 2 * 8 := hsz
    obtain ⟨_, hN⟩ := law_sz hv
    rw [lw_nmn] at hN
    have hlen := hv.f.len
    have hN : b8L ns = nmB (ns.foldl nmN []) := hN
    obtain ⟨F, hF⟩ : ∃ F, ns.foldl nmN [] = F := ⟨_, rfl⟩
    rw [hF] at hN
    obtain ⟨P, hP⟩ : ∃ P, (hd24 (b8S ns) (b8L ns) ++ celO [sumV (hd24 (b8S ns) (b8L ns))]) ++ b8S ns = P := ⟨_, rfl⟩
    have hE : encV ns = P ++ nmB F := by rw [← hN, ← hP]; rfl
    have hPl : 44 ≤ P.length := by
      rw [← hP, List.length_append, List.length_append, hd24_len, celO_length, b8S_len hv]
      obtain ⟨m, r, hmr⟩ : ∃ m r, ns = m :: r := by cases ns with
        | nil => exact absurd hlen.1 (Nat.lt_irrefl _)
        | cons m r => exact ⟨m, r, rfl⟩
      rw [hmr, List.map_cons, List.sum_cons]
      have h1 := al_le (m.2.1.size + 1)
      have h2 := al_mod (m.2.1.size + 1)
      have h3 : szN m = 8 + alN (m.2.1.size + 1) + (m.2.2.map szP).sum := rfl
      show 44 ≤ 24 + 4 * 1 + _
      omega
    have hFl : (encV ns).length = P.length + (nmB F).length := by rw [hE, List.length_append]
    have q1 : tapeOk ys 0 ∧ (0 : Int) ≤ 8 ∧ (8 : Int) ≤ 100 := ⟨ht0, by decide, by decide⟩
    conv => whnf
    rw [hz]
    repeat ((conv => whnf); refine ⟨by first | exact q1 | (unfold inI64; omega) | omega | exact ⟨by omega, by omega⟩ | exact rfl | decide +kernel, ?_⟩)
    conv => whnf
    rw [hR]
    repeat ((conv => whnf); refine ⟨by first | exact ⟨rfl, hv⟩ | (unfold inI64; omega) | omega | exact ⟨by omega, by omega⟩ | exact rfl | decide +kernel, ?_⟩)
    conv => whnf
    rw [he]
    repeat ((conv => whnf); refine ⟨by first | (unfold inI64; omega) | omega | exact ⟨by omega, by omega⟩ | exact rfl | decide +kernel, ?_⟩)
    conv => whnf
    refine cond_intro (fun h0 => ?_) (fun h0 => ?_)
    · exfalso
      have h1 : (!decide ((0 : Int) = 0) || decide ((((encV ns).length : Nat) : Int) < 44)) = true := h0
      have h2 : ¬ ((((encV ns).length : Nat) : Int) < 44) := by omega
      rw [decide_eq_false h2] at h1
      simp at h1
    repeat ((conv => whnf); refine ⟨by first | (unfold inI64; omega) | omega | exact ⟨by omega, by omega⟩ | exact rfl | decide +kernel, ?_⟩)
    conv => whnf
    refine loop_weak (σ := Nat × List ByteArray) (fun ⟨i, L⟩ => slF ns (encV ns) L (nmB L).length i (XV.s .none) (XV.s .none) (XV.s .none) (XV.s .none) (XV.s .none) (XV.s .none) (XV.s .none) (XV.s .none))
      (fun ⟨_, L⟩ => [tapeO ys x, .row [.p (.l ndC ns)], tokS L.length]) (fun ⟨i, L⟩ => i ≤ ns.length ∧ (ns.drop i).foldl nmN L = F) (fun ⟨i, _⟩ => ns.length - i) (0, []) ?_ ⟨Nat.zero_le _, hF⟩ ?_
    · refine Weak.own 9 ?_
      repeat (first | exact OwnL.nil | refine OwnL.drop ?_ | refine OwnL.same ?_ | refine OwnL.own ?_)
    have hF6 : (nmB F).length ≤ 6000 := by omega
    rintro ⟨i, L⟩ ⟨hi, hgo⟩
    repeat ((conv => whnf); refine ⟨by first | (unfold inI64; omega) | omega | exact ⟨by omega, by omega⟩ | exact rfl | decide +kernel, ?_⟩)
    conv => whnf
    refine cond_intro (fun h => ?_) (fun h => ?_)
    · have hlt : i < ns.length := lt_of_dec h
      have hin : 0 ≤ (i : Int) ∧ (i : Int) < (ns.length : Nat) := by omega
      rw [List.drop_eq_getElem_cons hlt, ← nd_at' hlt, List.foldl_cons] at hgo
      obtain ⟨nd, hnd⟩ : ∃ nd, ndAt ns i = nd := ⟨_, rfl⟩
      have hzz := vl_sz hv.f hlt
      rw [hnd] at hgo hzz
      have hnd' : ns.getD ((i : Int)).toNat ndC.dflt = nd := hnd
      conv => whnf
      refine ⟨hin, ?_⟩
      conv => whnf
      rw [hnd']
      repeat ((conv => whnf); refine ⟨by first | (unfold inI64; omega) | omega | exact ⟨by omega, by omega⟩ | exact rfl | decide +kernel, ?_⟩)
      conv => whnf
      obtain ⟨ps, hps⟩ : ∃ ps : List Pt, nd.2.2 = ps := ⟨_, rfl⟩
      have hpl : ps.length ≤ 24 := by rw [← hps]; exact hzz.pl
      have hpn : ∀ p ∈ ps, p.1.size ≤ 31 ∧ p.2.size ≤ 256 := by rw [← hps]; exact hzz.pn
      have hR2 : ps.foldl nmF L = nmN L nd := by rw [← hps]; rfl
      have hbd : (nmB (nmN L nd)).length ≤ 6000 := by
        have h1 := nmNs_le (ns.drop (i + 1)) (nmN L nd)
        rw [hgo] at h1
        omega
      rw [hps]
      refine loop_intro (σ := Nat × List ByteArray) (fun ⟨k, L⟩ => slF ns (encV ns) L (nmB L).length i (XV.s .none) (XV.s .none) (XV.s (.a (.c (.p (.l ptC ps))))) (XV.s (.int .i64 (ps.length : Nat))) (XV.s (.int .i64 (k : Nat))) (XV.s .none) (XV.s .none) (XV.s .none))
        (fun ⟨_, L⟩ => [tapeO ys x, .row [.p (.l ndC ns)], tokS L.length, .row [.int .i64 nd.1, .str nd.2.1, .p (.l ptC ps)]]) (fun ⟨k, L'⟩ => k ≤ ps.length ∧ (ps.drop k).foldl nmF L' = nmN L nd) (fun ⟨k, _⟩ => ps.length - k) (0, L) ?_ rfl ⟨Nat.zero_le _, hR2⟩ ?_
      · repeat (first | exact LeL.nil | refine LeL.drop ?_ | refine LeL.same ?_)
      rintro ⟨k, M⟩ ⟨hk, hgo2⟩
      repeat ((conv => whnf); refine ⟨by first | (unfold inI64; omega) | omega | exact ⟨by omega, by omega⟩ | exact rfl | decide +kernel, ?_⟩)
      conv => whnf
      refine cond_intro (fun h2 => ?_) (fun h2 => ?_)
      · have hkl : k < ps.length := lt_of_dec h2
        have hin2 : 0 ≤ (k : Int) ∧ (k : Int) < (ps.length : Nat) := by omega
        rw [List.drop_eq_getElem_cons hkl, List.foldl_cons] at hgo2
        obtain ⟨p, hp⟩ : ∃ p : Pt, ps.getD ((k : Int)).toNat ptC.dflt = p := ⟨_, rfl⟩
        have hpk : ps[k] = p := by rw [← hp, Int.toNat_natCast]; simp [hkl]
        rw [hpk] at hgo2
        have hp2 := hpn p (hpk ▸ List.getElem_mem hkl)
        have hs1 : (nmB (nmF M p)).length ≤ 6000 := by
          have h3 := nmFs_le (ps.drop (k + 1)) (nmF M p)
          rw [hgo2] at h3
          omega
        have hMl := nmB_ge M
        have hM6 := nmF_le M p
        conv => whnf
        refine ⟨hin2, ?_⟩
        conv => whnf
        rw [hp]
        repeat ((conv => whnf); refine ⟨by first | (unfold inI64; omega) | omega | exact ⟨by omega, by omega⟩ | exact rfl | decide +kernel, ?_⟩)
        conv => whnf
        refine loop_intro (σ := Nat × Bool) (fun ⟨j, kn⟩ => slF ns (encV ns) M (nmB M).length i (XV.s (.a (.c (.ptr 4 0)))) (XV.s (.bool kn)) (XV.s (.a (.c (.p (.l ptC ps))))) (XV.s (.int .i64 (ps.length : Nat))) (XV.s (.int .i64 (k : Nat))) (XV.s (.a (.c (.own 2 .str M)))) (XV.s (.int .i64 (M.length : Nat))) (XV.s (.int .i64 (j : Nat))))
          (fun _ => [tapeO ys x, .row [.p (.l ndC ns)], tokS M.length, .row [.int .i64 nd.1, .str nd.2.1, .p (.l ptC ps)], .row [.str p.1, .str p.2]]) (fun ⟨j, kn⟩ => j ≤ M.length ∧ (kn || inL (M.drop j) p.1) = inL M p.1) (fun ⟨j, _⟩ => M.length - j) (0, false) ?_ rfl ⟨Nat.zero_le _, rfl⟩ ?_
        · repeat (first | exact LeL.nil | refine LeL.drop ?_ | refine LeL.same ?_)
        rintro ⟨j, kn⟩ ⟨hj, hkn⟩
        repeat ((conv => whnf); refine ⟨by first | (unfold inI64; omega) | omega | exact ⟨by omega, by omega⟩ | exact rfl | decide +kernel, ?_⟩)
        conv => whnf
        refine cond_intro (fun h3 => ?_) (fun h3 => ?_)
        · have hjl : j < M.length := lt_of_dec h3
          have hin3 : 0 ≤ (j : Int) ∧ (j : Int) < (M.length : Nat) := by omega
          repeat ((conv => whnf); refine ⟨by first | exact hin3 | (unfold inI64; omega) | omega | exact ⟨by omega, by omega⟩ | exact rfl | decide +kernel, ?_⟩)
          conv => whnf
          have hjg : M.getD ((j : Int)).toNat CT.str.dflt = M[j] := by rw [Int.toNat_natCast]; simp [hjl]
          rw [inL_drop hjl, ← Bool.or_assoc, ← hjg] at hkn
          refine head_intro (j + 1, kn || decide (M.getD ((j : Int)).toNat CT.str.dflt = p.1)) ?_ rfl ⟨hjl, hkn⟩ (by show M.length - (j + 1) < M.length - j; omega)
          repeat (first | exact LeL.nil | refine LeL.drop ?_ | refine LeL.same ?_)
        · obtain rfl : j = M.length := by have := ge_of_dec h3; omega
          rw [List.drop_length, show inL [] p.1 = false from rfl, Bool.or_false] at hkn
          repeat ((conv => whnf); refine ⟨by first | (unfold inI64; omega) | omega | exact ⟨by omega, by omega⟩ | exact rfl | decide +kernel, ?_⟩)
          conv => whnf
          refine cond_intro (fun h4 => ?_) (fun h4 => ?_)
          · have h5 : inL M p.1 = false := by
              have h6 : (!kn) = true := h4
              rw [← hkn]
              cases kn with
              | false => rfl
              | true => cases h6
            have hst : nmF M p = M ++ [p.1] := by
              unfold nmF
              rw [h5, if_neg (by decide)]
            have hnl := nmB_len M p.1
            rw [hst, hnl] at hs1
            have c1 : M.length + 1 ≤ capBound := Nat.le_trans (m := 100000) (by omega) (by decide)
            have v1 : inI64 ((((nmB M).length : Nat) : Int) + (p.1.size : Nat)) := by unfold inI64; omega
            have v2 : inI64 ((((nmB M).length : Nat) : Int) + (p.1.size : Nat) + 1) := by unfold inI64; omega
            repeat ((conv => whnf); refine ⟨by first | exact c1 | exact v1 | exact v2 | ((conv => whnf); exact ⟨⟨rfl, rfl, rfl⟩, trivial⟩) | exact Early.one (by decide +kernel) (by (conv => whnf); exact ⟨rfl, rfl, rfl⟩) trivial | (unfold inI64; omega) | omega | exact ⟨by omega, by omega⟩ | exact rfl | decide +kernel, ?_⟩)
            conv => whnf
            refine head_keep (k + 1, nmF M p) [0, 1, 2, 3] rfl id4 ?_ ?_ ⟨hkl, hgo2⟩ (by show ps.length - (k + 1) < ps.length - k; omega)
            · rw [hst]
              show _ = some [tapeO ys x, AO.row [.p (.l ndC ns)], tokS (M ++ [p.1]).length, _]
              rw [List.length_append]
              rfl
            · rw [hst]
              dsimp only
              rw [hnl]
              repeat (first | exact KeepL.nil | refine KeepL.drop ?_ | refine KeepL.ren rfl ?_)
          · have h5 : inL M p.1 = true := by
              have h6 : (!kn) = false := h4
              rw [← hkn]
              cases kn with
              | true => rfl
              | false => cases h6
            have hst : nmF M p = M := by
              unfold nmF
              rw [if_pos h5]
            repeat ((conv => whnf); refine ⟨by first | (unfold inI64; omega) | omega | exact ⟨by omega, by omega⟩ | exact rfl | decide +kernel, ?_⟩)
            conv => whnf
            refine head_keep (k + 1, nmF M p) [0, 1, 2, 3] rfl id4 ?_ ?_ ⟨hkl, hgo2⟩ (by show ps.length - (k + 1) < ps.length - k; omega)
            · rw [hst]
              rfl
            · rw [hst]
              repeat (first | exact KeepL.nil | refine KeepL.drop ?_ | refine KeepL.ren rfl ?_)
      · obtain rfl : k = ps.length := by have := ge_of_dec h2; omega
        rw [List.drop_length] at hgo2
        have hgo2 : M = nmN _ nd := hgo2
        rw [← hgo2] at hgo
        repeat ((conv => whnf); refine ⟨by first | (unfold inI64; omega) | omega | exact ⟨by omega, by omega⟩ | exact rfl | decide +kernel, ?_⟩)
        conv => whnf
        refine head_keep (i + 1, M) [0, 1, 2] rfl id012 rfl ?_ ⟨hlt, hgo⟩ (by show ns.length - (i + 1) < ns.length - i; omega)
        repeat (first | exact KeepL.nil | refine KeepL.drop ?_ | refine KeepL.ren rfl ?_)
    · obtain rfl : i = ns.length := by have := ge_of_dec h; omega
      rw [List.drop_length] at hgo
      have hgo : L = F := hgo
      subst hgo
      have w1 : inI64 (44 + (((nmB L).length : Nat) : Int)) := by unfold inI64; omega
      repeat ((conv => whnf); refine ⟨by first | exact w1 | (unfold inI64; omega) | omega | exact ⟨by omega, by omega⟩ | exact rfl | decide +kernel, ?_⟩)
      conv => whnf
      refine cond_intro (fun h5 => ?_) (fun h5 => ?_)
      · exfalso
        have : (((encV ns).length : Nat) : Int) < 44 + (((nmB L).length : Nat) : Int) := of_decide_eq_true h5
        omega
      have w2 : inI64 ((((encV ns).length : Nat) : Int) - (((nmB L).length : Nat) : Int)) := by unfold inI64; omega
      repeat ((conv => whnf); refine ⟨by first | exact w2 | (unfold inI64; omega) | omega | exact ⟨by omega, by omega⟩ | exact rfl | decide +kernel, ?_⟩)
      conv => whnf
      refine loop_intro (σ := Nat) (fun j => [(0, XV.s .none), (2, XV.s .none), (3, XV.s .none), (4, XV.s .none), (5, XV.s (.a (.c (.p (.l u8C (encV ns)))))), (6, XV.s .none), (7, XV.s .none), (8, XV.s .none), (10, XV.s .none), (12, XV.s .none), (13, XV.s .none), (15, XV.s .none), (16, XV.s (.int .i64 ((P.length + (nmB (L.take j)).length : Nat)))), (18, XV.s .none), (34, XV.s .none), (36, XV.s .none), (37, XV.s .none), (38, XV.s .none), (39, XV.s .none), (43, XV.s .none), (44, XV.s .none), (45, XV.s .none), (46, XV.s .none), (49, XV.s .none), (50, XV.s .none), (51, XV.s .none), (52, XV.s .none), (64, XV.s .none), (82, XV.s .none), (87, XV.s (.a (.c (.own 2 .str L)))), (88, XV.s (.int .i64 (L.length : Nat))), (89, XV.s (.int .i64 (j : Nat))), (90, XV.s .none), (112, XV.s .none)])
        (fun _ => [tapeO ys x, .row [.p (.l ndC ns)], tokS L.length]) (fun j => j ≤ L.length) (fun j => L.length - j) 0 ?_ rfl (Nat.zero_le _) (fun j hj => ?_)
      · rw [show ((((encV ns).length : Nat) : Int) - (((nmB L).length : Nat) : Int)) = ((P.length + (nmB (L.take 0)).length : Nat) : Int) by rw [hFl]; show _ = ((P.length + 0 : Nat) : Int); omega]
        repeat (first | exact LeL.nil | refine LeL.drop ?_ | refine LeL.same ?_)
      repeat ((conv => whnf); refine ⟨by first | (unfold inI64; omega) | omega | exact ⟨by omega, by omega⟩ | exact rfl | decide +kernel, ?_⟩)
      conv => whnf
      refine cond_intro (fun h6 => ?_) (fun h6 => ?_)
      · have hjl : j < L.length := lt_of_dec h6
        have hin3 : 0 ≤ (j : Int) ∧ (j : Int) < (L.length : Nat) := by omega
        have hjg : L.getD ((j : Int)).toNat CT.str.dflt = L[j] := by rw [Int.toNat_natCast]; simp [hjl]
        obtain ⟨b1, b2, b3, b4⟩ := nm_at (P := P) hjl
        rw [← hE] at b1 b2 b3
        obtain ⟨s, hs⟩ : ∃ s, L[j] = s := ⟨_, rfl⟩
        rw [hs] at b1 b2 b3 b4 hjg
        obtain ⟨a, ha⟩ : ∃ a, P.length + (nmB (L.take j)).length = a := ⟨_, rfl⟩
        have e5 : P.length + (nmB (L.take (j + 1))).length = a + s.size + 1 := by omega
        rw [ha] at b1 b2 b3
        rw [ha]
        have x1 : inI64 ((a : Int) + (s.size : Nat)) := by unfold inI64; omega
        have x2 : 0 ≤ (a : Int) ∧ (a : Int) ≤ (a : Int) + (s.size : Nat) ∧ (a : Int) + (s.size : Nat) ≤ ((encV ns).length : Nat) := by omega
        have x3 : 0 ≤ (a : Int) + (s.size : Nat) ∧ (a : Int) + (s.size : Nat) < ((encV ns).length : Nat) := by omega
        conv => whnf
        refine ⟨hin3, ?_⟩
        conv => whnf
        rw [hjg]
        repeat ((conv => whnf); refine ⟨by first | exact x1 | exact x2 | exact fun _ => x1 | exact fun _ => x3 | (unfold inI64; omega) | omega | exact ⟨by omega, by omega⟩ | exact rfl | decide +kernel, ?_⟩)
        conv => whnf
        have y1 : bytesOf (((encV ns).take ((a : Int) + (s.size : Nat)).toNat).drop ((a : Int)).toNat) = s := b1
        have y2 : (encV ns).getD ((a : Int) + (s.size : Nat)).toNat u8C.dflt = (0 : Int) := b2
        have hLl := nmB_ge L
        have x5 : inI64 (((s.size : Nat) : Int) + 1) := by unfold inI64; omega
        have x6 : inI64 ((a : Int) + (((s.size : Nat) : Int) + 1)) := by unfold inI64; omega
        refine cond_intro (fun h7 => ?_) (fun h7 => ?_)
        · exfalso
          rw [decide_eq_true y1, decide_eq_true y2] at h7
          cases h7
        repeat ((conv => whnf); refine ⟨by first | exact x5 | exact x6 | (unfold inI64; omega) | omega | exact ⟨by omega, by omega⟩ | exact rfl | decide +kernel, ?_⟩)
        conv => whnf
        refine head_intro (j + 1) ?_ rfl hjl (by show L.length - (j + 1) < L.length - j; omega)
        dsimp only
        rw [e5, show ((a + s.size + 1 : Nat) : Int) = (a : Int) + (((s.size : Nat) : Int) + 1) by omega]
        repeat (first | exact LeL.nil | refine LeL.drop ?_ | refine LeL.same ?_)
      · obtain rfl : j = L.length := by have := ge_of_dec h6; omega
        repeat ((conv => whnf); refine ⟨by first | (unfold inI64; omega) | omega | exact ⟨by omega, by omega⟩ | exact rfl | decide +kernel, ?_⟩)
        conv => whnf
        rw [List.take_length]
        refine ends_eq ⟨congrArg (fun b => SV.bool b) (?_ : _ = true), rfl⟩
        rw [hFl]
        simp
  · cases hs
end Go.Ab
namespace Go.Ab
open Go.RowKit
set_option linter.unusedSectionVars false

/-- The fields of a struct, each behind the one before it. -/
def nestGo (P : Program) (f : TypeId → Option CT) (tot : Nat) : List Field → Nat → Option CT
  | [], _ => none
  | [x], off => match f x.type with
    | some c => if x.offset = off ∧ P.cellsOf x.type = c.width ∧ tot = off + c.width then some c else none
    | none => none
  | x :: r, off => match f x.type, nestGo P f tot r (off + P.cellsOf x.type) with
    | some a, some b => if x.offset = off ∧ P.cellsOf x.type = a.width then some (.pair a b) else none
    | _, _ => none
/-- The shape of a type of numbers, texts, structs and slices. -/
def nestOf (P : Program) : Nat → TypeId → Option CT
  | 0, _ => none
  | d + 1, t => match P.underlying t with
    | some (.int k) => some (.int k)
    | some .bool => some .bool
    | some .string => some .str
    | some (.slice e) => match nestOf P d e with
      | some c => if P.cellsOf e = c.width then some (.list c) else none
      | none => none
    | some (.struct fs) => nestGo P (nestOf P d) (P.cellsOf t) fs.toList 0
    | _ => none

theorem CT.width_pos : ∀ t : CT, 0 < t.width
  | .pair a b => by have := CT.width_pos a; show 0 < a.width + b.width; omega
  | .int _ => Nat.one_pos
  | .bool => Nat.one_pos
  | .str => Nat.one_pos
  | .list _ => Nat.one_pos
  | .fn => Nat.one_pos
  | .map _ _ => Nat.one_pos

variable {H : Type} {enc : TypeId × Value → H} {P : Program} {w : World} {base : Nat} {spare : Nat → Bool} {held : Bool} {I : Cells}

theorem nestGo_tot {f : TypeId → Option CT} {tot : Nat} : ∀ (fs : List Field) (o : Nat) (c : CT), nestGo P f tot fs o = some c → o ≤ tot := by
  intro fs
  induction fs with
  | nil => intro o c h; cases h
  | cons u v ihh =>
    intro o c h
    cases v with
    | nil =>
      simp only [nestGo] at h
      split at h
      · split at h
        · rename_i hc; omega
        · cases h
      · cases h
    | cons v1 v2 =>
      simp only [nestGo] at h
      split at h
      · rename_i hh
        have := ihh _ _ hh
        omega
      · cases h

theorem nestGo_rep {f : TypeId → Option CT} {tot : Nat} {cs : List Value} (htot : tot = cs.length) :
    ∀ (fs : List Field) (off : Nat) (c : CT), nestGo P f tot fs off = some c → off ≤ cs.length →
      (∀ x ∈ fs, ∀ a, f x.type = some a → ∃ z : a.den, Rep I w a z ((cs.drop x.offset).take (P.cellsOf x.type))) → ∃ z : c.den, Rep I w c z (cs.drop off) := by
  intro fs
  induction fs with
  | nil => intro off c h; cases h
  | cons x r ih =>
    intro off c h ho hx
    cases r with
    | nil =>
      simp only [nestGo] at h
      cases hf : f x.type with
      | none => rw [hf] at h; cases h
      | some a =>
        rw [hf] at h
        dsimp only at h
        split at h
        · rename_i hc
          obtain rfl : a = c := Option.some.inj h
          obtain ⟨h1, h2, h3⟩ := hc
          obtain ⟨z, hz⟩ := hx x (by simp) a hf
          refine ⟨z, ?_⟩
          rwa [h1, List.take_of_length_le (by rw [List.length_drop]; omega)] at hz
        · cases h
    | cons y r =>
      simp only [nestGo] at h
      cases hf : f x.type with
      | none => rw [hf] at h; cases h
      | some a =>
        rw [hf] at h
        cases hg : nestGo P f tot (y :: r) (off + P.cellsOf x.type) with
        | none =>
          rw [hg] at h
          cases h
        | some b =>
          rw [hg] at h
          dsimp only at h
          split at h
          · rename_i hc
            cases h
            obtain ⟨h1, h2⟩ := hc
            have hle : off + P.cellsOf x.type ≤ cs.length := by
              have := nestGo_tot _ _ _ hg
              omega
            obtain ⟨z1, hz1⟩ := hx x (by simp) a hf
            obtain ⟨z2, hz2⟩ := ih _ b hg hle fun u hu => hx u (by simp [hu])
            refine ⟨(z1, z2), ⟨(cs.drop off).take (P.cellsOf x.type), cs.drop (off + P.cellsOf x.type), ?_, ?_, hz2⟩⟩
            · rw [← List.drop_drop, List.take_append_drop]
            · rwa [h1] at hz1
          · cases h

theorem choose_list' {α : Type} (n : Nat) (p : Nat → α → Prop) (h : ∀ i, i < n → ∃ z, p i z) : ∃ zs : List α, zs.length = n ∧ ∀ i z, zs[i]? = some z → p i z := by
  induction n with
  | zero => exact ⟨[], rfl, fun i z hz => by simp at hz⟩
  | succ n ih =>
    obtain ⟨zs, h1, h2⟩ := ih fun i hi => h i (by omega)
    obtain ⟨z, hz⟩ := h n (by omega)
    refine ⟨zs ++ [z], by simp [h1], fun i x hx => ?_⟩
    rcases Nat.lt_or_ge i zs.length with hi | hi
    · rw [List.getElem?_append_left hi] at hx
      exact h2 i x hx
    · have e : i = n := by
        have := (List.getElem?_eq_some_iff.1 hx).1
        simp at this
        omega
      subst e
      rw [List.getElem?_append_right (by omega), show i - zs.length = 0 by omega] at hx
      cases hx
      exact hz

theorem addr_add4 (b off n : Nat) : (⟨b, off, none⟩ : Addr).add n = ⟨b, off + n, none⟩ := by unfold Addr.add; split <;> simp_all
theorem cell_nospot {w : World} {a : Addr} {v : Value} (h : w.cell? a = some v) : a.spot = none := by
  unfold World.cell? at h
  split at h
  · split at h
    · cases h
    · rename_i hs
      cases hsp : a.spot with
      | none => rfl
      | some s => rw [hsp] at hs; simp at hs
  · cases h

theorem nest_rep (hI : ∀ b o, b < w.heap.size → I b o) : ∀ (d : Nat) (t : TypeId) (c : CT), nestOf P d t = some c → ∀ (fuel : Nat) (cs : List Value) (y : DataW H × List MemPlace), DataW.trod enc P w base spare held fuel t cs = some y → ∃ z : c.den, Rep I w c z cs := by
  intro d
  induction d with
  | zero => intro t c h; cases h
  | succ d ih =>
    intro t c h fuel cs y hy
    unfold nestOf at h
    split at h
    · rename_i k hu
      cases h
      obtain ⟨n, rfl, _⟩ := DataW.trod_int hu hy
      exact ⟨n, rfl⟩
    · rename_i hu
      cases h
      obtain ⟨b, rfl, _⟩ := DataW.trod_bool hu hy
      exact ⟨b, rfl⟩
    · rename_i hu
      cases h
      obtain ⟨s, rfl, _⟩ := DataW.trod_string hu hy
      exact ⟨s, rfl⟩
    · rename_i e hu
      split at h
      · rename_i c' hc
        split at h
        · rename_i hw
          cases h
          rcases DataW.trod_slice hu hy with ⟨rfl, _⟩ | ⟨a, len, cap, elems, rest, n, _, rfl, _, _, hl, _, hlen, hel, _, _⟩
          · exact ⟨[], .inl ⟨rfl, rfl⟩⟩
          · rcases Nat.eq_zero_or_pos len with h0 | h0
            · subst h0
              exact ⟨[], .inr (.inr ⟨rfl, a, cap, rfl⟩)⟩
            · have hwp := CT.width_pos c'
              have get : ∀ i, i < len → ∃ (cs : List Value) (z : c'.den), cs.length = c'.width ∧ Rep I w c' z cs ∧ ∀ j, j < c'.width → w.cell? ((a.add (i * P.cellsOf e)).add j) = cs[j]? := by
                intro i hi
                have h1 := hel i hi
                rw [List.getElem?_eq_getElem (by omega)] at h1
                obtain ⟨cs, h2, h3⟩ := Option.bind_eq_some_iff.1 h1
                obtain ⟨_, h4, h5⟩ := World.cells?_some h2
                obtain ⟨z, hz⟩ := ih e c' hc n cs _ h3
                exact ⟨cs, z, by rw [h4, hw], hz, fun j hj => h5 j (by rw [hw]; exact hj)⟩
              have hsp : a.spot = none := by
                obtain ⟨cs, _, hcl, _, hcell⟩ := get 0 h0
                have h6 := hcell 0 hwp
                rw [List.getElem?_eq_getElem (by omega)] at h6
                have h7 := cell_nospot h6
                have h8 : (a.add (0 * P.cellsOf e)).add 0 = a := by simp [Addr.add]
                rwa [h8] at h7
              obtain ⟨b, off, sp⟩ := a
              obtain rfl : sp = none := hsp
              have each : ∀ i, i < len → ∃ z : c'.den, ∃ us : List Value, us.length = c'.width ∧ Rep I w c' z us ∧ ∀ j u, us[j]? = some u → w.at' b (off + i * c'.width + j) = some u := by
                intro i hi
                obtain ⟨cs, z, hcl, hz, hcell⟩ := get i hi
                refine ⟨z, cs, hcl, hz, fun j u hj => ?_⟩
                have hjl : j < c'.width := by
                  have := (List.getElem?_eq_some_iff.1 hj).1
                  omega
                have h6 := hcell j hjl
                rw [addr_add4, addr_add4, hj, hw] at h6
                exact h6
              obtain ⟨zs, hz1, hz2⟩ := choose_list' len _ each
              refine ⟨zs, .inr (.inl ⟨b, off, cap, by rw [hz1], by rw [hz1]; exact hl, fun i z hi => ?_⟩)⟩
              obtain ⟨us, _, h2, h3⟩ := hz2 i z hi
              exact ⟨us, h2, fun j u hj => ⟨hI _ _ (cell_lt (h3 j u hj)), h3 j u hj⟩⟩
        · cases h
      · cases h
    · rename_i fs hu
      obtain ⟨xs, n, _, _, hl, hxl, hf⟩ := DataW.trod_struct hu hy
      obtain ⟨z, hz⟩ := nestGo_rep (P := P) hl.symm fs.toList 0 c h (Nat.zero_le _) fun x hx a ha => by
        obtain ⟨i, hi⟩ := List.getElem?_of_mem hx
        have hi' : fs[i]? = some x := by rw [← Array.getElem?_toList]; exact hi
        have h2 := hf i x hi'
        have hil : i < xs.length := by
          have := (Array.getElem?_eq_some_iff.1 hi').1
          omega
        rw [List.getElem?_eq_getElem hil] at h2
        exact ih x.type a ha n _ _ h2
      exact ⟨z, by rwa [List.drop_zero] at hz⟩
    · cases h

/-- A slice that is read, with slices in it: what it holds. -/
theorem nest_slice {t : TypeId} {c : CT} {d : Nat} {v : Value} {y : DataW H} {ps : List MemPlace} (hI : ∀ b o, b < w.heap.size → I b o) (hc : nestOf P d t = some (.list c))
    (h : DataW.Trod enc P w base spare held t v y ps) {a : Option Addr} {len cap : Nat} (hv : v = .slice a len cap) : ∃ zs : List c.den, RepV I w (.l c zs) v := by
  subst hv
  obtain ⟨fuel, hf⟩ := h
  have hcs : (Value.slice a len cap).cells.toList = [.slice a len cap] := rfl
  rw [hcs] at hf
  obtain ⟨zs, hz⟩ := nest_rep hI d t _ hc fuel _ _ hf
  exact ⟨zs, hz⟩
end Go.Ab
