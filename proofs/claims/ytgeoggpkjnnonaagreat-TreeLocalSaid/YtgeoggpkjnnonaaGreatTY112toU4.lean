/- TreeLocal: the law. -/
import Derived.Test.YtgeoggpkjnnonaaGreatTY102toU7
import Derived.Test.YtgeoggpkjnnonaaGreatTY110toY118
import Derived.Test.YtgeoggpkjnnonaaGreatTX0toY60
namespace Go.Ab
open Go.Proofs
set_option linter.unusedSectionVars false
set_option maxRecDepth 100000
variable [Base]

theorem propL_ok : ∀ p ∈ propL, prpB p = true := by decide +kernel
theorem pick_mem9 {l : List ByteArray} (h : 0 < l.length) (hl : l.length ≤ 4611686018427387904) (zs : List Int) (n : Int) : pickS l zs n ∈ l := by
  unfold pickS
  have h1 := modV_nonneg (rawV zs n) (l.length : Nat)
  have h2 := modV_lt (rawV zs n) (l.length : Nat) (by omega)
  have h3 : (modV (rawV zs n) (l.length : Nat)).toNat < l.length := by omega
  rw [List.getD_eq_getElem?_getD, List.getElem?_eq_getElem h3]
  exact List.getElem_mem h3
theorem pick_prp (zs : List Int) (n : Int) : prpB (pickS propL zs n) = true := propL_ok _ (pick_mem9 (by decide) (by decide) zs n)
theorem stE_prp {ps : List Pt} {p : Pt} (h : prpB p.1 = true) : stE ps p = 0 ∨ stE ps p = 3 := by
  unfold stE
  rw [if_neg (ne_f h)]
  split
  · exact .inr rfl
  · exact .inl rfl
theorem set_vlv {ns : List Nd} (hv : Vl ns) {k : Nat} (hk : k < ns.length) {p : Pt} (hp : prpB p.1 = true) : (SetV (ns, pathV ns k, p) = (stN ns k p, 0) ∧ stE (ndAt ns k).2.2 p = 0) ∨ (SetV (ns, pathV ns k, p) = ([], 3) ∧ stE (ndAt ns k).2.2 p = 3) := by
  unfold SetV
  dsimp only
  rw [if_pos (chk_vld.2 hv.vld), fnd_path hv hk, if_pos rfl]
  dsimp only
  rw [Int.toNat_natCast]
  rcases stE_prp (ps := (ndAt ns k).2.2) hp with h | h
  · exact .inl ⟨by rw [if_pos h], h⟩
  · exact .inr ⟨by rw [if_neg (by rw [h]; decide), h], h⟩
def woP (ps : List Pt) (s : ByteArray) : List Pt := ps.filter fun p => !decide (p.1 = s)
theorem wo_set : ∀ (ps : List Pt) (i : Nat) (p : Pt), i < ps.length → (ptAt ps i).1 = p.1 → woP (ps.set i p) p.1 = woP ps p.1 := by
  intro ps
  induction ps with
  | nil => intro i p h; cases h
  | cons a ps ih =>
    intro i p h1 h2
    unfold woP at *
    cases i with
    | zero =>
      have h2 : a.1 = p.1 := h2
      rw [List.set_cons_zero, List.filter_cons, List.filter_cons, if_neg (by simp), if_neg (by simp [h2])]
    | succ i =>
      have := ih i p (by simpa using h1) h2
      rw [List.set_cons_succ, List.filter_cons, List.filter_cons, this]
theorem wo_ins (ps : List Pt) (i : Nat) (p : Pt) : woP (ps.take i ++ p :: ps.drop i) p.1 = woP ps p.1 := by
  unfold woP
  rw [List.filter_append, List.filter_cons, if_neg (by simp), ← List.filter_append, List.take_append_drop]
theorem wo_st (ps : List Pt) (p : Pt) : woP (stP ps p) p.1 = woP ps p.1 := by
  unfold stP
  split
  · rename_i h
    unfold fndP at h
    obtain ⟨h1, h2⟩ := Bool.and_eq_true_iff.1 h
    exact wo_set ps _ p (of_decide_eq_true h1) (of_decide_eq_true h2)
  · exact wo_ins ps _ p
theorem stN_at {ns : List Nd} {k i : Nat} {p : Pt} (h : ¬ i = k) : ndAt (stN ns k p) i = ndAt ns i := by
  unfold stN ndAt
  rw [List.getD_eq_getElem?_getD, List.getElem?_set, if_neg (fun h2 => h h2.symm), ← List.getD_eq_getElem?_getD]
theorem stN_at' {ns : List Nd} {k : Nat} {p : Pt} (h : k < ns.length) : ndAt (stN ns k p) k = ((ndAt ns k).1, (ndAt ns k).2.1, stP (ndAt ns k).2.2 p) := by
  unfold stN
  show ((ns.set k _).getD k ndC.dflt) = _
  rw [List.getD_eq_getElem?_getD, List.getElem?_set, if_pos rfl, if_pos h]
  rfl

/-! Without. -/
def wo1 (s : ByteArray) (p : Pt) : Bool := !decide (p.1 = s)
def G1 : Table := ext K4 47 (saysG daPS eaPS fun a => (some (a.1.length ≤ 1000000000), .a (.c (.p (.l ptC (woP a.1 a.2))))))
theorem g1 : TSound Tryz.prog G1 := by
  refine extG k4 47 (fn := Tryz.f47) rfl rfl daPS eaPS _ (fun _ => Nat.le_of_ble_eq_true rfl) [0, 1, 4, 5, 7, 8, 9, 10, 11, 17] fun a hok => ?_
  obtain ⟨ps, s⟩ := a
  have hl : ps.length ≤ 1000000000 := hok
  show runF _ _ _ [] [.c (.p (.l ptC ps)), .c (.str s)] [] fun r H => Ends r H (.a (.c (.p (.l ptC (woP ps s))))) []
  repeat ((conv => whnf); refine ⟨by first | (unfold inI64; omega) | omega | exact ⟨by omega, by omega⟩ | exact rfl | decide +kernel, ?_⟩)
  conv => whnf
  refine loop_weak (σ := Nat × List Pt) (fun ⟨i, out⟩ => [(0, XV.s .none), (1, XV.s (.str s)), (4, XV.s .none), (5, XV.s (.a (.c (.own 0 ptC out)))), (7, XV.s .none), (8, XV.s (.a (.c (.p (.l ptC ps))))), (9, XV.s (.int .i64 (ps.length : Nat))), (10, XV.s (.int .i64 (i : Nat))), (11, XV.s .none), (17, XV.s .none)])
    (fun ⟨_, out⟩ => [.tok ptT ptC out.length true]) (fun ⟨i, out⟩ => i ≤ ps.length ∧ out = woP (ps.take i) s) (fun ⟨i, _⟩ => ps.length - i) (0, []) ?_ ⟨Nat.zero_le _, rfl⟩ ?_
  · refine Weak.own ptT ?_
    repeat (first | exact OwnL.nil | refine OwnL.drop ?_ | refine OwnL.same ?_ | refine OwnL.own ?_)
  rintro ⟨i, out⟩ ⟨hi, ho⟩
  conv => whnf
  refine cond_intro (fun h => ?_) (fun h => ?_)
  · have hin : i < ps.length := lt_of_dec h
    have hob : (0 : Int) ≤ (i : Nat) ∧ (i : Int) < (ps.length : Nat) := ⟨by omega, by omega⟩
    have hwl : out.length ≤ i := by
      rw [ho]
      unfold woP
      refine Nat.le_trans (List.length_filter_le ..) ?_
      rw [List.length_take]
      omega
    have hcap : out.length + 1 ≤ capBound := Nat.le_trans (m := 1000000001) (by omega) (by decide)
    have hst : woP (ps.take (i + 1)) s = out ++ (if (!decide ((ps.getD i ptC.dflt).1 = s)) = true then [ps.getD i ptC.dflt] else []) := by
      rw [ho]
      unfold woP
      have e : ps.getD i ptC.dflt = ps[i] := by simp [hin]
      rw [e, List.take_succ_eq_append_getElem hin, List.filter_append, List.filter_cons, List.filter_nil]
    repeat ((conv => whnf); refine ⟨by first | exact hob | (unfold inI64; omega) | omega | exact ⟨by omega, by omega⟩ | exact rfl | decide +kernel, ?_⟩)
    conv => whnf
    refine cond_intro (fun h2 => ?_) (fun h2 => ?_)
    · have h3 : (!decide ((ps.getD i ptC.dflt).1 = s)) = true := h2
      rw [if_pos h3] at hst
      repeat ((conv => whnf); refine ⟨by first | exact hcap | (unfold inI64; omega) | omega | exact ⟨by omega, by omega⟩ | exact rfl | decide +kernel, ?_⟩)
      conv => whnf
      refine head_keep (i + 1, out ++ [ps.getD i ptC.dflt]) [0] rfl (fun k hk => absurd hk (Nat.not_lt_zero k)) ?_ ?_ ⟨hin, hst.symm⟩ (show ps.length - (i + 1) < ps.length - i by omega)
      · show some [AO.tok _ _ (out.length + 1) true] = some [AO.tok _ _ (out ++ [ps.getD i ptC.dflt]).length true]
        rw [List.length_append]
        rfl
      · repeat (first | exact KeepL.nil | refine KeepL.drop ?_ | refine KeepL.ren rfl ?_)
    · have h3 : (!decide ((ps.getD i ptC.dflt).1 = s)) = false := h2
      rw [if_neg (ne_t h3), List.append_nil] at hst
      repeat ((conv => whnf); refine ⟨by first | (unfold inI64; omega) | omega | exact ⟨by omega, by omega⟩ | exact rfl | decide +kernel, ?_⟩)
      conv => whnf
      refine head_keep (i + 1, out) [0] rfl (fun k hk => absurd hk (Nat.not_lt_zero k)) rfl ?_ ⟨hin, hst.symm⟩ (show ps.length - (i + 1) < ps.length - i by omega)
      repeat (first | exact KeepL.nil | refine KeepL.drop ?_ | refine KeepL.ren rfl ?_)
  · obtain rfl : i = ps.length := by have := ge_of_dec h; omega
    rw [List.take_length] at ho
    rw [← ho]
    repeat ((conv => whnf); refine ⟨by first | (unfold inI64; omega) | omega | exact ⟨by omega, by omega⟩ | exact rfl | decide +kernel, ?_⟩)
    conv => whnf
    exact ends_eq ⟨rfl, rfl⟩

def saysLoc : Says := fun args H => match args, H with
  | [.c (.p (.l (.int .i64) _))], [] => some (none, .bool true, [])
  | _, _ => none
def G2 : Table := ext G1 7 saysLoc
theorem g2 : TSound Tryz.prog G2 := by
  refine ext_run g1 (f := 7) (fn := Tryz.f7) rfl rfl [0, 2, 3, 4, 5, 6, 7, 8, 9, 10, 11, 35, 47, 50, 51, 52, 70] fun args H p r' H' hs hp => ?_
  unfold saysLoc at hs
  split at hs
  · rename_i zs
    cases hs
    refine ⟨Nat.le_of_ble_eq_true rfl, [], rfl, fun k hk => absurd hk (Nat.not_lt_zero k), ?_⟩
    have ht0 := tape_nw9 zs
    generalize hz : (zs : List Int).take 500 = ys at ht0
    obtain ⟨R, hR⟩ : ∃ R, grV ys 0 10 = R := ⟨_, rfl⟩
    have hv := gr_vl ys 0 10
    have hx := gr_ok (zs := ys) (n := 0) (k := 10) ht0
    rw [hR] at hv hx
    obtain ⟨ns, x⟩ := R
    have hv : Vl ns := hv
    have hx : tapeOk ys x := hx
    have hlen := hv.f.len
    have q1 : tapeOk ys 0 ∧ (0 : Int) ≤ 10 ∧ (10 : Int) ≤ 100 := ⟨ht0, by decide, by decide⟩
    have q2 : tapeOk ys x ∧ ((ns.length : Nat) : Int) ≤ 4611686018427387904 := ⟨hx, by omega⟩
    conv => whnf
    rw [hz]
    repeat ((conv => whnf); refine ⟨by first | exact q1 | (unfold inI64; omega) | omega | exact ⟨by omega, by omega⟩ | exact rfl | decide +kernel, ?_⟩)
    conv => whnf
    rw [hR]
    repeat ((conv => whnf); refine ⟨by first | exact q2 | (unfold inI64; omega) | omega | exact ⟨by omega, by omega⟩ | exact rfl | decide +kernel, ?_⟩)
    conv => whnf
    obtain ⟨k, hk⟩ : ∃ k : Nat, modV (rawV ys x) ((ns.length : Nat) : Int) = (k : Int) := ⟨(modV (rawV ys x) ((ns.length : Nat) : Int)).toNat, by have := modV_nonneg (rawV ys x) ((ns.length : Nat) : Int); omega⟩
    have hkn : k < ns.length := by
      have := modV_lt (rawV ys x) ((ns.length : Nat) : Int) (by omega)
      omega
    rw [hk]
    have hpk := rpath_vl hv hkn
    have hx1 := rawN_ok9 hx
    have hx2 := rawN_ok9 hx1
    repeat ((conv => whnf); refine ⟨by first | exact hx1 | exact hx2 | exact ⟨rfl, trivial⟩ | (repeat ((conv => whnf); refine ⟨by ((conv => whnf); first | exact ⟨rfl, rfl, rfl⟩ | exact ⟨rfl, rfl⟩ | exact ⟨⟨rfl, trivial⟩, rfl, rfl, rfl⟩ | exact ⟨hx2, rfl, rfl, rfl⟩), ?_⟩)); ((conv => whnf); exact trivial) | ((conv => whnf); exact ⟨⟨rfl, rfl, rfl⟩, trivial⟩) | exact Early.one (by decide +kernel) (by (conv => whnf); exact ⟨rfl, rfl, rfl⟩) trivial | (unfold inI64; omega) | omega | exact ⟨by omega, by omega⟩ | exact rfl | decide +kernel, ?_⟩)
    conv => whnf
    obtain ⟨s, hs0⟩ : ∃ s, pickS propL ys (rawN ys x) = s := ⟨_, rfl⟩
    obtain ⟨v, hv0⟩ : ∃ v, (valV ys (rawN ys (rawN ys x))).1 = v := ⟨_, rfl⟩
    have hsp : prpB s = true := by rw [← hs0]; exact pick_prp _ _
    rw [hpk, hs0, hv0]
    rcases set_vlv hv hkn (p := (s, v)) hsp with ⟨hset, he⟩ | ⟨hset, he⟩
    · rw [hset]
      obtain ⟨m, hm⟩ : ∃ m, stN ns k (s, v) = m := ⟨_, rfl⟩
      have hml : m.length = ns.length := by rw [← hm]; exact stN_len ..
      have hat : ∀ i, ¬ i = k → ndAt m i = ndAt ns i := fun i hi => by rw [← hm]; exact stN_at hi
      have hak : (ndAt m k).2.2 = stP (ndAt ns k).2.2 (s, v) := by rw [← hm, stN_at' hkn]
      rw [hm]
      repeat ((conv => whnf); refine ⟨by first | (unfold inI64; omega) | omega | exact ⟨by omega, by omega⟩ | (intro hg; first | (unfold inI64; omega) | omega | exact ⟨by omega, by omega⟩ | (simp [lit] at hg; unfold inI64; omega) | (simp [lit] at hg; omega) | (simp [lit] at hg; exact ⟨by omega, by omega⟩)) | (show (_ : Nat) + 1 ≤ 1000000000000; omega) | exact rfl | (unfold inI64; dsimp only; omega) | (dsimp only; omega) | (intro hg; simp [lit] at hg; first | (unfold inI64; dsimp only; omega) | (dsimp only; omega)) | decide +kernel, ?_⟩)
      conv => whnf
      rw [hml]
      refine cond_intro (fun h1 => ?_) (fun h1 => ?_)
      · exfalso
        have h2 : (!decide (((ns.length : Nat) : Int) = (ns.length : Nat))) = true := h1
        simp at h2
      have hps : ∀ i, i < ns.length → (ndAt ns i).2.2.length ≤ 1000000000 := fun i hi => by
        have e : ndAt ns i = ns[i] := by unfold ndAt; simp [hi]
        rw [e]
        exact Nat.le_trans ((lim_len hv.f.lim).1.at hi) (by decide)
      have hk1 : 0 ≤ (k : Int) ∧ (k : Int) < (ns.length : Nat) := by omega
      have hk2 : 0 ≤ (k : Int) ∧ (k : Int) < (m.length : Nat) := by omega
      repeat ((conv => whnf); refine ⟨by first | (unfold inI64; omega) | omega | exact ⟨by omega, by omega⟩ | (intro hg; first | (unfold inI64; omega) | omega | exact ⟨by omega, by omega⟩ | (simp [lit] at hg; unfold inI64; omega) | (simp [lit] at hg; omega) | (simp [lit] at hg; exact ⟨by omega, by omega⟩)) | (show (_ : Nat) + 1 ≤ 1000000000000; omega) | exact rfl | (unfold inI64; dsimp only; omega) | (dsimp only; omega) | (intro hg; simp [lit] at hg; first | (unfold inI64; dsimp only; omega) | (dsimp only; omega)) | decide +kernel, ?_⟩)
      conv => whnf
      refine loop_intro (σ := Nat) (fun i => [(0, XV.s .none), (2, XV.s .none), (3, XV.s .none), (4, XV.s (.a (.c (.ptr 1 0)))), (5, XV.s (.int .i64 (k : Nat))), (6, XV.s (.str s)), (7, XV.s (.a (.c (.ptr 2 0)))), (8, XV.s .none), (9, XV.s .none), (10, XV.s .none), (11, XV.s .none), (35, XV.s .none), (47, XV.s .none), (50, XV.s (.int .i64 (ns.length : Nat))), (51, XV.s (.int .i64 (i : Nat))), (52, XV.s .none), (70, XV.s .none)])
        (fun _ => [tapeO ys (valV ys (rawN ys (rawN ys x))).2, .row [.p (.l ndC ns)], .row [.p (.l ndC m)]]) (fun i => i ≤ ns.length) (fun i => ns.length - i) 0 ?_ rfl (Nat.zero_le _) (fun i hi => ?_)
      · repeat (first | exact LeL.nil | refine LeL.drop ?_ | refine LeL.same ?_)
      conv => whnf
      refine cond_intro (fun h3 => ?_) (fun h3 => ?_)
      · have hin : i < ns.length := lt_of_dec h3
        have hi1 : 0 ≤ (i : Int) ∧ (i : Int) < (ns.length : Nat) := by omega
        have hi2 : 0 ≤ (i : Int) ∧ (i : Int) < (m.length : Nat) := by omega
        have hpi := hps i hin
        repeat ((conv => whnf); refine ⟨by first | exact fun _ => hi1 | exact fun _ => hi2 | exact fun _ => ⟨rfl, hpi⟩ | (unfold inI64; omega) | omega | exact ⟨by omega, by omega⟩ | (intro hg; first | (unfold inI64; omega) | omega | exact ⟨by omega, by omega⟩ | (simp [lit] at hg; unfold inI64; omega) | (simp [lit] at hg; omega) | (simp [lit] at hg; exact ⟨by omega, by omega⟩)) | (show (_ : Nat) + 1 ≤ 1000000000000; omega) | exact rfl | (unfold inI64; dsimp only; omega) | (dsimp only; omega) | (intro hg; simp [lit] at hg; first | (unfold inI64; dsimp only; omega) | (dsimp only; omega)) | decide +kernel, ?_⟩)
        conv => whnf
        refine cond_intro (fun h4 => ?_) (fun h4 => ?_)
        · exfalso
          obtain ⟨h5, h6⟩ := Bool.and_eq_true_iff.1 h4
          have hik : ¬ i = k := by
            have : ¬ (i : Int) = (k : Nat) := by simpa using h5
            omega
          have h7 : samN (ndAt ns i, ndAt m i) = true := by
            rw [hat i hik]
            unfold samN
            simp
          have h8 : (!samN (ndAt ns i, ndAt m i)) = false := by rw [h7]; rfl
          exact Bool.noConfusion (h8.symm.trans h6)
        repeat ((conv => whnf); refine ⟨by first | (unfold inI64; omega) | omega | exact ⟨by omega, by omega⟩ | (intro hg; first | (unfold inI64; omega) | omega | exact ⟨by omega, by omega⟩ | (simp [lit] at hg; unfold inI64; omega) | (simp [lit] at hg; omega) | (simp [lit] at hg; exact ⟨by omega, by omega⟩)) | (show (_ : Nat) + 1 ≤ 1000000000000; omega) | exact rfl | (unfold inI64; dsimp only; omega) | (dsimp only; omega) | (intro hg; simp [lit] at hg; first | (unfold inI64; dsimp only; omega) | (dsimp only; omega)) | decide +kernel, ?_⟩)
        conv => whnf
        refine head_intro (i + 1) ?_ rfl hin (by omega)
        repeat (first | exact LeL.nil | refine LeL.drop ?_ | refine LeL.same ?_)
      · have hie : i = ns.length := by have := ge_of_dec h3; omega
        have hl24 : (ndAt ns k).2.2.length ≤ 24 := by
          have hl := hv.f.lim
          unfold limV at hl
          simp only [Bool.and_eq_true, List.all_eq_true] at hl
          have h5 := hl.2 (ndAt ns k) (by
            have e : ndAt ns k = ns[k] := by unfold ndAt; simp [hkn]
            rw [e]
            exact List.getElem_mem hkn)
          unfold ndLim at h5
          simp only [Bool.and_eq_true, decide_eq_true_eq] at h5
          exact h5.1
        have hmk : (ndAt m k).2.2.length ≤ 1000000000 := by
          rw [hak]
          exact Nat.le_trans (stP_len he hl24).1 (by decide)
        have hpk1 := hps k hkn
        have hwo : woP (ndAt m k).2.2 s = woP (ndAt ns k).2.2 s := by rw [hak]; exact wo_st _ (s, v)
        have hwl : (woP (ndAt ns k).2.2 s).length ≤ 1000000000 := Nat.le_trans (List.length_filter_le ..) hpk1
        repeat ((conv => whnf); refine ⟨by first | exact hk1 | exact hk2 | exact ⟨rfl, hpk1⟩ | exact ⟨rfl, hmk⟩ | exact ⟨rfl, hwl⟩ | (repeat ((conv => whnf); refine ⟨by ((conv => whnf); first | exact ⟨rfl, rfl, rfl⟩ | exact ⟨hk1, rfl, rfl, rfl⟩ | exact ⟨hk2, rfl, rfl, rfl⟩), ?_⟩)); ((conv => whnf); exact trivial) | ((conv => whnf); exact ⟨⟨rfl, rfl, rfl⟩, trivial⟩) | exact Early.one (by decide +kernel) (by (conv => whnf); exact ⟨rfl, rfl, rfl⟩) trivial | (unfold inI64; omega) | omega | exact ⟨by omega, by omega⟩ | (intro hg; first | (unfold inI64; omega) | omega | exact ⟨by omega, by omega⟩ | (simp [lit] at hg; unfold inI64; omega) | (simp [lit] at hg; omega) | (simp [lit] at hg; exact ⟨by omega, by omega⟩)) | (show (_ : Nat) + 1 ≤ 1000000000000; omega) | exact rfl | (unfold inI64; dsimp only; omega) | (dsimp only; omega) | (intro hg; simp [lit] at hg; first | (unfold inI64; dsimp only; omega) | (dsimp only; omega)) | decide +kernel, ?_⟩)
        conv => whnf
        show Ends (.bool (samN ((0, ⟨#[]⟩, woP (ndAt ns k).2.2 s), 0, ⟨#[]⟩, woP (ndAt m k).2.2 s) && true)) [] (.bool true) []
        rw [hwo]
        refine ends_eq ⟨?_, rfl⟩
        unfold samN
        simp
    · rw [hset]
      repeat ((conv => whnf); refine ⟨by first | (unfold inI64; omega) | omega | exact ⟨by omega, by omega⟩ | (intro hg; first | (unfold inI64; omega) | omega | exact ⟨by omega, by omega⟩ | (simp [lit] at hg; unfold inI64; omega) | (simp [lit] at hg; omega) | (simp [lit] at hg; exact ⟨by omega, by omega⟩)) | (show (_ : Nat) + 1 ≤ 1000000000000; omega) | exact rfl | (unfold inI64; dsimp only; omega) | (dsimp only; omega) | (intro hg; simp [lit] at hg; first | (unfold inI64; dsimp only; omega) | (dsimp only; omega)) | decide +kernel, ?_⟩)
      conv => whnf
      exact ends_eq ⟨rfl, rfl⟩
  · cases hs
end Go.Ab
namespace Go.Ab
open Go.RowKit
set_option linter.unusedSectionVars false

/-- The fields of a struct, each behind the one before it. -/
def nestGo (P : Program) (f : TypeId → Option CT) (tot : Nat) : List Field → Nat → Option CT
  | [], _ => none
  | [x], off => match f x.type with
    | some c => if x.offset = off ∧ P.cellsOf x.type = c.width ∧ tot = off + c.width then some c else none
    | none => none
  | x :: r, off => match f x.type, nestGo P f tot r (off + P.cellsOf x.type) with
    | some a, some b => if x.offset = off ∧ P.cellsOf x.type = a.width then some (.pair a b) else none
    | _, _ => none
/-- The shape of a type of numbers, texts, structs and slices. -/
def nestOf (P : Program) : Nat → TypeId → Option CT
  | 0, _ => none
  | d + 1, t => match P.underlying t with
    | some (.int k) => some (.int k)
    | some .bool => some .bool
    | some .string => some .str
    | some (.slice e) => match nestOf P d e with
      | some c => if P.cellsOf e = c.width then some (.list c) else none
      | none => none
    | some (.struct fs) => nestGo P (nestOf P d) (P.cellsOf t) fs.toList 0
    | _ => none

theorem CT.width_pos : ∀ t : CT, 0 < t.width
  | .pair a b => by have := CT.width_pos a; show 0 < a.width + b.width; omega
  | .int _ => Nat.one_pos
  | .bool => Nat.one_pos
  | .str => Nat.one_pos
  | .list _ => Nat.one_pos
  | .fn => Nat.one_pos
  | .map _ _ => Nat.one_pos

variable {H : Type} {enc : TypeId × Value → H} {P : Program} {w : World} {base : Nat} {spare : Nat → Bool} {held : Bool} {I : Cells}

theorem nestGo_tot {f : TypeId → Option CT} {tot : Nat} : ∀ (fs : List Field) (o : Nat) (c : CT), nestGo P f tot fs o = some c → o ≤ tot := by
  intro fs
  induction fs with
  | nil => intro o c h; cases h
  | cons u v ihh =>
    intro o c h
    cases v with
    | nil =>
      simp only [nestGo] at h
      split at h
      · split at h
        · rename_i hc; omega
        · cases h
      · cases h
    | cons v1 v2 =>
      simp only [nestGo] at h
      split at h
      · rename_i hh
        have := ihh _ _ hh
        omega
      · cases h

theorem nestGo_rep {f : TypeId → Option CT} {tot : Nat} {cs : List Value} (htot : tot = cs.length) :
    ∀ (fs : List Field) (off : Nat) (c : CT), nestGo P f tot fs off = some c → off ≤ cs.length →
      (∀ x ∈ fs, ∀ a, f x.type = some a → ∃ z : a.den, Rep I w a z ((cs.drop x.offset).take (P.cellsOf x.type))) → ∃ z : c.den, Rep I w c z (cs.drop off) := by
  intro fs
  induction fs with
  | nil => intro off c h; cases h
  | cons x r ih =>
    intro off c h ho hx
    cases r with
    | nil =>
      simp only [nestGo] at h
      cases hf : f x.type with
      | none => rw [hf] at h; cases h
      | some a =>
        rw [hf] at h
        dsimp only at h
        split at h
        · rename_i hc
          obtain rfl : a = c := Option.some.inj h
          obtain ⟨h1, h2, h3⟩ := hc
          obtain ⟨z, hz⟩ := hx x (by simp) a hf
          refine ⟨z, ?_⟩
          rwa [h1, List.take_of_length_le (by rw [List.length_drop]; omega)] at hz
        · cases h
    | cons y r =>
      simp only [nestGo] at h
      cases hf : f x.type with
      | none => rw [hf] at h; cases h
      | some a =>
        rw [hf] at h
        cases hg : nestGo P f tot (y :: r) (off + P.cellsOf x.type) with
        | none =>
          rw [hg] at h
          cases h
        | some b =>
          rw [hg] at h
          dsimp only at h
          split at h
          · rename_i hc
            cases h
            obtain ⟨h1, h2⟩ := hc
            have hle : off + P.cellsOf x.type ≤ cs.length := by
              have := nestGo_tot _ _ _ hg
              omega
            obtain ⟨z1, hz1⟩ := hx x (by simp) a hf
            obtain ⟨z2, hz2⟩ := ih _ b hg hle fun u hu => hx u (by simp [hu])
            refine ⟨(z1, z2), ⟨(cs.drop off).take (P.cellsOf x.type), cs.drop (off + P.cellsOf x.type), ?_, ?_, hz2⟩⟩
            · rw [← List.drop_drop, List.take_append_drop]
            · rwa [h1] at hz1
          · cases h

theorem choose_list' {α : Type} (n : Nat) (p : Nat → α → Prop) (h : ∀ i, i < n → ∃ z, p i z) : ∃ zs : List α, zs.length = n ∧ ∀ i z, zs[i]? = some z → p i z := by
  induction n with
  | zero => exact ⟨[], rfl, fun i z hz => by simp at hz⟩
  | succ n ih =>
    obtain ⟨zs, h1, h2⟩ := ih fun i hi => h i (by omega)
    obtain ⟨z, hz⟩ := h n (by omega)
    refine ⟨zs ++ [z], by simp [h1], fun i x hx => ?_⟩
    rcases Nat.lt_or_ge i zs.length with hi | hi
    · rw [List.getElem?_append_left hi] at hx
      exact h2 i x hx
    · have e : i = n := by
        have := (List.getElem?_eq_some_iff.1 hx).1
        simp at this
        omega
      subst e
      rw [List.getElem?_append_right (by omega), show i - zs.length = 0 by omega] at hx
      cases hx
      exact hz

theorem addr_add4 (b off n : Nat) : (⟨b, off, none⟩ : Addr).add n = ⟨b, off + n, none⟩ := by unfold Addr.add; split <;> simp_all
theorem cell_nospot {w : World} {a : Addr} {v : Value} (h : w.cell? a = some v) : a.spot = none := by
  unfold World.cell? at h
  split at h
  · split at h
    · cases h
    · rename_i hs
      cases hsp : a.spot with
      | none => rfl
      | some s => rw [hsp] at hs; simp at hs
  · cases h

theorem nest_rep (hI : ∀ b o, b < w.heap.size → I b o) : ∀ (d : Nat) (t : TypeId) (c : CT), nestOf P d t = some c → ∀ (fuel : Nat) (cs : List Value) (y : DataW H × List MemPlace), DataW.trod enc P w base spare held fuel t cs = some y → ∃ z : c.den, Rep I w c z cs := by
  intro d
  induction d with
  | zero => intro t c h; cases h
  | succ d ih =>
    intro t c h fuel cs y hy
    unfold nestOf at h
    split at h
    · rename_i k hu
      cases h
      obtain ⟨n, rfl, _⟩ := DataW.trod_int hu hy
      exact ⟨n, rfl⟩
    · rename_i hu
      cases h
      obtain ⟨b, rfl, _⟩ := DataW.trod_bool hu hy
      exact ⟨b, rfl⟩
    · rename_i hu
      cases h
      obtain ⟨s, rfl, _⟩ := DataW.trod_string hu hy
      exact ⟨s, rfl⟩
    · rename_i e hu
      split at h
      · rename_i c' hc
        split at h
        · rename_i hw
          cases h
          rcases DataW.trod_slice hu hy with ⟨rfl, _⟩ | ⟨a, len, cap, elems, rest, n, _, rfl, _, _, hl, _, hlen, hel, _, _⟩
          · exact ⟨[], .inl ⟨rfl, rfl⟩⟩
          · rcases Nat.eq_zero_or_pos len with h0 | h0
            · subst h0
              exact ⟨[], .inr (.inr ⟨rfl, a, cap, rfl⟩)⟩
            · have hwp := CT.width_pos c'
              have get : ∀ i, i < len → ∃ (cs : List Value) (z : c'.den), cs.length = c'.width ∧ Rep I w c' z cs ∧ ∀ j, j < c'.width → w.cell? ((a.add (i * P.cellsOf e)).add j) = cs[j]? := by
                intro i hi
                have h1 := hel i hi
                rw [List.getElem?_eq_getElem (by omega)] at h1
                obtain ⟨cs, h2, h3⟩ := Option.bind_eq_some_iff.1 h1
                obtain ⟨_, h4, h5⟩ := World.cells?_some h2
                obtain ⟨z, hz⟩ := ih e c' hc n cs _ h3
                exact ⟨cs, z, by rw [h4, hw], hz, fun j hj => h5 j (by rw [hw]; exact hj)⟩
              have hsp : a.spot = none := by
                obtain ⟨cs, _, hcl, _, hcell⟩ := get 0 h0
                have h6 := hcell 0 hwp
                rw [List.getElem?_eq_getElem (by omega)] at h6
                have h7 := cell_nospot h6
                have h8 : (a.add (0 * P.cellsOf e)).add 0 = a := by simp [Addr.add]
                rwa [h8] at h7
              obtain ⟨b, off, sp⟩ := a
              obtain rfl : sp = none := hsp
              have each : ∀ i, i < len → ∃ z : c'.den, ∃ us : List Value, us.length = c'.width ∧ Rep I w c' z us ∧ ∀ j u, us[j]? = some u → w.at' b (off + i * c'.width + j) = some u := by
                intro i hi
                obtain ⟨cs, z, hcl, hz, hcell⟩ := get i hi
                refine ⟨z, cs, hcl, hz, fun j u hj => ?_⟩
                have hjl : j < c'.width := by
                  have := (List.getElem?_eq_some_iff.1 hj).1
                  omega
                have h6 := hcell j hjl
                rw [addr_add4, addr_add4, hj, hw] at h6
                exact h6
              obtain ⟨zs, hz1, hz2⟩ := choose_list' len _ each
              refine ⟨zs, .inr (.inl ⟨b, off, cap, by rw [hz1], by rw [hz1]; exact hl, fun i z hi => ?_⟩)⟩
              obtain ⟨us, _, h2, h3⟩ := hz2 i z hi
              exact ⟨us, h2, fun j u hj => ⟨hI _ _ (cell_lt (h3 j u hj)), h3 j u hj⟩⟩
        · cases h
      · cases h
    · rename_i fs hu
      obtain ⟨xs, n, _, _, hl, hxl, hf⟩ := DataW.trod_struct hu hy
      obtain ⟨z, hz⟩ := nestGo_rep (P := P) hl.symm fs.toList 0 c h (Nat.zero_le _) fun x hx a ha => by
        obtain ⟨i, hi⟩ := List.getElem?_of_mem hx
        have hi' : fs[i]? = some x := by rw [← Array.getElem?_toList]; exact hi
        have h2 := hf i x hi'
        have hil : i < xs.length := by
          have := (Array.getElem?_eq_some_iff.1 hi').1
          omega
        rw [List.getElem?_eq_getElem hil] at h2
        exact ih x.type a ha n _ _ h2
      exact ⟨z, by rwa [List.drop_zero] at hz⟩
    · cases h

/-- A slice that is read, with slices in it: what it holds. -/
theorem nest_slice {t : TypeId} {c : CT} {d : Nat} {v : Value} {y : DataW H} {ps : List MemPlace} (hI : ∀ b o, b < w.heap.size → I b o) (hc : nestOf P d t = some (.list c))
    (h : DataW.Trod enc P w base spare held t v y ps) {a : Option Addr} {len cap : Nat} (hv : v = .slice a len cap) : ∃ zs : List c.den, RepV I w (.l c zs) v := by
  subst hv
  obtain ⟨fuel, hf⟩ := h
  have hcs : (Value.slice a len cap).cells.toList = [.slice a len cap] := rfl
  rw [hcs] at hf
  obtain ⟨zs, hz⟩ := nest_rep hI d t _ hc fuel _ _ hf
  exact ⟨zs, hz⟩
end Go.Ab
