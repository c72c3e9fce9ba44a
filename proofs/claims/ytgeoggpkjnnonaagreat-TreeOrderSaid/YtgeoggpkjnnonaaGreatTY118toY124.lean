/- Set of the program puts a property where the reference puts it; what it makes of a valid tree is valid. -/
import Derived.Test.YtgeoggpkjnnonaaGreatTY108toY111
import Derived.Test.YtgeoggpkjnnonaaGreatTY102toY121
import Derived.Test.YtgeoggpkjnnonaaGreatTY117toY107
namespace Go.Ab
open Go.Proofs
set_option linter.unusedSectionVars false
set_option maxRecDepth 100000
variable [Base]

theorem ltC_spec (nm : ByteArray) : ∀ ps : List Pt, (∀ j, j < ltC nm ps → bLt (ptAt ps j).1 nm = true) ∧ (ltC nm ps < ps.length → bLt (ptAt ps (ltC nm ps)).1 nm = false) := by
  intro ps
  induction ps with
  | nil => exact ⟨fun j h => absurd h (Nat.not_lt_zero j), fun h => absurd h (Nat.not_lt_zero _)⟩
  | cons q r ih =>
    unfold ltC
    split
    · rename_i h
      refine ⟨fun j hj => ?_, fun hj => ?_⟩
      · cases j with
        | zero => exact h
        | succ j => exact ih.1 j (by omega)
      · exact ih.2 (by simpa using hj)
    · rename_i h
      refine ⟨fun j hj => absurd hj (Nat.not_lt_zero j), fun _ => ?_⟩
      simpa using h
theorem pos_ltC (ps : List Pt) (nm : ByteArray) : posV ps nm = ltC nm ps := by
  obtain ⟨h1, h2⟩ := ltC_spec nm ps
  have hle := ltC_le nm ps
  rcases Nat.lt_or_eq_of_le hle with h | h
  · refine skGo_yes _ _ _ (Nat.zero_le _) (by omega) ?_ fun j _ hj => ?_
    · show (!bLt (ptAt ps (ltC nm ps)).1 nm) = true
      rw [h2 h]
      rfl
    · show (!bLt (ptAt ps j).1 nm) = false
      rw [h1 j hj]
      rfl
  · have := skGo_no (p := fun i => !bLt (ptAt ps i).1 nm) ps.length 0 fun j _ hj => by
      show (!bLt (ptAt ps j).1 nm) = false
      rw [h1 j (by omega)]
      rfl
    rw [Nat.zero_add] at this
    rw [h]
    exact this
theorem st_put (ps : List Pt) (p : Pt) : stP ps p = putV (ps, p) := by
  have hle := ltC_le p.1 ps
  unfold stP putV
  dsimp only
  rw [← pos_ltC] at hle ⊢
  by_cases hlt : posV ps p.1 < ps.length
  · rw [List.drop_eq_getElem_cons hlt]
    have e : ptAt ps (posV ps p.1) = ps[posV ps p.1] := pt_at' hlt
    by_cases hn : (ptAt ps (posV ps p.1)).1 = p.1
    · have hf : fndP ps p.1 = true := by
        unfold fndP
        rw [decide_eq_true hlt, decide_eq_true hn]
        rfl
      rw [if_pos hf]
      rw [e] at hn
      dsimp only
      rw [if_pos hn, List.set_eq_take_append_cons_drop, if_pos hlt]
    · have hf : fndP ps p.1 = false := by
        unfold fndP
        rw [decide_eq_false hn, Bool.and_false]
      rw [if_neg (ne_t hf)]
      rw [e] at hn
      dsimp only
      rw [if_neg hn, ← List.drop_eq_getElem_cons hlt]
      rfl
  · have hf : fndP ps p.1 = false := by
      unfold fndP
      rw [decide_eq_false hlt, Bool.false_and]
    rw [if_neg (ne_t hf), List.drop_of_length_le (by omega)]
    unfold wiP
    dsimp only
    rw [Int.toNat_natCast, List.drop_of_length_le (by omega)]
theorem stN_setN (ns : List Nd) (k : Nat) (p : Pt) : stN ns k p = setN ns k p.1 p.2 := by
  unfold stN setN
  rw [st_put]
theorem wi_mem {ps : List Pt} {p q : Pt} (h : q ∈ stP ps p) : q = p ∨ q ∈ ps := by
  unfold stP at h
  split at h
  · rcases List.mem_or_eq_of_mem_set h with h | h
    · exact .inr h
    · exact .inl h
  · unfold wiP at h
    rcases List.mem_append.1 h with h | h
    · exact .inr (List.mem_of_mem_take h)
    · rcases List.mem_cons.1 h with h | h
      · exact .inl h
      · exact .inr (List.mem_of_mem_drop h)
theorem stP_len {ps : List Pt} {p : Pt} (h : stE ps p = 0) (hl : ps.length ≤ 24) : (stP ps p).length ≤ 24 ∧ p.2.size ≤ 256 := by
  unfold stE at h
  split at h
  · cases h
  · split at h
    · cases h
    · rename_i h1
      simp at h1
      refine ⟨?_, h1.2⟩
      unfold stP
      split
      · rw [List.length_set]; exact hl
      · rename_i h2
        have h3 := h1.1 (by simpa using h2)
        unfold wiP
        simp only [List.length_append, List.length_take, List.length_cons, List.length_drop]
        omega
theorem vl_st {ns : List Nd} (hv : Vl ns) {k : Nat} (hk : k < ns.length) {p : Pt} (hp : prpB p.1 = true) (he : stE (ndAt ns k).2.2 p = 0) : Vl (stN ns k p) := by
  have hl := hv.f.lim
  have hlim : limV (stN ns k p) = true := by
    unfold limV at hl ⊢
    rw [stN_len]
    simp only [Bool.and_eq_true, List.all_eq_true] at hl ⊢
    refine ⟨hl.1, fun n hn => ?_⟩
    unfold stN at hn
    rcases List.mem_or_eq_of_mem_set hn with h | h
    · exact hl.2 n h
    · have h1 := hl.2 (ndAt ns k) (by
        have e : ndAt ns k = ns[k] := by unfold ndAt; simp [hk]
        rw [e]
        exact List.getElem_mem hk)
      rw [h]
      unfold ndLim at h1 ⊢
      simp only [Bool.and_eq_true, decide_eq_true_eq, List.all_eq_true] at h1 ⊢
      obtain ⟨g1, g2⟩ := stP_len he h1.1
      refine ⟨g1, fun q hq => ?_⟩
      rcases wi_mem hq with h2 | h2
      · rw [h2]
        unfold ptLim
        simp
        omega
      · exact h1.2 q h2
  rw [stN_setN] at hlim ⊢
  exact vl_set hv hk hp hlim

theorem propL_ok : ∀ p ∈ propL, prpB p = true := by decide +kernel
theorem pick_mem9 {l : List ByteArray} (h : 0 < l.length) (hl : l.length ≤ 4611686018427387904) (zs : List Int) (n : Int) : pickS l zs n ∈ l := by
  unfold pickS
  have h1 := modV_nonneg (rawV zs n) (l.length : Nat)
  have h2 := modV_lt (rawV zs n) (l.length : Nat) (by omega)
  have h3 : (modV (rawV zs n) (l.length : Nat)).toNat < l.length := by omega
  rw [List.getD_eq_getElem?_getD, List.getElem?_eq_getElem h3]
  exact List.getElem_mem h3
theorem pick_prp (zs : List Int) (n : Int) : prpB (pickS propL zs n) = true := propL_ok _ (pick_mem9 (by decide) (by decide) zs n)
theorem stE_prp {ps : List Pt} {p : Pt} (h : prpB p.1 = true) : stE ps p = 0 ∨ stE ps p = 3 := by
  unfold stE
  rw [if_neg (ne_f h)]
  split
  · exact .inr rfl
  · exact .inl rfl
theorem set_vlv {ns : List Nd} (hv : Vl ns) {k : Nat} (hk : k < ns.length) {p : Pt} (hp : prpB p.1 = true) : (SetV (ns, pathV ns k, p) = (stN ns k p, 0) ∧ stE (ndAt ns k).2.2 p = 0) ∨ (SetV (ns, pathV ns k, p) = ([], 3) ∧ stE (ndAt ns k).2.2 p = 3) := by
  unfold SetV
  dsimp only
  rw [if_pos (chk_vld.2 hv.vld), fnd_path hv hk, if_pos rfl]
  dsimp only
  rw [Int.toNat_natCast]
  rcases stE_prp (ps := (ndAt ns k).2.2) hp with h | h
  · exact .inl ⟨by rw [if_pos h], h⟩
  · exact .inr ⟨by rw [if_neg (by rw [h]; decide), h], h⟩
def woP (ps : List Pt) (s : ByteArray) : List Pt := ps.filter fun p => !decide (p.1 = s)
theorem wo_set : ∀ (ps : List Pt) (i : Nat) (p : Pt), i < ps.length → (ptAt ps i).1 = p.1 → woP (ps.set i p) p.1 = woP ps p.1 := by
  intro ps
  induction ps with
  | nil => intro i p h; cases h
  | cons a ps ih =>
    intro i p h1 h2
    unfold woP at *
    cases i with
    | zero =>
      have h2 : a.1 = p.1 := h2
      rw [List.set_cons_zero, List.filter_cons, List.filter_cons, if_neg (by simp), if_neg (by simp [h2])]
    | succ i =>
      have := ih i p (by simpa using h1) h2
      rw [List.set_cons_succ, List.filter_cons, List.filter_cons, this]
theorem wo_ins (ps : List Pt) (i : Nat) (p : Pt) : woP (ps.take i ++ p :: ps.drop i) p.1 = woP ps p.1 := by
  unfold woP
  rw [List.filter_append, List.filter_cons, if_neg (by simp), ← List.filter_append, List.take_append_drop]
theorem wo_st (ps : List Pt) (p : Pt) : woP (stP ps p) p.1 = woP ps p.1 := by
  unfold stP
  split
  · rename_i h
    unfold fndP at h
    obtain ⟨h1, h2⟩ := Bool.and_eq_true_iff.1 h
    exact wo_set ps _ p (of_decide_eq_true h1) (of_decide_eq_true h2)
  · exact wo_ins ps _ p
theorem stN_at {ns : List Nd} {k i : Nat} {p : Pt} (h : ¬ i = k) : ndAt (stN ns k p) i = ndAt ns i := by
  unfold stN ndAt
  rw [List.getD_eq_getElem?_getD, List.getElem?_set, if_neg (fun h2 => h h2.symm), ← List.getD_eq_getElem?_getD]
theorem stN_at' {ns : List Nd} {k : Nat} {p : Pt} (h : k < ns.length) : ndAt (stN ns k p) k = ((ndAt ns k).1, (ndAt ns k).2.1, stP (ndAt ns k).2.2 p) := by
  unfold stN
  show ((ns.set k _).getD k ndC.dflt) = _
  rw [List.getD_eq_getElem?_getD, List.getElem?_set, if_pos rfl, if_pos h]
  rfl

/-! Without. -/
def wo1 (s : ByteArray) (p : Pt) : Bool := !decide (p.1 = s)
def G1 : Table := ext K4 47 (saysG daPS eaPS fun a => (some (a.1.length ≤ 1000000000), .a (.c (.p (.l ptC (woP a.1 a.2))))))
theorem g1 : TSound Tryz.prog G1 := by
  refine extG k4 47 (fn := Tryz.f47) rfl rfl daPS eaPS _ (fun _ => Nat.le_of_ble_eq_true rfl) [0, 1, 4, 5, 7, 8, 9, 10, 11, 17] fun a hok => ?_
  obtain ⟨ps, s⟩ := a
  have hl : ps.length ≤ 1000000000 := hok
  show runF _ _ _ [] [.c (.p (.l ptC ps)), .c (.str s)] [] fun r H => Ends r H (.a (.c (.p (.l ptC (woP ps s))))) []
  repeat ((conv => whnf); refine ⟨by first | (unfold inI64; omega) | omega | exact ⟨by omega, by omega⟩ | exact rfl | decide +kernel, ?_⟩)
  conv => whnf
  refine loop_weak (σ := Nat × List Pt) (fun ⟨i, out⟩ => [(0, XV.s .none), (1, XV.s (.str s)), (4, XV.s .none), (5, XV.s (.a (.c (.own 0 ptC out)))), (7, XV.s .none), (8, XV.s (.a (.c (.p (.l ptC ps))))), (9, XV.s (.int .i64 (ps.length : Nat))), (10, XV.s (.int .i64 (i : Nat))), (11, XV.s .none), (17, XV.s .none)])
    (fun ⟨_, out⟩ => [.tok ptT ptC out.length true]) (fun ⟨i, out⟩ => i ≤ ps.length ∧ out = woP (ps.take i) s) (fun ⟨i, _⟩ => ps.length - i) (0, []) ?_ ⟨Nat.zero_le _, rfl⟩ ?_
  · refine Weak.own ptT ?_
    repeat (first | exact OwnL.nil | refine OwnL.drop ?_ | refine OwnL.same ?_ | refine OwnL.own ?_)
  rintro ⟨i, out⟩ ⟨hi, ho⟩
  conv => whnf
  refine cond_intro (fun h => ?_) (fun h => ?_)
  · have hin : i < ps.length := lt_of_dec h
    have hob : (0 : Int) ≤ (i : Nat) ∧ (i : Int) < (ps.length : Nat) := ⟨by omega, by omega⟩
    have hwl : out.length ≤ i := by
      rw [ho]
      unfold woP
      refine Nat.le_trans (List.length_filter_le ..) ?_
      rw [List.length_take]
      omega
    have hcap : out.length + 1 ≤ capBound := Nat.le_trans (m := 1000000001) (by omega) (by decide)
    have hst : woP (ps.take (i + 1)) s = out ++ (if (!decide ((ps.getD i ptC.dflt).1 = s)) = true then [ps.getD i ptC.dflt] else []) := by
      rw [ho]
      unfold woP
      have e : ps.getD i ptC.dflt = ps[i] := by simp [hin]
      rw [e, List.take_succ_eq_append_getElem hin, List.filter_append, List.filter_cons, List.filter_nil]
    repeat ((conv => whnf); refine ⟨by first | exact hob | (unfold inI64; omega) | omega | exact ⟨by omega, by omega⟩ | exact rfl | decide +kernel, ?_⟩)
    conv => whnf
    refine cond_intro (fun h2 => ?_) (fun h2 => ?_)
    · have h3 : (!decide ((ps.getD i ptC.dflt).1 = s)) = true := h2
      rw [if_pos h3] at hst
      repeat ((conv => whnf); refine ⟨by first | exact hcap | (unfold inI64; omega) | omega | exact ⟨by omega, by omega⟩ | exact rfl | decide +kernel, ?_⟩)
      conv => whnf
      refine head_keep (i + 1, out ++ [ps.getD i ptC.dflt]) [0] rfl (fun k hk => absurd hk (Nat.not_lt_zero k)) ?_ ?_ ⟨hin, hst.symm⟩ (show ps.length - (i + 1) < ps.length - i by omega)
      · show some [AO.tok _ _ (out.length + 1) true] = some [AO.tok _ _ (out ++ [ps.getD i ptC.dflt]).length true]
        rw [List.length_append]
        rfl
      · repeat (first | exact KeepL.nil | refine KeepL.drop ?_ | refine KeepL.ren rfl ?_)
    · have h3 : (!decide ((ps.getD i ptC.dflt).1 = s)) = false := h2
      rw [if_neg (ne_t h3), List.append_nil] at hst
      repeat ((conv => whnf); refine ⟨by first | (unfold inI64; omega) | omega | exact ⟨by omega, by omega⟩ | exact rfl | decide +kernel, ?_⟩)
      conv => whnf
      refine head_keep (i + 1, out) [0] rfl (fun k hk => absurd hk (Nat.not_lt_zero k)) rfl ?_ ⟨hin, hst.symm⟩ (show ps.length - (i + 1) < ps.length - i by omega)
      repeat (first | exact KeepL.nil | refine KeepL.drop ?_ | refine KeepL.ren rfl ?_)
  · obtain rfl : i = ps.length := by have := ge_of_dec h; omega
    rw [List.take_length] at ho
    rw [← ho]
    repeat ((conv => whnf); refine ⟨by first | (unfold inI64; omega) | omega | exact ⟨by omega, by omega⟩ | exact rfl | decide +kernel, ?_⟩)
    conv => whnf
    exact ends_eq ⟨rfl, rfl⟩

def saysLoc : Says := fun args H => match args, H with
  | [.c (.p (.l (.int .i64) _))], [] => some (none, .bool true, [])
  | _, _ => none
def G2 : Table := ext G1 7 saysLoc
theorem g2 : TSound Tryz.prog G2 := by
  refine ext_run g1 (f := 7) (fn := Tryz.f7) rfl rfl [0, 2, 3, 4, 5, 6, 7, 8, 9, 10, 11, 35, 47, 50, 51, 52, 70] fun args H p r' H' hs hp => ?_
  unfold saysLoc at hs
  split at hs
  · rename_i zs
    cases hs
    refine ⟨Nat.le_of_ble_eq_true rfl, [], rfl, fun k hk => absurd hk (Nat.not_lt_zero k), ?_⟩
    have ht0 := tape_nw9 zs
    generalize hz : (zs : List Int).take 500 = ys at ht0
    obtain ⟨R, hR⟩ : ∃ R, grV ys 0 10 = R := ⟨_, rfl⟩
    have hv := gr_vl ys 0 10
    have hx := gr_ok (zs := ys) (n := 0) (k := 10) ht0
    rw [hR] at hv hx
    obtain ⟨ns, x⟩ := R
    have hv : Vl ns := hv
    have hx : tapeOk ys x := hx
    have hlen := hv.f.len
    have q1 : tapeOk ys 0 ∧ (0 : Int) ≤ 10 ∧ (10 : Int) ≤ 100 := ⟨ht0, by decide, by decide⟩
    have q2 : tapeOk ys x ∧ ((ns.length : Nat) : Int) ≤ 4611686018427387904 := ⟨hx, by omega⟩
    conv => whnf
    rw [hz]
    repeat ((conv => whnf); refine ⟨by first | exact q1 | (unfold inI64; omega) | omega | exact ⟨by omega, by omega⟩ | exact rfl | decide +kernel, ?_⟩)
    conv => whnf
    rw [hR]
    repeat ((conv => whnf); refine ⟨by first | exact q2 | (unfold inI64; omega) | omega | exact ⟨by omega, by omega⟩ | exact rfl | decide +kernel, ?_⟩)
    conv => whnf
    obtain ⟨k, hk⟩ : ∃ k : Nat, modV (rawV ys x) ((ns.length : Nat) : Int) = (k : Int) := ⟨(modV (rawV ys x) ((ns.length : Nat) : Int)).toNat, by have := modV_nonneg (rawV ys x) ((ns.length : Nat) : Int); omega⟩
    have hkn : k < ns.length := by
      have := modV_lt (rawV ys x) ((ns.length : Nat) : Int) (by omega)
      omega
    rw [hk]
    have hpk := rpath_vl hv hkn
    have hx1 := rawN_ok9 hx
    have hx2 := rawN_ok9 hx1
    repeat ((conv => whnf); refine ⟨by first | exact hx1 | exact hx2 | exact ⟨rfl, trivial⟩ | (repeat ((conv => whnf); refine ⟨by ((conv => whnf); first | exact ⟨rfl, rfl, rfl⟩ | exact ⟨rfl, rfl⟩ | exact ⟨⟨rfl, trivial⟩, rfl, rfl, rfl⟩ | exact ⟨hx2, rfl, rfl, rfl⟩), ?_⟩)); ((conv => whnf); exact trivial) | ((conv => whnf); exact ⟨⟨rfl, rfl, rfl⟩, trivial⟩) | exact Early.one (by decide +kernel) (by (conv => whnf); exact ⟨rfl, rfl, rfl⟩) trivial | (unfold inI64; omega) | omega | exact ⟨by omega, by omega⟩ | exact rfl | decide +kernel, ?_⟩)
    conv => whnf
    obtain ⟨s, hs0⟩ : ∃ s, pickS propL ys (rawN ys x) = s := ⟨_, rfl⟩
    obtain ⟨v, hv0⟩ : ∃ v, (valV ys (rawN ys (rawN ys x))).1 = v := ⟨_, rfl⟩
    have hsp : prpB s = true := by rw [← hs0]; exact pick_prp _ _
    rw [hpk, hs0, hv0]
    rcases set_vlv hv hkn (p := (s, v)) hsp with ⟨hset, he⟩ | ⟨hset, he⟩
    · rw [hset]
      obtain ⟨m, hm⟩ : ∃ m, stN ns k (s, v) = m := ⟨_, rfl⟩
      have hml : m.length = ns.length := by rw [← hm]; exact stN_len ..
      have hat : ∀ i, ¬ i = k → ndAt m i = ndAt ns i := fun i hi => by rw [← hm]; exact stN_at hi
      have hak : (ndAt m k).2.2 = stP (ndAt ns k).2.2 (s, v) := by rw [← hm, stN_at' hkn]
      rw [hm]
      repeat ((conv => whnf); refine ⟨by first | (unfold inI64; omega) | omega | exact ⟨by omega, by omega⟩ | (intro hg; first | (unfold inI64; omega) | omega | exact ⟨by omega, by omega⟩ | (simp [lit] at hg; unfold inI64; omega) | (simp [lit] at hg; omega) | (simp [lit] at hg; exact ⟨by omega, by omega⟩)) | (show (_ : Nat) + 1 ≤ 1000000000000; omega) | exact rfl | (unfold inI64; dsimp only; omega) | (dsimp only; omega) | (intro hg; simp [lit] at hg; first | (unfold inI64; dsimp only; omega) | (dsimp only; omega)) | decide +kernel, ?_⟩)
      conv => whnf
      rw [hml]
      refine cond_intro (fun h1 => ?_) (fun h1 => ?_)
      · exfalso
        have h2 : (!decide (((ns.length : Nat) : Int) = (ns.length : Nat))) = true := h1
        simp at h2
      have hps : ∀ i, i < ns.length → (ndAt ns i).2.2.length ≤ 1000000000 := fun i hi => by
        have e : ndAt ns i = ns[i] := by unfold ndAt; simp [hi]
        rw [e]
        exact Nat.le_trans ((lim_len hv.f.lim).1.at hi) (by decide)
      have hk1 : 0 ≤ (k : Int) ∧ (k : Int) < (ns.length : Nat) := by omega
      have hk2 : 0 ≤ (k : Int) ∧ (k : Int) < (m.length : Nat) := by omega
      repeat ((conv => whnf); refine ⟨by first | (unfold inI64; omega) | omega | exact ⟨by omega, by omega⟩ | (intro hg; first | (unfold inI64; omega) | omega | exact ⟨by omega, by omega⟩ | (simp [lit] at hg; unfold inI64; omega) | (simp [lit] at hg; omega) | (simp [lit] at hg; exact ⟨by omega, by omega⟩)) | (show (_ : Nat) + 1 ≤ 1000000000000; omega) | exact rfl | (unfold inI64; dsimp only; omega) | (dsimp only; omega) | (intro hg; simp [lit] at hg; first | (unfold inI64; dsimp only; omega) | (dsimp only; omega)) | decide +kernel, ?_⟩)
      conv => whnf
      refine loop_intro (σ := Nat) (fun i => [(0, XV.s .none), (2, XV.s .none), (3, XV.s .none), (4, XV.s (.a (.c (.ptr 1 0)))), (5, XV.s (.int .i64 (k : Nat))), (6, XV.s (.str s)), (7, XV.s (.a (.c (.ptr 2 0)))), (8, XV.s .none), (9, XV.s .none), (10, XV.s .none), (11, XV.s .none), (35, XV.s .none), (47, XV.s .none), (50, XV.s (.int .i64 (ns.length : Nat))), (51, XV.s (.int .i64 (i : Nat))), (52, XV.s .none), (70, XV.s .none)])
        (fun _ => [tapeO ys (valV ys (rawN ys (rawN ys x))).2, .row [.p (.l ndC ns)], .row [.p (.l ndC m)]]) (fun i => i ≤ ns.length) (fun i => ns.length - i) 0 ?_ rfl (Nat.zero_le _) (fun i hi => ?_)
      · repeat (first | exact LeL.nil | refine LeL.drop ?_ | refine LeL.same ?_)
      conv => whnf
      refine cond_intro (fun h3 => ?_) (fun h3 => ?_)
      · have hin : i < ns.length := lt_of_dec h3
        have hi1 : 0 ≤ (i : Int) ∧ (i : Int) < (ns.length : Nat) := by omega
        have hi2 : 0 ≤ (i : Int) ∧ (i : Int) < (m.length : Nat) := by omega
        have hpi := hps i hin
        repeat ((conv => whnf); refine ⟨by first | exact fun _ => hi1 | exact fun _ => hi2 | exact fun _ => ⟨rfl, hpi⟩ | (unfold inI64; omega) | omega | exact ⟨by omega, by omega⟩ | (intro hg; first | (unfold inI64; omega) | omega | exact ⟨by omega, by omega⟩ | (simp [lit] at hg; unfold inI64; omega) | (simp [lit] at hg; omega) | (simp [lit] at hg; exact ⟨by omega, by omega⟩)) | (show (_ : Nat) + 1 ≤ 1000000000000; omega) | exact rfl | (unfold inI64; dsimp only; omega) | (dsimp only; omega) | (intro hg; simp [lit] at hg; first | (unfold inI64; dsimp only; omega) | (dsimp only; omega)) | decide +kernel, ?_⟩)
        conv => whnf
        refine cond_intro (fun h4 => ?_) (fun h4 => ?_)
        · exfalso
          obtain ⟨h5, h6⟩ := Bool.and_eq_true_iff.1 h4
          have hik : ¬ i = k := by
            have : ¬ (i : Int) = (k : Nat) := by simpa using h5
            omega
          have h7 : samN (ndAt ns i, ndAt m i) = true := by
            rw [hat i hik]
            unfold samN
            simp
          have h8 : (!samN (ndAt ns i, ndAt m i)) = false := by rw [h7]; rfl
          exact Bool.noConfusion (h8.symm.trans h6)
        repeat ((conv => whnf); refine ⟨by first | (unfold inI64; omega) | omega | exact ⟨by omega, by omega⟩ | (intro hg; first | (unfold inI64; omega) | omega | exact ⟨by omega, by omega⟩ | (simp [lit] at hg; unfold inI64; omega) | (simp [lit] at hg; omega) | (simp [lit] at hg; exact ⟨by omega, by omega⟩)) | (show (_ : Nat) + 1 ≤ 1000000000000; omega) | exact rfl | (unfold inI64; dsimp only; omega) | (dsimp only; omega) | (intro hg; simp [lit] at hg; first | (unfold inI64; dsimp only; omega) | (dsimp only; omega)) | decide +kernel, ?_⟩)
        conv => whnf
        refine head_intro (i + 1) ?_ rfl hin (by omega)
        repeat (first | exact LeL.nil | refine LeL.drop ?_ | refine LeL.same ?_)
      · have hie : i = ns.length := by have := ge_of_dec h3; omega
        have hl24 : (ndAt ns k).2.2.length ≤ 24 := by
          have hl := hv.f.lim
          unfold limV at hl
          simp only [Bool.and_eq_true, List.all_eq_true] at hl
          have h5 := hl.2 (ndAt ns k) (by
            have e : ndAt ns k = ns[k] := by unfold ndAt; simp [hkn]
            rw [e]
            exact List.getElem_mem hkn)
          unfold ndLim at h5
          simp only [Bool.and_eq_true, decide_eq_true_eq] at h5
          exact h5.1
        have hmk : (ndAt m k).2.2.length ≤ 1000000000 := by
          rw [hak]
          exact Nat.le_trans (stP_len he hl24).1 (by decide)
        have hpk1 := hps k hkn
        have hwo : woP (ndAt m k).2.2 s = woP (ndAt ns k).2.2 s := by rw [hak]; exact wo_st _ (s, v)
        have hwl : (woP (ndAt ns k).2.2 s).length ≤ 1000000000 := Nat.le_trans (List.length_filter_le ..) hpk1
        repeat ((conv => whnf); refine ⟨by first | exact hk1 | exact hk2 | exact ⟨rfl, hpk1⟩ | exact ⟨rfl, hmk⟩ | exact ⟨rfl, hwl⟩ | (repeat ((conv => whnf); refine ⟨by ((conv => whnf); first | exact ⟨rfl, rfl, rfl⟩ | exact ⟨hk1, rfl, rfl, rfl⟩ | exact ⟨hk2, rfl, rfl, rfl⟩), ?_⟩)); ((conv => whnf); exact trivial) | ((conv => whnf); exact ⟨⟨rfl, rfl, rfl⟩, trivial⟩) | exact Early.one (by decide +kernel) (by (conv => whnf); exact ⟨rfl, rfl, rfl⟩) trivial | (unfold inI64; omega) | omega | exact ⟨by omega, by omega⟩ | (intro hg; first | (unfold inI64; omega) | omega | exact ⟨by omega, by omega⟩ | (simp [lit] at hg; unfold inI64; omega) | (simp [lit] at hg; omega) | (simp [lit] at hg; exact ⟨by omega, by omega⟩)) | (show (_ : Nat) + 1 ≤ 1000000000000; omega) | exact rfl | (unfold inI64; dsimp only; omega) | (dsimp only; omega) | (intro hg; simp [lit] at hg; first | (unfold inI64; dsimp only; omega) | (dsimp only; omega)) | decide +kernel, ?_⟩)
        conv => whnf
        show Ends (.bool (samN ((0, ⟨#[]⟩, woP (ndAt ns k).2.2 s), 0, ⟨#[]⟩, woP (ndAt m k).2.2 s) && true)) [] (.bool true) []
        rw [hwo]
        refine ends_eq ⟨?_, rfl⟩
        unfold samN
        simp
    · rw [hset]
      repeat ((conv => whnf); refine ⟨by first | (unfold inI64; omega) | omega | exact ⟨by omega, by omega⟩ | (intro hg; first | (unfold inI64; omega) | omega | exact ⟨by omega, by omega⟩ | (simp [lit] at hg; unfold inI64; omega) | (simp [lit] at hg; omega) | (simp [lit] at hg; exact ⟨by omega, by omega⟩)) | (show (_ : Nat) + 1 ≤ 1000000000000; omega) | exact rfl | (unfold inI64; dsimp only; omega) | (dsimp only; omega) | (intro hg; simp [lit] at hg; first | (unfold inI64; dsimp only; omega) | (dsimp only; omega)) | decide +kernel, ?_⟩)
      conv => whnf
      exact ends_eq ⟨rfl, rfl⟩
  · cases hs

def daTT : List AV → Option (List Nd × List Nd)
  | [.agg [.p (.l c0 ns)], .agg [.p (.l c1 ms)]] => match castD (e := ndC) (e' := c0) ns, castD (e := ndC) (e' := c1) ms with | some ns, some ms => some (ns, ms) | _, _ => none
  | _ => none
def eaTT (a : List Nd × List Nd) : List AV := [.agg [.p (.l ndC a.1)], .agg [.p (.l ndC a.2)]]
def eqTB (a : List Nd × List Nd) : Bool := decide (@Eq (List Nd) a.1 a.2)
theorem sam_eq {a b : Nd} : samN (a, b) = true ↔ a = b := by
  unfold samN
  simp only [Bool.and_eq_true, decide_eq_true_eq]
  exact ⟨fun ⟨⟨h1, h2⟩, h3⟩ => Prod.ext h1 (Prod.ext h2 h3), fun h => by rw [h]; exact ⟨⟨rfl, rfl⟩, rfl⟩⟩
def TTOk (a : List Nd × List Nd) : Prop := a.1.length ≤ 1000000000 ∧ ∀ i, i < a.1.length → (ndAt a.1 i).2.2.length ≤ 1000000000
def L1 : Table := ext K4 16 (saysG daTT eaTT fun a => (some (TTOk a), .bool (eqTB a)))
theorem l1 : TSound Tryz.prog L1 := by
  refine extG k4 16 (fn := Tryz.f16) rfl rfl daTT eaTT _ (fun _ => Nat.le_of_ble_eq_true rfl) [0, 1, 2, 3, 4, 5, 12, 15, 16, 17, 30] fun a hok => ?_
  obtain ⟨ns, ms⟩ := a
  obtain ⟨hl, hps⟩ : ns.length ≤ 1000000000 ∧ ∀ i, i < ns.length → (ndAt ns i).2.2.length ≤ 1000000000 := hok
  show runF _ _ _ [] [.agg [.p (.l ndC ns)], .agg [.p (.l ndC ms)]] [] fun r H => Ends r H (.bool (eqTB (ns, ms))) []
  repeat ((conv => whnf); refine ⟨by first | (unfold inI64; omega) | omega | exact ⟨by omega, by omega⟩ | (intro hg; first | (unfold inI64; omega) | omega | exact ⟨by omega, by omega⟩ | (simp [lit] at hg; unfold inI64; omega) | (simp [lit] at hg; omega) | (simp [lit] at hg; exact ⟨by omega, by omega⟩)) | (show (_ : Nat) + 1 ≤ 1000000000000; omega) | exact rfl | (unfold inI64; dsimp only; omega) | (dsimp only; omega) | (intro hg; simp [lit] at hg; first | (unfold inI64; dsimp only; omega) | (dsimp only; omega)) | decide +kernel, ?_⟩)
  conv => whnf
  refine cond_intro (fun h => ?_) (fun h => ?_)
  · have h1 : eqTB (ns, ms) = false := by
      unfold eqTB
      refine decide_eq_false fun hx => ?_
      have hx : ns = ms := hx
      subst hx
      have h2 : (!decide (((ns.length : Nat) : Int) = (ns.length : Nat))) = true := h
      simp at h2
    rw [h1]
    repeat ((conv => whnf); refine ⟨by first | (unfold inI64; omega) | omega | exact ⟨by omega, by omega⟩ | exact rfl | decide +kernel, ?_⟩)
    conv => whnf
    exact ends_eq ⟨rfl, rfl⟩
  have h3 : ns.length = ms.length := by
    have h : (!decide (((ns.length : Nat) : Int) = (ms.length : Nat))) = false := h
    simp at h
    omega
  conv => whnf
  refine loop_intro (σ := Nat) (fun i => [(0, XV.s .none), (1, XV.s .none), (2, XV.s (.a (.c (.ptr 0 0)))), (3, XV.s (.a (.c (.ptr 1 0)))), (4, XV.s .none), (5, XV.s .none), (12, XV.s .none), (15, XV.s (.int .i64 (ns.length : Nat))), (16, XV.s (.int .i64 (i : Nat))), (17, XV.s .none), (30, XV.s .none)])
    (fun _ => [.row [.p (.l ndC ns)], .row [.p (.l ndC ms)]]) (fun i => i ≤ ns.length ∧ ∀ j, j < i → ns.getD j ndC.dflt = ms.getD j ndC.dflt) (fun i => ns.length - i) 0 ?_ rfl ⟨Nat.zero_le _, fun j hj => absurd hj (Nat.not_lt_zero j)⟩ (fun i hi => ?_)
  · repeat (first | exact LeL.nil | refine LeL.drop ?_ | refine LeL.same ?_)
  obtain ⟨hi, hall⟩ := hi
  conv => whnf
  refine cond_intro (fun h4 => ?_) (fun h4 => ?_)
  · have h5 : i < ns.length := lt_of_dec h4
    have hin : 0 ≤ (i : Int) ∧ (i : Int) < (ns.length : Nat) := by omega
    have hin2 : 0 ≤ (i : Int) ∧ (i : Int) < (ms.length : Nat) := by omega
    have hpi := hps i h5
    repeat ((conv => whnf); refine ⟨by first | exact hin | exact hin2 | exact ⟨rfl, hpi⟩ | ((conv => whnf); exact ⟨⟨rfl, rfl, rfl⟩, trivial⟩) | exact Early.one (by decide +kernel) (by (conv => whnf); exact ⟨rfl, rfl, rfl⟩) trivial | (unfold inI64; omega) | omega | exact ⟨by omega, by omega⟩ | (intro hg; first | (unfold inI64; omega) | omega | exact ⟨by omega, by omega⟩ | (simp [lit] at hg; unfold inI64; omega) | (simp [lit] at hg; omega) | (simp [lit] at hg; exact ⟨by omega, by omega⟩)) | (show (_ : Nat) + 1 ≤ 1000000000000; omega) | exact rfl | (unfold inI64; dsimp only; omega) | (dsimp only; omega) | (intro hg; simp [lit] at hg; first | (unfold inI64; dsimp only; omega) | (dsimp only; omega)) | decide +kernel, ?_⟩)
    conv => whnf
    refine cond_intro (fun h6 => ?_) (fun h6 => ?_)
    · have h7 : eqTB (ns, ms) = false := by
        unfold eqTB
        refine decide_eq_false fun hx => ?_
        have hx : ns = ms := hx
        subst hx
        have h8 : (!samN (ndAt ns i, ndAt ns i)) = false := by rw [sam_eq.2 rfl]; rfl
        exact Bool.noConfusion (h8.symm.trans h6)
      rw [h7]
      repeat ((conv => whnf); refine ⟨by first | (unfold inI64; omega) | omega | exact ⟨by omega, by omega⟩ | exact rfl | decide +kernel, ?_⟩)
      conv => whnf
      exact ends_eq ⟨rfl, rfl⟩
    have h7 : ns.getD i ndC.dflt = ms.getD i ndC.dflt := by
      have h8 : (!samN (ndAt ns i, ndAt ms i)) = false := h6
      refine sam_eq.1 (show samN (ndAt ns i, ndAt ms i) = true from ?_)
      cases h9 : samN (ndAt ns i, ndAt ms i) with
      | true => rfl
      | false => rw [h9] at h8; cases h8
    repeat ((conv => whnf); refine ⟨by first | (unfold inI64; omega) | omega | exact ⟨by omega, by omega⟩ | exact rfl | decide +kernel, ?_⟩)
    conv => whnf
    refine head_intro (i + 1) ?_ rfl ⟨h5, fun j hj => ?_⟩ ?_
    · repeat (first | exact LeL.nil | refine LeL.drop ?_ | refine LeL.same ?_)
    · by_cases hji : j = i
      · rw [hji]; exact h7
      · exact hall j (by omega)
    · omega
  · have hge := ge_of_dec h4
    obtain rfl : i = ns.length := by omega
    have h9 : eqTB (ns, ms) = true := by
      unfold eqTB
      exact decide_eq_true (eq_prefix (α := Nd) _ h3 hall)
    rw [h9]
    repeat ((conv => whnf); refine ⟨by first | (unfold inI64; omega) | omega | exact ⟨by omega, by omega⟩ | exact rfl | decide +kernel, ?_⟩)
    conv => whnf
    exact ends_eq ⟨rfl, rfl⟩

def daTIS : List AV → Option (List Nd × Int × ByteArray)
  | [.agg [.p (.l c0 ns)], .c (.p (.v (.int .i64 k))), .c (.p (.v (.string s)))] => match castD (e := ndC) (e' := c0) ns with | some ns => some (ns, k, s) | _ => none
  | _ => none
def eaTIS (a : List Nd × Int × ByteArray) : List AV := [.agg [.p (.l ndC a.1)], .c (.int .i64 a.2.1), .c (.str a.2.2)]
def ValV (a : List Nd × Int × ByteArray) : ByteArray × Bool :=
  if hasB (a.1, a.2.1) = true then if fndP (ndAt a.1 a.2.1.toNat).2.2 a.2.2 = true then ((ptAt (ndAt a.1 a.2.1.toNat).2.2 (posV (ndAt a.1 a.2.1.toNat).2.2 a.2.2)).2, true) else (⟨#[]⟩, false) else (⟨#[]⟩, false)
abbrev valR (x : ByteArray × Bool) : SV := .tup [.c (.str x.1), .c (.bool x.2)]
def L2 : Table := ext L1 24 (saysG daTIS eaTIS fun a => (none, valR (ValV a)))
theorem l2 : TSound Tryz.prog L2 := by
  refine extG l1 24 (fn := Tryz.f24) rfl rfl daTIS eaTIS _ (fun _ => Nat.le_of_ble_eq_true rfl) [0, 1, 2, 3, 6, 7, 8, 9, 10, 14, 28] fun a _ => ?_
  obtain ⟨ns, k, s⟩ := a
  show runF _ _ _ [] [.agg [.p (.l ndC ns)], .c (.int .i64 k), .c (.str s)] [] fun r H => Ends r H (valR (ValV (ns, k, s))) []
  unfold ValV
  dsimp only
  repeat ((conv => whnf); refine ⟨by first | exact ⟨rfl, trivial⟩ | (unfold inI64; omega) | omega | exact ⟨by omega, by omega⟩ | exact rfl | decide +kernel, ?_⟩)
  conv => whnf
  refine cond_intro (fun h => ?_) (fun h => ?_)
  · have h1 : hasB (ns, k) = false := not_b h
    rw [if_neg (ne_t h1)]
    repeat ((conv => whnf); refine ⟨by first | (unfold inI64; omega) | omega | exact ⟨by omega, by omega⟩ | exact rfl | decide +kernel, ?_⟩)
    conv => whnf
    exact ends_eq ⟨rfl, rfl⟩
  have h1 : hasB (ns, k) = true := not_f h
  rw [if_pos h1]
  have hk : (0 ≤ k ∧ k < (ns.length : Nat)) ∧ chkP ns = 0 := by
    unfold hasB at h1
    simpa using h1
  obtain ⟨⟨hk0, hk1⟩, hc⟩ := hk
  have hv := chk_vld.1 hc
  have e : ndAt ns k.toNat = ns[k.toNat]'(by omega) := by unfold ndAt; simp [show k.toNat < ns.length by omega]
  have hl : (ndAt ns k.toNat).2.2.length ≤ 1000000000 := by rw [e]; exact (lim_len hv.lim).1.at (by omega)
  have hok : SrOk ((ndAt ns k.toNat).2.2, s) := ⟨hl, ord_asc hv.ord (by omega)⟩
  have hb : 0 ≤ k ∧ k < (ns.length : Nat) := ⟨hk0, hk1⟩
  repeat ((conv => whnf); refine ⟨by first | exact hb | exact ⟨rfl, hok⟩ | (unfold inI64; omega) | omega | exact ⟨by omega, by omega⟩ | (intro hg; first | (unfold inI64; omega) | omega | exact ⟨by omega, by omega⟩ | (simp [lit] at hg; unfold inI64; omega) | (simp [lit] at hg; omega) | (simp [lit] at hg; exact ⟨by omega, by omega⟩)) | (show (_ : Nat) + 1 ≤ 1000000000000; omega) | exact rfl | (unfold inI64; dsimp only; omega) | (dsimp only; omega) | (intro hg; simp [lit] at hg; first | (unfold inI64; dsimp only; omega) | (dsimp only; omega)) | decide +kernel, ?_⟩)
  conv => whnf
  refine cond_intro (fun h5 => ?_) (fun h5 => ?_)
  · have h6 : fndP (ndAt ns k.toNat).2.2 s = false := not_b h5
    rw [if_neg (ne_t h6)]
    repeat ((conv => whnf); refine ⟨by first | (unfold inI64; omega) | omega | exact ⟨by omega, by omega⟩ | exact rfl | decide +kernel, ?_⟩)
    conv => whnf
    exact ends_eq ⟨rfl, rfl⟩
  have h6 : fndP (ndAt ns k.toNat).2.2 s = true := not_f h5
  rw [if_pos h6]
  have hp : 0 ≤ ((posV (ndAt ns k.toNat).2.2 s : Nat) : Int) ∧ ((posV (ndAt ns k.toNat).2.2 s : Nat) : Int) < ((ndAt ns k.toNat).2.2.length : Nat) := by
    have h7 := h6
    unfold fndP at h7
    obtain ⟨h8, _⟩ := Bool.and_eq_true_iff.1 h7
    have := of_decide_eq_true h8
    omega
  repeat ((conv => whnf); refine ⟨by first | exact hp | (unfold inI64; omega) | omega | exact ⟨by omega, by omega⟩ | exact rfl | decide +kernel, ?_⟩)
  conv => whnf
  exact ends_eq ⟨rfl, rfl⟩

def woQ (a : List Pt × Int × Int) : List Pt := a.1.take a.2.1.toNat ++ a.1.drop a.2.2.toNat
def daPII : List AV → Option (List Pt × Int × Int)
  | [.c (.p (.l c0 ps)), .c (.p (.v (.int .i64 k))), .c (.p (.v (.int .i64 q)))] => match castD (e := ptC) (e' := c0) ps with | some ps => some (ps, k, q) | _ => none
  | _ => none
def eaPII (a : List Pt × Int × Int) : List AV := [.c (.p (.l ptC a.1)), .c (.int .i64 a.2.1), .c (.int .i64 a.2.2)]
def L3 : Table := ext L2 113 (saysG daPII eaPII fun a => (some (a.1.length ≤ 1000000000 ∧ 0 ≤ a.2.1 ∧ a.2.1 ≤ (a.1.length : Nat) ∧ 0 ≤ a.2.2 ∧ a.2.2 ≤ (a.1.length : Nat)), .a (.c (.p (.l ptC (woQ a))))))
theorem l3 : TSound Tryz.prog L3 := by
  refine extG l2 113 (fn := Tryz.f113) rfl rfl daPII eaPII _ (fun _ => Nat.le_of_ble_eq_true rfl) [0, 1, 2, 6] fun a hok => ?_
  obtain ⟨ns, k, q⟩ := a
  obtain ⟨h1, h2, h3, h4, h5⟩ : ns.length ≤ 1000000000 ∧ 0 ≤ k ∧ k ≤ (ns.length : Nat) ∧ 0 ≤ q ∧ q ≤ (ns.length : Nat) := hok
  show runF _ _ _ [] [.c (.p (.l ptC ns)), .c (.int .i64 k), .c (.int .i64 q)] [] fun r H => Ends r H (.a (.c (.p (.l ptC (woQ (ns, k, q)))))) []
  have ht : (ns.take k.toNat).length = k.toNat := by rw [List.length_take]; omega
  have hz1 : (ns.take k.toNat).length ≤ capBound := by rw [ht]; exact Nat.le_trans (m := 1000000001) (by omega) (by decide)
  have hn : (((ns.length : Nat) : Int)).toNat = ns.length := rfl
  have hz6 : ns.take (((ns.length : Nat) : Int)).toNat = ns := by rw [hn, List.take_length]
  have hz5 : (ns.drop q.toNat).length = ns.length - q.toNat := List.length_drop ..
  have hz4 : (ns.take k.toNat).length + ((ns.take (((ns.length : Nat) : Int)).toNat).drop q.toNat).length ≤ capBound := by rw [hz6, ht, hz5]; exact Nat.le_trans (m := 2000000001) (by omega) (by decide)
  repeat ((conv => whnf); refine ⟨by first | exact ⟨Int.le_refl _, h2, h3⟩ | exact hz1 | exact ⟨h4, h5, Int.le_refl _⟩ | exact hz4 | ((conv => whnf); exact ⟨⟨rfl, rfl, rfl⟩, trivial⟩) | exact Early.one (by decide +kernel) (by (conv => whnf); exact ⟨rfl, rfl, rfl⟩) trivial | (unfold inI64; omega) | omega | exact ⟨by omega, by omega⟩ | exact rfl | decide +kernel, ?_⟩)
  conv => whnf
  show Ends (.a (.c (.p (.l ptC (ns.take k.toNat ++ (ns.take (((ns.length : Nat) : Int)).toNat).drop q.toNat))))) [] _ _
  rw [hz6]
  exact ends_eq ⟨rfl, rfl⟩

/-! unset. -/
def unP (ps : List Pt) (s : ByteArray) : List Pt := woQ (ps, (posV ps s : Nat), (posV ps s : Nat) + 1)
def unN (ns : List Nd) (k : Nat) (s : ByteArray) : List Nd := ns.set k ((ndAt ns k).1, (ndAt ns k).2.1, unP (ndAt ns k).2.2 s)
def saysUnX (c : List Nd → Nat → ByteArray → Prop) (r : List Nd → SV) (h : List Nd → Nat → ByteArray → List AO) : Says := fun args H => match args, H with
  | [.c (.sl _ _ _ _), .c (.p (.v (.int .i64 k))), .c (.p (.v (.string s)))], [.arr _ c0 ns _] => match castD (e := ndC) (e' := c0) ns with
    | some ns => some (some (args = [.c (.sl 0 ndC 0 ns.length), .c (.int .i64 k), .c (.str s)] ∧ H = hpN ns ∧ StOk ns k ∧ c ns k.toNat s), r ns, h ns k.toNat s)
    | none => none
  | _, _ => none
theorem un_er : TSound Tryz.prog (ext L3 85 (saysUnX (fun ns k s => fndP (ndAt ns k).2.2 s = false) (fun _ => .tup [.c (.p (.v (.slice none 0 0))), .c (.int .i64 4)]) fun ns _ _ => hpN ns)) := by
  refine ext_run l3 (f := 85) (fn := Tryz.f85) rfl rfl [0, 1, 2, 6, 7, 8, 9, 10, 23] fun args H p r' H' hs hp => ?_
  unfold saysUnX at hs
  split at hs
  · split at hs
    · rename_i k s _ _ _ _ _ ns _
      cases hs
      obtain ⟨ha, hH, hok, hf⟩ := hp
      rw [ha, hH]
      obtain ⟨h1, h2, h3, h4⟩ := hok
      obtain ⟨k, rfl⟩ : ∃ q : Nat, k = q := ⟨k.toNat, by omega⟩
      rw [Int.toNat_natCast] at h4 hf
      have hob : 0 = 0 ∧ (0 : Int) ≤ (k : Nat) ∧ (k : Int) < (ns.length : Nat) := ⟨rfl, h2, h3⟩
      refine ⟨Nat.le_of_ble_eq_true rfl, [0], rfl, id0, ?_⟩
      dsimp only
      have h4a : SrOk ((ndAt ns k).2.2, s) := h4
      repeat ((conv => whnf); refine ⟨by first | exact hob | exact ⟨rfl, h4a⟩ | (unfold inI64; omega) | omega | exact ⟨by omega, by omega⟩ | (intro hg; first | (unfold inI64; omega) | omega | exact ⟨by omega, by omega⟩ | (simp [lit] at hg; unfold inI64; omega) | (simp [lit] at hg; omega) | (simp [lit] at hg; exact ⟨by omega, by omega⟩)) | (show (_ : Nat) + 1 ≤ 1000000000000; omega) | exact rfl | (unfold inI64; dsimp only; omega) | (dsimp only; omega) | (intro hg; simp [lit] at hg; first | (unfold inI64; dsimp only; omega) | (dsimp only; omega)) | decide +kernel, ?_⟩)
      conv => whnf
      refine cond_intro (fun h5 => ?_) (fun h5 => ?_)
      · repeat ((conv => whnf); refine ⟨by first | (unfold inI64; omega) | omega | exact ⟨by omega, by omega⟩ | exact rfl | decide +kernel, ?_⟩)
        conv => whnf
        exact ends_eq ⟨rfl, rfl⟩
      · exact absurd (not_f h5) (ne_t hf)
    · cases hs
  · cases hs
theorem un_ok : TSound Tryz.prog (ext L3 85 (saysUnX (fun ns k s => fndP (ndAt ns k).2.2 s = true) (fun ns => .tup [.c (.sl 0 ndC 0 ns.length), .c (.int .i64 0)]) fun ns k s => hpN (unN ns k s))) := by
  refine ext_run l3 (f := 85) (fn := Tryz.f85) rfl rfl [0, 1, 2, 6, 7, 8, 9, 10, 23] fun args H p r' H' hs hp => ?_
  unfold saysUnX at hs
  split at hs
  · split at hs
    · rename_i k s _ _ _ _ _ ns _
      cases hs
      obtain ⟨ha, hH, hok, hf⟩ := hp
      rw [ha, hH]
      obtain ⟨h1, h2, h3, h4⟩ := hok
      obtain ⟨k, rfl⟩ : ∃ q : Nat, k = q := ⟨k.toNat, by omega⟩
      rw [Int.toNat_natCast] at h4 hf ⊢
      have hob : 0 = 0 ∧ (0 : Int) ≤ (k : Nat) ∧ (k : Int) < (ns.length : Nat) := ⟨rfl, h2, h3⟩
      refine ⟨Nat.le_of_ble_eq_true rfl, [0], rfl, id0, ?_⟩
      dsimp only
      have h4a : SrOk ((ndAt ns k).2.2, s) := h4
      have hpl : posV (ndAt ns k).2.2 s < (ndAt ns k).2.2.length := by
        have h7 := hf
        unfold fndP at h7
        exact of_decide_eq_true (Bool.and_eq_true_iff.1 h7).1
      have hl : (ndAt ns k).2.2.length ≤ 1000000000 := h4a.1
      have hw : (ndAt ns k).2.2.length ≤ 1000000000 ∧ (0 : Int) ≤ ((posV (ndAt ns k).2.2 s : Nat) : Int) ∧ ((posV (ndAt ns k).2.2 s : Nat) : Int) ≤ ((ndAt ns k).2.2.length : Nat) ∧ (0 : Int) ≤ ((posV (ndAt ns k).2.2 s : Nat) : Int) + 1 ∧ ((posV (ndAt ns k).2.2 s : Nat) : Int) + 1 ≤ ((ndAt ns k).2.2.length : Nat) := ⟨hl, by omega, by omega, by omega, by omega⟩
      have hi : -9223372036854775808 ≤ ((posV (ndAt ns k).2.2 s : Nat) : Int) + 1 ∧ ((posV (ndAt ns k).2.2 s : Nat) : Int) + 1 ≤ 9223372036854775807 := by omega
      repeat ((conv => whnf); refine ⟨by first | exact hob | exact ⟨rfl, h4a⟩ | exact hi | exact ⟨rfl, hw⟩ | (unfold inI64; omega) | omega | exact ⟨by omega, by omega⟩ | (intro hg; first | (unfold inI64; omega) | omega | exact ⟨by omega, by omega⟩ | (simp [lit] at hg; unfold inI64; omega) | (simp [lit] at hg; omega) | (simp [lit] at hg; exact ⟨by omega, by omega⟩)) | (show (_ : Nat) + 1 ≤ 1000000000000; omega) | exact rfl | (unfold inI64; dsimp only; omega) | (dsimp only; omega) | (intro hg; simp [lit] at hg; first | (unfold inI64; dsimp only; omega) | (dsimp only; omega)) | decide +kernel, ?_⟩)
      conv => whnf
      refine cond_intro (fun h5 => ?_) (fun h5 => ?_)
      · exact absurd hf (ne_t (not_b h5))
      repeat ((conv => whnf); refine ⟨by first | exact hob | exact ⟨rfl, h4a⟩ | exact hi | exact ⟨rfl, hw⟩ | ((conv => whnf); exact ⟨⟨rfl, rfl, rfl⟩, trivial⟩) | exact Early.one (by decide +kernel) (by (conv => whnf); exact ⟨rfl, rfl, rfl⟩) trivial | (unfold inI64; omega) | omega | exact ⟨by omega, by omega⟩ | (intro hg; first | (unfold inI64; omega) | omega | exact ⟨by omega, by omega⟩ | (simp [lit] at hg; unfold inI64; omega) | (simp [lit] at hg; omega) | (simp [lit] at hg; exact ⟨by omega, by omega⟩)) | (show (_ : Nat) + 1 ≤ 1000000000000; omega) | exact rfl | (unfold inI64; dsimp only; omega) | (dsimp only; omega) | (intro hg; simp [lit] at hg; first | (unfold inI64; dsimp only; omega) | (dsimp only; omega)) | decide +kernel, ?_⟩)
      conv => whnf
      exact ends_eq ⟨rfl, rfl⟩
    · cases hs
  · cases hs
end Go.Ab
