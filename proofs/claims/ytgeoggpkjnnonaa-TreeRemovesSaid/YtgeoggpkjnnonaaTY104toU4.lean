/- TreeRemoves: the law. -/
import Derived.Test.YtgeoggpkjnnonaaTY94toY100
import Derived.Test.YtgeoggpkjnnonaaTY101toY103
import Derived.Test.YtgeoggpkjnnonaaTX0toY60
namespace Go.Ab
open Go.Proofs
set_option linter.unusedSectionVars false
set_option maxRecDepth 100000
variable [Base]

theorem tape_nw9 (zs : List Int) : tapeOk (zs.take 500) 0 := by
  have := List.length_take_le 500 zs
  exact ⟨by decide, by decide, by omega⟩
theorem rem_root {ns : List Nd} (hv : Vl ns) : RemV (ns, pathV ns 0) = ([], 1) := by
  unfold RemV
  dsimp only
  rw [if_pos (chk_vld.2 hv.vld), fnd_path hv hv.f.len.1, if_pos rfl]
  rfl
theorem rem_ok {ns : List Nd} (hv : Vl ns) {k : Nat} (h0 : 0 < k) (hk : k < ns.length) : RemV (ns, pathV ns k) = (rmN ns (k : Int), 0) := by
  unfold RemV
  dsimp only
  rw [if_pos (chk_vld.2 hv.vld), fnd_path hv hk, if_pos rfl]
  unfold rmR rmE
  dsimp only
  rw [if_neg (by omega), if_neg (by omega)]
/-- What the law asks of paths: one node is another one, or below it. -/
def belB (s p : ByteArray) : Bool := decide (s = p) || (decide ((p.size : Int) < (s.size : Int)) && decide (s.extract 0 p.size = p) && decide (byteAt s (p.size : Int) = 47))
theorem belB_iff {s p : ByteArray} : belB s p = true ↔ s = p ∨ ∃ r, s.data.toList = p.data.toList ++ 47 :: r := by
  obtain ⟨l, rfl⟩ : ∃ l, s = B l := ⟨s.data.toList, rfl⟩
  obtain ⟨m, rfl⟩ : ∃ m, p = B m := ⟨p.data.toList, rfl⟩
  have hl : (B l).data.toList = l := rfl
  have hm : (B m).data.toList = m := rfl
  have hsm : (B m).size = m.length := B_size m
  have hsl : (B l).size = l.length := B_size l
  unfold belB
  rw [Bool.or_eq_true, decide_eq_true_eq, Bool.and_eq_true, Bool.and_eq_true, decide_eq_true_eq, decide_eq_true_eq, decide_eq_true_eq, hl, hm, hsm, hsl, byteAt_B]
  have hex : (B l).extract 0 m.length = B (l.take m.length) := by
    rw [B_extract]
    rfl
  rw [hex]
  refine or_congr Iff.rfl ⟨?_, ?_⟩
  · rintro ⟨⟨h1, h2⟩, h3⟩
    have h1 : m.length < l.length := by omega
    have h2 : l.take m.length = m := congrArg (fun b : ByteArray => b.data.toList) h2
    refine ⟨l.drop (m.length + 1), ?_⟩
    have h4 : l[m.length] = 47 := by
      apply UInt8.toNat_inj.1
      rw [List.getD_eq_getElem?_getD] at h3
      simp [h1] at h3
      have h47 : (47 : UInt8).toNat = 47 := rfl
      omega
    conv => lhs; rw [← List.take_append_drop m.length l, List.drop_eq_getElem_cons h1, h2, h4]
  · rintro ⟨r, h⟩
    subst h
    refine ⟨⟨?_, ?_⟩, ?_⟩
    · rw [List.length_append, List.length_cons]; omega
    · rw [List.take_left']; rfl
    · rw [List.getD_eq_getElem?_getD]
      simp
theorem bel_iff {ns : List Nd} (hv : Vl ns) {k i : Nat} (h0 : 0 < k) (hk : k < ns.length) (hi : i < ns.length) : belB (pathV ns i) (pathV ns k) = decide (k ≤ i ∧ i < behN ns (k : Int)) := by
  have hb := beh_facts hv hk
  have key : belB (pathV ns i) (pathV ns k) = true ↔ k ≤ i ∧ i < behN ns (k : Int) := by
    rw [← in_iff hv hb hi, belB_iff, pathV_L, pathV_L, if_neg (show ¬ k = 0 by omega)]
    constructor
    · rintro (h | ⟨r, h⟩)
      · exact ⟨0, path_inj hv hi hk h⟩
      · by_cases h1 : i = 0
        · exfalso
          rw [if_pos h1] at h
          have hne := pL_ne hv.f h0 hk
          cases hp : pL ns k with
          | nil => exact hne hp
          | cons a l =>
            rw [hp] at h
            have := congrArg List.length h
            simp at this
        · rw [if_neg h1] at h
          exact pre_below hv hk i i r (Nat.le_refl _) hi h
    · rintro ⟨t, ht⟩
      have hki : k ≤ i := by rw [← ht]; exact up_le hv.f t i
      rw [if_neg (show ¬ i = 0 by omega)]
      rcases below_pre hv.f h0 t i hi ht with h | h
      · exact .inl (by rw [pL_inj hv i i k (Nat.le_refl _) hi hk h])
      · exact .inr h
  by_cases h : k ≤ i ∧ i < behN ns (k : Int)
  · rw [key.2 h, decide_eq_true h]
  · rw [decide_eq_false h]
    cases h2 : belB (pathV ns i) (pathV ns k) with
    | false => rfl
    | true => exact absurd (key.1 h2) h
/-- Where a node that stays stands afterwards. -/
def hRm (k e i : Nat) : Nat := if i < k then i else i - (e - k)
theorem find_in {ns : List Nd} (hv : Vl ns) {k i : Nat} (h0 : 0 < k) (hk : k < ns.length) (hi : i < ns.length) (hin : k ≤ i ∧ i < behN ns (k : Int)) : FindV (rmN ns (k : Int), pathV ns i) = (0, false) := by
  have he := rm_emb hv h0 hk
  have hb := beh_facts hv hk
  unfold FindV
  dsimp only
  rw [if_pos (chk_vld.2 (he.vl hv).vld)]
  refine fnd_none fun j hj h => ?_
  rw [he.path hv hj] at h
  have h2 := path_inj hv (he.lt j hj) hi h
  have := hb.gt
  unfold gRm at h2
  split at h2 <;> omega
theorem find_out {ns : List Nd} (hv : Vl ns) {k i : Nat} (h0 : 0 < k) (hk : k < ns.length) (hi : i < ns.length) (hin : ¬ (k ≤ i ∧ i < behN ns (k : Int))) :
    hRm k (behN ns (k : Int)) i < (rmN ns (k : Int)).length ∧ FindV (rmN ns (k : Int), pathV ns i) = (((hRm k (behN ns (k : Int)) i : Nat) : Int), true) ∧ (ndAt (rmN ns (k : Int)) (hRm k (behN ns (k : Int)) i)).2 = (ndAt ns i).2 := by
  have he := rm_emb hv h0 hk
  have hb := beh_facts hv hk
  have hl : (rmN ns (k : Int)).length = ns.length - (behN ns (k : Int) - k) := rm_len hb.gt hb.le _
  obtain ⟨b1, b2, _, _⟩ := hb
  have hg : gRm k (behN ns (k : Int)) (hRm k (behN ns (k : Int)) i) = i := by
    unfold hRm
    split
    · exact if_pos (by assumption)
    · unfold gRm
      rw [if_neg (by omega)]
      omega
  have hlt : hRm k (behN ns (k : Int)) i < (rmN ns (k : Int)).length := by
    rw [hl]
    unfold hRm
    split <;> omega
  refine ⟨hlt, ?_, ?_⟩
  · unfold FindV
    dsimp only
    rw [if_pos (chk_vld.2 (he.vl hv).vld)]
    have h1 := he.path hv hlt
    rw [hg] at h1
    rw [← h1]
    exact fnd_path (he.vl hv) hlt
  · rw [he.rest _ hlt, hg]
def lftN (k e i : Nat) : Nat := if i ≤ k then i else if i ≤ e then k else i - (e - k)
theorem st_tok {zs : List Int} : ∀ m n ns, tapeOk zs n → tapeOk zs (stGo zs m n ns).2 := by
  intro m
  induction m with
  | zero => intro n ns h; exact h
  | succ m ih => intro n ns h; exact ih _ _ (rawN_ok9 (rawN_ok9 (rawN_ok9 h)))
theorem sl_tok {zs : List Int} : ∀ m n ns, tapeOk zs n → tapeOk zs (slGo zs m n ns).2 := by
  intro m
  induction m with
  | zero => intro n ns h; exact h
  | succ m ih => intro n ns h; exact ih _ _ (val_ok (rawN_ok9 (rawN_ok9 (rawN_ok9 h))))
theorem gr_ok {zs : List Int} {n k : Int} (h : tapeOk zs n) : tapeOk zs (grV zs n k).2 := sl_tok _ _ _ (rawN_ok9 (st_tok _ _ _ (rawN_ok9 h)))

theorem lft0 (k e : Nat) : lftN k e 0 = 0 := if_pos (Nat.zero_le _)
theorem lft_in {k e i : Nat} (h : k ≤ i ∧ i < e) : lftN k e (i + 1) = lftN k e i := by
  unfold lftN
  by_cases h1 : i = k
  · rw [if_neg (show ¬ i + 1 ≤ k by omega), if_pos (show i + 1 ≤ e by omega), if_pos (show i ≤ k by omega), h1]
  · rw [if_neg (show ¬ i + 1 ≤ k by omega), if_pos (show i + 1 ≤ e by omega), if_neg (show ¬ i ≤ k by omega), if_pos (show i ≤ e by omega)]
theorem lft_out {k e i : Nat} (hke : k < e) (h : ¬ (k ≤ i ∧ i < e)) : lftN k e (i + 1) = lftN k e i + 1 := by
  unfold lftN
  by_cases h1 : i < k
  · rw [if_pos (show i + 1 ≤ k by omega), if_pos (show i ≤ k by omega)]
  · rw [if_neg (show ¬ i + 1 ≤ k by omega), if_neg (show ¬ i + 1 ≤ e by omega), if_neg (show ¬ i ≤ k by omega)]
    split <;> omega
def saysRms : Says := fun args H => match args, H with
  | [.c (.p (.l (.int .i64) _))], [] => some (none, .bool true, [])
  | _, _ => none
def E7 : Table := ext E6 5 saysRms
theorem e7 : TSound Try.prog E7 := by
  refine ext_run e6 (f := 5) (fn := Try.f5) rfl rfl [0, 2, 3, 4, 5, 6, 7, 8, 9, 10, 11, 12, 13, 14, 15, 16, 36, 49, 52, 53, 54, 92, 94, 103, 121] fun args H p r' H' hs hp => ?_
  unfold saysRms at hs
  split at hs
  · rename_i zs
    cases hs
    refine ⟨Nat.le_of_ble_eq_true rfl, [], rfl, fun k hk => absurd hk (Nat.not_lt_zero k), ?_⟩
    have ht0 := tape_nw9 zs
    generalize hz : (zs : List Int).take 500 = ys at ht0
    obtain ⟨R, hR⟩ : ∃ R, grV ys 0 10 = R := ⟨_, rfl⟩
    have hv := gr_vl ys 0 10
    have hx := gr_ok (zs := ys) (n := 0) (k := 10) ht0
    rw [hR] at hv hx
    obtain ⟨ns, x⟩ := R
    have hv : Vl ns := hv
    have hx : tapeOk ys x := hx
    have hlen := hv.f.len
    have q1 : tapeOk ys 0 ∧ (0 : Int) ≤ 10 ∧ (10 : Int) ≤ 100 := ⟨ht0, by decide, by decide⟩
    have q2 : tapeOk ys x ∧ ((ns.length : Nat) : Int) ≤ 4611686018427387904 := ⟨hx, by omega⟩
    conv => whnf
    rw [hz]
    repeat ((conv => whnf); refine ⟨by first | exact q1 | (unfold inI64; omega) | omega | exact ⟨by omega, by omega⟩ | exact rfl | decide +kernel, ?_⟩)
    conv => whnf
    rw [hR]
    repeat ((conv => whnf); refine ⟨by first | exact q2 | (unfold inI64; omega) | omega | exact ⟨by omega, by omega⟩ | exact rfl | decide +kernel, ?_⟩)
    conv => whnf
    obtain ⟨k, hk⟩ : ∃ k : Nat, modV (rawV ys x) ((ns.length : Nat) : Int) = (k : Int) := ⟨(modV (rawV ys x) ((ns.length : Nat) : Int)).toNat, by have := modV_nonneg (rawV ys x) ((ns.length : Nat) : Int); omega⟩
    have hkn : k < ns.length := by
      have := modV_lt (rawV ys x) ((ns.length : Nat) : Int) (by omega)
      omega
    rw [hk]
    have hpk := rpath_vl hv hkn
    repeat ((conv => whnf); refine ⟨by first | exact ⟨rfl, trivial⟩ | (unfold inI64; omega) | omega | exact ⟨by omega, by omega⟩ | exact rfl | decide +kernel, ?_⟩)
    conv => whnf
    rw [hpk]
    rcases Nat.eq_zero_or_pos k with h0 | h0
    · subst h0
      have hrm := rem_root hv
      repeat ((conv => whnf); refine ⟨by first | exact ⟨rfl, trivial⟩ | (unfold inI64; omega) | omega | exact ⟨by omega, by omega⟩ | exact rfl | decide +kernel, ?_⟩)
      conv => whnf
      show Ends (.bool ((decide ((RemV (ns, pathV ns 0)).2 = 1) && decide ((((RemV (ns, pathV ns 0)).1.length : Nat) : Int) = 0)) && true)) [] (.bool true) []
      rw [hrm]
      exact ends_eq ⟨rfl, rfl⟩
    have hrm := rem_ok hv h0 hkn
    repeat ((conv => whnf); refine ⟨by first | exact ⟨rfl, trivial⟩ | (unfold inI64; omega) | omega | exact ⟨by omega, by omega⟩ | exact rfl | decide +kernel, ?_⟩)
    conv => whnf
    rw [hrm]
    refine cond_intro (fun h => ?_) (fun h => ?_)
    · have : ((k : Nat) : Int) = 0 := of_decide_eq_true h
      omega
    obtain ⟨m, hm⟩ : ∃ m, rmN ns (k : Int) = m := ⟨_, rfl⟩
    obtain ⟨e, he⟩ : ∃ e, behN ns (k : Int) = e := ⟨_, rfl⟩
    obtain ⟨p, hp⟩ : ∃ p, pathV ns k = p := ⟨_, rfl⟩
    have hbf := beh_facts hv hkn
    have hml : m.length = ns.length - (e - k) := by rw [← hm, ← he]; exact rm_len hbf.gt hbf.le _
    have hbel : ∀ i, i < ns.length → belB (pathV ns i) p = decide (k ≤ i ∧ i < e) := fun i hi => by rw [← hp, ← he]; exact bel_iff hv h0 hkn hi
    have hfin : ∀ i, i < ns.length → (k ≤ i ∧ i < e) → FindV (m, pathV ns i) = (0, false) := fun i hi hin => by rw [← hm]; rw [← he] at hin; exact find_in hv h0 hkn hi hin
    have hfout : ∀ i, i < ns.length → ¬ (k ≤ i ∧ i < e) → hRm k e i < m.length ∧ FindV (m, pathV ns i) = (((hRm k e i : Nat) : Int), true) ∧ (ndAt m (hRm k e i)).2 = (ndAt ns i).2 := fun i hi hin => by rw [← hm, ← he]; rw [← he] at hin; exact find_out hv h0 hkn hi hin
    rw [he] at hbf
    obtain ⟨b1, b2, _, _⟩ := hbf
    rw [hm, hp]
    repeat ((conv => whnf); refine ⟨by first | (unfold inI64; omega) | omega | exact ⟨by omega, by omega⟩ | exact rfl | decide +kernel, ?_⟩)
    conv => whnf
    refine loop_intro (σ := Nat) (fun i => [(0, XV.s .none), (2, XV.s .none), (3, XV.s .none), (4, XV.s (.a (.c (.ptr 1 0)))), (5, XV.s .none), (6, XV.s (.str p)), (7, XV.s (.a (.c (.ptr 2 0)))), (8, XV.s .none), (9, XV.s (.int .i64 (lftN k e i : Nat))), (10, XV.s .none), (11, XV.s .none), (12, XV.s .none), (13, XV.s .none), (14, XV.s .none), (15, XV.s .none), (16, XV.s .none), (36, XV.s .none), (49, XV.s .none), (52, XV.s (.int .i64 (ns.length : Nat))), (53, XV.s (.int .i64 (i : Nat))), (54, XV.s .none), (92, XV.s .none), (94, XV.s .none), (103, XV.s .none), (121, XV.s .none)])
      (fun _ => [tapeO ys (rawN ys x), .row [.p (.l ndC ns)], .row [.p (.l ndC m)]]) (fun i => i ≤ ns.length) (fun i => ns.length - i) 0 ?_ rfl (Nat.zero_le _) (fun i hi => ?_)
    · rw [lft0]
      repeat (first | exact LeL.nil | refine LeL.drop ?_ | refine LeL.same ?_)
    clear hm hp
    conv => whnf
    refine cond_intro (fun h => ?_) (fun h => ?_)
    · have hin : i < ns.length := lt_of_dec h
      have hpi := rpath_vl hv hin
      obtain ⟨s, hs⟩ : ∃ s, pathV ns i = s := ⟨_, rfl⟩
      have hb := hbel i hin
      have hf1 := hfin i hin
      have hf2 := hfout i hin
      rw [hs] at hb hf1 hf2 hpi
      repeat ((conv => whnf); refine ⟨by first | exact ⟨rfl, trivial⟩ | (unfold inI64; omega) | omega | exact ⟨by omega, by omega⟩ | exact rfl | decide +kernel, ?_⟩)
      conv => whnf
      rw [hpi]
      have g1 : decide ((p.size : Int) < (s.size : Int)) = true → 0 ≤ (p.size : Int) ∧ (p.size : Int) ≤ (s.size : Int) := fun hg => by have := of_decide_eq_true hg; omega
      repeat ((conv => whnf); refine ⟨by first | exact ⟨rfl, trivial⟩ | (unfold inI64; omega) | omega | exact ⟨by omega, by omega⟩ | (intro hg; first | (unfold inI64; omega) | omega | exact ⟨by omega, by omega⟩ | (simp [lit] at hg; unfold inI64; omega) | (simp [lit] at hg; omega) | (simp [lit] at hg; exact ⟨by omega, by omega⟩)) | (show (_ : Nat) + 1 ≤ 1000000000000; omega) | exact rfl | (unfold inI64; dsimp only; omega) | (dsimp only; omega) | (intro hg; simp [lit] at hg; first | (unfold inI64; dsimp only; omega) | (dsimp only; omega)) | decide +kernel, ?_⟩)
      conv => whnf
      have hb2 : (decide (s = p) || (decide ((p.size : Int) < (s.size : Int)) && decide (s.extract (Int.toNat 0) ((p.size : Int)).toNat = p) && decide (byteAt s (p.size : Int) = 47))) = decide (k ≤ i ∧ i < e) := hb
      rw [hb2]
      by_cases hin2 : k ≤ i ∧ i < e
      · rw [decide_eq_true hin2, hf1 hin2]
        repeat ((conv => whnf); refine ⟨by first | (unfold inI64; omega) | omega | exact ⟨by omega, by omega⟩ | (intro hg; first | (unfold inI64; omega) | omega | exact ⟨by omega, by omega⟩ | (simp [lit] at hg; unfold inI64; omega) | (simp [lit] at hg; omega) | (simp [lit] at hg; exact ⟨by omega, by omega⟩)) | (show (_ : Nat) + 1 ≤ 1000000000000; omega) | exact rfl | (unfold inI64; dsimp only; omega) | (dsimp only; omega) | (intro hg; simp [lit] at hg; first | (unfold inI64; dsimp only; omega) | (dsimp only; omega)) | decide +kernel, ?_⟩)
        conv => whnf
        refine head_intro (i + 1) ?_ rfl hin ?_
        · rw [lft_in hin2]
          repeat (first | exact LeL.nil | refine LeL.drop ?_ | refine LeL.same ?_)
        · omega
      obtain ⟨hj, hfi, hnd⟩ := hf2 hin2
      obtain ⟨j, hjj⟩ : ∃ j, hRm k e i = j := ⟨_, rfl⟩
      rw [hjj] at hj hfi hnd
      rw [decide_eq_false hin2, hfi]
      have hl1 : lftN k e i ≤ 120 := by unfold lftN; split <;> (try split) <;> omega
      have hi1 : 0 ≤ (i : Int) ∧ (i : Int) < (ns.length : Nat) := by omega
      have hj1 : 0 ≤ (j : Int) ∧ (j : Int) < (m.length : Nat) := by omega
      repeat ((conv => whnf); refine ⟨by first | (unfold inI64; omega) | omega | exact ⟨by omega, by omega⟩ | (intro hg; first | (unfold inI64; omega) | omega | exact ⟨by omega, by omega⟩ | (simp [lit] at hg; unfold inI64; omega) | (simp [lit] at hg; omega) | (simp [lit] at hg; exact ⟨by omega, by omega⟩)) | (show (_ : Nat) + 1 ≤ 1000000000000; omega) | exact rfl | (unfold inI64; dsimp only; omega) | (dsimp only; omega) | (intro hg; simp [lit] at hg; first | (unfold inI64; dsimp only; omega) | (dsimp only; omega)) | decide +kernel, ?_⟩)
      conv => whnf
      refine cond_intro (fun h5 => ?_) (fun h5 => ?_)
      · exfalso
        revert h5
        simp
        omega
      repeat ((conv => whnf); refine ⟨by first | exact hi1 | exact hj1 | (repeat ((conv => whnf); refine ⟨by ((conv => whnf); first | exact ⟨rfl, rfl, rfl⟩ | exact ⟨hj1, rfl, rfl, rfl⟩ | exact ⟨hi1, rfl, rfl, rfl⟩), ?_⟩)); ((conv => whnf); exact trivial) | ((conv => whnf); exact ⟨⟨rfl, rfl, rfl⟩, trivial⟩) | exact Early.one (by decide +kernel) (by (conv => whnf); exact ⟨rfl, rfl, rfl⟩) trivial | (unfold inI64; omega) | omega | exact ⟨by omega, by omega⟩ | (intro hg; first | (unfold inI64; omega) | omega | exact ⟨by omega, by omega⟩ | (simp [lit] at hg; unfold inI64; omega) | (simp [lit] at hg; omega) | (simp [lit] at hg; exact ⟨by omega, by omega⟩)) | (show (_ : Nat) + 1 ≤ 1000000000000; omega) | exact rfl | (unfold inI64; dsimp only; omega) | (dsimp only; omega) | (intro hg; simp [lit] at hg; first | (unfold inI64; dsimp only; omega) | (dsimp only; omega)) | decide +kernel, ?_⟩)
      conv => whnf
      have hps : (ndAt ns i).2.2.length ≤ 1000000000 := by
        have e : ndAt ns i = ns[i] := by unfold ndAt; simp [hin]
        rw [e]
        exact Nat.le_trans ((lim_len hv.f.lim).1.at hin) (by decide)
      refine ⟨⟨rfl, hps⟩, ?_⟩
      have hsam : samN ((0, (ndAt ns i).2.1, (ndAt ns i).2.2), 0, (ndAt m j).2.1, (ndAt m j).2.2) = true := by
        rw [hnd]
        unfold samN
        simp
      conv => whnf
      conv in (samN _) =>
        change samN ((0, (ndAt ns i).2.1, (ndAt ns i).2.2), 0, (ndAt m j).2.1, (ndAt m j).2.2)
        rw [hsam]
      repeat ((conv => whnf); refine ⟨by first | (unfold inI64; omega) | omega | exact ⟨by omega, by omega⟩ | (intro hg; first | (unfold inI64; omega) | omega | exact ⟨by omega, by omega⟩ | (simp [lit] at hg; unfold inI64; omega) | (simp [lit] at hg; omega) | (simp [lit] at hg; exact ⟨by omega, by omega⟩)) | (show (_ : Nat) + 1 ≤ 1000000000000; omega) | exact rfl | (unfold inI64; dsimp only; omega) | (dsimp only; omega) | (intro hg; simp [lit] at hg; first | (unfold inI64; dsimp only; omega) | (dsimp only; omega)) | decide +kernel, ?_⟩)
      conv => whnf
      refine head_keep (i + 1) [0, 1, 2] rfl id3 rfl ?_ hin ?_
      · rw [lft_out b1 hin2, show (((lftN k e i + 1 : Nat) : Nat) : Int) = ((lftN k e i : Nat) : Int) + 1 from rfl]
        repeat (first | exact KeepL.nil | refine KeepL.drop ?_ | refine KeepL.ren rfl ?_)
      · omega
    have h1 : i = ns.length := by have := ge_of_dec h; omega
    subst h1
    repeat ((conv => whnf); refine ⟨by first | (unfold inI64; omega) | omega | exact ⟨by omega, by omega⟩ | (intro hg; first | (unfold inI64; omega) | omega | exact ⟨by omega, by omega⟩ | (simp [lit] at hg; unfold inI64; omega) | (simp [lit] at hg; omega) | (simp [lit] at hg; exact ⟨by omega, by omega⟩)) | (show (_ : Nat) + 1 ≤ 1000000000000; omega) | exact rfl | (unfold inI64; dsimp only; omega) | (dsimp only; omega) | (intro hg; simp [lit] at hg; first | (unfold inI64; dsimp only; omega) | (dsimp only; omega)) | decide +kernel, ?_⟩)
    conv => whnf
    have hll : lftN k e ns.length = m.length := by
      unfold lftN
      rw [hml, if_neg (by omega)]
      split <;> omega
    rw [hll]
    refine ends_eq ⟨?_, rfl⟩
    rw [decide_eq_true rfl]
    rfl
  · cases hs
end Go.Ab
namespace Go.Ab
open Go.RowKit
set_option linter.unusedSectionVars false

/-- The fields of a struct, each behind the one before it. -/
def nestGo (P : Program) (f : TypeId → Option CT) (tot : Nat) : List Field → Nat → Option CT
  | [], _ => none
  | [x], off => match f x.type with
    | some c => if x.offset = off ∧ P.cellsOf x.type = c.width ∧ tot = off + c.width then some c else none
    | none => none
  | x :: r, off => match f x.type, nestGo P f tot r (off + P.cellsOf x.type) with
    | some a, some b => if x.offset = off ∧ P.cellsOf x.type = a.width then some (.pair a b) else none
    | _, _ => none
/-- The shape of a type of numbers, texts, structs and slices. -/
def nestOf (P : Program) : Nat → TypeId → Option CT
  | 0, _ => none
  | d + 1, t => match P.underlying t with
    | some (.int k) => some (.int k)
    | some .bool => some .bool
    | some .string => some .str
    | some (.slice e) => match nestOf P d e with
      | some c => if P.cellsOf e = c.width then some (.list c) else none
      | none => none
    | some (.struct fs) => nestGo P (nestOf P d) (P.cellsOf t) fs.toList 0
    | _ => none

theorem CT.width_pos : ∀ t : CT, 0 < t.width
  | .pair a b => by have := CT.width_pos a; show 0 < a.width + b.width; omega
  | .int _ => Nat.one_pos
  | .bool => Nat.one_pos
  | .str => Nat.one_pos
  | .list _ => Nat.one_pos
  | .fn => Nat.one_pos
  | .map _ _ => Nat.one_pos

variable {H : Type} {enc : TypeId × Value → H} {P : Program} {w : World} {base : Nat} {spare : Nat → Bool} {held : Bool} {I : Cells}

theorem nestGo_tot {f : TypeId → Option CT} {tot : Nat} : ∀ (fs : List Field) (o : Nat) (c : CT), nestGo P f tot fs o = some c → o ≤ tot := by
  intro fs
  induction fs with
  | nil => intro o c h; cases h
  | cons u v ihh =>
    intro o c h
    cases v with
    | nil =>
      simp only [nestGo] at h
      split at h
      · split at h
        · rename_i hc; omega
        · cases h
      · cases h
    | cons v1 v2 =>
      simp only [nestGo] at h
      split at h
      · rename_i hh
        have := ihh _ _ hh
        omega
      · cases h

theorem nestGo_rep {f : TypeId → Option CT} {tot : Nat} {cs : List Value} (htot : tot = cs.length) :
    ∀ (fs : List Field) (off : Nat) (c : CT), nestGo P f tot fs off = some c → off ≤ cs.length →
      (∀ x ∈ fs, ∀ a, f x.type = some a → ∃ z : a.den, Rep I w a z ((cs.drop x.offset).take (P.cellsOf x.type))) → ∃ z : c.den, Rep I w c z (cs.drop off) := by
  intro fs
  induction fs with
  | nil => intro off c h; cases h
  | cons x r ih =>
    intro off c h ho hx
    cases r with
    | nil =>
      simp only [nestGo] at h
      cases hf : f x.type with
      | none => rw [hf] at h; cases h
      | some a =>
        rw [hf] at h
        dsimp only at h
        split at h
        · rename_i hc
          obtain rfl : a = c := Option.some.inj h
          obtain ⟨h1, h2, h3⟩ := hc
          obtain ⟨z, hz⟩ := hx x (by simp) a hf
          refine ⟨z, ?_⟩
          rwa [h1, List.take_of_length_le (by rw [List.length_drop]; omega)] at hz
        · cases h
    | cons y r =>
      simp only [nestGo] at h
      cases hf : f x.type with
      | none => rw [hf] at h; cases h
      | some a =>
        rw [hf] at h
        cases hg : nestGo P f tot (y :: r) (off + P.cellsOf x.type) with
        | none =>
          rw [hg] at h
          cases h
        | some b =>
          rw [hg] at h
          dsimp only at h
          split at h
          · rename_i hc
            cases h
            obtain ⟨h1, h2⟩ := hc
            have hle : off + P.cellsOf x.type ≤ cs.length := by
              have := nestGo_tot _ _ _ hg
              omega
            obtain ⟨z1, hz1⟩ := hx x (by simp) a hf
            obtain ⟨z2, hz2⟩ := ih _ b hg hle fun u hu => hx u (by simp [hu])
            refine ⟨(z1, z2), ⟨(cs.drop off).take (P.cellsOf x.type), cs.drop (off + P.cellsOf x.type), ?_, ?_, hz2⟩⟩
            · rw [← List.drop_drop, List.take_append_drop]
            · rwa [h1] at hz1
          · cases h

theorem choose_list' {α : Type} (n : Nat) (p : Nat → α → Prop) (h : ∀ i, i < n → ∃ z, p i z) : ∃ zs : List α, zs.length = n ∧ ∀ i z, zs[i]? = some z → p i z := by
  induction n with
  | zero => exact ⟨[], rfl, fun i z hz => by simp at hz⟩
  | succ n ih =>
    obtain ⟨zs, h1, h2⟩ := ih fun i hi => h i (by omega)
    obtain ⟨z, hz⟩ := h n (by omega)
    refine ⟨zs ++ [z], by simp [h1], fun i x hx => ?_⟩
    rcases Nat.lt_or_ge i zs.length with hi | hi
    · rw [List.getElem?_append_left hi] at hx
      exact h2 i x hx
    · have e : i = n := by
        have := (List.getElem?_eq_some_iff.1 hx).1
        simp at this
        omega
      subst e
      rw [List.getElem?_append_right (by omega), show i - zs.length = 0 by omega] at hx
      cases hx
      exact hz

theorem addr_add4 (b off n : Nat) : (⟨b, off, none⟩ : Addr).add n = ⟨b, off + n, none⟩ := by unfold Addr.add; split <;> simp_all
theorem cell_nospot {w : World} {a : Addr} {v : Value} (h : w.cell? a = some v) : a.spot = none := by
  unfold World.cell? at h
  split at h
  · split at h
    · cases h
    · rename_i hs
      cases hsp : a.spot with
      | none => rfl
      | some s => rw [hsp] at hs; simp at hs
  · cases h

theorem nest_rep (hI : ∀ b o, b < w.heap.size → I b o) : ∀ (d : Nat) (t : TypeId) (c : CT), nestOf P d t = some c → ∀ (fuel : Nat) (cs : List Value) (y : DataW H × List MemPlace), DataW.trod enc P w base spare held fuel t cs = some y → ∃ z : c.den, Rep I w c z cs := by
  intro d
  induction d with
  | zero => intro t c h; cases h
  | succ d ih =>
    intro t c h fuel cs y hy
    unfold nestOf at h
    split at h
    · rename_i k hu
      cases h
      obtain ⟨n, rfl, _⟩ := DataW.trod_int hu hy
      exact ⟨n, rfl⟩
    · rename_i hu
      cases h
      obtain ⟨b, rfl, _⟩ := DataW.trod_bool hu hy
      exact ⟨b, rfl⟩
    · rename_i hu
      cases h
      obtain ⟨s, rfl, _⟩ := DataW.trod_string hu hy
      exact ⟨s, rfl⟩
    · rename_i e hu
      split at h
      · rename_i c' hc
        split at h
        · rename_i hw
          cases h
          rcases DataW.trod_slice hu hy with ⟨rfl, _⟩ | ⟨a, len, cap, elems, rest, n, _, rfl, _, _, hl, _, hlen, hel, _, _⟩
          · exact ⟨[], .inl ⟨rfl, rfl⟩⟩
          · rcases Nat.eq_zero_or_pos len with h0 | h0
            · subst h0
              exact ⟨[], .inr (.inr ⟨rfl, a, cap, rfl⟩)⟩
            · have hwp := CT.width_pos c'
              have get : ∀ i, i < len → ∃ (cs : List Value) (z : c'.den), cs.length = c'.width ∧ Rep I w c' z cs ∧ ∀ j, j < c'.width → w.cell? ((a.add (i * P.cellsOf e)).add j) = cs[j]? := by
                intro i hi
                have h1 := hel i hi
                rw [List.getElem?_eq_getElem (by omega)] at h1
                obtain ⟨cs, h2, h3⟩ := Option.bind_eq_some_iff.1 h1
                obtain ⟨_, h4, h5⟩ := World.cells?_some h2
                obtain ⟨z, hz⟩ := ih e c' hc n cs _ h3
                exact ⟨cs, z, by rw [h4, hw], hz, fun j hj => h5 j (by rw [hw]; exact hj)⟩
              have hsp : a.spot = none := by
                obtain ⟨cs, _, hcl, _, hcell⟩ := get 0 h0
                have h6 := hcell 0 hwp
                rw [List.getElem?_eq_getElem (by omega)] at h6
                have h7 := cell_nospot h6
                have h8 : (a.add (0 * P.cellsOf e)).add 0 = a := by simp [Addr.add]
                rwa [h8] at h7
              obtain ⟨b, off, sp⟩ := a
              obtain rfl : sp = none := hsp
              have each : ∀ i, i < len → ∃ z : c'.den, ∃ us : List Value, us.length = c'.width ∧ Rep I w c' z us ∧ ∀ j u, us[j]? = some u → w.at' b (off + i * c'.width + j) = some u := by
                intro i hi
                obtain ⟨cs, z, hcl, hz, hcell⟩ := get i hi
                refine ⟨z, cs, hcl, hz, fun j u hj => ?_⟩
                have hjl : j < c'.width := by
                  have := (List.getElem?_eq_some_iff.1 hj).1
                  omega
                have h6 := hcell j hjl
                rw [addr_add4, addr_add4, hj, hw] at h6
                exact h6
              obtain ⟨zs, hz1, hz2⟩ := choose_list' len _ each
              refine ⟨zs, .inr (.inl ⟨b, off, cap, by rw [hz1], by rw [hz1]; exact hl, fun i z hi => ?_⟩)⟩
              obtain ⟨us, _, h2, h3⟩ := hz2 i z hi
              exact ⟨us, h2, fun j u hj => ⟨hI _ _ (cell_lt (h3 j u hj)), h3 j u hj⟩⟩
        · cases h
      · cases h
    · rename_i fs hu
      obtain ⟨xs, n, _, _, hl, hxl, hf⟩ := DataW.trod_struct hu hy
      obtain ⟨z, hz⟩ := nestGo_rep (P := P) hl.symm fs.toList 0 c h (Nat.zero_le _) fun x hx a ha => by
        obtain ⟨i, hi⟩ := List.getElem?_of_mem hx
        have hi' : fs[i]? = some x := by rw [← Array.getElem?_toList]; exact hi
        have h2 := hf i x hi'
        have hil : i < xs.length := by
          have := (Array.getElem?_eq_some_iff.1 hi').1
          omega
        rw [List.getElem?_eq_getElem hil] at h2
        exact ih x.type a ha n _ _ h2
      exact ⟨z, by rwa [List.drop_zero] at hz⟩
    · cases h

/-- A slice that is read, with slices in it: what it holds. -/
theorem nest_slice {t : TypeId} {c : CT} {d : Nat} {v : Value} {y : DataW H} {ps : List MemPlace} (hI : ∀ b o, b < w.heap.size → I b o) (hc : nestOf P d t = some (.list c))
    (h : DataW.Trod enc P w base spare held t v y ps) {a : Option Addr} {len cap : Nat} (hv : v = .slice a len cap) : ∃ zs : List c.den, RepV I w (.l c zs) v := by
  subst hv
  obtain ⟨fuel, hf⟩ := h
  have hcs : (Value.slice a len cap).cells.toList = [.slice a len cap] := rfl
  rw [hcs] at hf
  obtain ⟨zs, hz⟩ := nest_rep hI d t _ hc fuel _ _ hf
  exact ⟨zs, hz⟩
end Go.Ab
