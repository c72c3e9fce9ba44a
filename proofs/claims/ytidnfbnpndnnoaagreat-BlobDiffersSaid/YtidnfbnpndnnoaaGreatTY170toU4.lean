/- The reference of package tree: Same, over what package blob has. -/
import Derived.Test.YtidnfbnpndnnoaaGreatTY162toY169
import Derived.Test.YtidnfbnpndnnoaaGreatTY158toY161
import Derived.Test.YtidnfbnpndnnoaaGreatTY94toY150
import Derived.Test.YtidnfbnpndnnoaaGreatTX0toY60
namespace Go.Ab
open Go.Proofs
set_option linter.unusedSectionVars false
set_option maxRecDepth 100000
variable [Base]

def daNN8 : List AV → Option (Nd × Nd)
  | [.agg [.p (.v (.int .i64 a)), .p (.v (.string s)), .p (.l c0 ps)], .agg [.p (.v (.int .i64 b)), .p (.v (.string t)), .p (.l c1 qs)]] => match castD (e := ptC) (e' := c0) ps, castD (e := ptC) (e' := c1) qs with | some ps, some qs => some ((a, s, ps), (b, t, qs)) | _, _ => none
  | _ => none
def eaNN8 (a : Nd × Nd) : List AV := [.agg [.int .i64 a.1.1, .str a.1.2.1, .p (.l ptC a.1.2.2)], .agg [.int .i64 a.2.1, .str a.2.2.1, .p (.l ptC a.2.2.2)]]
def samN8 (a : Nd × Nd) : Bool := decide (a.1.1 = a.2.1) && decide (a.1.2.1 = a.2.2.1) && decide (@Eq (List Pt) a.1.2.2 a.2.2.2)
theorem eq_prefix8 {α : Type} {l m : List α} (d : α) (hl : l.length = m.length) (h : ∀ j, j < l.length → l.getD j d = m.getD j d) : l = m := by
  apply List.ext_getElem hl
  intro j h1 h2
  have := h j h1
  rw [List.getD_eq_getElem?_getD, List.getD_eq_getElem?_getD, List.getElem?_eq_getElem h1, List.getElem?_eq_getElem h2] at this
  exact this
def BA24 : Table := ext BA23 68 (saysG daNN8 eaNN8 fun a => (some (a.1.2.2.length ≤ 1000000000), .bool (samN8 a)))
theorem bA24 : TSound Tryz.prog BA24 := by
  refine extG bA23 68 (fn := Tryz.f68) rfl rfl daNN8 eaNN8 _ (fun _ => Nat.le_of_ble_eq_true rfl) [0, 1, 2, 3, 4, 5, 26, 29, 30, 31, 43] fun a hok => ?_
  obtain ⟨⟨a, s, ps⟩, b, t, qs⟩ := a
  have hl : ps.length ≤ 1000000000 := hok
  show runF _ _ _ [] [.agg [.int .i64 a, .str s, .p (.l ptC ps)], .agg [.int .i64 b, .str t, .p (.l ptC qs)]] [] fun r H => Ends r H (.bool (samN8 ((a, s, ps), b, t, qs))) []
  repeat ((conv => whnf); refine ⟨by first | (unfold inI64; omega) | omega | exact ⟨by omega, by omega⟩ | (intro hg; first | (unfold inI64; omega) | omega | exact ⟨by omega, by omega⟩ | (simp [lit] at hg; unfold inI64; omega) | (simp [lit] at hg; omega) | (simp [lit] at hg; exact ⟨by omega, by omega⟩)) | (show (_ : Nat) + 1 ≤ 1000000000000; omega) | exact rfl | (unfold inI64; dsimp only; omega) | (dsimp only; omega) | (intro hg; simp [lit] at hg; first | (unfold inI64; dsimp only; omega) | (dsimp only; omega)) | decide +kernel, ?_⟩)
  conv => whnf
  refine cond_intro (fun h => ?_) (fun h => ?_)
  · have h1 : samN8 ((a, s, ps), b, t, qs) = false := by
      revert h
      unfold samN8
      simp
      rintro ((h1 | h1) | h1) h2 h3 h4
      · exact h1 h2
      · exact h1 h3
      · exact h1 (by rw [h4])
    rw [h1]
    repeat ((conv => whnf); refine ⟨by first | (unfold inI64; omega) | omega | exact ⟨by omega, by omega⟩ | exact rfl | decide +kernel, ?_⟩)
    conv => whnf
    exact ends_eq ⟨rfl, rfl⟩
  have h : ((!decide (a = b) || !decide (s = t)) || !decide (((ps.length : Nat) : Int) = (qs.length : Nat))) = false := h
  obtain ⟨h1, h2, h3⟩ : a = b ∧ s = t ∧ ps.length = qs.length := by
    simp at h
    obtain ⟨⟨h1, h2⟩, h3⟩ := h
    exact ⟨h1, h2, by omega⟩
  subst h1
  subst h2
  have eqg : eqGood Tryz.prog 76 := ⟨by decide +kernel, by decide +kernel⟩
  conv => whnf
  refine loop_intro (σ := Nat) (fun i => [(0, XV.s .none), (1, XV.s .none), (2, XV.s (.a (.c (.ptr 0 0)))), (3, XV.s (.a (.c (.ptr 1 0)))), (4, XV.s .none), (5, XV.s .none), (26, XV.s .none), (29, XV.s (.int .i64 (ps.length : Nat))), (30, XV.s (.int .i64 (i : Nat))), (31, XV.s .none), (43, XV.s .none)])
    (fun _ => [.row [.int .i64 a, .str s, .p (.l ptC ps)], .row [.int .i64 a, .str s, .p (.l ptC qs)]]) (fun i => i ≤ ps.length ∧ ∀ j, j < i → ps.getD j ptC.dflt = qs.getD j ptC.dflt) (fun i => ps.length - i) 0 ?_ rfl ⟨Nat.zero_le _, fun j hj => absurd hj (Nat.not_lt_zero j)⟩ (fun i hi => ?_)
  · repeat (first | exact LeL.nil | refine LeL.drop ?_ | refine LeL.same ?_)
  obtain ⟨hi, hall⟩ := hi
  conv => whnf
  refine cond_intro (fun h4 => ?_) (fun h4 => ?_)
  · have h5 : i < ps.length := lt_of_dec h4
    have hin : 0 ≤ (i : Int) ∧ (i : Int) < (ps.length : Nat) := by omega
    have hin2 : 0 ≤ (i : Int) ∧ (i : Int) < (qs.length : Nat) := by omega
    repeat ((conv => whnf); refine ⟨by first | exact hin | exact hin2 | exact eqg | exact fun _ => eqg | ((conv => whnf); exact ⟨⟨rfl, rfl, rfl⟩, trivial⟩) | exact Early.one (by decide +kernel) (by (conv => whnf); exact ⟨rfl, rfl, rfl⟩) trivial | (unfold inI64; omega) | omega | exact ⟨by omega, by omega⟩ | exact rfl | decide +kernel, ?_⟩)
    conv => whnf
    refine cond_intro (fun h6 => ?_) (fun h6 => ?_)
    · have h7 : ¬ ps.getD i ptC.dflt = qs.getD i ptC.dflt := by
        have h8 : (!(decide ((ps.getD ((i : Int)).toNat ptC.dflt).1 = (qs.getD ((i : Int)).toNat ptC.dflt).1) && decide ((ps.getD ((i : Int)).toNat ptC.dflt).2 = (qs.getD ((i : Int)).toNat ptC.dflt).2))) = true := h6
        intro hx
        rw [Int.toNat_natCast, hx] at h8
        simp at h8
      have h9 : samN8 ((a, s, ps), a, s, qs) = false := by
        unfold samN8
        simp only [decide_true, Bool.true_and]
        exact decide_eq_false fun hx => h7 (by rw [hx])
      rw [h9]
      repeat ((conv => whnf); refine ⟨by first | (unfold inI64; omega) | omega | exact ⟨by omega, by omega⟩ | exact rfl | decide +kernel, ?_⟩)
      conv => whnf
      exact ends_eq ⟨rfl, rfl⟩
    have h7 : ps.getD i ptC.dflt = qs.getD i ptC.dflt := by
      have h8 : (!(decide ((ps.getD ((i : Int)).toNat ptC.dflt).1 = (qs.getD ((i : Int)).toNat ptC.dflt).1) && decide ((ps.getD ((i : Int)).toNat ptC.dflt).2 = (qs.getD ((i : Int)).toNat ptC.dflt).2))) = false := h6
      rw [Int.toNat_natCast] at h8
      simp at h8
      exact Prod.ext h8.1 h8.2
    repeat ((conv => whnf); refine ⟨by first | (unfold inI64; omega) | omega | exact ⟨by omega, by omega⟩ | exact rfl | decide +kernel, ?_⟩)
    conv => whnf
    refine head_intro (i + 1) ?_ rfl ⟨h5, fun j hj => ?_⟩ ?_
    · repeat (first | exact LeL.nil | refine LeL.drop ?_ | refine LeL.same ?_)
    · by_cases hji : j = i
      · rw [hji]; exact h7
      · exact hall j (by omega)
    · omega
  · have hge := ge_of_dec h4
    obtain rfl : i = ps.length := by omega
    have h9 : samN8 ((a, s, ps), a, s, qs) = true := by
      unfold samN8
      simp only [decide_true, Bool.true_and]
      exact decide_eq_true (eq_prefix8 _ h3 hall)
    rw [h9]
    repeat ((conv => whnf); refine ⟨by first | (unfold inI64; omega) | omega | exact ⟨by omega, by omega⟩ | exact rfl | decide +kernel, ?_⟩)
    conv => whnf
    exact ends_eq ⟨rfl, rfl⟩
def daTT8 : List AV → Option (List Nd × List Nd)
  | [.agg [.p (.l c0 ns)], .agg [.p (.l c1 ms)]] => match castD (e := ndC) (e' := c0) ns, castD (e := ndC) (e' := c1) ms with | some ns, some ms => some (ns, ms) | _, _ => none
  | _ => none
def eaTT8 (a : List Nd × List Nd) : List AV := [.agg [.p (.l ndC a.1)], .agg [.p (.l ndC a.2)]]
def eqTB8 (a : List Nd × List Nd) : Bool := decide (@Eq (List Nd) a.1 a.2)
theorem sam_eq8 {a b : Nd} : samN8 (a, b) = true ↔ a = b := by
  unfold samN8
  simp only [Bool.and_eq_true, decide_eq_true_eq]
  exact ⟨fun ⟨⟨h1, h2⟩, h3⟩ => Prod.ext h1 (Prod.ext h2 h3), fun h => by rw [h]; exact ⟨⟨rfl, rfl⟩, rfl⟩⟩
def TTOk8 (a : List Nd × List Nd) : Prop := a.1.length ≤ 1000000000 ∧ ∀ i, i < a.1.length → (ndAt a.1 i).2.2.length ≤ 1000000000
def BA25 : Table := ext BA24 16 (saysG daTT8 eaTT8 fun a => (some (TTOk8 a), .bool (eqTB8 a)))
theorem bA25 : TSound Tryz.prog BA25 := by
  refine extG bA24 16 (fn := Tryz.f16) rfl rfl daTT8 eaTT8 _ (fun _ => Nat.le_of_ble_eq_true rfl) [0, 1, 2, 3, 4, 5, 12, 15, 16, 17, 30] fun a hok => ?_
  obtain ⟨ns, ms⟩ := a
  obtain ⟨hl, hps⟩ : ns.length ≤ 1000000000 ∧ ∀ i, i < ns.length → (ndAt ns i).2.2.length ≤ 1000000000 := hok
  show runF _ _ _ [] [.agg [.p (.l ndC ns)], .agg [.p (.l ndC ms)]] [] fun r H => Ends r H (.bool (eqTB8 (ns, ms))) []
  repeat ((conv => whnf); refine ⟨by first | (unfold inI64; omega) | omega | exact ⟨by omega, by omega⟩ | (intro hg; first | (unfold inI64; omega) | omega | exact ⟨by omega, by omega⟩ | (simp [lit] at hg; unfold inI64; omega) | (simp [lit] at hg; omega) | (simp [lit] at hg; exact ⟨by omega, by omega⟩)) | (show (_ : Nat) + 1 ≤ 1000000000000; omega) | exact rfl | (unfold inI64; dsimp only; omega) | (dsimp only; omega) | (intro hg; simp [lit] at hg; first | (unfold inI64; dsimp only; omega) | (dsimp only; omega)) | decide +kernel, ?_⟩)
  conv => whnf
  refine cond_intro (fun h => ?_) (fun h => ?_)
  · have h1 : eqTB8 (ns, ms) = false := by
      unfold eqTB8
      refine decide_eq_false fun hx => ?_
      have hx : ns = ms := hx
      subst hx
      have h2 : (!decide (((ns.length : Nat) : Int) = (ns.length : Nat))) = true := h
      simp at h2
    rw [h1]
    repeat ((conv => whnf); refine ⟨by first | (unfold inI64; omega) | omega | exact ⟨by omega, by omega⟩ | exact rfl | decide +kernel, ?_⟩)
    conv => whnf
    exact ends_eq ⟨rfl, rfl⟩
  have h3 : ns.length = ms.length := by
    have h : (!decide (((ns.length : Nat) : Int) = (ms.length : Nat))) = false := h
    simp at h
    omega
  conv => whnf
  refine loop_intro (σ := Nat) (fun i => [(0, XV.s .none), (1, XV.s .none), (2, XV.s (.a (.c (.ptr 0 0)))), (3, XV.s (.a (.c (.ptr 1 0)))), (4, XV.s .none), (5, XV.s .none), (12, XV.s .none), (15, XV.s (.int .i64 (ns.length : Nat))), (16, XV.s (.int .i64 (i : Nat))), (17, XV.s .none), (30, XV.s .none)])
    (fun _ => [.row [.p (.l ndC ns)], .row [.p (.l ndC ms)]]) (fun i => i ≤ ns.length ∧ ∀ j, j < i → ns.getD j ndC.dflt = ms.getD j ndC.dflt) (fun i => ns.length - i) 0 ?_ rfl ⟨Nat.zero_le _, fun j hj => absurd hj (Nat.not_lt_zero j)⟩ (fun i hi => ?_)
  · repeat (first | exact LeL.nil | refine LeL.drop ?_ | refine LeL.same ?_)
  obtain ⟨hi, hall⟩ := hi
  conv => whnf
  refine cond_intro (fun h4 => ?_) (fun h4 => ?_)
  · have h5 : i < ns.length := lt_of_dec h4
    have hin : 0 ≤ (i : Int) ∧ (i : Int) < (ns.length : Nat) := by omega
    have hin2 : 0 ≤ (i : Int) ∧ (i : Int) < (ms.length : Nat) := by omega
    have hpi := hps i h5
    repeat ((conv => whnf); refine ⟨by first | exact hin | exact hin2 | exact ⟨rfl, hpi⟩ | ((conv => whnf); exact ⟨⟨rfl, rfl, rfl⟩, trivial⟩) | exact Early.one (by decide +kernel) (by (conv => whnf); exact ⟨rfl, rfl, rfl⟩) trivial | (unfold inI64; omega) | omega | exact ⟨by omega, by omega⟩ | (intro hg; first | (unfold inI64; omega) | omega | exact ⟨by omega, by omega⟩ | (simp [lit] at hg; unfold inI64; omega) | (simp [lit] at hg; omega) | (simp [lit] at hg; exact ⟨by omega, by omega⟩)) | (show (_ : Nat) + 1 ≤ 1000000000000; omega) | exact rfl | (unfold inI64; dsimp only; omega) | (dsimp only; omega) | (intro hg; simp [lit] at hg; first | (unfold inI64; dsimp only; omega) | (dsimp only; omega)) | decide +kernel, ?_⟩)
    conv => whnf
    refine cond_intro (fun h6 => ?_) (fun h6 => ?_)
    · have h7 : eqTB8 (ns, ms) = false := by
        unfold eqTB8
        refine decide_eq_false fun hx => ?_
        have hx : ns = ms := hx
        subst hx
        have h8 : (!samN8 (ndAt ns i, ndAt ns i)) = false := by rw [sam_eq8.2 rfl]; rfl
        exact Bool.noConfusion (h8.symm.trans h6)
      rw [h7]
      repeat ((conv => whnf); refine ⟨by first | (unfold inI64; omega) | omega | exact ⟨by omega, by omega⟩ | exact rfl | decide +kernel, ?_⟩)
      conv => whnf
      exact ends_eq ⟨rfl, rfl⟩
    have h7 : ns.getD i ndC.dflt = ms.getD i ndC.dflt := by
      have h8 : (!samN8 (ndAt ns i, ndAt ms i)) = false := h6
      refine sam_eq8.1 (show samN8 (ndAt ns i, ndAt ms i) = true from ?_)
      cases h9 : samN8 (ndAt ns i, ndAt ms i) with
      | true => rfl
      | false => rw [h9] at h8; cases h8
    repeat ((conv => whnf); refine ⟨by first | (unfold inI64; omega) | omega | exact ⟨by omega, by omega⟩ | exact rfl | decide +kernel, ?_⟩)
    conv => whnf
    refine head_intro (i + 1) ?_ rfl ⟨h5, fun j hj => ?_⟩ ?_
    · repeat (first | exact LeL.nil | refine LeL.drop ?_ | refine LeL.same ?_)
    · by_cases hji : j = i
      · rw [hji]; exact h7
      · exact hall j (by omega)
    · omega
  · have hge := ge_of_dec h4
    obtain rfl : i = ns.length := by omega
    have h9 : eqTB8 (ns, ms) = true := by
      unfold eqTB8
      exact decide_eq_true (eq_prefix8 (α := Nd) _ h3 hall)
    rw [h9]
    repeat ((conv => whnf); refine ⟨by first | (unfold inI64; omega) | omega | exact ⟨by omega, by omega⟩ | exact rfl | decide +kernel, ?_⟩)
    conv => whnf
    exact ends_eq ⟨rfl, rfl⟩

theorem tape_nw9 (zs : List Int) : tapeOk (zs.take 500) 0 := by
  have := List.length_take_le 500 zs
  exact ⟨by decide, by decide, by omega⟩
theorem st_tok {zs : List Int} : ∀ m n ns, tapeOk zs n → tapeOk zs (stGo zs m n ns).2 := by
  intro m
  induction m with
  | zero => intro n ns h; exact h
  | succ m ih => intro n ns h; exact ih _ _ (rawN_ok9 (rawN_ok9 (rawN_ok9 h)))
theorem sl_tok {zs : List Int} : ∀ m n ns, tapeOk zs n → tapeOk zs (slGo zs m n ns).2 := by
  intro m
  induction m with
  | zero => intro n ns h; exact h
  | succ m ih => intro n ns h; exact ih _ _ (val_ok (rawN_ok9 (rawN_ok9 (rawN_ok9 h))))
theorem gr_ok {zs : List Int} {n k : Int} (h : tapeOk zs n) : tapeOk zs (grV zs n k).2 := sl_tok _ _ _ (rawN_ok9 (st_tok _ _ _ (rawN_ok9 h)))


theorem tape_nw7 (zs : List Int) : tapeOk (zs.take 500) 0 := by
  have := List.length_take_le 500 zs
  exact ⟨by decide, by decide, by omega⟩
def saysBdf : Says := fun args H => match args, H with
  | [.c (.p (.l (.int .i64) _))], [] => some (none, .bool true, [])
  | _, _ => none
/-- A tree whose encoding is not too long. -/
structure Enc8 (ns : List Nd) : Prop where
  vl : Vl ns
  en : EncV ns = (encV ns, 0)
theorem enc8 {ns : List Nd} (hv : Vl ns) (h1 : ns.length ≤ 6) (h2 : tpS ns ≤ 10) : Enc8 ns := by
  refine ⟨hv, ?_⟩
  have := encV_le hv
  unfold EncV
  rw [if_neg (by omega)]
theorem tt_ok {x y : List Nd} (hx : Vl x) : TTOk8 (x, y) := by
  have h := hx.f.len
  refine ⟨by dsimp only; omega, fun i hi => ?_⟩
  have := (vl_sz hx.f hi).pl
  dsimp only
  omega
theorem dif_end {x y : List Nd} (hx : Vl x) (hy : Vl y) : (decide (bytesOf (encV x) = bytesOf (encV y)) == eqTB8 (x, y)) = true := by
  unfold eqTB8
  by_cases h : x = y
  · subst h
    rw [decide_eq_true rfl, decide_eq_true rfl]
    rfl
  · rw [decide_eq_false fun h2 => h (enc_inj hx hy (bof_inj (bt_enc hx) (bt_enc hy) h2)), decide_eq_false h]
    rfl
def BC1 : Table := ext BA25 7 saysBdf
theorem bC1 : TSound Tryz.prog BC1 := by
  refine ext_run bA25 (f := 7) (fn := Tryz.f7) rfl rfl [0, 2, 3, 4, 5, 6, 7, 8, 9, 10, 11, 20, 39] fun args H p r H' hs hp => ?_
  unfold saysBdf at hs
  split at hs
  · rename_i zs
    cases hs
    refine ⟨Nat.le_of_ble_eq_true rfl, [], rfl, fun k hk => absurd hk (Nat.not_lt_zero k), ?_⟩
    have ht0 := tape_nw7 zs
    generalize hz : (zs : List Int).take 500 = ys at ht0
    have hv := gr_vl ys 0 4
    have hsz := gr_sz ys 0 4
    have ht1 := gr_ok (zs := ys) (n := 0) (k := 4) ht0
    rw [show ((4 : Nat) : Int) = 4 from rfl] at hsz
    obtain ⟨R, hR⟩ : ∃ R, grV ys 0 4 = R := ⟨_, rfl⟩
    rw [hR] at hv hsz ht1
    obtain ⟨ns, x⟩ := R
    have hv : Vl ns := hv
    have hsz : ns.length ≤ 4 + 1 ∧ tpS ns ≤ 2 * 4 := hsz
    have ht1 : tapeOk ys x := ht1
    have hw := gr_vl ys x 4
    have hsw := gr_sz ys x 4
    have ht2 := gr_ok (zs := ys) (n := x) (k := 4) ht1
    rw [show ((4 : Nat) : Int) = 4 from rfl] at hsw
    obtain ⟨Q, hQ⟩ : ∃ Q, grV ys x 4 = Q := ⟨_, rfl⟩
    rw [hQ] at hw hsw ht2
    obtain ⟨ms, y⟩ := Q
    have hw : Vl ms := hw
    have hsw : ms.length ≤ 4 + 1 ∧ tpS ms ≤ 2 * 4 := hsw
    have ht2 : tapeOk ys y := ht2
    have hex := enc8 hv (by omega) (by omega)
    have q1 : tapeOk ys 0 ∧ (0 : Int) ≤ 4 ∧ (4 : Int) ≤ 100 := ⟨ht0, by decide, by decide⟩
    have q2 : tapeOk ys x ∧ (0 : Int) ≤ 4 ∧ (4 : Int) ≤ 100 := ⟨ht1, by decide, by decide⟩
    have q3 : tapeOk ys y ∧ (2 : Int) ≤ 4611686018427387904 := ⟨ht2, by decide⟩
    conv => whnf
    rw [hz]
    repeat ((conv => whnf); refine ⟨by first | exact q1 | (unfold inI64; omega) | omega | exact ⟨by omega, by omega⟩ | exact rfl | decide +kernel, ?_⟩)
    conv => whnf
    rw [hR]
    repeat ((conv => whnf); refine ⟨by first | exact q2 | (unfold inI64; omega) | omega | exact ⟨by omega, by omega⟩ | exact rfl | decide +kernel, ?_⟩)
    conv => whnf
    rw [hQ]
    repeat ((conv => whnf); refine ⟨by first | exact q3 | (unfold inI64; omega) | omega | exact ⟨by omega, by omega⟩ | exact rfl | decide +kernel, ?_⟩)
    conv => whnf
    refine cond_intro (fun h => ?_) (fun h => ?_)
    · have t1 := rawN_ok9 ht2
      have t2 := rawN_ok9 t1
      have t3 := rawN_ok9 t2
      have hnl := hv.f.len
      have q4 : tapeOk ys (rawN ys y) ∧ ((ns.length : Nat) : Int) ≤ 4611686018427387904 := ⟨t1, by omega⟩
      repeat ((conv => whnf); refine ⟨by first | exact q4 | exact t2 | exact t3 | exact ⟨rfl, trivial⟩ | (repeat ((conv => whnf); refine ⟨by ((conv => whnf); first | exact ⟨rfl, rfl, rfl⟩ | exact ⟨rfl, rfl⟩ | exact ⟨by assumption, rfl, rfl, rfl⟩), ?_⟩)); ((conv => whnf); exact trivial) | ((conv => whnf); exact ⟨⟨rfl, rfl, rfl⟩, trivial⟩) | exact Early.one (by decide +kernel) (by (conv => whnf); exact ⟨rfl, rfl, rfl⟩) trivial | (unfold inI64; omega) | omega | exact ⟨by omega, by omega⟩ | exact rfl | decide +kernel, ?_⟩)
      conv => whnf
      obtain ⟨W, hW⟩ : ∃ W, rSetV (ns, rPathV (ns, modV (rawV ys (rawN ys y)) (ns.length : Nat)), pickS propL ys (rawN ys (rawN ys y)), (valV ys (rawN ys (rawN ys (rawN ys y)))).1) = W := ⟨_, rfl⟩
      rw [hW]
      refine cond_intro (fun h2 => ?_) (fun h2 => ?_)
      · have hw0 : W.2 = 0 := of_decide_eq_true h2
        have hWv : Vl W.1 := by rw [← hW] at hw0 ⊢; exact set_vl hv hw0
        have hWs : W.1.length ≤ 5 ∧ tpS W.1 ≤ 9 := by
          have e1 := set_leq (ns, rPathV (ns, modV (rawV ys (rawN ys y)) (ns.length : Nat)), pickS propL ys (rawN ys (rawN ys y)), (valV ys (rawN ys (rawN ys (rawN ys y)))).1)
          have e2 := set_sz (a := (ns, rPathV (ns, modV (rawV ys (rawN ys y)) (ns.length : Nat)), pickS propL ys (rawN ys (rawN ys y)), (valV ys (rawN ys (rawN ys (rawN ys y)))).1)) (by rw [hW]; exact hw0)
          rw [hW] at e1 e2
          dsimp only at e1 e2
          omega
        have heW := enc8 hWv (by omega) (by omega)
        repeat ((conv => whnf); refine ⟨by first | exact ⟨rfl, hv⟩ | (unfold inI64; omega) | omega | exact ⟨by omega, by omega⟩ | exact rfl | decide +kernel, ?_⟩)
        conv => whnf
        rw [hex.en]
        repeat ((conv => whnf); refine ⟨by first | exact ⟨rfl, heW.vl⟩ | (unfold inI64; omega) | omega | exact ⟨by omega, by omega⟩ | exact rfl | decide +kernel, ?_⟩)
        conv => whnf
        rw [heW.en]
        repeat ((conv => whnf); refine ⟨by first | exact fun _ => ⟨rfl, tt_ok hv⟩ | exact fun _ => trivial | ((conv => whnf); exact ⟨⟨rfl, rfl, rfl⟩, trivial⟩) | exact Early.one (by decide +kernel) (by (conv => whnf); exact ⟨rfl, rfl, rfl⟩) trivial | (unfold inI64; omega) | omega | exact ⟨by omega, by omega⟩ | exact rfl | decide +kernel, ?_⟩)
        conv => whnf
        refine ends_eq ⟨congrArg (fun b => SV.bool b) (?_ : _ = true), rfl⟩
        show (decide ((0 : Int) = 0) && decide ((0 : Int) = 0) && (decide (bytesOf (encV ns) = bytesOf (encV W.1)) == eqTB8 (ns, W.1)) && true) = true
        rw [dif_end hv heW.vl]
        rfl
      · repeat ((conv => whnf); refine ⟨by first | exact ⟨rfl, hv⟩ | (unfold inI64; omega) | omega | exact ⟨by omega, by omega⟩ | exact rfl | decide +kernel, ?_⟩)
        conv => whnf
        rw [hex.en]
        repeat ((conv => whnf); refine ⟨by first | exact fun _ => ⟨rfl, tt_ok hv⟩ | exact fun _ => trivial | ((conv => whnf); exact ⟨⟨rfl, rfl, rfl⟩, trivial⟩) | exact Early.one (by decide +kernel) (by (conv => whnf); exact ⟨rfl, rfl, rfl⟩) trivial | (unfold inI64; omega) | omega | exact ⟨by omega, by omega⟩ | exact rfl | decide +kernel, ?_⟩)
        conv => whnf
        refine ends_eq ⟨congrArg (fun b => SV.bool b) (?_ : _ = true), rfl⟩
        show (decide ((0 : Int) = 0) && decide ((0 : Int) = 0) && (decide (bytesOf (encV ns) = bytesOf (encV ns)) == eqTB8 (ns, ns)) && true) = true
        rw [dif_end hv hex.vl]
        rfl
    · have hem := enc8 hw (by omega) (by omega)
      repeat ((conv => whnf); refine ⟨by first | exact ⟨rfl, hv⟩ | (unfold inI64; omega) | omega | exact ⟨by omega, by omega⟩ | exact rfl | decide +kernel, ?_⟩)
      conv => whnf
      rw [hex.en]
      repeat ((conv => whnf); refine ⟨by first | exact ⟨rfl, hem.vl⟩ | (unfold inI64; omega) | omega | exact ⟨by omega, by omega⟩ | exact rfl | decide +kernel, ?_⟩)
      conv => whnf
      rw [hem.en]
      repeat ((conv => whnf); refine ⟨by first | exact fun _ => ⟨rfl, tt_ok hv⟩ | exact fun _ => trivial | ((conv => whnf); exact ⟨⟨rfl, rfl, rfl⟩, trivial⟩) | exact Early.one (by decide +kernel) (by (conv => whnf); exact ⟨rfl, rfl, rfl⟩) trivial | (unfold inI64; omega) | omega | exact ⟨by omega, by omega⟩ | exact rfl | decide +kernel, ?_⟩)
      conv => whnf
      refine ends_eq ⟨congrArg (fun b => SV.bool b) (?_ : _ = true), rfl⟩
      show (decide ((0 : Int) = 0) && decide ((0 : Int) = 0) && (decide (bytesOf (encV ns) = bytesOf (encV ms)) == eqTB8 (ns, ms)) && true) = true
      rw [dif_end hv hem.vl]
      rfl
  · cases hs
end Go.Ab
namespace Go.Ab
open Go.RowKit
set_option linter.unusedSectionVars false

/-- The fields of a struct, each behind the one before it. -/
def nestGo (P : Program) (f : TypeId → Option CT) (tot : Nat) : List Field → Nat → Option CT
  | [], _ => none
  | [x], off => match f x.type with
    | some c => if x.offset = off ∧ P.cellsOf x.type = c.width ∧ tot = off + c.width then some c else none
    | none => none
  | x :: r, off => match f x.type, nestGo P f tot r (off + P.cellsOf x.type) with
    | some a, some b => if x.offset = off ∧ P.cellsOf x.type = a.width then some (.pair a b) else none
    | _, _ => none
/-- The shape of a type of numbers, texts, structs and slices. -/
def nestOf (P : Program) : Nat → TypeId → Option CT
  | 0, _ => none
  | d + 1, t => match P.underlying t with
    | some (.int k) => some (.int k)
    | some .bool => some .bool
    | some .string => some .str
    | some (.slice e) => match nestOf P d e with
      | some c => if P.cellsOf e = c.width then some (.list c) else none
      | none => none
    | some (.struct fs) => nestGo P (nestOf P d) (P.cellsOf t) fs.toList 0
    | _ => none

theorem CT.width_pos : ∀ t : CT, 0 < t.width
  | .pair a b => by have := CT.width_pos a; show 0 < a.width + b.width; omega
  | .int _ => Nat.one_pos
  | .bool => Nat.one_pos
  | .str => Nat.one_pos
  | .list _ => Nat.one_pos
  | .fn => Nat.one_pos
  | .map _ _ => Nat.one_pos

variable {H : Type} {enc : TypeId × Value → H} {P : Program} {w : World} {base : Nat} {spare : Nat → Bool} {held : Bool} {I : Cells}

theorem nestGo_tot {f : TypeId → Option CT} {tot : Nat} : ∀ (fs : List Field) (o : Nat) (c : CT), nestGo P f tot fs o = some c → o ≤ tot := by
  intro fs
  induction fs with
  | nil => intro o c h; cases h
  | cons u v ihh =>
    intro o c h
    cases v with
    | nil =>
      simp only [nestGo] at h
      split at h
      · split at h
        · rename_i hc; omega
        · cases h
      · cases h
    | cons v1 v2 =>
      simp only [nestGo] at h
      split at h
      · rename_i hh
        have := ihh _ _ hh
        omega
      · cases h

theorem nestGo_rep {f : TypeId → Option CT} {tot : Nat} {cs : List Value} (htot : tot = cs.length) :
    ∀ (fs : List Field) (off : Nat) (c : CT), nestGo P f tot fs off = some c → off ≤ cs.length →
      (∀ x ∈ fs, ∀ a, f x.type = some a → ∃ z : a.den, Rep I w a z ((cs.drop x.offset).take (P.cellsOf x.type))) → ∃ z : c.den, Rep I w c z (cs.drop off) := by
  intro fs
  induction fs with
  | nil => intro off c h; cases h
  | cons x r ih =>
    intro off c h ho hx
    cases r with
    | nil =>
      simp only [nestGo] at h
      cases hf : f x.type with
      | none => rw [hf] at h; cases h
      | some a =>
        rw [hf] at h
        dsimp only at h
        split at h
        · rename_i hc
          obtain rfl : a = c := Option.some.inj h
          obtain ⟨h1, h2, h3⟩ := hc
          obtain ⟨z, hz⟩ := hx x (by simp) a hf
          refine ⟨z, ?_⟩
          rwa [h1, List.take_of_length_le (by rw [List.length_drop]; omega)] at hz
        · cases h
    | cons y r =>
      simp only [nestGo] at h
      cases hf : f x.type with
      | none => rw [hf] at h; cases h
      | some a =>
        rw [hf] at h
        cases hg : nestGo P f tot (y :: r) (off + P.cellsOf x.type) with
        | none =>
          rw [hg] at h
          cases h
        | some b =>
          rw [hg] at h
          dsimp only at h
          split at h
          · rename_i hc
            cases h
            obtain ⟨h1, h2⟩ := hc
            have hle : off + P.cellsOf x.type ≤ cs.length := by
              have := nestGo_tot _ _ _ hg
              omega
            obtain ⟨z1, hz1⟩ := hx x (by simp) a hf
            obtain ⟨z2, hz2⟩ := ih _ b hg hle fun u hu => hx u (by simp [hu])
            refine ⟨(z1, z2), ⟨(cs.drop off).take (P.cellsOf x.type), cs.drop (off + P.cellsOf x.type), ?_, ?_, hz2⟩⟩
            · rw [← List.drop_drop, List.take_append_drop]
            · rwa [h1] at hz1
          · cases h

theorem choose_list' {α : Type} (n : Nat) (p : Nat → α → Prop) (h : ∀ i, i < n → ∃ z, p i z) : ∃ zs : List α, zs.length = n ∧ ∀ i z, zs[i]? = some z → p i z := by
  induction n with
  | zero => exact ⟨[], rfl, fun i z hz => by simp at hz⟩
  | succ n ih =>
    obtain ⟨zs, h1, h2⟩ := ih fun i hi => h i (by omega)
    obtain ⟨z, hz⟩ := h n (by omega)
    refine ⟨zs ++ [z], by simp [h1], fun i x hx => ?_⟩
    rcases Nat.lt_or_ge i zs.length with hi | hi
    · rw [List.getElem?_append_left hi] at hx
      exact h2 i x hx
    · have e : i = n := by
        have := (List.getElem?_eq_some_iff.1 hx).1
        simp at this
        omega
      subst e
      rw [List.getElem?_append_right (by omega), show i - zs.length = 0 by omega] at hx
      cases hx
      exact hz

theorem addr_add4 (b off n : Nat) : (⟨b, off, none⟩ : Addr).add n = ⟨b, off + n, none⟩ := by unfold Addr.add; split <;> simp_all
theorem cell_nospot {w : World} {a : Addr} {v : Value} (h : w.cell? a = some v) : a.spot = none := by
  unfold World.cell? at h
  split at h
  · split at h
    · cases h
    · rename_i hs
      cases hsp : a.spot with
      | none => rfl
      | some s => rw [hsp] at hs; simp at hs
  · cases h

theorem nest_rep (hI : ∀ b o, b < w.heap.size → I b o) : ∀ (d : Nat) (t : TypeId) (c : CT), nestOf P d t = some c → ∀ (fuel : Nat) (cs : List Value) (y : DataW H × List MemPlace), DataW.trod enc P w base spare held fuel t cs = some y → ∃ z : c.den, Rep I w c z cs := by
  intro d
  induction d with
  | zero => intro t c h; cases h
  | succ d ih =>
    intro t c h fuel cs y hy
    unfold nestOf at h
    split at h
    · rename_i k hu
      cases h
      obtain ⟨n, rfl, _⟩ := DataW.trod_int hu hy
      exact ⟨n, rfl⟩
    · rename_i hu
      cases h
      obtain ⟨b, rfl, _⟩ := DataW.trod_bool hu hy
      exact ⟨b, rfl⟩
    · rename_i hu
      cases h
      obtain ⟨s, rfl, _⟩ := DataW.trod_string hu hy
      exact ⟨s, rfl⟩
    · rename_i e hu
      split at h
      · rename_i c' hc
        split at h
        · rename_i hw
          cases h
          rcases DataW.trod_slice hu hy with ⟨rfl, _⟩ | ⟨a, len, cap, elems, rest, n, _, rfl, _, _, hl, _, hlen, hel, _, _⟩
          · exact ⟨[], .inl ⟨rfl, rfl⟩⟩
          · rcases Nat.eq_zero_or_pos len with h0 | h0
            · subst h0
              exact ⟨[], .inr (.inr ⟨rfl, a, cap, rfl⟩)⟩
            · have hwp := CT.width_pos c'
              have get : ∀ i, i < len → ∃ (cs : List Value) (z : c'.den), cs.length = c'.width ∧ Rep I w c' z cs ∧ ∀ j, j < c'.width → w.cell? ((a.add (i * P.cellsOf e)).add j) = cs[j]? := by
                intro i hi
                have h1 := hel i hi
                rw [List.getElem?_eq_getElem (by omega)] at h1
                obtain ⟨cs, h2, h3⟩ := Option.bind_eq_some_iff.1 h1
                obtain ⟨_, h4, h5⟩ := World.cells?_some h2
                obtain ⟨z, hz⟩ := ih e c' hc n cs _ h3
                exact ⟨cs, z, by rw [h4, hw], hz, fun j hj => h5 j (by rw [hw]; exact hj)⟩
              have hsp : a.spot = none := by
                obtain ⟨cs, _, hcl, _, hcell⟩ := get 0 h0
                have h6 := hcell 0 hwp
                rw [List.getElem?_eq_getElem (by omega)] at h6
                have h7 := cell_nospot h6
                have h8 : (a.add (0 * P.cellsOf e)).add 0 = a := by simp [Addr.add]
                rwa [h8] at h7
              obtain ⟨b, off, sp⟩ := a
              obtain rfl : sp = none := hsp
              have each : ∀ i, i < len → ∃ z : c'.den, ∃ us : List Value, us.length = c'.width ∧ Rep I w c' z us ∧ ∀ j u, us[j]? = some u → w.at' b (off + i * c'.width + j) = some u := by
                intro i hi
                obtain ⟨cs, z, hcl, hz, hcell⟩ := get i hi
                refine ⟨z, cs, hcl, hz, fun j u hj => ?_⟩
                have hjl : j < c'.width := by
                  have := (List.getElem?_eq_some_iff.1 hj).1
                  omega
                have h6 := hcell j hjl
                rw [addr_add4, addr_add4, hj, hw] at h6
                exact h6
              obtain ⟨zs, hz1, hz2⟩ := choose_list' len _ each
              refine ⟨zs, .inr (.inl ⟨b, off, cap, by rw [hz1], by rw [hz1]; exact hl, fun i z hi => ?_⟩)⟩
              obtain ⟨us, _, h2, h3⟩ := hz2 i z hi
              exact ⟨us, h2, fun j u hj => ⟨hI _ _ (cell_lt (h3 j u hj)), h3 j u hj⟩⟩
        · cases h
      · cases h
    · rename_i fs hu
      obtain ⟨xs, n, _, _, hl, hxl, hf⟩ := DataW.trod_struct hu hy
      obtain ⟨z, hz⟩ := nestGo_rep (P := P) hl.symm fs.toList 0 c h (Nat.zero_le _) fun x hx a ha => by
        obtain ⟨i, hi⟩ := List.getElem?_of_mem hx
        have hi' : fs[i]? = some x := by rw [← Array.getElem?_toList]; exact hi
        have h2 := hf i x hi'
        have hil : i < xs.length := by
          have := (Array.getElem?_eq_some_iff.1 hi').1
          omega
        rw [List.getElem?_eq_getElem hil] at h2
        exact ih x.type a ha n _ _ h2
      exact ⟨z, by rwa [List.drop_zero] at hz⟩
    · cases h

/-- A slice that is read, with slices in it: what it holds. -/
theorem nest_slice {t : TypeId} {c : CT} {d : Nat} {v : Value} {y : DataW H} {ps : List MemPlace} (hI : ∀ b o, b < w.heap.size → I b o) (hc : nestOf P d t = some (.list c))
    (h : DataW.Trod enc P w base spare held t v y ps) {a : Option Addr} {len cap : Nat} (hv : v = .slice a len cap) : ∃ zs : List c.den, RepV I w (.l c zs) v := by
  subst hv
  obtain ⟨fuel, hf⟩ := h
  have hcs : (Value.slice a len cap).cells.toList = [.slice a len cap] := rfl
  rw [hcs] at hf
  obtain ⟨zs, hz⟩ := nest_rep hI d t _ hc fuel _ _ hf
  exact ⟨zs, hz⟩
end Go.Ab
