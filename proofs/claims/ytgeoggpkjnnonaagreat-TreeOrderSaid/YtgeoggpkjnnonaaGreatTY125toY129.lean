/- Package tree: Delete. Made by gy125.py. -/
import Derived.Test.YtgeoggpkjnnonaaGreatTY118toY124
import Derived.Test.YtgeoggpkjnnonaaGreatTY102toY121
namespace Go.Ab
open Go.Proofs
set_option linter.unusedSectionVars false
set_option maxRecDepth 100000
variable [Base]

def DelV (a : List Nd × ByteArray × ByteArray) : List Nd × Int :=
  if chkP a.1 = 0 then if (fndV (a.1, a.2.1)).2 = true then if fndP (ndAt a.1 (fndV (a.1, a.2.1)).1.toNat).2.2 a.2.2 = true then (unN a.1 (fndV (a.1, a.2.1)).1.toNat a.2.2, 0) else ([], 4) else ([], 4) else ([], chkP a.1)
theorem idE1 : ∀ k, k < 1 → [0, 3][k]? = some k := fun k hk => by
  obtain rfl : k = 0 := by omega
  rfl

/-! E. -/
def D0E : Table := ext L3 85 (saysUnX (fun ns k s => fndP (ndAt ns k).2.2 s = false) (fun _ => .tup [.c (.p (.v (.slice none 0 0))), .c (.int .i64 4)]) fun ns _ _ => hpN ns)
theorem d0E : TSound Tryz.prog D0E := un_er
def saysD1E : Says := fun args H => match args, H with
  | [.c (.sl _ _ _ _), .c (.p (.v (.int .i64 k))), .c (.ptr 1 0)], [.arr _ c0 ns _, .row [.p (.v (.string a))]] => match castD (e := ndC) (e' := c0) ns with
    | some ns => some (some (args = [.c (.sl 0 ndC 0 ns.length), .c (.int .i64 k), .c (.ptr 1 0)] ∧ H = [.arr ndT ndC ns 0, rwS a] ∧ StOk ns k ∧ fndP (ndAt ns k.toNat).2.2 a = false), .tup [.c (.p (.v (.slice none 0 0))), .c (.int .i64 4)], [.arr ndT ndC ns 0, rwS a])
    | none => none
  | _, _ => none
def D1E : Table := ext D0E 84 saysD1E
theorem d1E : TSound Tryz.prog D1E := by
  refine ext_run d0E (f := 84) (fn := Tryz.f84) rfl rfl [0, 1, 2, 5, 6] fun args H p r' H' hs hp => ?_
  unfold saysD1E at hs
  split at hs
  · split at hs
    · rename_i k _ _ _ _ a _ ns _
      cases hs
      obtain ⟨ha, hH, h1, h2⟩ := hp
      rw [ha, hH]
      refine ⟨Nat.le_of_ble_eq_true rfl, [0, 1], rfl, id2h, ?_⟩
      repeat ((conv => whnf); refine ⟨by first | exact ⟨rfl, rfl, h1, h2⟩ | (unfold inI64; omega) | omega | exact ⟨by omega, by omega⟩ | exact rfl | decide +kernel, ?_⟩)
      conv => whnf
      exact ends_eq ⟨rfl, rfl⟩
    · cases hs
  · cases hs

def saysD2E : Says := fun args H => match args, H with
  | [.agg [.p (.l c0 ns)], .c (.p (.v (.string q))), .c (.clo _ _ _)], [.row [.p (.v (.string a))]] => match castD (e := ndC) (e' := c0) ns with
    | some ns => some (some (args = [.agg [.p (.l ndC ns)], .c (.str q), .c (.clo false 84 [0])] ∧ H = [rwS a] ∧ ¬ (DelV (ns, q, a)).2 = 0), treR (DelV (ns, q, a)), [rwS a])
    | none => none
  | _, _ => none
def D2E : Table := ext D1E 75 saysD2E
theorem d2E : TSound Tryz.prog D2E := by
  refine ext_run d1E (f := 75) (fn := Tryz.f75) rfl rfl [0, 1, 2, 3, 6, 7, 8, 9, 10, 11, 12, 16, 27] fun args H p r' H' hs hp => ?_
  unfold saysD2E at hs
  split at hs
  · split at hs
    · rename_i q _ _ _ a _ ns _
      cases hs
      obtain ⟨ha, hH, hc⟩ := hp
      rw [ha, hH]
      refine ⟨Nat.le_of_ble_eq_true rfl, [0], rfl, id0, ?_⟩
      repeat ((conv => whnf); refine ⟨by first | exact ⟨rfl, trivial⟩ | (unfold inI64; omega) | omega | exact ⟨by omega, by omega⟩ | exact rfl | decide +kernel, ?_⟩)
      conv => whnf
      refine cond_intro (fun h => ?_) (fun h => ?_)
      · have h1 : ¬ chkP ns = 0 := by
          have h2 : (!decide (chkP ns = 0)) = true := h
          simpa using h2
        repeat ((conv => whnf); refine ⟨by first | (unfold inI64; omega) | omega | exact ⟨by omega, by omega⟩ | exact rfl | decide +kernel, ?_⟩)
        conv => whnf
        exact ends_nil (by unfold DelV; rw [if_neg h1])
      have h1 : chkP ns = 0 := by
        have h2 : (!decide (chkP ns = 0)) = false := h
        simpa using h2
      have hv := chk_vld.1 h1
      repeat ((conv => whnf); refine ⟨by first | exact ⟨rfl, hv⟩ | (unfold inI64; omega) | omega | exact ⟨by omega, by omega⟩ | exact rfl | decide +kernel, ?_⟩)
      conv => whnf
      refine cond_intro (fun h3 => ?_) (fun h3 => ?_)
      · have h4 : ¬ (fndV (ns, q)).2 = true := ne_t (not_b h3)
        repeat ((conv => whnf); refine ⟨by first | (unfold inI64; omega) | omega | exact ⟨by omega, by omega⟩ | exact rfl | decide +kernel, ?_⟩)
        conv => whnf
        exact ends_nil (by unfold DelV; rw [if_pos h1, if_neg h4])
      have h4 : (fndV (ns, q)).2 = true := not_f h3
      have hok := vld_st hv h4
      obtain ⟨hl, hp0, _⟩ := lim_len hv.lim
      have he : fndP (ndAt ns (fndV (ns, q)).1.toNat).2.2 a = false := by
        cases h5 : fndP (ndAt ns (fndV (ns, q)).1.toNat).2.2 a with
        | false => rfl
        | true => exact absurd (by unfold DelV; dsimp only; rw [if_pos h1, if_pos h4, if_pos h5]) hc
      repeat ((conv => whnf); refine ⟨by first | exact ⟨rfl, hl, hp0⟩ | exact ⟨rfl, rfl, hok, he⟩ | (unfold inI64; omega) | omega | exact ⟨by omega, by omega⟩ | exact rfl | decide +kernel, ?_⟩)
      conv => whnf
      exact ends_nil (by unfold DelV; dsimp only; rw [if_pos h1, if_pos h4, if_neg (ne_t he)])
    · cases hs
  · cases hs

def saysD3E : Says := fun args H => match H with
  | [] => match daTSS args with
    | some a => some (some (args = eaTSS a ∧ ¬ (DelV a).2 = 0), treR (DelV a), [])
    | none => none
  | _ => none
theorem d3E : TSound Tryz.prog (ext D2E 39 saysD3E) := by
  refine ext_run d2E (f := 39) (fn := Tryz.f39) rfl rfl [0, 1, 2, 3, 5, 6, 7] fun args H p r' H' hs hp => ?_
  unfold saysD3E at hs
  split at hs
  · split at hs
    · rename_i a _
      cases hs
      obtain ⟨ha, hc⟩ := hp
      rw [ha]
      obtain ⟨ns, q, a⟩ := a
      refine ⟨Nat.le_of_ble_eq_true rfl, [], rfl, fun k hk => absurd hk (Nat.not_lt_zero k), ?_⟩
      show runF _ _ _ _ [.agg [.p (.l ndC ns)], .c (.str q), .c (.str a)] [] _
      repeat ((conv => whnf); refine ⟨by first | exact ⟨rfl, rfl, hc⟩ | ((conv => whnf); exact ⟨⟨rfl, rfl, rfl⟩, trivial⟩) | exact Early.one (by decide +kernel) (by (conv => whnf); exact ⟨rfl, rfl, rfl⟩) trivial | (unfold inI64; omega) | omega | exact ⟨by omega, by omega⟩ | exact rfl | decide +kernel, ?_⟩)
      conv => whnf
      exact ends_eq ⟨rfl, rfl⟩
    · cases hs
  · cases hs

/-! N. -/
def D0N : Table := ext L3 85 (saysUnX (fun ns k s => fndP (ndAt ns k).2.2 s = true) (fun ns => .tup [.c (.sl 0 ndC 0 ns.length), .c (.int .i64 0)]) fun ns k s => hpN (unN ns k s))
theorem d0N : TSound Tryz.prog D0N := un_ok
def saysD1N : Says := fun args H => match args, H with
  | [.c (.sl _ _ _ _), .c (.p (.v (.int .i64 k))), .c (.ptr 1 0)], [.arr _ c0 ns _, .row [.p (.v (.string a))]] => match castD (e := ndC) (e' := c0) ns with
    | some ns => some (some (args = [.c (.sl 0 ndC 0 ns.length), .c (.int .i64 k), .c (.ptr 1 0)] ∧ H = [.arr ndT ndC ns 0, rwS a] ∧ StOk ns k ∧ fndP (ndAt ns k.toNat).2.2 a = true), .tup [.c (.sl 0 ndC 0 ns.length), .c (.int .i64 0)], [.arr ndT ndC (unN ns k.toNat a) 0, rwS a])
    | none => none
  | _, _ => none
def D1N : Table := ext D0N 84 saysD1N
theorem d1N : TSound Tryz.prog D1N := by
  refine ext_run d0N (f := 84) (fn := Tryz.f84) rfl rfl [0, 1, 2, 5, 6] fun args H p r' H' hs hp => ?_
  unfold saysD1N at hs
  split at hs
  · split at hs
    · rename_i k _ _ _ _ a _ ns _
      cases hs
      obtain ⟨ha, hH, h1, h2⟩ := hp
      rw [ha, hH]
      refine ⟨Nat.le_of_ble_eq_true rfl, [0, 1], rfl, id2h, ?_⟩
      repeat ((conv => whnf); refine ⟨by first | exact ⟨rfl, rfl, h1, h2⟩ | (unfold inI64; omega) | omega | exact ⟨by omega, by omega⟩ | exact rfl | decide +kernel, ?_⟩)
      conv => whnf
      exact ends_eq ⟨rfl, rfl⟩
    · cases hs
  · cases hs

def saysD2N : Says := fun args H => match args, H with
  | [.agg [.p (.l c0 ns)], .c (.p (.v (.string q))), .c (.clo _ _ _)], [.row [.p (.v (.string a))]] => match castD (e := ndC) (e' := c0) ns with
    | some ns => some (some (args = [.agg [.p (.l ndC ns)], .c (.str q), .c (.clo false 84 [0])] ∧ H = [rwS a] ∧ chkP ns = 0 ∧ (fndV (ns, q)).2 = true ∧ fndP (ndAt ns (fndV (ns, q)).1.toNat).2.2 a = true), .tup [.agg [.sl 1 ndC 0 ns.length], .c (.int .i64 0)], [rwS a, .arr ndT ndC (unN ns (fndV (ns, q)).1.toNat a) 0])
    | none => none
  | _, _ => none
def D2N : Table := ext D1N 75 saysD2N
theorem d2N : TSound Tryz.prog D2N := by
  refine ext_run d1N (f := 75) (fn := Tryz.f75) rfl rfl [0, 1, 2, 3, 6, 7, 8, 9, 10, 11, 12, 16, 27] fun args H p r' H' hs hp => ?_
  unfold saysD2N at hs
  split at hs
  · split at hs
    · rename_i q _ _ _ a _ ns _
      cases hs
      obtain ⟨ha, hH, hc⟩ := hp
      rw [ha, hH]
      refine ⟨Nat.le_of_ble_eq_true rfl, [0, 3], rfl, idE1, ?_⟩
      obtain ⟨h1, h4, hf⟩ := hc
      have hv := chk_vld.1 h1
      have hok := vld_st hv h4
      obtain ⟨hl, hp0, _⟩ := lim_len hv.lim
      repeat ((conv => whnf); refine ⟨by first | exact ⟨rfl, trivial⟩ | (unfold inI64; omega) | omega | exact ⟨by omega, by omega⟩ | exact rfl | decide +kernel, ?_⟩)
      conv => whnf
      refine cond_intro (fun h => ?_) (fun h => ?_)
      · have h2 : (!decide (chkP ns = 0)) = true := h
        exact absurd h1 (by simpa using h2)
      repeat ((conv => whnf); refine ⟨by first | exact ⟨rfl, hv⟩ | (unfold inI64; omega) | omega | exact ⟨by omega, by omega⟩ | exact rfl | decide +kernel, ?_⟩)
      conv => whnf
      refine cond_intro (fun h3 => ?_) (fun h3 => ?_)
      · exact absurd h4 (ne_t (not_b h3))
      repeat ((conv => whnf); refine ⟨by first | exact ⟨rfl, hl, hp0⟩ | exact ⟨rfl, rfl, hok, hf⟩ | (unfold inI64; omega) | omega | exact ⟨by omega, by omega⟩ | exact rfl | decide +kernel, ?_⟩)
      conv => whnf
      exact ends_eq ⟨rfl, rfl⟩
    · cases hs
  · cases hs

def saysD3N : Says := fun args H => match H with
  | [] => match daTSS args with
    | some a => some (some (args = eaTSS a ∧ chkP a.1 = 0 ∧ (fndV (a.1, a.2.1)).2 = true ∧ fndP (ndAt a.1 (fndV (a.1, a.2.1)).1.toNat).2.2 a.2.2 = true), .tup [.agg [.sl 0 ndC 0 a.1.length], .c (.int .i64 0)], [.arr ndT ndC (unN a.1 (fndV (a.1, a.2.1)).1.toNat a.2.2) 0])
    | none => none
  | _ => none
theorem d3N : TSound Tryz.prog (ext D2N 39 saysD3N) := by
  refine ext_run d2N (f := 39) (fn := Tryz.f39) rfl rfl [0, 1, 2, 3, 5, 6, 7] fun args H p r' H' hs hp => ?_
  unfold saysD3N at hs
  split at hs
  · split at hs
    · rename_i a _
      cases hs
      obtain ⟨ha, hc⟩ := hp
      rw [ha]
      obtain ⟨ns, q, a⟩ := a
      refine ⟨Nat.le_of_ble_eq_true rfl, [3], rfl, fun k hk => absurd hk (Nat.not_lt_zero k), ?_⟩
      show runF _ _ _ _ [.agg [.p (.l ndC ns)], .c (.str q), .c (.str a)] [] _
      repeat ((conv => whnf); refine ⟨by first | exact ⟨rfl, rfl, hc⟩ | ((conv => whnf); exact ⟨⟨rfl, rfl, rfl⟩, trivial⟩) | exact Early.one (by decide +kernel) (by (conv => whnf); exact ⟨rfl, rfl, rfl⟩) trivial | (unfold inI64; omega) | omega | exact ⟨by omega, by omega⟩ | exact rfl | decide +kernel, ?_⟩)
      conv => whnf
      exact ends_eq ⟨rfl, rfl⟩
    · cases hs
  · cases hs

def saysD4N : Says := fun args H => match H with
  | [] => match daTSS args with
    | some a => some (some (args = eaTSS a ∧ chkP a.1 = 0 ∧ (fndV (a.1, a.2.1)).2 = true ∧ fndP (ndAt a.1 (fndV (a.1, a.2.1)).1.toNat).2.2 a.2.2 = true), .tup [.agg [.p (.l ndC (unN a.1 (fndV (a.1, a.2.1)).1.toNat a.2.2))], .c (.int .i64 0)], [])
    | none => none
  | _ => none
theorem unN_len (ns : List Nd) (k : Nat) (s : ByteArray) : (unN ns k s).length = ns.length := List.length_set ..
theorem d4N : TSound Tryz.prog (ext L3 39 saysD4N) := by
  refine ext_only (?_ : TSound Tryz.prog (ext D2N 39 saysD4N)) l3
  refine ext_frz2 d3N d2N fun args H p r H' hs hp => ?_
  unfold saysD4N at hs
  split at hs
  · split at hs
    · rename_i a ha
      cases hs
      obtain ⟨h0, h1, h2, h3⟩ := hp
      refine ⟨rfl, rfl, some (args = eaTSS a ∧ chkP a.1 = 0 ∧ (fndV (a.1, a.2.1)).2 = true ∧ fndP (ndAt a.1 (fndV (a.1, a.2.1)).1.toNat).2.2 a.2.2 = true), ndT, ndC, unN a.1 (fndV (a.1, a.2.1)).1.toNat a.2.2, 0, .v (.int .i64 0), ?_, by rw [unN_len]; exact vld_pos h1, ?_, rfl⟩
      rotate_left
      · unfold saysD3N
        dsimp only
        rw [ha]
        dsimp only
        rw [unN_len]
      · exact ⟨h0, h1, h2, h3⟩
    · cases hs
  · cases hs
theorem del_some {a : List Nd × ByteArray × ByteArray} (h : (DelV a).2 = 0) : chkP a.1 = 0 ∧ (fndV (a.1, a.2.1)).2 = true ∧ fndP (ndAt a.1 (fndV (a.1, a.2.1)).1.toNat).2.2 a.2.2 = true ∧ DelV a = (unN a.1 (fndV (a.1, a.2.1)).1.toNat a.2.2, 0) := by
  unfold DelV at *
  split at h
  · rename_i h1
    rw [if_pos h1]
    split at h
    · rename_i h2
      rw [if_pos h2]
      split at h
      · rename_i h3
        rw [if_pos h3]
        exact ⟨h1, h2, h3, rfl⟩
      · cases h
    · cases h
  · rename_i h1
    exact absurd h h1
def L4 : Table := ext L3 39 (saysG daTSS eaTSS fun a => (none, treR (DelV a)))
theorem l4 : TSound Tryz.prog L4 := by
  refine ext_case d4N (ext_only d3E l3) l3 fun args H p r H' hs hp => ?_
  unfold saysG at hs
  split at hs
  · split at hs
    · rename_i a ha
      cases hs
      obtain ⟨h1, _⟩ := hp
      by_cases h0 : (DelV a).2 = 0
      · obtain ⟨g1, g2, g3, g4⟩ := del_some h0
        refine .inl ⟨_, ?_, by unfold saysD4N; dsimp only; rw [ha]; dsimp only; rw [g4]⟩
        exact ⟨h1, g1, g2, g3⟩
      · refine .inr ⟨_, ?_, by unfold saysD3E; dsimp only; rw [ha]⟩
        exact ⟨h1, h0⟩
    · cases hs
  · cases hs

theorem any_no {p : Nat → Bool} : ∀ m i, (∀ j, i ≤ j → j < i + m → p j = false) → anyGo p m i = false := by
  intro m
  induction m with
  | zero => intro i _; rfl
  | succ m ih =>
    intro i h
    show (p i || anyGo p m (i + 1)) = false
    rw [h i (Nat.le_refl _) (by omega), ih (i + 1) fun j h1 h2 => h j (by omega) (by omega)]
    rfl
structure AddF (ns : List Nd) (k : Nat) (s : ByteArray) : Prop where
  nam : namB s = true
  no : ∀ j, j < ns.length → samB ns (k : Int) s j = false
  dep : dpV ns k < 8
  len : ns.length < 120
theorem add_f {ns : List Nd} {k : Nat} {s : ByteArray} (h : adbV (ns, (k : Int), s) = 0) : AddF ns k s := by
  unfold adbV at h
  split at h
  · cases h
  · rename_i h1
    split at h
    · cases h
    · rename_i h2
      split at h
      · cases h
      · rename_i h3
        split at h
        · cases h
        · rename_i h4
          refine ⟨by simpa using h1, fun j hj => ?_, Nat.lt_of_not_le h3, Nat.lt_of_not_le h4⟩
          have h5 := (skGo_spec (samB ns (k : Int) s) ns.length 0).1 j (Nat.zero_le _)
          refine h5 ?_
          have h6 : skV (samB ns (k : Int) s) ns.length = skGo (samB ns (k : Int) s) ns.length 0 := rfl
          have h2 : ¬ skV (samB ns (k : Int) s) ns.length < ns.length := h2
          omega
theorem dst_app {ns : List Nd} (hv : Vl ns) {k : Nat} {s : ByteArray} (hno : ∀ j, j < ns.length → samB ns (k : Int) s j = false) : Dst (ns ++ [((k : Int), s, [])]) := by
  have hf := hv.f
  have hpl : paN (ns ++ [((k : Int), s, [])]) ns.length = k := by
    unfold paN paI
    rw [app_last]
    rfl
  have hnew : ∀ b, 0 < b → b < ns.length → paN ns b = k → (ndAt ns b).2.1 = s → False := by
    intro b b0 b1 hp hn
    have h2 := (par_lt hf.par b0 b1).2
    have h3 := hno b b1
    unfold samB at h3
    have h5 : (ndAt ns b).1 = (k : Int) := by rw [← h2, hp]
    rw [decide_eq_true h5, decide_eq_true hn] at h3
    cases h3
  intro a b a0 a1 b0 b1 hp hn
  rw [app_len] at a1 b1
  rcases Nat.lt_or_eq_of_le (Nat.le_of_lt_succ a1) with ha | ha
  · rcases Nat.lt_or_eq_of_le (Nat.le_of_lt_succ b1) with hb | hb
    · rw [app_pa ha, app_pa hb] at hp
      rw [app_at ha, app_at hb] at hn
      exact hv.d a b a0 ha b0 hb hp hn
    · exfalso
      subst hb
      rw [app_pa ha, hpl] at hp
      rw [app_at ha, app_last] at hn
      exact hnew a a0 ha hp hn
  · rcases Nat.lt_or_eq_of_le (Nat.le_of_lt_succ b1) with hb | hb
    · exfalso
      subst ha
      rw [app_pa hb, hpl] at hp
      rw [app_at hb, app_last] at hn
      exact hnew b b0 hb hp.symm hn.symm
    · rw [ha, hb]
/-- Where a node comes to stand. -/
theorem wk_place {T : List Nd} (hf : FrmT T) : ∃ f : Nat → Nat, ∀ i, i < T.length → ∃ h : f i < (wkT T).length, (wkT T)[f i] = (i : Int) := by
  refine ⟨fun i => (wkT T).idxOf (i : Int), fun i hi => ?_⟩
  have h1 := wkT_all hf hi
  exact ⟨List.idxOf_lt_length_iff.2 h1, List.getElem_idxOf _⟩
theorem ad_vl {ns : List Nd} (hv : Vl ns) {k : Nat} (hk : k < ns.length) {s : ByteArray} (h : adbV (ns, (k : Int), s) = 0) : Vl (adV ns (k : Int) s) := by
  obtain ⟨hnam, hno, hdep, hlen⟩ := add_f h
  have hk1 : (k : Int) < (ns.length : Nat) := by omega
  have hfa := frm_app hv.f (Int.natCast_nonneg k) hk1 hnam hlen
  have hd := dst_app hv hno
  have hm := vl_add hv (Int.natCast_nonneg k) hk1 hnam hlen (any_no _ _ fun j _ hj => hno j (by omega)) hdep
  have fA : ∀ j, j < ns.length → ndAt (ns ++ [((k : Int), s, [])]) j = ndAt ns j := fun j hj => app_at hj
  have fP : ∀ j, j < ns.length → paN (ns ++ [((k : Int), s, [])]) j = paN ns j := fun j hj => app_pa hj
  have fL : ndAt (ns ++ [((k : Int), s, [])]) ns.length = ((k : Int), s, []) := app_last
  have fPL : paN (ns ++ [((k : Int), s, [])]) ns.length = k := by
    unfold paN paI
    rw [app_last]
    rfl
  have fN : (ns ++ [(((k : Int), s, []) : Nd)]).length = ns.length + 1 := app_len
  generalize (ns ++ [(((k : Int), s, []) : Nd)]) = T at hfa hd hm fA fP fL fPL fN
  obtain ⟨f, hf⟩ := wk_place hfa
  have hf1 : ∀ i, i < T.length → f i < (srtV T).length := fun i hi => by rw [srt_length]; exact (hf i hi).1
  have inj : ∀ i j, i < T.length → j < T.length → f i = f j → i = j := by
    intro i j hi hj hij
    obtain ⟨h1, h2⟩ := hf i hi
    obtain ⟨h3, h4⟩ := hf j hj
    have h5 : (wkT T)[f i] = (wkT T)[f j] := by congr 1
    rw [h2, h4] at h5
    omega
  have h0 : f 0 = 0 := by
    obtain ⟨h1, h2⟩ := hf 0 (by omega)
    exact wkT_inj hfa h1 wkT_pos (by rw [h2, wkT_zero]; rfl)
  have hpa : ∀ i, i < T.length → f (paN T i) = paN (srtV T) (f i) := by
    intro i hi
    obtain ⟨h1, h2⟩ := hf i hi
    obtain ⟨h3, h4⟩ := srt_pa hfa hd h1
    have h5 := par_le hfa i
    obtain ⟨h6, h7⟩ := hf (paN T i) (by omega)
    refine wkT_inj hfa h6 h3 ?_
    rw [h7, h4, h2, Int.toNat_natCast]
  have hrest : ∀ i, i < T.length → (ndAt (srtV T) (f i)).2 = (ndAt T i).2 := by
    intro i hi
    obtain ⟨h1, h2⟩ := hf i hi
    rw [srt_nam h1, h2, Int.toNat_natCast]
  obtain ⟨g, he, hg⟩ := emb_of hv hm (f := f) (fun i hi => hf1 i (by omega)) (fun i j hi hj => inj i j (by omega) (by omega)) h0 (fun i _ hi => by rw [← fP i hi]; exact hpa i (by omega)) fun i hi => by rw [hrest i (by omega), fA i hi]
  have hj0 : 0 < f ns.length := by
    rcases Nat.eq_zero_or_pos (f ns.length) with h1 | h1
    · have := inj ns.length 0 (by omega) (by omega) (by rw [h1, h0])
      omega
    · exact h1
  have hname : (ndAt (srtV T) (f ns.length)).2 = (s, []) := by rw [hrest _ (by omega), fL]
  obtain ⟨g2, he2, _⟩ := ins_emb (p := k) hm he hj0 (hf1 _ (by omega)) hk (by rw [hg k hk, ← hpa ns.length (by omega), fPL]) (fun i hi h1 => by
    rw [hg i hi] at h1
    have := inj i ns.length (by omega) (by omega) h1
    omega) (by rw [hname])
  rw [show (ndAt (srtV T) (f ns.length)).2.1 = s by rw [hname]] at he2
  exact Emb.vl hm he2

structure AdF (ns ms : List Nd) (k a : Nat) (s : ByteArray) : Prop where
  v : Vl ms
  len : ms.length = ns.length + 1
  le : a ≤ ns.length
  kt : k < a
  lo : ∀ i, i < a → ndAt ms i = ndAt ns i
  at' : ndAt ms a = ((k : Int), s, [])
  hi : ∀ i, a < i → i < ms.length → ndAt ms i = mvGo (a : Int) 1 (ndAt ns (i - 1))
  back : woV (ms.map (mvGo ((a + 1 : Nat) : Int) (-1)), (a : Int), ((a + 1 : Nat) : Int)) = ns
theorem mv_back (a : Nat) (n : Nd) : mvGo ((a + 1 : Nat) : Int) (-1) (mvGo (a : Int) 1 n) = n := by
  unfold mvGo
  by_cases h : (a : Int) ≤ n.1
  · rw [if_pos h]
    dsimp only
    have h2 : ((a + 1 : Nat) : Int) ≤ n.1 + 1 := by
      have h : (a : Int) ≤ (n.1 : Int) := h
      omega
    rw [if_pos h2]
    exact Prod.ext (Int.add_neg_cancel_right n.1 1) rfl
  · rw [if_neg h, if_neg (by omega)]
theorem ad_f {ns : List Nd} (hv : Vl ns) {k : Nat} (hk : k < ns.length) {s : ByteArray} (h : adbV (ns, (k : Int), s) = 0) : ∃ a, AdF ns (adV ns (k : Int) s) k a s := by
  have hm := ad_vl hv hk h
  have hle : atV ns (k : Int) s ≤ ns.length := skV_le _ _
  unfold adV at hm ⊢
  obtain ⟨a, ha⟩ : ∃ a, atV ns (k : Int) s = a := ⟨_, rfl⟩
  rw [ha] at hle hm ⊢
  have hl := wi_len (k := (k : Int)) (s := s) hle (mvGo (a : Int) 1)
  have hA := fun (i : Nat) (hi : i < ns.length + 1) => wi_at (k := (k : Int)) (s := s) hle (mvGo (a : Int) 1) hi
  have hb : woV ((wiV (ns.map (mvGo (a : Int) 1), (a : Int), (k : Int), s)).map (mvGo ((a + 1 : Nat) : Int) (-1)), (a : Int), ((a + 1 : Nat) : Int)) = ns := by
    have e : (ns.map (mvGo (a : Int) 1)).map (mvGo ((a + 1 : Nat) : Int) (-1)) = ns := by
      rw [List.map_map]
      have : (mvGo ((a + 1 : Nat) : Int) (-1)) ∘ (mvGo (a : Int) 1) = id := funext fun n => mv_back a n
      rw [this, List.map_id]
    unfold woV wiV
    dsimp only
    rw [Int.toNat_natCast, Int.toNat_natCast, List.map_append, List.map_cons, List.map_drop, List.map_take, e]
    have ht : (ns.take a).length = a := by rw [List.length_take]; omega
    rw [List.take_append_of_le_length (by omega), List.take_of_length_le (by omega), List.drop_append, ht, List.drop_of_length_le (by omega), show a + 1 - a = 1 by omega]
    exact List.take_append_drop a ns
  generalize wiV (ns.map (mvGo (a : Int) 1), (a : Int), (k : Int), s) = ms at hm hl hA hb
  have hat : ndAt ms a = ((k : Int), s, []) := by
    rw [hA a (by omega), if_neg (by omega), if_pos rfl]
  have a0 : 0 < a := by
    rcases Nat.eq_zero_or_pos a with h1 | h1
    · exfalso
      have h4 := frm_nd hm.f.frm hm.f.len.1
      unfold ndFrm at h4
      obtain ⟨h5, _⟩ := Bool.and_eq_true_iff.1 h4
      obtain ⟨h6, _⟩ := Bool.and_eq_true_iff.1 h5
      simp at h6
      have h7 := h6.1
      rw [h1] at hat
      rw [hat] at h7
      have h8 : (k : Int) = -1 := h7
      omega
    · exact h1
  have hka : k < a := by
    have h1 := par_lt hm.f.par a0 (by omega)
    rw [hat] at h1
    have h3 := h1.1
    have h2 : ((paN ms a : Nat) : Int) = (k : Int) := h1.2
    omega
  refine ⟨a, hm, hl, hle, hka, fun i hi => ?_, hat, fun i h1 h2 => ?_, hb⟩
  · rw [hA i (by omega), if_pos hi]
    unfold mvGo
    rw [if_neg]
    rcases Nat.eq_zero_or_pos i with h1 | h1
    · have h4 := frm_nd hv.f.frm hv.f.len.1
      unfold ndFrm at h4
      obtain ⟨h5, _⟩ := Bool.and_eq_true_iff.1 h4
      obtain ⟨h6, _⟩ := Bool.and_eq_true_iff.1 h5
      simp at h6
      rw [h1]
      have h7 := h6.1
      rw [h7]
      omega
    · have := par_lt hv.f.par h1 (by omega)
      omega
  · rw [hA i (by omega), if_neg (by omega), if_neg (by omega)]
theorem ad_beh {ns ms : List Nd} {k a : Nat} {s : ByteArray} (h : AdF ns ms k a s) : behN ms (a : Int) = a + 1 := by
  obtain ⟨hm, hl, hle, hka, hlo, hat, hhi, _⟩ := h
  have hb := beh_facts hm (k := a) (by omega)
  obtain ⟨e, he⟩ : ∃ e, behN ms (a : Int) = e := ⟨_, rfl⟩
  rw [he] at hb ⊢
  have hgt := hb.gt
  have hno : ∀ j, j < ms.length → ¬ paN ms j = a := by
    intro j hj hp
    rcases Nat.lt_trichotomy j a with h1 | h1 | h1
    · have := par_le hm.f j
      omega
    · subst h1
      unfold paN paI at hp
      rw [hat] at hp
      have hp : ((k : Nat) : Int).toNat = j := hp
      omega
    · have h2 := (par_lt hm.f.par (j := j) (by omega) hj).2
      rw [hp, hhi j h1 hj] at h2
      unfold mvGo at h2
      split at h2
      · rename_i h3
        have h2 : ((a : Nat) : Int) = (ndAt ns (j - 1)).1 + 1 := h2
        have h3 : ((a : Nat) : Int) ≤ (ndAt ns (j - 1)).1 := h3
        omega
      · rename_i h3
        have h2 : ((a : Nat) : Int) = (ndAt ns (j - 1)).1 := h2
        exact h3 (by rw [h2]; exact Int.le_refl _)
  rcases Nat.lt_or_ge (a + 1) e with h1 | h1
  · exfalso
    obtain ⟨t, ht⟩ := (in_iff hm hb (j := a + 1) (by have := hb.le; omega)).2 ⟨by omega, h1⟩
    cases t with
    | zero =>
      have ht : a + 1 = a := ht
      omega
    | succ t =>
      rw [up_succ] at ht
      have h2 := up_le hm.f t (a + 1)
      exact hno _ (by have := hb.le; omega) ht
  · omega
theorem ad_rm {ns ms : List Nd} {k a : Nat} {s : ByteArray} (h : AdF ns ms k a s) : rmN ms (a : Int) = ns := by
  unfold rmN
  rw [ad_beh h, show ((a : Nat) : Int) - ((a + 1 : Nat) : Int) = -1 by omega]
  exact h.back
theorem ad_pL {ns ms : List Nd} {k a : Nat} {s : ByteArray} (h : AdF ns ms k a s) (hv : Vl ns) : ∀ n i, i ≤ n → i < a → pL ms i = pL ns i := by
  obtain ⟨hm, hl, hle, hka, hlo, hat, hhi, _⟩ := h
  intro n
  induction n with
  | zero =>
    intro i h1 _
    obtain rfl : i = 0 := by omega
    rw [pL_zero, pL_zero]
  | succ n ih =>
    intro i h1 h2
    rcases Nat.eq_zero_or_pos i with h3 | h3
    · rw [h3, pL_zero, pL_zero]
    · have hp : paN ms i = paN ns i := by
        unfold paN paI
        rw [hlo i h2]
      have h4 := (par_lt hv.f.par h3 (by omega)).1
      rw [pL_succ hm.f h3 (by omega), pL_succ hv.f h3 (by omega), hp, ih _ (by omega) (by omega)]
      unfold nmL
      rw [hlo i h2]
/-- The path of the new node. -/
def chP (p s : ByteArray) : ByteArray := if p = ⟨#[47]⟩ then ⟨#[47]⟩ ++ s else p ++ ⟨#[47]⟩ ++ s
theorem ad_path {ns ms : List Nd} {k a : Nat} {s : ByteArray} (h : AdF ns ms k a s) (hv : Vl ns) (hk : k < ns.length) : pathV ms a = chP (pathV ns k) s := by
  have h1 := ad_pL h hv k k (Nat.le_refl _) h.kt
  obtain ⟨hm, hl, hle, hka, hlo, hat, hhi, _⟩ := h
  have hp : paN ms a = k := by
    unfold paN paI
    rw [hat]
    rfl
  have hn : nmL ms a = s.data.toList := by
    unfold nmL
    rw [hat]
  have h0 : pathV ns 0 = ⟨#[47]⟩ := rfl
  apply ba_ext9
  rw [pathV_L, if_neg (by omega), pL_succ hm.f (by omega) (by omega), hp, hn, h1]
  unfold chP
  by_cases hk0 : k = 0
  · subst hk0
    rw [h0, if_pos rfl, pL_zero]
    simp
  · rw [if_neg (fun h2 => hk0 (path_inj hv hk hv.f.len.1 (h2.trans h0.symm)))]
    have h3 := pathV_L ns k
    rw [if_neg hk0] at h3
    simp [← h3]
theorem rem_add {ns : List Nd} (hv : Vl ns) {k : Nat} (hk : k < ns.length) {s : ByteArray} (h : adbV (ns, (k : Int), s) = 0) : RemV (adV ns (k : Int) s, chP (pathV ns k) s) = (ns, 0) := by
  obtain ⟨a, ha⟩ := ad_f hv hk h
  have hm := ha.v
  have hal : a < (adV ns (k : Int) s).length := by rw [ha.len]; have := ha.le; omega
  have h1 := fnd_path hm hal
  rw [ad_path ha hv hk] at h1
  unfold RemV
  dsimp only
  rw [if_pos (chk_vld.2 hm.vld), h1, if_pos rfl]
  have h2 : ¬ ((a : Nat) : Int) = 0 := by have := ha.kt; omega
  unfold rmR rmE
  dsimp only
  rw [if_neg h2, if_neg h2, ad_rm ha]

theorem Sm.pathGo {ns ms : List Nd} (h : Sm ns ms) : ∀ k j s, Ab.pathGo ms k j s = Ab.pathGo ns k j s := by
  intro k
  induction k with
  | zero => intro j s; rfl
  | succ k ih =>
    intro j s
    unfold Ab.pathGo
    rw [h.paN, h.nm, ih]
theorem Sm.path {ns ms : List Nd} (h : Sm ns ms) (i : Nat) : pathV ms i = pathV ns i := by
  unfold pathV
  rw [h.pathGo]
theorem vl_sm {ns ms : List Nd} (hv : Vl ns) (hs : Sm ns ms) (hl : limV ms = true) (hps : ∀ i, i < ns.length → (ndAt ms i).2.2.all ptFrm = true ∧ Asc (ndAt ms i).2.2) : Vl ms := by
  have hlen := hs.len
  refine ⟨⟨hl, frm_of _ _ fun i hi => ?_⟩, ?_, fun i hi => ?_, fun i hi => ?_, fun i h0 hi => ?_⟩
  · rw [Nat.zero_add, ← nd_at' hi]
    rw [hlen] at hi
    have h1 := frm_nd hv.f.frm hi
    unfold ndFrm at h1 ⊢
    rw [hs.pa, hs.nm, (hps i hi).1]
    rw [frm_ps hv.f.frm hi] at h1
    exact h1
  · intro a b a0 a1 b0 b1 h1 h2
    rw [hs.paN, hs.paN] at h1
    rw [hs.nm, hs.nm] at h2
    exact hv.d a b a0 (by omega) b0 (by omega) h1 h2
  · exact (asc_iff _).2 (hps i (by omega)).2
  · show dpGo ms (i + 1) i ≤ 8
    rw [hs.dp]
    exact hv.dep i (by omega)
  · rw [hs.flw]
    exact hv.flw i h0 (by omega)
/-- The same tree with other properties at a node. -/
def prN (ns : List Nd) (k : Nat) (ps : List Pt) : List Nd := ns.set k ((ndAt ns k).1, (ndAt ns k).2.1, ps)
theorem prN_at {ns : List Nd} {k : Nat} (ps : List Pt) (hk : k < ns.length) (i : Nat) : ndAt (prN ns k ps) i = if i = k then ((ndAt ns k).1, (ndAt ns k).2.1, ps) else ndAt ns i := by
  unfold prN
  generalize hx : ((ndAt ns k).1, (ndAt ns k).2.1, ps) = x
  unfold ndAt
  rw [List.getD_eq_getElem?_getD, List.getElem?_set]
  by_cases h : i = k
  · subst h
    rw [if_pos rfl, if_pos hk, if_pos rfl]
    rfl
  · rw [if_neg (fun h2 => h h2.symm), if_neg h, List.getD_eq_getElem?_getD]
theorem prN_sm {ns : List Nd} {k : Nat} (ps : List Pt) (hk : k < ns.length) : Sm ns (prN ns k ps) := by
  refine ⟨by unfold prN; rw [List.length_set], fun i => ?_, fun i => ?_⟩
  all_goals
    rw [prN_at ps hk]
    split
    · rename_i h
      rw [h]
    · rfl
theorem prN_prN {ns : List Nd} {k : Nat} (ps qs : List Pt) (hk : k < ns.length) : prN (prN ns k ps) k qs = prN ns k qs := by
  have h := prN_at ps hk k
  rw [if_pos rfl] at h
  rw [prN, h]
  unfold prN
  rw [List.set_set]
theorem prN_self {ns : List Nd} {k : Nat} (hk : k < ns.length) : prN ns k (ndAt ns k).2.2 = ns := by
  unfold prN
  have e : ndAt ns k = ns[k] := nd_at' hk
  show ns.set k (ndAt ns k) = ns
  rw [e, List.set_getElem_self]
theorem vl_pr {ns : List Nd} (hv : Vl ns) {k : Nat} (hk : k < ns.length) {ps : List Pt} (ha : Asc ps) (hl : ps.length ≤ 24) (hm : ∀ q ∈ ps, ptFrm q = true ∧ ptLim q = true) : Vl (prN ns k ps) := by
  have hlim := hv.f.lim
  refine vl_sm hv (prN_sm ps hk) ?_ fun i hi => ?_
  · unfold limV at hlim ⊢
    rw [(prN_sm ps hk).len]
    simp only [Bool.and_eq_true, List.all_eq_true] at hlim ⊢
    refine ⟨hlim.1, fun n hn => ?_⟩
    unfold prN at hn
    rcases List.mem_or_eq_of_mem_set hn with h | h
    · exact hlim.2 n h
    · rw [h]
      unfold ndLim
      simp only [Bool.and_eq_true, decide_eq_true_eq, List.all_eq_true]
      exact ⟨hl, fun q hq => (hm q hq).2⟩
  · rw [prN_at ps hk]
    split
    · exact ⟨List.all_eq_true.2 fun q hq => (hm q hq).1, ha⟩
    · exact ⟨frm_ps hv.f.frm hi, (asc_iff _).1 (hv.asc i hi)⟩

/-! The properties. -/
theorem ltC_app {nm : ByteArray} : ∀ (A B : List Pt), (∀ q ∈ A, bLt q.1 nm = true) → (∀ q r, B = q :: r → bLt q.1 nm = false) → ltC nm (A ++ B) = A.length := by
  intro A
  induction A with
  | nil =>
    intro B _ h
    cases B with
    | nil => rfl
    | cons q r =>
      show ltC nm (q :: r) = 0
      unfold ltC
      rw [if_neg (ne_t (h q r rfl))]
  | cons a A ih =>
    intro B h1 h2
    show ltC nm (a :: (A ++ B)) = _
    unfold ltC
    rw [if_pos (h1 a (List.mem_cons_self ..)), ih B (fun q hq => h1 q (List.mem_cons_of_mem _ hq)) h2]
    rfl
section
variable {A B r : List Pt} {s o v : ByteArray} (hA : ∀ q ∈ A, bLt q.1 s = true)
include hA
theorem pos_at : posV (A ++ (s, o) :: r) s = A.length := by
  rw [pos_ltC]
  refine ltC_app A _ hA fun q r' h => ?_
  rw [← (List.cons.inj h).1]
  exact bLt_irrefl s
theorem pt_app : ptAt (A ++ (s, o) :: r) A.length = (s, o) := by
  unfold ptAt
  rw [List.getD_eq_getElem?_getD, List.getElem?_append_right (Nat.le_refl _), Nat.sub_self]
  rfl
theorem fnd_at : fndP (A ++ (s, o) :: r) s = true := by
  unfold fndP
  rw [pos_at hA, pt_app hA]
  rw [decide_eq_true (show A.length < (A ++ (s, o) :: r).length by rw [List.length_append, List.length_cons]; omega)]
  simp
theorem st_at : stP (A ++ (s, o) :: r) (s, v) = A ++ (s, v) :: r := by
  unfold stP
  dsimp only
  rw [if_pos (fnd_at hA), pos_at hA, List.set_append_right _ _ (Nat.le_refl _), Nat.sub_self]
  rfl
theorem un_at : unP (A ++ (s, o) :: r) s = A ++ r := by
  unfold unP woQ
  dsimp only
  rw [pos_at hA, Int.toNat_natCast, show (((A.length : Nat) : Int) + 1).toNat = A.length + 1 by omega, List.take_left, List.drop_append]
  rw [List.drop_of_length_le (by omega), show A.length + 1 - A.length = 1 by omega]
  rfl
variable (hB : ∀ q r', B = q :: r' → bLt q.1 s = false ∧ ¬ q.1 = s)
include hB
theorem pos_no : posV (A ++ B) s = A.length := by
  rw [pos_ltC]
  exact ltC_app A _ hA fun q r' h => (hB q r' h).1
theorem fnd_no : fndP (A ++ B) s = false := by
  unfold fndP
  rw [pos_no hA hB]
  cases B with
  | nil =>
    rw [List.append_nil, decide_eq_false (Nat.lt_irrefl _)]
    rfl
  | cons q r' =>
    have e : ptAt (A ++ q :: r') A.length = q := by
      unfold ptAt
      rw [List.getD_eq_getElem?_getD, List.getElem?_append_right (Nat.le_refl _), Nat.sub_self]
      rfl
    rw [e, decide_eq_false (hB q r' rfl).2, Bool.and_false]
theorem st_no : stP (A ++ B) (s, v) = A ++ (s, v) :: B := by
  unfold stP
  dsimp only
  rw [if_neg (ne_t (fnd_no hA hB)), pos_no hA hB]
  unfold wiP
  dsimp only
  rw [Int.toNat_natCast, List.take_left, List.drop_left]
end
theorem pt_cases {ps : List Pt} (ha : Asc ps) (s : ByteArray) : ∃ A B, ps = A ++ B ∧ (∀ q ∈ A, bLt q.1 s = true) ∧ ((∀ q r', B = q :: r' → bLt q.1 s = false ∧ ¬ q.1 = s) ∨ ∃ o r, B = (s, o) :: r ∧ ∀ q r', r = q :: r' → bLt q.1 s = false ∧ ¬ q.1 = s) := by
  refine ⟨ps.take (ltC s ps), ps.drop (ltC s ps), (List.take_append_drop ..).symm, lt_take ps, ?_⟩
  have h1 := lt_drop (nm := s) ps
  have h0 : Asc (ps.take (ltC s ps) ++ ps.drop (ltC s ps)) := by rw [List.take_append_drop]; exact ha
  obtain ⟨_, h2, _⟩ := List.pairwise_append.1 h0
  generalize ps.drop (ltC s ps) = B at h1 h2
  cases B with
  | nil => exact .inl fun q r' h => by cases h
  | cons p r =>
    by_cases hp : p.1 = s
    · refine .inr ⟨p.2, r, by rw [← hp], fun q r' h => ?_⟩
      have h3 := (List.pairwise_cons.1 h2).1 q (by rw [h]; exact List.mem_cons_self ..)
      rw [hp] at h3
      refine ⟨?_, fun h4 => ?_⟩
      · cases h5 : bLt q.1 s with
        | false => rfl
        | true =>
          have h6 := bLt_trans h3 h5
          rw [bLt_irrefl] at h6
          cases h6
      · rw [h4, bLt_irrefl] at h3
        cases h3
    · exact .inl fun q r' h => by
        obtain ⟨rfl, rfl⟩ := List.cons.inj h
        exact ⟨h1 p r rfl, hp⟩

theorem has_vl {ns : List Nd} (hv : Vl ns) {k : Nat} (hk : k < ns.length) : hasB (ns, (k : Int)) = true := by
  unfold hasB
  dsimp only
  rw [decide_eq_true (Int.natCast_nonneg k), decide_eq_true (show (k : Int) < (ns.length : Nat) by omega), decide_eq_true (chk_vld.2 hv.vld)]
  rfl
theorem val_at {ns : List Nd} (hv : Vl ns) {k : Nat} (hk : k < ns.length) {A r : List Pt} {s o : ByteArray} (hA : ∀ q ∈ A, bLt q.1 s = true) (h : (ndAt ns k).2.2 = A ++ (s, o) :: r) : ValV (ns, (k : Int), s) = (o, true) := by
  unfold ValV
  dsimp only
  rw [if_pos (has_vl hv hk), Int.toNat_natCast, h, if_pos (fnd_at hA), pos_at hA, pt_app hA]
theorem val_no {ns : List Nd} (hv : Vl ns) {k : Nat} (hk : k < ns.length) {A B : List Pt} {s : ByteArray} (hA : ∀ q ∈ A, bLt q.1 s = true) (hB : ∀ q r', B = q :: r' → bLt q.1 s = false ∧ ¬ q.1 = s) (h : (ndAt ns k).2.2 = A ++ B) : ValV (ns, (k : Int), s) = (⟨#[]⟩, false) := by
  unfold ValV
  dsimp only
  rw [if_pos (has_vl hv hk), Int.toNat_natCast, h, if_neg (ne_t (fnd_no hA hB))]
theorem del_at {ns : List Nd} (hv : Vl ns) {k : Nat} (hk : k < ns.length) {A r : List Pt} {s o : ByteArray} (hA : ∀ q ∈ A, bLt q.1 s = true) (h : (ndAt ns k).2.2 = A ++ (s, o) :: r) : DelV (ns, pathV ns k, s) = (prN ns k (A ++ r), 0) := by
  unfold DelV
  dsimp only
  rw [if_pos (chk_vld.2 hv.vld), fnd_path hv hk, if_pos rfl]
  dsimp only
  rw [Int.toNat_natCast, h, if_pos (fnd_at hA)]
  unfold unN
  rw [h, un_at hA]
  rfl
theorem lim_ps {ns : List Nd} (hv : Vl ns) {k : Nat} (hk : k < ns.length) : (ndAt ns k).2.2.length ≤ 24 ∧ ∀ q ∈ (ndAt ns k).2.2, ptFrm q = true ∧ ptLim q = true := by
  have hl := hv.f.lim
  unfold limV at hl
  simp only [Bool.and_eq_true, List.all_eq_true] at hl
  have h5 := hl.2 (ndAt ns k) (by rw [nd_at' hk]; exact List.getElem_mem hk)
  unfold ndLim at h5
  simp only [Bool.and_eq_true, decide_eq_true_eq, List.all_eq_true] at h5
  exact ⟨h5.1, fun q hq => ⟨List.all_eq_true.1 (frm_ps hv.f.frm hk) q hq, h5.2 q hq⟩⟩
structure UndoF (ns : List Nd) (k : Nat) (s v : ByteArray) : Prop where
  vl : Vl (stN ns k (s, v))
  fnd : FindV (stN ns k (s, v), pathV ns k) = ((k : Int), true)
  val : ValV (stN ns k (s, v), (k : Int), s) = (v, true)
  del : ∃ z, DelV (stN ns k (s, v), pathV ns k, s) = (z, 0) ∧ ((ValV (ns, (k : Int), s) = (⟨#[]⟩, false) ∧ z = ns) ∨ ∃ o, ValV (ns, (k : Int), s) = (o, true) ∧ SetV (z, pathV ns k, s, o) = (ns, 0))
theorem undo_f {ns : List Nd} (hv : Vl ns) {k : Nat} (hk : k < ns.length) {s v : ByteArray} (hp : prpB s = true) (he : stE (ndAt ns k).2.2 (s, v) = 0) : UndoF ns k s v := by
  have hm := vl_st hv hk hp he
  have hml : k < (stN ns k (s, v)).length := by rw [stN_len]; exact hk
  have hsm : Sm ns (stN ns k (s, v)) := prN_sm _ hk
  have hpath : pathV (stN ns k (s, v)) k = pathV ns k := hsm.path k
  have hps : (ndAt (stN ns k (s, v)) k).2.2 = stP (ndAt ns k).2.2 (s, v) := by rw [stN_at' hk]
  have hfnd : FindV (stN ns k (s, v), pathV ns k) = ((k : Int), true) := by
    unfold FindV
    dsimp only
    rw [if_pos (chk_vld.2 hm.vld), ← hpath, fnd_path hm hml]
  have hpr : ∀ ps, prN (stN ns k (s, v)) k ps = prN ns k ps := fun ps => prN_prN _ _ hk
  have hasc := (asc_iff _).1 (hv.asc k hk)
  obtain ⟨hlen, hmem⟩ := lim_ps hv hk
  obtain ⟨A, B, hAB, hA, hc⟩ := pt_cases hasc s
  rcases hc with hB | ⟨o, r, rfl, hr⟩
  · have h1 : stP (ndAt ns k).2.2 (s, v) = A ++ (s, v) :: B := by rw [hAB]; exact st_no hA hB
    rw [h1] at hps
    have hd := del_at hm hml hA hps
    rw [hpath, hpr, ← hAB, prN_self hk] at hd
    exact ⟨hm, hfnd, val_at hm hml hA hps, ns, hd, .inl ⟨val_no hv hk hA hB hAB, rfl⟩⟩
  · have h1 : stP (ndAt ns k).2.2 (s, v) = A ++ (s, v) :: r := by rw [hAB]; exact st_at hA
    rw [h1] at hps
    have hd := del_at hm hml hA hps
    rw [hpath, hpr] at hd
    refine ⟨hm, hfnd, val_at hm hml hA hps, prN ns k (A ++ r), hd, .inr ⟨o, val_at hv hk hA hAB, ?_⟩⟩
    have hzl : k < (prN ns k (A ++ r)).length := by rw [(prN_sm _ hk).len]; exact hk
    have hza : (ndAt (prN ns k (A ++ r)) k).2.2 = A ++ r := by rw [prN_at _ hk, if_pos rfl]
    have hz : Vl (prN ns k (A ++ r)) := by
      refine vl_pr hv hk ?_ ?_ fun q hq => hmem q ?_
      · rw [hAB] at hasc
        obtain ⟨g1, g2, g3⟩ := List.pairwise_append.1 hasc
        exact List.pairwise_append.2 ⟨g1, (List.pairwise_cons.1 g2).2, fun a ha b hb => g3 a ha b (List.mem_cons_of_mem _ hb)⟩
      · rw [hAB, List.length_append, List.length_cons] at hlen
        rw [List.length_append]
        omega
      · rw [hAB]
        rcases List.mem_append.1 hq with h | h
        · exact List.mem_append.2 (.inl h)
        · exact List.mem_append.2 (.inr (List.mem_cons_of_mem _ h))
    have ho := (hmem (s, o) (by rw [hAB]; exact List.mem_append.2 (.inr (List.mem_cons_self ..)))).2
    have hst : stP (A ++ r) (s, o) = A ++ (s, o) :: r := st_no hA hr
    have hE : stE (A ++ r) (s, o) = 0 := by
      unfold stE
      dsimp only
      rw [if_neg (ne_f hp), fnd_no hA hr, if_neg]
      unfold ptLim at ho
      have ho : (s, o).2.size ≤ 256 := of_decide_eq_true ho
      rw [hAB, List.length_append, List.length_cons] at hlen
      simp
      dsimp only at ho
      omega
    have hzp : pathV (prN ns k (A ++ r)) k = pathV ns k := (prN_sm _ hk).path k
    have hfz := fnd_path hz hzl
    rw [hzp] at hfz
    unfold SetV
    dsimp only
    rw [if_pos (chk_vld.2 hz.vld), hfz, if_pos rfl]
    dsimp only
    rw [Int.toNat_natCast, hza, if_pos hE]
    have h9 : stN (prN ns k (A ++ r)) k (s, o) = prN (prN ns k (A ++ r)) k (stP (ndAt (prN ns k (A ++ r)) k).2.2 (s, o)) := rfl
    rw [h9, hza, hst, prN_prN _ _ hk, ← hAB, prN_self hk]
end Go.Ab
