/- TreeUndone: the law. -/
import Derived.Test.YtgeoggpkjnnonaaGreatTY125toY129
import Derived.Test.YtgeoggpkjnnonaaGreatTX0toY60
namespace Go.Ab
open Go.Proofs
set_option linter.unusedSectionVars false
set_option maxRecDepth 100000
variable [Base]

theorem path_vl {ns : List Nd} (hv : Vl ns) {i : Nat} (hi : i < ns.length) : PathV (ns, (i : Int)) = pathV ns i := by
  unfold PathV
  dsimp only
  rw [if_pos (has_vl hv hi), Int.toNat_natCast]
theorem find_vl {ns : List Nd} (hv : Vl ns) {i : Nat} (hi : i < ns.length) : FindV (ns, PathV (ns, (i : Int))) = ((i : Int), true) := by
  unfold FindV
  dsimp only
  rw [if_pos (chk_vld.2 hv.vld), path_vl hv hi, fnd_path hv hi]
theorem pL_size {ns : List Nd} (hv : Vl ns) : ∀ n i, i ≤ n → i < ns.length → (pL ns i).length ≤ 32 * i := by
  intro n
  induction n with
  | zero =>
    intro i h1 _
    obtain rfl : i = 0 := by omega
    rw [pL_zero]
    exact Nat.zero_le _
  | succ n ih =>
    intro i h1 h2
    rcases Nat.eq_zero_or_pos i with h3 | h3
    · rw [h3, pL_zero]
      exact Nat.zero_le _
    · have h4 := (par_lt hv.f.par h3 h2).1
      have h5 := ih (paN ns i) (by omega) (by omega)
      have h6 := nam_size (frm_nam hv.f.frm h3 h2)
      have h7 : (nmL ns i).length = (ndAt ns i).2.1.size := rfl
      rw [pL_succ hv.f h3 h2, List.length_append, List.length_cons]
      omega
theorem path_size {ns : List Nd} (hv : Vl ns) {i : Nat} (hi : i < ns.length) : (pathV ns i).size ≤ 4000 := by
  have h1 := pL_size hv i i (Nat.le_refl _) hi
  have h2 := hv.f.len
  have h3 : (pathV ns i).size = (pathV ns i).data.toList.length := rfl
  rw [h3, pathV_L]
  split
  · decide
  · omega
theorem nameL_ok : ∀ p ∈ nameL, p.size ≤ 100 := by decide +kernel
theorem pick_nm (zs : List Int) (n : Int) : (pickS nameL zs n).size ≤ 100 := nameL_ok _ (pick_mem9 (by decide) (by decide) zs n)
theorem eq_self (ns : List Nd) : eqTB (ns, ns) = true := decide_eq_true rfl
def saysUnd : Says := fun args H => match args, H with
  | [.c (.p (.l (.int .i64) _))], [] => some (none, .bool true, [])
  | _, _ => none
def L5 : Table := ext L4 6 saysUnd
theorem l5 : TSound Tryz.prog L5 := by
  refine ext_run l4 (f := 6) (fn := Tryz.f6) rfl rfl [0, 2, 3, 4, 5, 6, 7, 8, 9, 10, 11, 12, 13, 14, 15, 16, 17, 18, 19, 21, 22, 23, 24, 25, 26, 33, 34, 35, 51, 71, 82, 101, 111, 141, 150, 158] fun args H p r' H' hs hp => ?_
  unfold saysUnd at hs
  split at hs
  · rename_i zs
    cases hs
    refine ⟨Nat.le_of_ble_eq_true rfl, [], rfl, fun k hk => absurd hk (Nat.not_lt_zero k), ?_⟩
    have ht0 := tape_nw9 zs
    generalize hz : (zs : List Int).take 500 = ys at ht0
    obtain ⟨R, hR⟩ : ∃ R, grV ys 0 10 = R := ⟨_, rfl⟩
    have hv := gr_vl ys 0 10
    have hx := gr_ok (zs := ys) (n := 0) (k := 10) ht0
    rw [hR] at hv hx
    obtain ⟨ns, x⟩ := R
    have hv : Vl ns := hv
    have hx : tapeOk ys x := hx
    have hlen := hv.f.len
    have q1 : tapeOk ys 0 ∧ (0 : Int) ≤ 10 ∧ (10 : Int) ≤ 100 := ⟨ht0, by decide, by decide⟩
    have q2 : tapeOk ys x ∧ ((ns.length : Nat) : Int) ≤ 4611686018427387904 := ⟨hx, by omega⟩
    conv => whnf
    rw [hz]
    repeat ((conv => whnf); refine ⟨by first | exact q1 | (unfold inI64; omega) | omega | exact ⟨by omega, by omega⟩ | exact rfl | decide +kernel, ?_⟩)
    conv => whnf
    rw [hR]
    repeat ((conv => whnf); refine ⟨by first | (unfold inI64; omega) | omega | exact ⟨by omega, by omega⟩ | exact rfl | decide +kernel, ?_⟩)
    conv => whnf
    refine loop_intro (σ := Nat) (fun i => [(0, XV.s .none), (2, XV.s .none), (3, XV.s (.a (.c (.ptr 0 0)))), (4, XV.s (.a (.c (.ptr 1 0)))), (5, XV.s .none), (6, XV.s .none), (7, XV.s .none), (8, XV.s .none), (9, XV.s .none), (10, XV.s .none), (11, XV.s .none), (12, XV.s .none), (13, XV.s .none), (14, XV.s .none), (15, XV.s .none), (16, XV.s .none), (17, XV.s .none), (18, XV.s .none), (19, XV.s .none), (21, XV.s .none), (22, XV.s .none), (23, XV.s .none), (24, XV.s .none), (25, XV.s .none), (26, XV.s .none), (33, XV.s (.int .i64 (ns.length : Nat))), (34, XV.s (.int .i64 (i : Nat))), (35, XV.s .none), (51, XV.s .none), (71, XV.s .none), (82, XV.s .none), (101, XV.s .none), (111, XV.s .none), (141, XV.s .none), (150, XV.s .none), (158, XV.s .none)])
      (fun _ => [tapeO ys x, .row [.p (.l ndC ns)]]) (fun i => i ≤ ns.length) (fun i => ns.length - i) 0 ?_ rfl (Nat.zero_le _) (fun i hi => ?_)
    · repeat (first | exact LeL.nil | refine LeL.drop ?_ | refine LeL.same ?_)
    conv => whnf
    refine cond_intro (fun h3 => ?_) (fun h3 => ?_)
    · have hin : i < ns.length := lt_of_dec h3
      have e1 : FindV (ns, PathV (ns, (i : Int))) = ((i : Int), true) := find_vl hv hin
      repeat ((conv => whnf); refine ⟨by first | exact ⟨rfl, trivial⟩ | ((conv => whnf); exact ⟨⟨rfl, rfl, rfl⟩, trivial⟩) | exact Early.one (by decide +kernel) (by (conv => whnf); exact ⟨rfl, rfl, rfl⟩) trivial | (unfold inI64; omega) | omega | exact ⟨by omega, by omega⟩ | (intro hg; first | (unfold inI64; omega) | omega | exact ⟨by omega, by omega⟩ | (simp [lit] at hg; unfold inI64; omega) | (simp [lit] at hg; omega) | (simp [lit] at hg; exact ⟨by omega, by omega⟩)) | (show (_ : Nat) + 1 ≤ 1000000000000; omega) | exact rfl | (unfold inI64; dsimp only; omega) | (dsimp only; omega) | (intro hg; simp [lit] at hg; first | (unfold inI64; dsimp only; omega) | (dsimp only; omega)) | decide +kernel, ?_⟩)
      conv => whnf
      refine cond_intro (fun h4 => ?_) (fun h4 => ?_)
      · exfalso
        have h5 : (!(FindV (ns, PathV (ns, (i : Int)))).2 || !decide ((FindV (ns, PathV (ns, (i : Int)))).1 = (i : Int))) = false := by rw [e1]; simp
        exact Bool.noConfusion (h5.symm.trans h4)
      · repeat ((conv => whnf); refine ⟨by first | (unfold inI64; omega) | omega | exact ⟨by omega, by omega⟩ | exact rfl | decide +kernel, ?_⟩)
        conv => whnf
        refine head_intro (i + 1) ?_ rfl hin (by omega)
        repeat (first | exact LeL.nil | refine LeL.drop ?_ | refine LeL.same ?_)
    · have hx1 := rawN_ok9 hx
      have hx2 := rawN_ok9 hx1
      have hx3 := rawN_ok9 hx2
      repeat ((conv => whnf); refine ⟨by first | exact q2 | exact hx1 | exact hx2 | exact hx3 | exact ⟨rfl, trivial⟩ | (repeat ((conv => whnf); refine ⟨by ((conv => whnf); first | exact ⟨rfl, rfl, rfl⟩ | exact ⟨rfl, rfl⟩ | exact ⟨⟨rfl, trivial⟩, rfl, rfl, rfl⟩ | exact ⟨q2, rfl, rfl, rfl⟩ | exact ⟨hx1, rfl, rfl, rfl⟩ | exact ⟨hx2, rfl, rfl, rfl⟩ | exact ⟨hx3, rfl, rfl, rfl⟩), ?_⟩)); ((conv => whnf); exact trivial) | ((conv => whnf); exact ⟨⟨rfl, rfl, rfl⟩, trivial⟩) | exact Early.one (by decide +kernel) (by (conv => whnf); exact ⟨rfl, rfl, rfl⟩) trivial | (unfold inI64; omega) | omega | exact ⟨by omega, by omega⟩ | (intro hg; first | (unfold inI64; omega) | omega | exact ⟨by omega, by omega⟩ | (simp [lit] at hg; unfold inI64; omega) | (simp [lit] at hg; omega) | (simp [lit] at hg; exact ⟨by omega, by omega⟩)) | (show (_ : Nat) + 1 ≤ 1000000000000; omega) | exact rfl | (unfold inI64; dsimp only; omega) | (dsimp only; omega) | (intro hg; simp [lit] at hg; first | (unfold inI64; dsimp only; omega) | (dsimp only; omega)) | decide +kernel, ?_⟩)
      conv => whnf
      obtain ⟨k, hk⟩ : ∃ k : Nat, modV (rawV ys x) ((ns.length : Nat) : Int) = (k : Int) := ⟨(modV (rawV ys x) ((ns.length : Nat) : Int)).toNat, by have := modV_nonneg (rawV ys x) ((ns.length : Nat) : Int); omega⟩
      have hkn : k < ns.length := by
        have := modV_lt (rawV ys x) ((ns.length : Nat) : Int) (by omega)
        omega
      obtain ⟨p, hp0⟩ : ∃ p, pathV ns k = p := ⟨_, rfl⟩
      obtain ⟨m, hm0⟩ : ∃ m, pickS nameL ys (rawN ys x) = m := ⟨_, rfl⟩
      obtain ⟨s, hs0⟩ : ∃ s, pickS propL ys (rawN ys (rawN ys x)) = s := ⟨_, rfl⟩
      obtain ⟨v, hv0⟩ : ∃ v, (valV ys (rawN ys (rawN ys (rawN ys x)))).1 = v := ⟨_, rfl⟩
      have hsp : prpB s = true := by rw [← hs0]; exact pick_prp _ _
      have hpz := path_size hv hkn
      have hmz := pick_nm ys (rawN ys x)
      rw [hp0] at hpz
      rw [hm0] at hmz
      have hpk : PathV (ns, (k : Int)) = p := by rw [path_vl hv hkn, hp0]
      rw [hk, hpk, hm0, hs0, hv0]
      have c1 : ((p.size + (⟨#[47]⟩ : ByteArray).size : Nat) : Int) ≤ 9223372036854775807 := by
        show ((p.size + 1 : Nat) : Int) ≤ _
        omega
      have c2 : (((p ++ (⟨#[47]⟩ : ByteArray)).size + m.size : Nat) : Int) ≤ 9223372036854775807 := by
        rw [ByteArray.size_append]
        show ((p.size + 1 + m.size : Nat) : Int) ≤ _
        omega
      have hadd : AddV (ns, p, m) = (adR (ns, (k : Int), m), adbV (ns, (k : Int), m)) := by
        unfold AddV
        dsimp only
        rw [if_pos (chk_vld.2 hv.vld), ← hp0, fnd_path hv hkn, if_pos rfl]
      have c3 : (((⟨#[47]⟩ : ByteArray).size + m.size : Nat) : Int) ≤ 9223372036854775807 := by
        show ((1 + m.size : Nat) : Int) ≤ _
        omega
      have hTT : TTOk (ns, ns) := ⟨show ns.length ≤ 1000000000 by omega, fun i hi => Nat.le_trans (lim_ps hv hi).1 (by decide)⟩
      have hset := set_vlv hv hkn (p := (s, v)) hsp
      rw [hp0] at hset
      refine ⟨c1, ?_⟩
      repeat ((conv => whnf); refine ⟨by first | (unfold inI64; omega) | omega | exact ⟨by omega, by omega⟩ | (intro hg; first | (unfold inI64; omega) | omega | exact ⟨by omega, by omega⟩ | (simp [lit] at hg; unfold inI64; omega) | (simp [lit] at hg; omega) | (simp [lit] at hg; exact ⟨by omega, by omega⟩)) | (show (_ : Nat) + 1 ≤ 1000000000000; omega) | exact rfl | (unfold inI64; dsimp only; omega) | (dsimp only; omega) | (intro hg; simp [lit] at hg; first | (unfold inI64; dsimp only; omega) | (dsimp only; omega)) | decide +kernel, ?_⟩)
      conv => whnf
      refine cond_intro (fun h6 => ?_) (fun h6 => ?_)
      all_goals
        repeat ((conv => whnf); refine ⟨by first | exact ⟨rfl, trivial⟩ | (unfold inI64; omega) | omega | exact ⟨by omega, by omega⟩ | (intro hg; first | (unfold inI64; omega) | omega | exact ⟨by omega, by omega⟩ | (simp [lit] at hg; unfold inI64; omega) | (simp [lit] at hg; omega) | (simp [lit] at hg; exact ⟨by omega, by omega⟩)) | (show (_ : Nat) + 1 ≤ 1000000000000; omega) | exact rfl | (unfold inI64; dsimp only; omega) | (dsimp only; omega) | (intro hg; simp [lit] at hg; first | (unfold inI64; dsimp only; omega) | (dsimp only; omega)) | decide +kernel, ?_⟩)
        conv => whnf
        first
          | rw [show (⟨#[47]⟩ : ByteArray) ++ m = chP p m from (if_pos (of_decide_eq_true h6)).symm]
          | rw [show p ++ (⟨#[47]⟩ : ByteArray) ++ m = chP p m from (if_neg (of_decide_eq_false h6)).symm]
        clear h6
        rw [hadd]
        by_cases hb : adbV (ns, (k : Int), m) = 0
        · have hrem : RemV (adV ns (k : Int) m, chP p m) = (ns, 0) := by rw [← hp0]; exact rem_add hv hkn hb
          have hchk : chkP (adV ns (k : Int) m) = 0 := chk_vld.2 (ad_vl hv hkn hb).vld
          have har : adR (ns, (k : Int), m) = adV ns (k : Int) m := if_pos hb
          rw [hb, har]
          repeat ((conv => whnf); refine ⟨by first | exact ⟨rfl, trivial⟩ | exact fun _ => ⟨rfl, hTT⟩ | exact fun _ => ⟨rfl, trivial⟩ | (unfold inI64; omega) | omega | exact ⟨by omega, by omega⟩ | (intro hg; first | (unfold inI64; omega) | omega | exact ⟨by omega, by omega⟩ | (simp [lit] at hg; unfold inI64; omega) | (simp [lit] at hg; omega) | (simp [lit] at hg; exact ⟨by omega, by omega⟩)) | (show (_ : Nat) + 1 ≤ 1000000000000; omega) | exact rfl | (unfold inI64; dsimp only; omega) | (dsimp only; omega) | (intro hg; simp [lit] at hg; first | (unfold inI64; dsimp only; omega) | (dsimp only; omega)) | decide +kernel, ?_⟩)
          conv => whnf
          rw [hrem]
          refine cond_intro (fun h8 => ?_) (fun h8 => ?_)
          · exfalso
            have h9 : (!decide (((ns, 0) : List Nd × Int).2 = 0) || !eqTB (ns, ns) || !decide (chkP (adV ns (k : Int) m) = 0)) = false := by
              rw [hchk, eq_self]
              rfl
            exact Bool.noConfusion (h9.symm.trans h8)
          · -- REST
            repeat ((conv => whnf); refine ⟨by first | exact ⟨rfl, trivial⟩ | (unfold inI64; omega) | omega | exact ⟨by omega, by omega⟩ | (intro hg; first | (unfold inI64; omega) | omega | exact ⟨by omega, by omega⟩ | (simp [lit] at hg; unfold inI64; omega) | (simp [lit] at hg; omega) | (simp [lit] at hg; exact ⟨by omega, by omega⟩)) | (show (_ : Nat) + 1 ≤ 1000000000000; omega) | exact rfl | (unfold inI64; dsimp only; omega) | (dsimp only; omega) | (intro hg; simp [lit] at hg; first | (unfold inI64; dsimp only; omega) | (dsimp only; omega)) | decide +kernel, ?_⟩)
            conv => whnf
            rcases hset with ⟨hset, he⟩ | ⟨hset, he⟩
            · rw [hset]
              obtain ⟨hvy, hfy, hly, z, hdy, hzy⟩ := undo_f hv hkn hsp he
              rw [hp0] at hfy hdy hzy
              have hcy := chk_vld.2 hvy.vld
              obtain ⟨y, hy⟩ : ∃ y, stN ns k (s, v) = y := ⟨_, rfl⟩
              rw [hy] at hfy hly hdy hcy ⊢
              repeat ((conv => whnf); refine ⟨by first | exact ⟨rfl, trivial⟩ | exact fun _ => ⟨rfl, trivial⟩ | (unfold inI64; omega) | omega | exact ⟨by omega, by omega⟩ | (intro hg; first | (unfold inI64; omega) | omega | exact ⟨by omega, by omega⟩ | (simp [lit] at hg; unfold inI64; omega) | (simp [lit] at hg; omega) | (simp [lit] at hg; exact ⟨by omega, by omega⟩)) | (show (_ : Nat) + 1 ≤ 1000000000000; omega) | exact rfl | (unfold inI64; dsimp only; omega) | (dsimp only; omega) | (intro hg; simp [lit] at hg; first | (unfold inI64; dsimp only; omega) | (dsimp only; omega)) | decide +kernel, ?_⟩)
              conv => whnf
              rw [hfy, hly]
              refine cond_intro (fun h10 => ?_) (fun h10 => ?_)
              · exfalso
                have h11 : (!((v, true) : ByteArray × Bool).2 || !decide (((v, true) : ByteArray × Bool).1 = v) || !decide (chkP y = 0)) = false := by
                  rw [hcy]
                  simp
                exact Bool.noConfusion (h11.symm.trans h10)
              repeat ((conv => whnf); refine ⟨by first | exact ⟨rfl, trivial⟩ | (unfold inI64; omega) | omega | exact ⟨by omega, by omega⟩ | (intro hg; first | (unfold inI64; omega) | omega | exact ⟨by omega, by omega⟩ | (simp [lit] at hg; unfold inI64; omega) | (simp [lit] at hg; omega) | (simp [lit] at hg; exact ⟨by omega, by omega⟩)) | (show (_ : Nat) + 1 ≤ 1000000000000; omega) | exact rfl | (unfold inI64; dsimp only; omega) | (dsimp only; omega) | (intro hg; simp [lit] at hg; first | (unfold inI64; dsimp only; omega) | (dsimp only; omega)) | decide +kernel, ?_⟩)
              conv => whnf
              rw [hdy]
              repeat ((conv => whnf); refine ⟨by first | exact ⟨rfl, trivial⟩ | (unfold inI64; omega) | omega | exact ⟨by omega, by omega⟩ | (intro hg; first | (unfold inI64; omega) | omega | exact ⟨by omega, by omega⟩ | (simp [lit] at hg; unfold inI64; omega) | (simp [lit] at hg; omega) | (simp [lit] at hg; exact ⟨by omega, by omega⟩)) | (show (_ : Nat) + 1 ≤ 1000000000000; omega) | exact rfl | (unfold inI64; dsimp only; omega) | (dsimp only; omega) | (intro hg; simp [lit] at hg; first | (unfold inI64; dsimp only; omega) | (dsimp only; omega)) | decide +kernel, ?_⟩)
              conv => whnf
              rcases hzy with ⟨hval, hzn⟩ | ⟨o, hval, hs2⟩
              · rw [hval, hzn]
                repeat ((conv => whnf); refine ⟨by first | exact fun _ => ⟨rfl, hTT⟩ | exact fun _ => ⟨rfl, trivial⟩ | (unfold inI64; omega) | omega | exact ⟨by omega, by omega⟩ | (intro hg; first | (unfold inI64; omega) | omega | exact ⟨by omega, by omega⟩ | (simp [lit] at hg; unfold inI64; omega) | (simp [lit] at hg; omega) | (simp [lit] at hg; exact ⟨by omega, by omega⟩)) | (show (_ : Nat) + 1 ≤ 1000000000000; omega) | exact rfl | (unfold inI64; dsimp only; omega) | (dsimp only; omega) | (intro hg; simp [lit] at hg; first | (unfold inI64; dsimp only; omega) | (dsimp only; omega)) | decide +kernel, ?_⟩)
                conv => whnf
                show Ends (.bool (decide ((0 : Int) = 0) && eqTB (ns, ns) && true)) [] (.bool true) []
                rw [eq_self]
                exact ends_eq ⟨rfl, rfl⟩
              · rw [hval]
                repeat ((conv => whnf); refine ⟨by first | exact ⟨rfl, trivial⟩ | exact fun _ => ⟨rfl, hTT⟩ | exact fun _ => ⟨rfl, trivial⟩ | (unfold inI64; omega) | omega | exact ⟨by omega, by omega⟩ | (intro hg; first | (unfold inI64; omega) | omega | exact ⟨by omega, by omega⟩ | (simp [lit] at hg; unfold inI64; omega) | (simp [lit] at hg; omega) | (simp [lit] at hg; exact ⟨by omega, by omega⟩)) | (show (_ : Nat) + 1 ≤ 1000000000000; omega) | exact rfl | (unfold inI64; dsimp only; omega) | (dsimp only; omega) | (intro hg; simp [lit] at hg; first | (unfold inI64; dsimp only; omega) | (dsimp only; omega)) | decide +kernel, ?_⟩)
                conv => whnf
                rw [hs2]
                show Ends (.bool (decide ((0 : Int) = 0) && eqTB (ns, ns) && true)) [] (.bool true) []
                rw [eq_self]
                exact ends_eq ⟨rfl, rfl⟩
            · rw [hset]
              repeat ((conv => whnf); refine ⟨by first | exact fun _ => ⟨rfl, trivial⟩ | (unfold inI64; omega) | omega | exact ⟨by omega, by omega⟩ | (intro hg; first | (unfold inI64; omega) | omega | exact ⟨by omega, by omega⟩ | (simp [lit] at hg; unfold inI64; omega) | (simp [lit] at hg; omega) | (simp [lit] at hg; exact ⟨by omega, by omega⟩)) | (show (_ : Nat) + 1 ≤ 1000000000000; omega) | exact rfl | (unfold inI64; dsimp only; omega) | (dsimp only; omega) | (intro hg; simp [lit] at hg; first | (unfold inI64; dsimp only; omega) | (dsimp only; omega)) | decide +kernel, ?_⟩)
              conv => whnf
              exact ends_eq ⟨rfl, rfl⟩
        · refine cond_intro (fun h7 => ?_) (fun h7 => ?_)
          · exact absurd (of_decide_eq_true h7) hb
          · -- REST
            repeat ((conv => whnf); refine ⟨by first | exact ⟨rfl, trivial⟩ | (unfold inI64; omega) | omega | exact ⟨by omega, by omega⟩ | (intro hg; first | (unfold inI64; omega) | omega | exact ⟨by omega, by omega⟩ | (simp [lit] at hg; unfold inI64; omega) | (simp [lit] at hg; omega) | (simp [lit] at hg; exact ⟨by omega, by omega⟩)) | (show (_ : Nat) + 1 ≤ 1000000000000; omega) | exact rfl | (unfold inI64; dsimp only; omega) | (dsimp only; omega) | (intro hg; simp [lit] at hg; first | (unfold inI64; dsimp only; omega) | (dsimp only; omega)) | decide +kernel, ?_⟩)
            conv => whnf
            rcases hset with ⟨hset, he⟩ | ⟨hset, he⟩
            · rw [hset]
              obtain ⟨hvy, hfy, hly, z, hdy, hzy⟩ := undo_f hv hkn hsp he
              rw [hp0] at hfy hdy hzy
              have hcy := chk_vld.2 hvy.vld
              obtain ⟨y, hy⟩ : ∃ y, stN ns k (s, v) = y := ⟨_, rfl⟩
              rw [hy] at hfy hly hdy hcy ⊢
              repeat ((conv => whnf); refine ⟨by first | exact ⟨rfl, trivial⟩ | exact fun _ => ⟨rfl, trivial⟩ | (unfold inI64; omega) | omega | exact ⟨by omega, by omega⟩ | (intro hg; first | (unfold inI64; omega) | omega | exact ⟨by omega, by omega⟩ | (simp [lit] at hg; unfold inI64; omega) | (simp [lit] at hg; omega) | (simp [lit] at hg; exact ⟨by omega, by omega⟩)) | (show (_ : Nat) + 1 ≤ 1000000000000; omega) | exact rfl | (unfold inI64; dsimp only; omega) | (dsimp only; omega) | (intro hg; simp [lit] at hg; first | (unfold inI64; dsimp only; omega) | (dsimp only; omega)) | decide +kernel, ?_⟩)
              conv => whnf
              rw [hfy, hly]
              refine cond_intro (fun h10 => ?_) (fun h10 => ?_)
              · exfalso
                have h11 : (!((v, true) : ByteArray × Bool).2 || !decide (((v, true) : ByteArray × Bool).1 = v) || !decide (chkP y = 0)) = false := by
                  rw [hcy]
                  simp
                exact Bool.noConfusion (h11.symm.trans h10)
              repeat ((conv => whnf); refine ⟨by first | exact ⟨rfl, trivial⟩ | (unfold inI64; omega) | omega | exact ⟨by omega, by omega⟩ | (intro hg; first | (unfold inI64; omega) | omega | exact ⟨by omega, by omega⟩ | (simp [lit] at hg; unfold inI64; omega) | (simp [lit] at hg; omega) | (simp [lit] at hg; exact ⟨by omega, by omega⟩)) | (show (_ : Nat) + 1 ≤ 1000000000000; omega) | exact rfl | (unfold inI64; dsimp only; omega) | (dsimp only; omega) | (intro hg; simp [lit] at hg; first | (unfold inI64; dsimp only; omega) | (dsimp only; omega)) | decide +kernel, ?_⟩)
              conv => whnf
              rw [hdy]
              repeat ((conv => whnf); refine ⟨by first | exact ⟨rfl, trivial⟩ | (unfold inI64; omega) | omega | exact ⟨by omega, by omega⟩ | (intro hg; first | (unfold inI64; omega) | omega | exact ⟨by omega, by omega⟩ | (simp [lit] at hg; unfold inI64; omega) | (simp [lit] at hg; omega) | (simp [lit] at hg; exact ⟨by omega, by omega⟩)) | (show (_ : Nat) + 1 ≤ 1000000000000; omega) | exact rfl | (unfold inI64; dsimp only; omega) | (dsimp only; omega) | (intro hg; simp [lit] at hg; first | (unfold inI64; dsimp only; omega) | (dsimp only; omega)) | decide +kernel, ?_⟩)
              conv => whnf
              rcases hzy with ⟨hval, hzn⟩ | ⟨o, hval, hs2⟩
              · rw [hval, hzn]
                repeat ((conv => whnf); refine ⟨by first | exact fun _ => ⟨rfl, hTT⟩ | exact fun _ => ⟨rfl, trivial⟩ | (unfold inI64; omega) | omega | exact ⟨by omega, by omega⟩ | (intro hg; first | (unfold inI64; omega) | omega | exact ⟨by omega, by omega⟩ | (simp [lit] at hg; unfold inI64; omega) | (simp [lit] at hg; omega) | (simp [lit] at hg; exact ⟨by omega, by omega⟩)) | (show (_ : Nat) + 1 ≤ 1000000000000; omega) | exact rfl | (unfold inI64; dsimp only; omega) | (dsimp only; omega) | (intro hg; simp [lit] at hg; first | (unfold inI64; dsimp only; omega) | (dsimp only; omega)) | decide +kernel, ?_⟩)
                conv => whnf
                show Ends (.bool (decide ((0 : Int) = 0) && eqTB (ns, ns) && true)) [] (.bool true) []
                rw [eq_self]
                exact ends_eq ⟨rfl, rfl⟩
              · rw [hval]
                repeat ((conv => whnf); refine ⟨by first | exact ⟨rfl, trivial⟩ | exact fun _ => ⟨rfl, hTT⟩ | exact fun _ => ⟨rfl, trivial⟩ | (unfold inI64; omega) | omega | exact ⟨by omega, by omega⟩ | (intro hg; first | (unfold inI64; omega) | omega | exact ⟨by omega, by omega⟩ | (simp [lit] at hg; unfold inI64; omega) | (simp [lit] at hg; omega) | (simp [lit] at hg; exact ⟨by omega, by omega⟩)) | (show (_ : Nat) + 1 ≤ 1000000000000; omega) | exact rfl | (unfold inI64; dsimp only; omega) | (dsimp only; omega) | (intro hg; simp [lit] at hg; first | (unfold inI64; dsimp only; omega) | (dsimp only; omega)) | decide +kernel, ?_⟩)
                conv => whnf
                rw [hs2]
                show Ends (.bool (decide ((0 : Int) = 0) && eqTB (ns, ns) && true)) [] (.bool true) []
                rw [eq_self]
                exact ends_eq ⟨rfl, rfl⟩
            · rw [hset]
              repeat ((conv => whnf); refine ⟨by first | exact fun _ => ⟨rfl, trivial⟩ | (unfold inI64; omega) | omega | exact ⟨by omega, by omega⟩ | (intro hg; first | (unfold inI64; omega) | omega | exact ⟨by omega, by omega⟩ | (simp [lit] at hg; unfold inI64; omega) | (simp [lit] at hg; omega) | (simp [lit] at hg; exact ⟨by omega, by omega⟩)) | (show (_ : Nat) + 1 ≤ 1000000000000; omega) | exact rfl | (unfold inI64; dsimp only; omega) | (dsimp only; omega) | (intro hg; simp [lit] at hg; first | (unfold inI64; dsimp only; omega) | (dsimp only; omega)) | decide +kernel, ?_⟩)
              conv => whnf
              exact ends_eq ⟨rfl, rfl⟩
  · cases hs
end Go.Ab
namespace Go.Ab
open Go.RowKit
set_option linter.unusedSectionVars false

/-- The fields of a struct, each behind the one before it. -/
def nestGo (P : Program) (f : TypeId → Option CT) (tot : Nat) : List Field → Nat → Option CT
  | [], _ => none
  | [x], off => match f x.type with
    | some c => if x.offset = off ∧ P.cellsOf x.type = c.width ∧ tot = off + c.width then some c else none
    | none => none
  | x :: r, off => match f x.type, nestGo P f tot r (off + P.cellsOf x.type) with
    | some a, some b => if x.offset = off ∧ P.cellsOf x.type = a.width then some (.pair a b) else none
    | _, _ => none
/-- The shape of a type of numbers, texts, structs and slices. -/
def nestOf (P : Program) : Nat → TypeId → Option CT
  | 0, _ => none
  | d + 1, t => match P.underlying t with
    | some (.int k) => some (.int k)
    | some .bool => some .bool
    | some .string => some .str
    | some (.slice e) => match nestOf P d e with
      | some c => if P.cellsOf e = c.width then some (.list c) else none
      | none => none
    | some (.struct fs) => nestGo P (nestOf P d) (P.cellsOf t) fs.toList 0
    | _ => none

theorem CT.width_pos : ∀ t : CT, 0 < t.width
  | .pair a b => by have := CT.width_pos a; show 0 < a.width + b.width; omega
  | .int _ => Nat.one_pos
  | .bool => Nat.one_pos
  | .str => Nat.one_pos
  | .list _ => Nat.one_pos
  | .fn => Nat.one_pos
  | .map _ _ => Nat.one_pos

variable {H : Type} {enc : TypeId × Value → H} {P : Program} {w : World} {base : Nat} {spare : Nat → Bool} {held : Bool} {I : Cells}

theorem nestGo_tot {f : TypeId → Option CT} {tot : Nat} : ∀ (fs : List Field) (o : Nat) (c : CT), nestGo P f tot fs o = some c → o ≤ tot := by
  intro fs
  induction fs with
  | nil => intro o c h; cases h
  | cons u v ihh =>
    intro o c h
    cases v with
    | nil =>
      simp only [nestGo] at h
      split at h
      · split at h
        · rename_i hc; omega
        · cases h
      · cases h
    | cons v1 v2 =>
      simp only [nestGo] at h
      split at h
      · rename_i hh
        have := ihh _ _ hh
        omega
      · cases h

theorem nestGo_rep {f : TypeId → Option CT} {tot : Nat} {cs : List Value} (htot : tot = cs.length) :
    ∀ (fs : List Field) (off : Nat) (c : CT), nestGo P f tot fs off = some c → off ≤ cs.length →
      (∀ x ∈ fs, ∀ a, f x.type = some a → ∃ z : a.den, Rep I w a z ((cs.drop x.offset).take (P.cellsOf x.type))) → ∃ z : c.den, Rep I w c z (cs.drop off) := by
  intro fs
  induction fs with
  | nil => intro off c h; cases h
  | cons x r ih =>
    intro off c h ho hx
    cases r with
    | nil =>
      simp only [nestGo] at h
      cases hf : f x.type with
      | none => rw [hf] at h; cases h
      | some a =>
        rw [hf] at h
        dsimp only at h
        split at h
        · rename_i hc
          obtain rfl : a = c := Option.some.inj h
          obtain ⟨h1, h2, h3⟩ := hc
          obtain ⟨z, hz⟩ := hx x (by simp) a hf
          refine ⟨z, ?_⟩
          rwa [h1, List.take_of_length_le (by rw [List.length_drop]; omega)] at hz
        · cases h
    | cons y r =>
      simp only [nestGo] at h
      cases hf : f x.type with
      | none => rw [hf] at h; cases h
      | some a =>
        rw [hf] at h
        cases hg : nestGo P f tot (y :: r) (off + P.cellsOf x.type) with
        | none =>
          rw [hg] at h
          cases h
        | some b =>
          rw [hg] at h
          dsimp only at h
          split at h
          · rename_i hc
            cases h
            obtain ⟨h1, h2⟩ := hc
            have hle : off + P.cellsOf x.type ≤ cs.length := by
              have := nestGo_tot _ _ _ hg
              omega
            obtain ⟨z1, hz1⟩ := hx x (by simp) a hf
            obtain ⟨z2, hz2⟩ := ih _ b hg hle fun u hu => hx u (by simp [hu])
            refine ⟨(z1, z2), ⟨(cs.drop off).take (P.cellsOf x.type), cs.drop (off + P.cellsOf x.type), ?_, ?_, hz2⟩⟩
            · rw [← List.drop_drop, List.take_append_drop]
            · rwa [h1] at hz1
          · cases h

theorem choose_list' {α : Type} (n : Nat) (p : Nat → α → Prop) (h : ∀ i, i < n → ∃ z, p i z) : ∃ zs : List α, zs.length = n ∧ ∀ i z, zs[i]? = some z → p i z := by
  induction n with
  | zero => exact ⟨[], rfl, fun i z hz => by simp at hz⟩
  | succ n ih =>
    obtain ⟨zs, h1, h2⟩ := ih fun i hi => h i (by omega)
    obtain ⟨z, hz⟩ := h n (by omega)
    refine ⟨zs ++ [z], by simp [h1], fun i x hx => ?_⟩
    rcases Nat.lt_or_ge i zs.length with hi | hi
    · rw [List.getElem?_append_left hi] at hx
      exact h2 i x hx
    · have e : i = n := by
        have := (List.getElem?_eq_some_iff.1 hx).1
        simp at this
        omega
      subst e
      rw [List.getElem?_append_right (by omega), show i - zs.length = 0 by omega] at hx
      cases hx
      exact hz

theorem addr_add4 (b off n : Nat) : (⟨b, off, none⟩ : Addr).add n = ⟨b, off + n, none⟩ := by unfold Addr.add; split <;> simp_all
theorem cell_nospot {w : World} {a : Addr} {v : Value} (h : w.cell? a = some v) : a.spot = none := by
  unfold World.cell? at h
  split at h
  · split at h
    · cases h
    · rename_i hs
      cases hsp : a.spot with
      | none => rfl
      | some s => rw [hsp] at hs; simp at hs
  · cases h

theorem nest_rep (hI : ∀ b o, b < w.heap.size → I b o) : ∀ (d : Nat) (t : TypeId) (c : CT), nestOf P d t = some c → ∀ (fuel : Nat) (cs : List Value) (y : DataW H × List MemPlace), DataW.trod enc P w base spare held fuel t cs = some y → ∃ z : c.den, Rep I w c z cs := by
  intro d
  induction d with
  | zero => intro t c h; cases h
  | succ d ih =>
    intro t c h fuel cs y hy
    unfold nestOf at h
    split at h
    · rename_i k hu
      cases h
      obtain ⟨n, rfl, _⟩ := DataW.trod_int hu hy
      exact ⟨n, rfl⟩
    · rename_i hu
      cases h
      obtain ⟨b, rfl, _⟩ := DataW.trod_bool hu hy
      exact ⟨b, rfl⟩
    · rename_i hu
      cases h
      obtain ⟨s, rfl, _⟩ := DataW.trod_string hu hy
      exact ⟨s, rfl⟩
    · rename_i e hu
      split at h
      · rename_i c' hc
        split at h
        · rename_i hw
          cases h
          rcases DataW.trod_slice hu hy with ⟨rfl, _⟩ | ⟨a, len, cap, elems, rest, n, _, rfl, _, _, hl, _, hlen, hel, _, _⟩
          · exact ⟨[], .inl ⟨rfl, rfl⟩⟩
          · rcases Nat.eq_zero_or_pos len with h0 | h0
            · subst h0
              exact ⟨[], .inr (.inr ⟨rfl, a, cap, rfl⟩)⟩
            · have hwp := CT.width_pos c'
              have get : ∀ i, i < len → ∃ (cs : List Value) (z : c'.den), cs.length = c'.width ∧ Rep I w c' z cs ∧ ∀ j, j < c'.width → w.cell? ((a.add (i * P.cellsOf e)).add j) = cs[j]? := by
                intro i hi
                have h1 := hel i hi
                rw [List.getElem?_eq_getElem (by omega)] at h1
                obtain ⟨cs, h2, h3⟩ := Option.bind_eq_some_iff.1 h1
                obtain ⟨_, h4, h5⟩ := World.cells?_some h2
                obtain ⟨z, hz⟩ := ih e c' hc n cs _ h3
                exact ⟨cs, z, by rw [h4, hw], hz, fun j hj => h5 j (by rw [hw]; exact hj)⟩
              have hsp : a.spot = none := by
                obtain ⟨cs, _, hcl, _, hcell⟩ := get 0 h0
                have h6 := hcell 0 hwp
                rw [List.getElem?_eq_getElem (by omega)] at h6
                have h7 := cell_nospot h6
                have h8 : (a.add (0 * P.cellsOf e)).add 0 = a := by simp [Addr.add]
                rwa [h8] at h7
              obtain ⟨b, off, sp⟩ := a
              obtain rfl : sp = none := hsp
              have each : ∀ i, i < len → ∃ z : c'.den, ∃ us : List Value, us.length = c'.width ∧ Rep I w c' z us ∧ ∀ j u, us[j]? = some u → w.at' b (off + i * c'.width + j) = some u := by
                intro i hi
                obtain ⟨cs, z, hcl, hz, hcell⟩ := get i hi
                refine ⟨z, cs, hcl, hz, fun j u hj => ?_⟩
                have hjl : j < c'.width := by
                  have := (List.getElem?_eq_some_iff.1 hj).1
                  omega
                have h6 := hcell j hjl
                rw [addr_add4, addr_add4, hj, hw] at h6
                exact h6
              obtain ⟨zs, hz1, hz2⟩ := choose_list' len _ each
              refine ⟨zs, .inr (.inl ⟨b, off, cap, by rw [hz1], by rw [hz1]; exact hl, fun i z hi => ?_⟩)⟩
              obtain ⟨us, _, h2, h3⟩ := hz2 i z hi
              exact ⟨us, h2, fun j u hj => ⟨hI _ _ (cell_lt (h3 j u hj)), h3 j u hj⟩⟩
        · cases h
      · cases h
    · rename_i fs hu
      obtain ⟨xs, n, _, _, hl, hxl, hf⟩ := DataW.trod_struct hu hy
      obtain ⟨z, hz⟩ := nestGo_rep (P := P) hl.symm fs.toList 0 c h (Nat.zero_le _) fun x hx a ha => by
        obtain ⟨i, hi⟩ := List.getElem?_of_mem hx
        have hi' : fs[i]? = some x := by rw [← Array.getElem?_toList]; exact hi
        have h2 := hf i x hi'
        have hil : i < xs.length := by
          have := (Array.getElem?_eq_some_iff.1 hi').1
          omega
        rw [List.getElem?_eq_getElem hil] at h2
        exact ih x.type a ha n _ _ h2
      exact ⟨z, by rwa [List.drop_zero] at hz⟩
    · cases h

/-- A slice that is read, with slices in it: what it holds. -/
theorem nest_slice {t : TypeId} {c : CT} {d : Nat} {v : Value} {y : DataW H} {ps : List MemPlace} (hI : ∀ b o, b < w.heap.size → I b o) (hc : nestOf P d t = some (.list c))
    (h : DataW.Trod enc P w base spare held t v y ps) {a : Option Addr} {len cap : Nat} (hv : v = .slice a len cap) : ∃ zs : List c.den, RepV I w (.l c zs) v := by
  subst hv
  obtain ⟨fuel, hf⟩ := h
  have hcs : (Value.slice a len cap).cells.toList = [.slice a len cap] := rfl
  rw [hcs] at hf
  obtain ⟨zs, hz⟩ := nest_rep hI d t _ hc fuel _ _ hf
  exact ⟨zs, hz⟩
end Go.Ab
