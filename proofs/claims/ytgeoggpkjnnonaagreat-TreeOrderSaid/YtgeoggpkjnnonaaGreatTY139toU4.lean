/- TreeOrder: the law. -/
import Derived.Test.YtgeoggpkjnnonaaGreatTY138toY130
import Derived.Test.YtgeoggpkjnnonaaGreatTX0toY60
namespace Go.Ab
open Go.Proofs
set_option linter.unusedSectionVars false
set_option maxRecDepth 100000
variable [Base]

def N7 : Table := ext N6 43 fun args H => match args, H with | [], [] => some (none, .a (.agg [.p (.l ndC rtL)]), []) | _, _ => none
theorem n7 : TSound Tryz.prog N7 := by
  refine ext_run n6 (f := 43) (fn := Tryz.f43) rfl rfl [0] fun args H p r' H' hs hp => ?_
  split at hs
  · cases hs
    refine ⟨Nat.le_of_ble_eq_true rfl, [], rfl, fun k hk => absurd hk (Nat.not_lt_zero k), ?_⟩
    repeat ((conv => whnf); refine ⟨by first | (unfold inI64; omega) | omega | exact ⟨by omega, by omega⟩ | exact rfl | decide +kernel, ?_⟩)
    conv => whnf
    exact ends_eq ⟨rfl, rfl⟩
  · cases hs
/-- The tree without properties. -/
def bare (ns : List Nd) : List Nd := flN ns fun _ _ => false
theorem bare_np {ns : List Nd} {i : Nat} (hi : i < ns.length) : (ndAt (bare ns) i).2.2 = [] := by
  unfold bare
  rw [fl_at _ hi]
  exact List.filter_eq_nil_iff.2 fun a _ => Bool.false_ne_true
theorem emb_root {x : List Nd} (hx : Vl x) (hnp : (ndAt x 0).2.2 = []) : Emb x rtL id := by
  have hl : rtL.length = 1 := rfl
  refine ⟨by rw [hl]; exact Nat.one_pos, by rw [hl]; decide, rfl, fun i j h => h, fun i hi => ?_, rfl, fun i hi => ?_, fun i i0 hi => ?_, fun i hi => ?_⟩
  · have := hx.f.len.1
    show i < x.length
    omega
  · obtain rfl : i = 0 := by omega
    have h4 := frm_nd hx.f.frm hx.f.len.1
    unfold ndFrm at h4
    obtain ⟨h5, _⟩ := Bool.and_eq_true_iff.1 h4
    obtain ⟨h6, _⟩ := Bool.and_eq_true_iff.1 h5
    simp at h6
    exact Prod.ext h6.2.symm hnp.symm
  · omega
  · omega
def saysOrd : Says := fun args H => match args, H with
  | [.c (.p (.l (.int .i64) _))], [] => some (none, .bool true, [])
  | _, _ => none
def N8 : Table := ext N7 5 saysOrd
set_option maxHeartbeats 4000000 in
theorem n8 : TSound Tryz.prog N8 := by
  refine ext_run n7 (f := 5) (fn := Tryz.f5) rfl rfl [0, 2, 3, 4, 5, 6, 7, 9, 10, 12, 13, 14, 16, 18, 19, 20, 21, 36, 39, 40, 41, 42, 58, 79, 86, 87, 88, 89, 100, 101, 102, 103, 128] fun args H p r' H' hs hp => ?_
  unfold saysOrd at hs
  split at hs
  · rename_i zs
    cases hs
    refine ⟨Nat.le_of_ble_eq_true rfl, [], rfl, fun k hk => absurd hk (Nat.not_lt_zero k), ?_⟩
    have ht0 := tape_nw9 zs
    generalize hz : (zs : List Int).take 500 = ys at ht0
    obtain ⟨R, hR⟩ : ∃ R, grV ys 0 8 = R := ⟨_, rfl⟩
    have hv := gr_vl ys 0 8
    have hx := gr_ok (zs := ys) (n := 0) (k := 8) ht0
    rw [hR] at hv hx
    obtain ⟨ns, x⟩ := R
    have hv : Vl ns := hv
    have hx : tapeOk ys x := hx
    have hlen := hv.f.len
    have q1 : tapeOk ys 0 ∧ (0 : Int) ≤ 8 ∧ (8 : Int) ≤ 100 := ⟨ht0, by decide, by decide⟩
    have q2 : tapeOk ys x ∧ 0 ≤ ((ns.length : Nat) : Int) ∧ ((ns.length : Nat) : Int) ≤ 1000 := ⟨hx, by omega, by omega⟩
    conv => whnf
    rw [hz]
    repeat ((conv => whnf); refine ⟨by first | exact q1 | (unfold inI64; omega) | omega | exact ⟨by omega, by omega⟩ | exact rfl | decide +kernel, ?_⟩)
    conv => whnf
    rw [hR]
    repeat ((conv => whnf); refine ⟨by first | exact q2 | (unfold inI64; omega) | omega | exact ⟨by omega, by omega⟩ | exact rfl | decide +kernel, ?_⟩)
    conv => whnf
    have hof := or_f ys x ns.length
    have hxo : tapeOk ys (orV ys x ((ns.length : Nat) : Int)).2 := or_ok _ _ _ _ hx
    obtain ⟨O, hO⟩ : ∃ O, orV ys x ((ns.length : Nat) : Int) = O := ⟨_, rfl⟩
    rw [hO] at hof hxo ⊢
    obtain ⟨l, x1⟩ := O
    have hof : OrF l ns.length := hof
    have hxo : tapeOk ys x1 := hxo
    have hb : Vl (bare ns) := fl_vl hv _
    have hbs : Sm ns (bare ns) := fl_sm ns _
    have hbl : (bare ns).length = ns.length := fl_len ns _
    refine loop_intro (σ := Nat × List Nd) (fun ⟨r, y⟩ => [(0, XV.s .none), (2, XV.s .none), (3, XV.s (.a (.c (.ptr 0 0)))), (4, XV.s (.a (.c (.ptr 1 0)))), (5, XV.s (.a (.c (.ptr 2 0)))), (6, XV.s (.a (.c (.p (.l (.int .i64) l))))), (7, XV.s (.int .i64 (r : Nat))), (9, XV.s .none), (10, XV.s .none), (12, XV.s .none), (13, XV.s .none), (14, XV.s .none), (16, XV.s .none), (18, XV.s .none), (19, XV.s .none), (20, XV.s .none), (21, XV.s .none), (36, XV.s .none), (39, XV.s .none), (40, XV.s .none), (41, XV.s .none), (42, XV.s .none), (58, XV.s .none), (79, XV.s .none), (86, XV.s .none), (87, XV.s .none), (88, XV.s .none), (89, XV.s .none), (100, XV.s .none), (101, XV.s .none), (102, XV.s .none), (103, XV.s .none), (128, XV.s .none)])
      (fun ⟨_, y⟩ => [tapeO ys x1, .row [.p (.l ndC ns)], .row [.p (.l ndC y)]]) (fun ⟨r, y⟩ => r ≤ ns.length ∧ ∃ g, Emb (bare ns) y g ∧ ∀ j, j ≤ r → j < ns.length → inT y (bare ns) j) (fun ⟨r, _⟩ => ns.length - r) (0, rtL) ?_ ?_ ⟨Nat.zero_le _, id, emb_root hb (bare_np (by omega)), fun j hj _ => ?_⟩ ?_
    · repeat (first | exact LeL.nil | refine LeL.drop ?_ | refine LeL.same ?_)
    · show [tapeO ys (orV ys x ((ns.length : Nat) : Int)).2, AO.row [.p (.l ndC ns)], AO.row [.p (.l ndC rtL)]] = _
      rw [hO]
    · obtain rfl : j = 0 := by omega
      unfold inT
      rw [in_of hb (emb_root hb (bare_np (by omega))) (i := 0) (k := 0) Nat.one_pos rfl]
    rintro ⟨r, y⟩ ⟨hr, g, hg, hin⟩
    conv => whnf
    refine cond_intro (fun h3 => ?_) (fun h3 => ?_)
    · have hrl : r < ns.length := lt_of_dec h3
      repeat ((conv => whnf); refine ⟨by first | (unfold inI64; omega) | omega | exact ⟨by omega, by omega⟩ | exact rfl | decide +kernel, ?_⟩)
      conv => whnf
      refine loop_intro (σ := Nat × List Nd) (fun ⟨c, y⟩ => [(0, XV.s .none), (2, XV.s .none), (3, XV.s (.a (.c (.ptr 0 0)))), (4, XV.s (.a (.c (.ptr 1 0)))), (5, XV.s (.a (.c (.ptr 2 0)))), (6, XV.s (.a (.c (.p (.l (.int .i64) l))))), (7, XV.s (.int .i64 (r : Nat))), (9, XV.s .none), (10, XV.s .none), (12, XV.s .none), (13, XV.s .none), (14, XV.s .none), (16, XV.s .none), (18, XV.s .none), (19, XV.s .none), (20, XV.s .none), (21, XV.s .none), (36, XV.s .none), (39, XV.s (.a (.c (.p (.l (.int .i64) l))))), (40, XV.s (.int .i64 (l.length : Nat))), (41, XV.s (.int .i64 (c : Nat))), (42, XV.s .none), (58, XV.s .none), (79, XV.s .none), (86, XV.s .none), (87, XV.s .none), (88, XV.s .none), (89, XV.s .none), (100, XV.s .none), (101, XV.s .none), (102, XV.s .none), (103, XV.s .none), (128, XV.s .none)])
        (fun ⟨_, y⟩ => [tapeO ys x1, .row [.p (.l ndC ns)], .row [.p (.l ndC y)]]) (fun ⟨c, y⟩ => c ≤ l.length ∧ ∃ g, Emb (bare ns) y g ∧ (∀ j, j ≤ r → j < ns.length → inT y (bare ns) j) ∧ ∀ d, d < c → l.getD d 0 = ((r + 1 : Nat) : Int) → inT y (bare ns) (r + 1)) (fun ⟨c, _⟩ => l.length - c) (0, y) ?_ rfl ⟨Nat.zero_le _, g, hg, hin, fun d hd => absurd hd (Nat.not_lt_zero d)⟩ ?_
      · repeat (first | exact LeL.nil | refine LeL.drop ?_ | refine LeL.same ?_)
      clear hin hg g
      rintro ⟨c, y⟩ ⟨hc, g, hg, hin, hdn⟩
      conv => whnf
      have hll := hof.len
      refine cond_intro (fun h4 => ?_) (fun h4 => ?_)
      · have hcl : c < l.length := lt_of_dec h4
        obtain ⟨k, hk, hkn⟩ := hof.rng c hcl
        have hcb : 0 ≤ (c : Int) ∧ (c : Int) < (l.length : Nat) := by omega
        have hpk := rpath_vl hv hkn
        rw [← hbs.path k] at hpk
        repeat ((conv => whnf); refine ⟨by first | exact hcb | exact ⟨rfl, trivial⟩ | (unfold inI64; omega) | omega | exact ⟨by omega, by omega⟩ | (intro hg; first | (unfold inI64; omega) | omega | exact ⟨by omega, by omega⟩ | (simp [lit] at hg; unfold inI64; omega) | (simp [lit] at hg; omega) | (simp [lit] at hg; exact ⟨by omega, by omega⟩)) | (show (_ : Nat) + 1 ≤ 1000000000000; omega) | exact rfl | (unfold inI64; dsimp only; omega) | (dsimp only; omega) | (intro hg; simp [lit] at hg; first | (unfold inI64; dsimp only; omega) | (dsimp only; omega)) | decide +kernel, ?_⟩)
        conv => whnf
        have hk' : l.getD ((c : Int)).toNat (CT.int .i64).dflt = (k : Int) := hk
        rw [hk', hpk]
        refine cond_intro (fun h5 => ?_) (fun h5 => ?_)
        · repeat ((conv => whnf); refine ⟨by first | (unfold inI64; omega) | omega | exact ⟨by omega, by omega⟩ | (intro hg; first | (unfold inI64; omega) | omega | exact ⟨by omega, by omega⟩ | (simp [lit] at hg; unfold inI64; omega) | (simp [lit] at hg; omega) | (simp [lit] at hg; exact ⟨by omega, by omega⟩)) | (show (_ : Nat) + 1 ≤ 1000000000000; omega) | exact rfl | (unfold inI64; dsimp only; omega) | (dsimp only; omega) | (intro hg; simp [lit] at hg; first | (unfold inI64; dsimp only; omega) | (dsimp only; omega)) | decide +kernel, ?_⟩)
          conv => whnf
          refine head_intro (c + 1, y) ?_ rfl ⟨hcl, g, hg, hin, fun d hd hdr => ?_⟩ (show l.length - (c + 1) < l.length - c by omega)
          · repeat (first | exact LeL.nil | refine LeL.drop ?_ | refine LeL.same ?_)
          · by_cases hdc : d = c
            · rw [hdc, hk] at hdr
              have hkr : k = r + 1 := by omega
              have h6 : ((rFindV (y, pathV (bare ns) k)).2 || decide ((k : Int) = 0)) = true := h5
              rw [decide_eq_false (by omega), Bool.or_false, rfind_in hb hg, hkr] at h6
              exact h6
            · exact hdn d (by omega) hdr
        have h6 : ((rFindV (y, pathV (bare ns) k)).2 || decide ((k : Int) = 0)) = false := h5
        obtain ⟨h7, h8⟩ := Bool.or_eq_false_iff.1 h6
        rw [rfind_in hb hg] at h7
        have hk0 : 0 < k := by
          have : ¬ (k : Int) = 0 := of_decide_eq_false h8
          omega
        have hadd := add_in hb hg hk0 (by rw [hbl]; exact hkn) (bare_np hkn) (ne_t h7)
        have hpar := par_lt hv.f.par hk0 hkn
        have hpp : rPathV (ns, (ns.getD ((k : Int)).toNat ndC.dflt).1) = pathV (bare ns) (paN (bare ns) k) := by
          have e1 : (ns.getD ((k : Int)).toNat ndC.dflt).1 = ((paN ns k : Nat) : Int) := hpar.2.symm
          rw [e1, rpath_vl hv (by omega), hbs.paN, hbs.path]
        have hnn : (ns.getD ((k : Int)).toNat ndC.dflt).2.1 = (ndAt (bare ns) k).2.1 := (hbs.nm k).symm
        have hkb : 0 ≤ (k : Int) ∧ (k : Int) < (ns.length : Nat) := by omega
        repeat ((conv => whnf); refine ⟨by first | exact hkb | exact ⟨rfl, trivial⟩ | (repeat ((conv => whnf); refine ⟨by ((conv => whnf); first | exact ⟨rfl, rfl, rfl⟩ | exact ⟨rfl, rfl⟩ | exact ⟨hkb, rfl, rfl, rfl⟩ | exact ⟨⟨rfl, trivial⟩, rfl, rfl, rfl⟩), ?_⟩)); ((conv => whnf); exact trivial) | ((conv => whnf); exact ⟨⟨rfl, rfl, rfl⟩, trivial⟩) | exact Early.one (by decide +kernel) (by (conv => whnf); exact ⟨rfl, rfl, rfl⟩) trivial | (unfold inI64; omega) | omega | exact ⟨by omega, by omega⟩ | (intro hg; first | (unfold inI64; omega) | omega | exact ⟨by omega, by omega⟩ | (simp [lit] at hg; unfold inI64; omega) | (simp [lit] at hg; omega) | (simp [lit] at hg; exact ⟨by omega, by omega⟩)) | (show (_ : Nat) + 1 ≤ 1000000000000; omega) | exact rfl | (unfold inI64; dsimp only; omega) | (dsimp only; omega) | (intro hg; simp [lit] at hg; first | (unfold inI64; dsimp only; omega) | (dsimp only; omega)) | decide +kernel, ?_⟩)
        conv => whnf
        rw [hpp, hnn]
        have hrn : ∀ d, d < l.length → l.getD d 0 = ((r + 1 : Nat) : Int) → r + 1 < ns.length := fun d hd h => by
          obtain ⟨j, hj, hjl⟩ := hof.rng d hd
          rw [hj] at h
          omega
        rcases hadd with ⟨y', g', ha, he2, hi1, hi2⟩ | ⟨hnp, e, ha, he⟩
        · rw [ha]
          repeat ((conv => whnf); refine ⟨by first | (unfold inI64; omega) | omega | exact ⟨by omega, by omega⟩ | (intro hg; first | (unfold inI64; omega) | omega | exact ⟨by omega, by omega⟩ | (simp [lit] at hg; unfold inI64; omega) | (simp [lit] at hg; omega) | (simp [lit] at hg; exact ⟨by omega, by omega⟩)) | (show (_ : Nat) + 1 ≤ 1000000000000; omega) | exact rfl | (unfold inI64; dsimp only; omega) | (dsimp only; omega) | (intro hg; simp [lit] at hg; first | (unfold inI64; dsimp only; omega) | (dsimp only; omega)) | decide +kernel, ?_⟩)
          conv => whnf
          refine head_keep (c + 1, y') [0, 1, 2] rfl id3 rfl ?_ ⟨hcl, g', he2, fun j h1 h2 => hi2 j (by rw [hbl]; exact h2) (hin j h1 h2), fun d hd hdr => ?_⟩ (show l.length - (c + 1) < l.length - c by omega)
          · repeat (first | exact KeepL.nil | refine KeepL.drop ?_ | refine KeepL.ren rfl ?_)
          · by_cases hdc : d = c
            · rw [hdc, hk] at hdr
              have hkr : k = r + 1 := by omega
              rw [← hkr]
              exact hi1
            · exact hi2 _ (by rw [hbl]; exact hrn d (by omega) hdr) (hdn d (by omega) hdr)
        · rw [ha]
          refine cond_intro (fun h9 => ?_) (fun h9 => ?_)
          · exact absurd (of_decide_eq_true h9) he
          repeat ((conv => whnf); refine ⟨by first | (unfold inI64; omega) | omega | exact ⟨by omega, by omega⟩ | (intro hg; first | (unfold inI64; omega) | omega | exact ⟨by omega, by omega⟩ | (simp [lit] at hg; unfold inI64; omega) | (simp [lit] at hg; omega) | (simp [lit] at hg; exact ⟨by omega, by omega⟩)) | (show (_ : Nat) + 1 ≤ 1000000000000; omega) | exact rfl | (unfold inI64; dsimp only; omega) | (dsimp only; omega) | (intro hg; simp [lit] at hg; first | (unfold inI64; dsimp only; omega) | (dsimp only; omega)) | decide +kernel, ?_⟩)
          conv => whnf
          refine head_keep (c + 1, y) [0, 1, 2] rfl id3 rfl ?_ ⟨hcl, g, hg, hin, fun d hd hdr => ?_⟩ (show l.length - (c + 1) < l.length - c by omega)
          · repeat (first | exact KeepL.nil | refine KeepL.drop ?_ | refine KeepL.ren rfl ?_)
          · by_cases hdc : d = c
            · rw [hdc, hk] at hdr
              have hkr : k = r + 1 := by omega
              exfalso
              refine hnp ?_
              rw [hbs.paN]
              exact hin _ (by omega) (by omega)
            · exact hdn d (by omega) hdr
      · have hce : c = l.length := by have := ge_of_dec h4; omega
        repeat ((conv => whnf); refine ⟨by first | (unfold inI64; omega) | omega | exact ⟨by omega, by omega⟩ | (intro hg; first | (unfold inI64; omega) | omega | exact ⟨by omega, by omega⟩ | (simp [lit] at hg; unfold inI64; omega) | (simp [lit] at hg; omega) | (simp [lit] at hg; exact ⟨by omega, by omega⟩)) | (show (_ : Nat) + 1 ≤ 1000000000000; omega) | exact rfl | (unfold inI64; dsimp only; omega) | (dsimp only; omega) | (intro hg; simp [lit] at hg; first | (unfold inI64; dsimp only; omega) | (dsimp only; omega)) | decide +kernel, ?_⟩)
        conv => whnf
        refine head_intro (r + 1, y) ?_ rfl ⟨hrl, g, hg, fun j h1 h2 => ?_⟩ (show ns.length - (r + 1) < ns.length - r by omega)
        · repeat (first | exact LeL.nil | refine LeL.drop ?_ | refine LeL.same ?_)
        · by_cases hj : j ≤ r
          · exact hin j hj h2
          · obtain ⟨d, hd, hdj⟩ := hof.all j h2
            have hjr : j = r + 1 := by omega
            rw [hjr] at hdj ⊢
            exact hdn d (by omega) hdj
    · have hre : r = ns.length := by have := ge_of_dec h3; omega
      have hyb : y = bare ns := emb_full hb hg fun j hj => hin j (by omega) (by omega)
      have q3 : tapeOk ys x1 ∧ 0 ≤ ((ns.length : Nat) : Int) ∧ ((ns.length : Nat) : Int) ≤ 1000 := ⟨hxo, by omega, by omega⟩
      rw [hyb]
      repeat ((conv => whnf); refine ⟨by first | exact q3 | (unfold inI64; omega) | omega | exact ⟨by omega, by omega⟩ | (intro hg; first | (unfold inI64; omega) | omega | exact ⟨by omega, by omega⟩ | (simp [lit] at hg; unfold inI64; omega) | (simp [lit] at hg; omega) | (simp [lit] at hg; exact ⟨by omega, by omega⟩)) | (show (_ : Nat) + 1 ≤ 1000000000000; omega) | exact rfl | (unfold inI64; dsimp only; omega) | (dsimp only; omega) | (intro hg; simp [lit] at hg; first | (unfold inI64; dsimp only; omega) | (dsimp only; omega)) | decide +kernel, ?_⟩)
      conv => whnf
      have hof2 := or_f ys x1 ns.length
      have hxo2 : tapeOk ys (orV ys x1 ((ns.length : Nat) : Int)).2 := or_ok _ _ _ _ hxo
      obtain ⟨O2, hO2⟩ : ∃ O2, orV ys x1 ((ns.length : Nat) : Int) = O2 := ⟨_, rfl⟩
      rw [hO2] at hof2 hxo2 ⊢
      obtain ⟨l2, x2⟩ := O2
      have hof2 : OrF l2 ns.length := hof2
      have hxo2 : tapeOk ys x2 := hxo2
      have hll2 := hof2.len
      refine loop_intro (σ := Nat × (Nat → ByteArray → Bool) × Int) (fun ⟨c1, _, _⟩ => [(0, XV.s .none), (2, XV.s .none), (3, XV.s (.a (.c (.ptr 0 0)))), (4, XV.s (.a (.c (.ptr 1 0)))), (5, XV.s (.a (.c (.ptr 2 0)))), (6, XV.s .none), (7, XV.s .none), (9, XV.s .none), (10, XV.s .none), (12, XV.s .none), (13, XV.s .none), (14, XV.s .none), (16, XV.s .none), (18, XV.s .none), (19, XV.s .none), (20, XV.s .none), (21, XV.s .none), (36, XV.s .none), (39, XV.s .none), (40, XV.s .none), (41, XV.s .none), (42, XV.s .none), (58, XV.s .none), (79, XV.s .none), (86, XV.s (.a (.c (.p (.l (.int .i64) l2))))), (87, XV.s (.int .i64 (l2.length : Nat))), (88, XV.s (.int .i64 (c1 : Nat))), (89, XV.s .none), (100, XV.s .none), (101, XV.s .none), (102, XV.s .none), (103, XV.s .none), (128, XV.s .none)])
        (fun ⟨_, S, n⟩ => [tapeO ys n, .row [.p (.l ndC ns)], .row [.p (.l ndC (flN ns S))]]) (fun ⟨c1, S, n⟩ => c1 ≤ l2.length ∧ tapeOk ys n ∧ ∀ d, d < c1 → ∀ j : Nat, l2.getD d 0 = (j : Int) → ∀ p ∈ (ndAt ns j).2.2, S j p.1 = true) (fun ⟨c1, _, _⟩ => l2.length - c1) (0, fun _ _ => false, x2) ?_ ?_ ⟨Nat.zero_le _, hxo2, fun d hd => absurd hd (Nat.not_lt_zero d)⟩ ?_
      · repeat (first | exact LeL.nil | refine LeL.drop ?_ | refine LeL.same ?_)
      · show [tapeO ys (orV ys x1 ((ns.length : Nat) : Int)).2, AO.row [.p (.l ndC ns)], AO.row [.p (.l ndC (bare ns))]] = _
        rw [hO2]
        rfl
      rintro ⟨c1, S, n⟩ ⟨hc1, hn, hS⟩
      conv => whnf
      refine cond_intro (fun h10 => ?_) (fun h10 => ?_)
      · have hcl : c1 < l2.length := lt_of_dec h10
        obtain ⟨k, hk, hkn⟩ := hof2.rng c1 hcl
        have hcb : 0 ≤ (c1 : Int) ∧ (c1 : Int) < (l2.length : Nat) := by omega
        have hk' : l2.getD ((c1 : Int)).toNat (CT.int .i64).dflt = (k : Int) := hk
        have hkb : 0 ≤ (k : Int) ∧ (k : Int) < (ns.length : Nat) := by omega
        have hkb2 : 0 ≤ l2.getD ((c1 : Int)).toNat (CT.int .i64).dflt ∧ @LT.lt Int _ (l2.getD ((c1 : Int)).toNat (CT.int .i64).dflt) (ns.length : Nat) := by rw [hk']; exact hkb
        obtain ⟨ps, hps⟩ : ∃ ps, (ndAt ns k).2.2 = ps := ⟨_, rfl⟩
        obtain ⟨hpl, hpm⟩ := lim_ps hv hkn
        rw [hps] at hpl hpm
        have hps' : (ns.getD ((k : Int)).toNat ndC.dflt).2.2 = ps := hps
        have q4 : tapeOk ys n ∧ 0 ≤ ((ps.length : Nat) : Int) ∧ ((ps.length : Nat) : Int) ≤ 1000 := ⟨hn, by omega, by omega⟩
        have q5 : tapeOk ys n ∧ 0 ≤ (((ns.getD (l2.getD ((c1 : Int)).toNat (CT.int .i64).dflt).toNat ndC.dflt).2.2.length : Nat) : Int) ∧ (((ns.getD (l2.getD ((c1 : Int)).toNat (CT.int .i64).dflt).toNat ndC.dflt).2.2.length : Nat) : Int) ≤ 1000 := by
          rw [hk', hps']
          exact q4
        repeat ((conv => whnf); refine ⟨by first | exact hcb | exact hkb2 | exact q5 | (unfold inI64; omega) | omega | exact ⟨by omega, by omega⟩ | (intro hg; first | (unfold inI64; omega) | omega | exact ⟨by omega, by omega⟩ | (simp [lit] at hg; unfold inI64; omega) | (simp [lit] at hg; omega) | (simp [lit] at hg; exact ⟨by omega, by omega⟩)) | (show (_ : Nat) + 1 ≤ 1000000000000; omega) | exact rfl | (unfold inI64; dsimp only; omega) | (dsimp only; omega) | (intro hg; simp [lit] at hg; first | (unfold inI64; dsimp only; omega) | (dsimp only; omega)) | decide +kernel, ?_⟩)
        conv => whnf
        rw [hk', hps']
        have hof3 := or_f ys n ps.length
        have hxo3 : tapeOk ys (orV ys n ((ps.length : Nat) : Int)).2 := or_ok _ _ _ _ hn
        obtain ⟨O3, hO3⟩ : ∃ O3, orV ys n ((ps.length : Nat) : Int) = O3 := ⟨_, rfl⟩
        rw [hO3] at hof3 hxo3 ⊢
        obtain ⟨l3, x3⟩ := O3
        have hof3 : OrF l3 ps.length := hof3
        have hxo3 : tapeOk ys x3 := hxo3
        have hll3 := hof3.len
        refine loop_intro (σ := Nat × (Nat → ByteArray → Bool)) (fun ⟨c2, _⟩ => [(0, XV.s .none), (2, XV.s .none), (3, XV.s (.a (.c (.ptr 0 0)))), (4, XV.s (.a (.c (.ptr 1 0)))), (5, XV.s (.a (.c (.ptr 2 0)))), (6, XV.s .none), (7, XV.s .none), (9, XV.s .none), (10, XV.s .none), (12, XV.s .none), (13, XV.s .none), (14, XV.s .none), (16, XV.s (.int .i64 (k : Nat))), (18, XV.s .none), (19, XV.s .none), (20, XV.s .none), (21, XV.s .none), (36, XV.s .none), (39, XV.s .none), (40, XV.s .none), (41, XV.s .none), (42, XV.s .none), (58, XV.s .none), (79, XV.s .none), (86, XV.s (.a (.c (.p (.l (.int .i64) l2))))), (87, XV.s (.int .i64 (l2.length : Nat))), (88, XV.s (.int .i64 (c1 : Nat))), (89, XV.s .none), (100, XV.s (.a (.c (.p (.l (.int .i64) l3))))), (101, XV.s (.int .i64 (l3.length : Nat))), (102, XV.s (.int .i64 (c2 : Nat))), (103, XV.s .none), (128, XV.s .none)])
          (fun ⟨_, S⟩ => [tapeO ys x3, .row [.p (.l ndC ns)], .row [.p (.l ndC (flN ns S))]]) (fun ⟨c2, S⟩ => c2 ≤ l3.length ∧ (∀ d, d < c1 → ∀ j : Nat, l2.getD d 0 = (j : Int) → ∀ p ∈ (ndAt ns j).2.2, S j p.1 = true) ∧ ∀ d, d < c2 → ∀ i : Nat, l3.getD d 0 = (i : Int) → S k (ptAt ps i).1 = true) (fun ⟨c2, _⟩ => l3.length - c2) (0, S) ?_ ?_ ⟨Nat.zero_le _, hS, fun d hd => absurd hd (Nat.not_lt_zero d)⟩ ?_
        · repeat (first | exact LeL.nil | refine LeL.drop ?_ | refine LeL.same ?_)
        · show [tapeO ys (orV ys n ((ps.length : Nat) : Int)).2, AO.row [.p (.l ndC ns)], AO.row [.p (.l ndC (flN ns S))]] = _
          rw [hO3]
        clear hS
        rintro ⟨c2, S⟩ ⟨hc2, hS, hT⟩
        conv => whnf
        refine cond_intro (fun h11 => ?_) (fun h11 => ?_)
        · have hcl2 : c2 < l3.length := lt_of_dec h11
          obtain ⟨i, hi, hil⟩ := hof3.rng c2 hcl2
          have hcb3 : 0 ≤ (c2 : Int) ∧ (c2 : Int) < (l3.length : Nat) := by omega
          have hi' : l3.getD ((c2 : Int)).toNat (CT.int .i64).dflt = (i : Int) := hi
          have hib : 0 ≤ (i : Int) ∧ (i : Int) < (ps.length : Nat) := by omega
          have hib2 : 0 ≤ l3.getD ((c2 : Int)).toNat (CT.int .i64).dflt ∧ @LT.lt Int _ (l3.getD ((c2 : Int)).toNat (CT.int .i64).dflt) ((ns.getD ((k : Int)).toNat ndC.dflt).2.2.length : Nat) := by rw [hi', hps']; exact hib
          repeat ((conv => whnf); refine ⟨by first | exact hcb3 | exact hkb | exact hib2 | exact ⟨rfl, trivial⟩ | (repeat ((conv => whnf); refine ⟨by ((conv => whnf); first | exact ⟨rfl, rfl, rfl⟩ | exact ⟨rfl, rfl⟩ | exact ⟨hkb, rfl, rfl, rfl⟩ | exact ⟨⟨rfl, trivial⟩, rfl, rfl, rfl⟩), ?_⟩)); ((conv => whnf); exact trivial) | ((conv => whnf); exact ⟨⟨rfl, rfl, rfl⟩, trivial⟩) | exact Early.one (by decide +kernel) (by (conv => whnf); exact ⟨rfl, rfl, rfl⟩) trivial | (unfold inI64; omega) | omega | exact ⟨by omega, by omega⟩ | (intro hg; first | (unfold inI64; omega) | omega | exact ⟨by omega, by omega⟩ | (simp [lit] at hg; unfold inI64; omega) | (simp [lit] at hg; omega) | (simp [lit] at hg; exact ⟨by omega, by omega⟩)) | (show (_ : Nat) + 1 ≤ 1000000000000; omega) | exact rfl | (unfold inI64; dsimp only; omega) | (dsimp only; omega) | (intro hg; simp [lit] at hg; first | (unfold inI64; dsimp only; omega) | (dsimp only; omega)) | decide +kernel, ?_⟩)
          conv => whnf
          have hmem : ptAt ps i ∈ (ndAt ns k).2.2 := by
            rw [hps, pt_at' hil]
            exact List.getElem_mem hil
          have hs : SetV (flN ns S, pathV ns k, (ps.getD ((i : Int)).toNat ptC.dflt).1, (ps.getD ((i : Int)).toNat ptC.dflt).2) = (flN ns (flS S k (ptAt ps i).1), 0) := fl_st hv hkn S (p := ptAt ps i) hmem
          have hmono : ∀ j t, S j t = true → flS S k (ptAt ps i).1 j t = true := fun j t h => by
            unfold flS
            rw [h, Bool.true_or]
          rw [hi', hps', rpath_vl hv hkn, hs]
          repeat ((conv => whnf); refine ⟨by first | (unfold inI64; omega) | omega | exact ⟨by omega, by omega⟩ | (intro hg; first | (unfold inI64; omega) | omega | exact ⟨by omega, by omega⟩ | (simp [lit] at hg; unfold inI64; omega) | (simp [lit] at hg; omega) | (simp [lit] at hg; exact ⟨by omega, by omega⟩)) | (show (_ : Nat) + 1 ≤ 1000000000000; omega) | exact rfl | (unfold inI64; dsimp only; omega) | (dsimp only; omega) | (intro hg; simp [lit] at hg; first | (unfold inI64; dsimp only; omega) | (dsimp only; omega)) | decide +kernel, ?_⟩)
          conv => whnf
          refine head_keep (c2 + 1, flS S k (ptAt ps i).1) [0, 1, 2] rfl id3 rfl ?_ ⟨hcl2, fun d hd j hj p hp => hmono j _ (hS d hd j hj p hp), fun d hd i2 hi2 => ?_⟩ (show l3.length - (c2 + 1) < l3.length - c2 by omega)
          · repeat (first | exact KeepL.nil | refine KeepL.drop ?_ | refine KeepL.ren rfl ?_)
          · by_cases hdc : d = c2
            · rw [hdc, hi] at hi2
              have hii : i2 = i := by omega
              rw [hii]
              unfold flS
              rw [decide_eq_true rfl, decide_eq_true rfl, Bool.and_self, Bool.or_true]
            · exact hmono k _ (hT d (by omega) i2 hi2)
        · have hce : c2 = l3.length := by have := ge_of_dec h11; omega
          repeat ((conv => whnf); refine ⟨by first | (unfold inI64; omega) | omega | exact ⟨by omega, by omega⟩ | (intro hg; first | (unfold inI64; omega) | omega | exact ⟨by omega, by omega⟩ | (simp [lit] at hg; unfold inI64; omega) | (simp [lit] at hg; omega) | (simp [lit] at hg; exact ⟨by omega, by omega⟩)) | (show (_ : Nat) + 1 ≤ 1000000000000; omega) | exact rfl | (unfold inI64; dsimp only; omega) | (dsimp only; omega) | (intro hg; simp [lit] at hg; first | (unfold inI64; dsimp only; omega) | (dsimp only; omega)) | decide +kernel, ?_⟩)
          conv => whnf
          refine head_intro (c1 + 1, S, x3) ?_ rfl ⟨hcl, hxo3, fun d hd j hj p hp => ?_⟩ (show l2.length - (c1 + 1) < l2.length - c1 by omega)
          · repeat (first | exact LeL.nil | refine LeL.drop ?_ | refine LeL.same ?_)
          · by_cases hdc : d = c1
            · rw [hdc, hk] at hj
              have hjk : j = k := by omega
              rw [hjk, hps] at hp
              rw [hjk]
              obtain ⟨i, hi, he⟩ := List.getElem_of_mem hp
              obtain ⟨d2, hd2, hdi⟩ := hof3.all i hi
              have h12 := hT d2 (by omega) i hdi
              rw [pt_at' hi, he] at h12
              exact h12
            · exact hS d (by omega) j hj p hp
      · have hce : c1 = l2.length := by have := ge_of_dec h10; omega
        have hfin : flN ns S = ns := fl_all fun i hi p hp => by
          obtain ⟨d, hd, hdi⟩ := hof2.all i hi
          exact hS d (by omega) i hdi p hp
        have hTT : TTOk (ns, ns) := ⟨show ns.length ≤ 1000000000 by omega, fun i hi => Nat.le_trans (lim_ps hv hi).1 (by decide)⟩
        rw [hfin]
        repeat ((conv => whnf); refine ⟨by first | exact ⟨rfl, hTT⟩ | exact fun _ => ⟨rfl, hTT⟩ | exact fun _ => ⟨rfl, trivial⟩ | (unfold inI64; omega) | omega | exact ⟨by omega, by omega⟩ | (intro hg; first | (unfold inI64; omega) | omega | exact ⟨by omega, by omega⟩ | (simp [lit] at hg; unfold inI64; omega) | (simp [lit] at hg; omega) | (simp [lit] at hg; exact ⟨by omega, by omega⟩)) | (show (_ : Nat) + 1 ≤ 1000000000000; omega) | exact rfl | (unfold inI64; dsimp only; omega) | (dsimp only; omega) | (intro hg; simp [lit] at hg; first | (unfold inI64; dsimp only; omega) | (dsimp only; omega)) | decide +kernel, ?_⟩)
        conv => whnf
        show Ends (.bool (eqTB (ns, ns) && eqTB (ns, ns) && true)) [] (.bool true) []
        rw [eq_self]
        exact ends_eq ⟨rfl, rfl⟩
  · cases hs
end Go.Ab
namespace Go.Ab
open Go.RowKit
set_option linter.unusedSectionVars false

/-- The fields of a struct, each behind the one before it. -/
def nestGo (P : Program) (f : TypeId → Option CT) (tot : Nat) : List Field → Nat → Option CT
  | [], _ => none
  | [x], off => match f x.type with
    | some c => if x.offset = off ∧ P.cellsOf x.type = c.width ∧ tot = off + c.width then some c else none
    | none => none
  | x :: r, off => match f x.type, nestGo P f tot r (off + P.cellsOf x.type) with
    | some a, some b => if x.offset = off ∧ P.cellsOf x.type = a.width then some (.pair a b) else none
    | _, _ => none
/-- The shape of a type of numbers, texts, structs and slices. -/
def nestOf (P : Program) : Nat → TypeId → Option CT
  | 0, _ => none
  | d + 1, t => match P.underlying t with
    | some (.int k) => some (.int k)
    | some .bool => some .bool
    | some .string => some .str
    | some (.slice e) => match nestOf P d e with
      | some c => if P.cellsOf e = c.width then some (.list c) else none
      | none => none
    | some (.struct fs) => nestGo P (nestOf P d) (P.cellsOf t) fs.toList 0
    | _ => none

theorem CT.width_pos : ∀ t : CT, 0 < t.width
  | .pair a b => by have := CT.width_pos a; show 0 < a.width + b.width; omega
  | .int _ => Nat.one_pos
  | .bool => Nat.one_pos
  | .str => Nat.one_pos
  | .list _ => Nat.one_pos
  | .fn => Nat.one_pos
  | .map _ _ => Nat.one_pos

variable {H : Type} {enc : TypeId × Value → H} {P : Program} {w : World} {base : Nat} {spare : Nat → Bool} {held : Bool} {I : Cells}

theorem nestGo_tot {f : TypeId → Option CT} {tot : Nat} : ∀ (fs : List Field) (o : Nat) (c : CT), nestGo P f tot fs o = some c → o ≤ tot := by
  intro fs
  induction fs with
  | nil => intro o c h; cases h
  | cons u v ihh =>
    intro o c h
    cases v with
    | nil =>
      simp only [nestGo] at h
      split at h
      · split at h
        · rename_i hc; omega
        · cases h
      · cases h
    | cons v1 v2 =>
      simp only [nestGo] at h
      split at h
      · rename_i hh
        have := ihh _ _ hh
        omega
      · cases h

theorem nestGo_rep {f : TypeId → Option CT} {tot : Nat} {cs : List Value} (htot : tot = cs.length) :
    ∀ (fs : List Field) (off : Nat) (c : CT), nestGo P f tot fs off = some c → off ≤ cs.length →
      (∀ x ∈ fs, ∀ a, f x.type = some a → ∃ z : a.den, Rep I w a z ((cs.drop x.offset).take (P.cellsOf x.type))) → ∃ z : c.den, Rep I w c z (cs.drop off) := by
  intro fs
  induction fs with
  | nil => intro off c h; cases h
  | cons x r ih =>
    intro off c h ho hx
    cases r with
    | nil =>
      simp only [nestGo] at h
      cases hf : f x.type with
      | none => rw [hf] at h; cases h
      | some a =>
        rw [hf] at h
        dsimp only at h
        split at h
        · rename_i hc
          obtain rfl : a = c := Option.some.inj h
          obtain ⟨h1, h2, h3⟩ := hc
          obtain ⟨z, hz⟩ := hx x (by simp) a hf
          refine ⟨z, ?_⟩
          rwa [h1, List.take_of_length_le (by rw [List.length_drop]; omega)] at hz
        · cases h
    | cons y r =>
      simp only [nestGo] at h
      cases hf : f x.type with
      | none => rw [hf] at h; cases h
      | some a =>
        rw [hf] at h
        cases hg : nestGo P f tot (y :: r) (off + P.cellsOf x.type) with
        | none =>
          rw [hg] at h
          cases h
        | some b =>
          rw [hg] at h
          dsimp only at h
          split at h
          · rename_i hc
            cases h
            obtain ⟨h1, h2⟩ := hc
            have hle : off + P.cellsOf x.type ≤ cs.length := by
              have := nestGo_tot _ _ _ hg
              omega
            obtain ⟨z1, hz1⟩ := hx x (by simp) a hf
            obtain ⟨z2, hz2⟩ := ih _ b hg hle fun u hu => hx u (by simp [hu])
            refine ⟨(z1, z2), ⟨(cs.drop off).take (P.cellsOf x.type), cs.drop (off + P.cellsOf x.type), ?_, ?_, hz2⟩⟩
            · rw [← List.drop_drop, List.take_append_drop]
            · rwa [h1] at hz1
          · cases h

theorem choose_list' {α : Type} (n : Nat) (p : Nat → α → Prop) (h : ∀ i, i < n → ∃ z, p i z) : ∃ zs : List α, zs.length = n ∧ ∀ i z, zs[i]? = some z → p i z := by
  induction n with
  | zero => exact ⟨[], rfl, fun i z hz => by simp at hz⟩
  | succ n ih =>
    obtain ⟨zs, h1, h2⟩ := ih fun i hi => h i (by omega)
    obtain ⟨z, hz⟩ := h n (by omega)
    refine ⟨zs ++ [z], by simp [h1], fun i x hx => ?_⟩
    rcases Nat.lt_or_ge i zs.length with hi | hi
    · rw [List.getElem?_append_left hi] at hx
      exact h2 i x hx
    · have e : i = n := by
        have := (List.getElem?_eq_some_iff.1 hx).1
        simp at this
        omega
      subst e
      rw [List.getElem?_append_right (by omega), show i - zs.length = 0 by omega] at hx
      cases hx
      exact hz

theorem addr_add4 (b off n : Nat) : (⟨b, off, none⟩ : Addr).add n = ⟨b, off + n, none⟩ := by unfold Addr.add; split <;> simp_all
theorem cell_nospot {w : World} {a : Addr} {v : Value} (h : w.cell? a = some v) : a.spot = none := by
  unfold World.cell? at h
  split at h
  · split at h
    · cases h
    · rename_i hs
      cases hsp : a.spot with
      | none => rfl
      | some s => rw [hsp] at hs; simp at hs
  · cases h

theorem nest_rep (hI : ∀ b o, b < w.heap.size → I b o) : ∀ (d : Nat) (t : TypeId) (c : CT), nestOf P d t = some c → ∀ (fuel : Nat) (cs : List Value) (y : DataW H × List MemPlace), DataW.trod enc P w base spare held fuel t cs = some y → ∃ z : c.den, Rep I w c z cs := by
  intro d
  induction d with
  | zero => intro t c h; cases h
  | succ d ih =>
    intro t c h fuel cs y hy
    unfold nestOf at h
    split at h
    · rename_i k hu
      cases h
      obtain ⟨n, rfl, _⟩ := DataW.trod_int hu hy
      exact ⟨n, rfl⟩
    · rename_i hu
      cases h
      obtain ⟨b, rfl, _⟩ := DataW.trod_bool hu hy
      exact ⟨b, rfl⟩
    · rename_i hu
      cases h
      obtain ⟨s, rfl, _⟩ := DataW.trod_string hu hy
      exact ⟨s, rfl⟩
    · rename_i e hu
      split at h
      · rename_i c' hc
        split at h
        · rename_i hw
          cases h
          rcases DataW.trod_slice hu hy with ⟨rfl, _⟩ | ⟨a, len, cap, elems, rest, n, _, rfl, _, _, hl, _, hlen, hel, _, _⟩
          · exact ⟨[], .inl ⟨rfl, rfl⟩⟩
          · rcases Nat.eq_zero_or_pos len with h0 | h0
            · subst h0
              exact ⟨[], .inr (.inr ⟨rfl, a, cap, rfl⟩)⟩
            · have hwp := CT.width_pos c'
              have get : ∀ i, i < len → ∃ (cs : List Value) (z : c'.den), cs.length = c'.width ∧ Rep I w c' z cs ∧ ∀ j, j < c'.width → w.cell? ((a.add (i * P.cellsOf e)).add j) = cs[j]? := by
                intro i hi
                have h1 := hel i hi
                rw [List.getElem?_eq_getElem (by omega)] at h1
                obtain ⟨cs, h2, h3⟩ := Option.bind_eq_some_iff.1 h1
                obtain ⟨_, h4, h5⟩ := World.cells?_some h2
                obtain ⟨z, hz⟩ := ih e c' hc n cs _ h3
                exact ⟨cs, z, by rw [h4, hw], hz, fun j hj => h5 j (by rw [hw]; exact hj)⟩
              have hsp : a.spot = none := by
                obtain ⟨cs, _, hcl, _, hcell⟩ := get 0 h0
                have h6 := hcell 0 hwp
                rw [List.getElem?_eq_getElem (by omega)] at h6
                have h7 := cell_nospot h6
                have h8 : (a.add (0 * P.cellsOf e)).add 0 = a := by simp [Addr.add]
                rwa [h8] at h7
              obtain ⟨b, off, sp⟩ := a
              obtain rfl : sp = none := hsp
              have each : ∀ i, i < len → ∃ z : c'.den, ∃ us : List Value, us.length = c'.width ∧ Rep I w c' z us ∧ ∀ j u, us[j]? = some u → w.at' b (off + i * c'.width + j) = some u := by
                intro i hi
                obtain ⟨cs, z, hcl, hz, hcell⟩ := get i hi
                refine ⟨z, cs, hcl, hz, fun j u hj => ?_⟩
                have hjl : j < c'.width := by
                  have := (List.getElem?_eq_some_iff.1 hj).1
                  omega
                have h6 := hcell j hjl
                rw [addr_add4, addr_add4, hj, hw] at h6
                exact h6
              obtain ⟨zs, hz1, hz2⟩ := choose_list' len _ each
              refine ⟨zs, .inr (.inl ⟨b, off, cap, by rw [hz1], by rw [hz1]; exact hl, fun i z hi => ?_⟩)⟩
              obtain ⟨us, _, h2, h3⟩ := hz2 i z hi
              exact ⟨us, h2, fun j u hj => ⟨hI _ _ (cell_lt (h3 j u hj)), h3 j u hj⟩⟩
        · cases h
      · cases h
    · rename_i fs hu
      obtain ⟨xs, n, _, _, hl, hxl, hf⟩ := DataW.trod_struct hu hy
      obtain ⟨z, hz⟩ := nestGo_rep (P := P) hl.symm fs.toList 0 c h (Nat.zero_le _) fun x hx a ha => by
        obtain ⟨i, hi⟩ := List.getElem?_of_mem hx
        have hi' : fs[i]? = some x := by rw [← Array.getElem?_toList]; exact hi
        have h2 := hf i x hi'
        have hil : i < xs.length := by
          have := (Array.getElem?_eq_some_iff.1 hi').1
          omega
        rw [List.getElem?_eq_getElem hil] at h2
        exact ih x.type a ha n _ _ h2
      exact ⟨z, by rwa [List.drop_zero] at hz⟩
    · cases h

/-- A slice that is read, with slices in it: what it holds. -/
theorem nest_slice {t : TypeId} {c : CT} {d : Nat} {v : Value} {y : DataW H} {ps : List MemPlace} (hI : ∀ b o, b < w.heap.size → I b o) (hc : nestOf P d t = some (.list c))
    (h : DataW.Trod enc P w base spare held t v y ps) {a : Option Addr} {len cap : Nat} (hv : v = .slice a len cap) : ∃ zs : List c.den, RepV I w (.l c zs) v := by
  subst hv
  obtain ⟨fuel, hf⟩ := h
  have hcs : (Value.slice a len cap).cells.toList = [.slice a len cap] := rfl
  rw [hcs] at hf
  obtain ⟨zs, hz⟩ := nest_rep hI d t _ hc fuel _ _ hf
  exact ⟨zs, hz⟩
end Go.Ab
