/- The reference of package tree: walks. -/
import Derived.Test.YtnlifjljmbfomaaGreatTY71toY72
namespace Go.Ab
open Go.Proofs
set_option linter.unusedSectionVars false
set_option maxRecDepth 100000
variable [Base]
def posC (ns : List Nd) (nm : ByteArray) : List Int → Nat
 | [] => 0
 | c :: r => if bLe (ndAt ns c.toNat).2.1 nm = true then posC ns nm r + 1 else 0
theorem posC_le (ns : List Nd) (nm : ByteArray) : ∀ cs, posC ns nm cs ≤ cs.length := by
 intro cs
 induction cs with
 | nil => exact nR9 _
 | cons c r ih =>
  unfold posC
  split
  ·simp only [zC9]; omega
  ·exact nZ9 _
def insC (ns : List Nd) (i : Nat) (cs : List Int) : List Int := cs.take (posC ns (ndAt ns i).2.1 cs) ++ (i : Int) :: cs.drop (posC ns (ndAt ns i).2.1 cs)
def chGo (ns : List Nd) (node : Int) : Nat → Nat → List Int → List Int
 | 0, _, cs => cs
 | m + 1, i, cs => chGo ns node m (i + 1) (if (ndAt ns i).1 = node ∧ ¬ i = 0 then insC ns i cs else cs)
def chS (ns : List Nd) (node : Int) : List Int := chGo ns node ns.length 0 []
def wk : Nat → List Nd → Int → List Int
 | 0, _, _ => []
 | f + 1, ns, node => node :: (chS ns node).flatMap fun c => wk f ns c
def CsOk (n : Nat) (cs : List Int) : Prop := cs.length ≤ n ∧ ∀ c ∈ cs, 0 ≤ c ∧ c < (n : Int)
theorem CsOk.succ {n : Nat} {cs : List Int} (h : CsOk n cs) : CsOk (n + 1) cs := ⟨Nat.le_succ_of_le h.1, fun c hc => by
 have := h.2 c hc
 omega⟩
theorem insC_length (ns : List Nd) (i : Nat) (cs : List Int) : (insC ns i cs).length = cs.length + 1 := by
 unfold insC
 have := posC_le ns (ndAt ns i).2.1 cs
 simp only [zP9, List.length_take, zC9, List.length_drop]
 omega
theorem insC_mem {ns : List Nd} {i : Nat} {cs : List Int} {c : Int} (h : c ∈ insC ns i cs) : c = (i : Int) ∨ c ∈ cs := by
 unfold insC at h
 rcases List.mem_append.1 h with h | h
 ·exact .inr (List.mem_of_mem_take h)
 ·rcases List.mem_cons.1 h with h | h
  ·exact .inl h
  ·exact .inr (List.mem_of_mem_drop h)
theorem chGo_mem (ns : List Nd) (node : Int) : ∀ m i cs c, c ∈ chGo ns node m i cs → c ∈ cs ∨ ∃ j : Nat, c = (j : Int) ∧ i ≤ j ∧ j < i + m ∧ ¬ j = 0 ∧ (ndAt ns j).1 = node := by
 intro m
 induction m with
 | zero => intro i cs c h; exact .inl h
 | succ m ih =>
  intro i cs c h
  unfold chGo at h
  rcases ih _ _ _ h with h | ⟨j, h1, h2, h3, h4, h5⟩
  ·split at h
   ·rename_i hc
    rcases insC_mem h with h | h
    ·exact .inr ⟨i, h, nR9 _, by omega, hc.2, hc.1⟩
    ·exact .inl h
   ·exact .inl h
  ·exact .inr ⟨j, h1, by omega, by omega, h4, h5⟩
theorem chS_mem {ns : List Nd} {node c : Int} (h : c ∈ chS ns node) : ∃ j : Nat, c = (j : Int) ∧ 0 < j ∧ j < ns.length ∧ (ndAt ns j).1 = node := by
 rcases chGo_mem ns node _ _ _ _ h with h | ⟨j, h1, _, h3, h4, h5⟩
 ·cases h
 ·exact ⟨j, h1, by omega, by omega, h5⟩
def sWk (k : Nat) : Says := saysG daTI eaTI fun a => (some (FrmT a.1 ∧ 0 ≤ a.2 ∧ a.2 < (a.1.length : Nat) ∧ (a.1.length : Int) - a.2 ≤ (k : Nat) ∧ (wk k a.1 a.2).length ≤ 1000000000), .list (.int .i64) (wk k a.1 a.2))
abbrev tokI (n : Nat) (z : Bool) : AO := .tok 3 (.int .i64) n z
theorem wk_run (k : Nat) : TS9 (ext C7 115 (sWk k)) := by
 refine ext_rec c7 (f := 115) (fn := Tryz.f115) rfl rfl [0, 1, 2, 4, 5, 6, 7, 8, 9, 10, 12, 16, 17, 18, 19, 30, 48, 64, 65, 66, 67] (fun k args H p r' H' hs hp => ?_) k
 unfold sWk saysG at hs
 split at hs
 ·split at hs
  ·rename_i a _
   cases hs
   obtain ⟨rfl, hp⟩ := hp
   obtain ⟨ns, node⟩ := a
   obtain ⟨hf, h0, h1, hk, hbig⟩ : FrmT ns ∧ 0 ≤ node ∧ node < (ns.length : Nat) ∧ (ns.length : Int) - node ≤ (k : Nat) ∧ (wk k ns node).length ≤ 1000000000 := hp
   obtain ⟨k, rfl⟩ : ∃ q, k = q + 1 := ⟨k - 1, by omega⟩
   refine ⟨nB9 rfl, [], rfl, nK9, ?_⟩
   show runF _ _ _ [] [.agg [.p (.l ndC ns)], .c (.int .i64 node)] [] fun r H => Ends r H (.list (.int .i64) (wk (k + 1) ns node)) []
   have hlen := hf.len
   obtain ⟨X, hX⟩ : ∃ X, chS ns node = X := ⟨_, rfl⟩
   repeat ((conv => whnf); refine ⟨by first | (unfold inI64; omega) | omega | exact ⟨by omega, by omega⟩ | exact rfl | decide +kernel, ?_⟩)
   conv => whnf
   refine loop_weak (σ := Nat × Nat × List Int) (fun ⟨_, i, cs⟩ => [(0, nX9), (1, XV.s (.int .i64 node)), (2, XV.s (.a (.c (.ptr 0 0)))), (4, nX9), (5, XV.s (.a (.c (.own 1 (.int .i64) [node])))), (6, XV.s (.a (.c (.own 2 (.int .i64) cs)))), (7, nX9), (8, nX9), (9, nX9), (10, nX9), (12, nX9), (16, XV.s (.a (.c (.p (.l ndC ns))))), (17, XV.s (.int .i64 (ns.length : Nat))), (18, XV.s (.int .i64 (i : Nat))), (19, nX9), (30, nX9), (48, nX9), (64, nX9), (65, nX9), (66, nX9), (67, nX9)])
    (fun ⟨_, _, cs⟩ => [.row [.p (.l ndC ns)], tokI 1 false, tokI cs.length true]) (fun ⟨m, i, cs⟩ => i + m = ns.length ∧ CsOk i cs ∧ X = chGo ns node m i cs) (fun ⟨m, _, _⟩ => m) (ns.length, 0, []) ?_ ⟨Nat.zero_add _, ⟨nZ9 _, fun c hc => by cases hc⟩, hX.symm⟩ ?_
   ·refine Weak.own 3 ?_
    repeat first|exact wN9|refine wD9 ?_|refine wS9 ?_|refine wO9 ?_
   rintro ⟨m, i, cs⟩ ⟨him, hcs, hgo⟩
   repeat ((conv => whnf); refine ⟨by first | (unfold inI64; omega) | omega | exact ⟨by omega, by omega⟩ | exact rfl | decide +kernel, ?_⟩)
   conv => whnf
   refine cI9 ?_ ?_<;>intro h2
   ·have hlt := lt_of_dec h2
    obtain ⟨m, rfl⟩ : ∃ q, m = q + 1 := ⟨m - 1, by omega⟩
    have hin : 0 ≤ (i : Int) ∧ (i : Int) < (ns.length : Nat) := by omega
    have e : chGo ns node (m + 1) i cs = chGo ns node m (i + 1) (if (ndAt ns i).1 = node ∧ ¬ i = 0 then insC ns i cs else cs) := rfl
    rw [e] at hgo
    repeat ((conv => whnf); refine ⟨by first | exact hin | (unfold inI64; omega) | omega | exact ⟨by omega, by omega⟩ | exact rfl | decide +kernel, ?_⟩)
    conv => whnf
    rw [nd_at]
    refine cI9 ?_ ?_<;>intro h3
    ·have h4 : ¬ ((ndAt ns i).1 = node ∧ ¬ i = 0) := by
      have h5 : (!decide ((ndAt ns i).1 = node) || decide ((i : Int) = 0)) = true := h3
      rintro ⟨h6, h7⟩
      rw [dT9 h6, dF9 (by omega)] at h5
      cases h5
     rw [if_neg h4] at hgo
     repeat ((conv => whnf); refine ⟨by first | (unfold inI64; omega) | omega | exact ⟨by omega, by omega⟩ | exact rfl | decide +kernel, ?_⟩)
     conv => whnf
     refine kI9 (m, i + 1, cs) [0, 1, 2] rfl (fun k hk => id3 k (by have hk : k < 2 := hk; omega)) rfl ?_ ⟨by omega, hcs.succ, hgo⟩ (nS9 m)
     repeat first|exact kN9|refine kD9 ?_|refine kR9 rfl ?_
    have h4 : (ndAt ns i).1 = node ∧ ¬ i = 0 := by
     have h5 : (!decide ((ndAt ns i).1 = node) || decide ((i : Int) = 0)) = false := h3
     simp only [Bool.or_eq_false_iff, Bool.not_eq_false', decide_eq_true_eq, decide_eq_false_iff_not] at h5
     exact ⟨h5.1, by omega⟩
    rw [if_pos h4] at hgo
    repeat ((conv => whnf); refine ⟨by first | (unfold inI64; omega) | omega | exact ⟨by omega, by omega⟩ | exact rfl | decide +kernel, ?_⟩)
    conv => whnf
    refine lI9 (σ := Nat) (fun q => [(0, nX9), (1, XV.s (.int .i64 node)), (2, XV.s (.a (.c (.ptr 0 0)))), (4, nX9), (5, XV.s (.a (.c (.own 1 (.int .i64) [node])))), (6, XV.s (.a (.c (.own 2 (.int .i64) cs)))), (7, XV.s (.int .i64 (i : Nat))), (8, XV.s (.a (.c (.ptr 3 0)))), (9, XV.s (.int .i64 (q : Nat))), (10, nX9), (12, nX9), (16, XV.s (.a (.c (.p (.l ndC ns))))), (17, XV.s (.int .i64 (ns.length : Nat))), (18, XV.s (.int .i64 (i : Nat))), (19, nX9), (30, nX9), (48, nX9), (64, nX9), (65, nX9), (66, nX9), (67, nX9)])
     (fun _ => _) (fun q => q ≤ cs.length ∧ posC ns (ndAt ns i).2.1 cs = q + posC ns (ndAt ns i).2.1 (cs.drop q)) (fun q => cs.length - q) 0 ?_ rfl ⟨nZ9 _, (Nat.zero_add _).symm⟩ fun q hQ => ?_
    ·repeat first|exact lN9|refine lD9 ?_|refine lS9 ?_
    obtain ⟨hq, hpos⟩ := hQ
    have c0 : cs.length ≤ i := hcs.1
    have g1 : lit true (decide ((q : Int) < (cs.length : Nat))) = true → 0 ≤ (q : Int) ∧ (q : Int) < (cs.length : Nat) := fun hg => by
     have hg2 : decide ((q : Int) < (cs.length : Nat)) = true := hg
     have hg3 : (q : Int) < (cs.length : Nat) := oT9 hg2
     omega
    have g2 : lit true (decide ((q : Int) < (cs.length : Nat))) = true → 0 ≤ cs.getD q 0 ∧ cs.getD q 0 < (ns.length : Nat) := fun hg => by
     have hg2 := (g1 hg).2
     have hq2 : q < cs.length := by omega
     have he : cs.getD q 0 = cs[q] := by simp [hq2]
     rw [he]
     have := hcs.2 _ (List.getElem_mem hq2)
     omega
    repeat ((conv => whnf); refine ⟨by first | exact g1 | exact g2 | ((conv => whnf); exact ⟨⟨rfl, rfl, rfl⟩, trivial⟩) | exact Early.one (by decide +kernel) (by (conv => whnf); exact ⟨rfl, rfl, rfl⟩) trivial | (unfold inI64; omega) | omega | exact ⟨by omega, by omega⟩ | exact rfl | decide +kernel, ?_⟩)
    conv => whnf
    refine cI9 ?_ ?_<;>intro h5
    ·have h6 : (decide ((q : Int) < (cs.length : Nat)) && bLe (ndAt ns (cs.getD q 0).toNat).2.1 (ndAt ns i).2.1) = true := h5
     obtain ⟨h7, h8⟩ := bA9.1 h6
     have hq2 : q < cs.length := lt_of_dec h7
     have he : cs.getD q 0 = cs[q] := by simp [hq2]
     rw [he] at h8
     have h9 : posC ns (ndAt ns i).2.1 (cs.drop q) = posC ns (ndAt ns i).2.1 (cs.drop (q + 1)) + 1 := by
      rw [List.drop_eq_getElem_cons hq2]
      show (if _ then _ else _) = _
      rw [if_pos h8]
     repeat ((conv => whnf); refine ⟨by first | (unfold inI64; omega) | omega | exact ⟨by omega, by omega⟩ | exact rfl | decide +kernel, ?_⟩)
     conv => whnf
     have hI2 : q + 1 ≤ cs.length ∧ posC ns (ndAt ns i).2.1 cs = q + 1 + posC ns (ndAt ns i).2.1 (cs.drop (q + 1)) := ⟨by omega, by rw [hpos, h9]; omega⟩
     refine kI9 (q + 1) [0, 1, 2, 3] rfl id4 rfl ?_ hI2 (by show cs.length - (q + 1) < cs.length - q; omega)
     repeat first|exact kN9|refine kD9 ?_|refine kR9 rfl ?_
    have h6 : (decide ((q : Int) < (cs.length : Nat)) && bLe (ndAt ns (cs.getD q 0).toNat).2.1 (ndAt ns i).2.1) = false := h5
    have h9 : posC ns (ndAt ns i).2.1 (cs.drop q) = 0 := by
     by_cases hq2 : q < cs.length
     ·have he : cs.getD q 0 = cs[q] := by simp [hq2]
      rw [he, dT9 (by omega), Bool.true_and] at h6
      rw [List.drop_eq_getElem_cons hq2]
      show (if _ then _ else _) = _
      rw [if_neg (by rw [h6]; exact Bool.false_ne_true)]
     ·rw [List.drop_of_length_le (by omega)]
      rfl
    rw [h9] at hpos
    have hpos : posC ns (ndAt ns i).2.1 cs = q := hpos
    have c1 : (0 : Int) ≤ (q : Int) ∧ (q : Int) ≤ (cs.length : Nat) ∧ ((cs.length : Nat) : Int) ≤ (cs.length : Nat) := by omega
    have c2 : (0 : Int) ≤ (q : Int) ∧ (q : Int) = (q : Int) ∧ (q : Int) ≤ (cs.length : Nat) := by omega
    have d1 : (((cs.length : Nat) : Int)).toNat = cs.length := rfl
    have d2 : cs.take (((cs.length : Nat) : Int)).toNat = cs := by rw [d1, List.take_length]
    have c3 : 1 + ((cs.take (((cs.length : Nat) : Int)).toNat).drop q).length ≤ capBound := by
     rw [d2, List.length_drop]
     exact Nat.le_trans (m := 1000) (by omega) (by decide)
    have c4 : 0 < (([(i : Int)] ++ (cs.take (((cs.length : Nat) : Int)).toNat).drop q : List Int)).length := Nat.succ_pos _
    have c5 : (cs.take q).length + (([(i : Int)] ++ (cs.take (((cs.length : Nat) : Int)).toNat).drop q : List Int)).length ≤ capBound := by
     rw [d2, zP9, List.length_drop, List.length_take]
     exact Nat.le_trans (m := 1000) (by simp only [zC9, zN9]; omega) (by decide)
    repeat ((conv => whnf); refine ⟨by first | exact c1 | exact c2 | exact c3 | exact c4 | exact c5 | (unfold inI64; omega) | omega | exact ⟨by omega, by omega⟩ | exact rfl | decide +kernel, ?_⟩)
    conv => whnf
    have e9 : cs.take q ++ ([(i : Int)] ++ (cs.take (((cs.length : Nat) : Int)).toNat).drop q) = insC ns i cs := by
     rw [d2]
     unfold insC
     rw [hpos]
     rfl
    refine kI9 (m, i + 1, insC ns i cs) [0, 1, 5] rfl (fun k hk => by
     have hk : k < 2 := hk
     obtain rfl | rfl : k = 0 ∨ k = 1 := by omega
     all_goals rfl) ?_ ?_ ⟨by omega, ⟨by rw [insC_length]; omega, fun c hc => ?_⟩, hgo⟩ (nS9 m)
    ·show some [AO.row _, AO.tok _ _ 1 false, AO.tok _ _ ((cs.take q).length + (([(i : Int)] ++ (cs.take (((cs.length : Nat) : Int)).toNat).drop q : List Int)).length) true] = some [AO.row _, AO.tok _ _ 1 false, AO.tok _ _ (insC ns i cs).length true]
     rw [show (insC ns i cs).length = (cs.take q).length + (([(i : Int)] ++ (cs.take (((cs.length : Nat) : Int)).toNat).drop q : List Int)).length by rw [← e9, zP9]]
    ·rw [← e9]
     repeat first|exact kN9|refine kD9 ?_|refine kR9 rfl ?_
    ·rcases insC_mem hc with h | h
     ·rw [h]
      omega
     ·have := hcs.2 c h
      omega
   obtain rfl : m = 0 := by
    have := ge_of_dec h2
    omega
   have hXc : X = cs := hgo
   subst hXc
   have hew : wk (k + 1) ns node = node :: X.flatMap fun c => wk k ns c := by
    show node :: (chS ns node).flatMap _ = _
    rw [hX]
   rw [hew] at hbig ⊢
   have hsub : ∀ j, ([node] ++ (X.take j).flatMap fun c => wk k ns c).length ≤ 1000000000 := by
    intro j
    refine Nat.le_trans ?_ hbig
    have h9 : (X.flatMap fun c => wk k ns c) = ((X.take j).flatMap fun c => wk k ns c) ++ (X.drop j).flatMap fun c => wk k ns c := by
     rw [← List.flatMap_append, List.take_append_drop]
    rw [h9]
    simp only [zP9, zC9, zN9]
    omega
   have hstep : ∀ j, (hj : j < X.length) → ([node] ++ (X.take (j + 1)).flatMap fun c => wk k ns c) = ([node] ++ (X.take j).flatMap fun c => wk k ns c) ++ wk k ns (X.getD j 0) := by
    intro j hj
    have he : X.getD j 0 = X[j] := by simp [hj]
    rw [he, List.take_succ_eq_append_getElem hj, List.flatMap_append, List.append_assoc]
    simp
   repeat ((conv => whnf); refine ⟨by first | (unfold inI64; omega) | omega | exact ⟨by omega, by omega⟩ | exact rfl | decide +kernel, ?_⟩)
   conv => whnf
   refine lI9 (σ := Nat) (fun j => [(0, nX9), (1, XV.s (.int .i64 node)), (2, XV.s (.a (.c (.ptr 0 0)))), (4, nX9), (5, XV.s (.a (.c (.own 1 (.int .i64) ([node] ++ (X.take j).flatMap fun c => wk k ns c))))), (6, nX9), (7, nX9), (8, nX9), (9, nX9), (10, nX9), (12, nX9), (16, nX9), (17, nX9), (18, nX9), (19, nX9), (30, nX9), (48, nX9), (64, XV.s (.a (.c (.own 2 (.int .i64) X)))), (65, XV.s (.int .i64 (X.length : Nat))), (66, XV.s (.int .i64 (j : Nat))), (67, nX9)])
    (fun j => [.row [.p (.l ndC ns)], tokI ([node] ++ (X.take j).flatMap fun c => wk k ns c).length false, tokI X.length true]) (fun j => j ≤ X.length) (fun j => X.length - j) 0 ?_ rfl (nZ9 _) fun j hj => ?_
   ·repeat first|exact lN9|refine lD9 ?_|refine lS9 ?_
   have hXl : X.length ≤ ns.length := by
    have := hcs.1
    omega
   repeat ((conv => whnf); refine ⟨by first | (unfold inI64; omega) | omega | exact ⟨by omega, by omega⟩ | exact rfl | decide +kernel, ?_⟩)
   conv => whnf
   refine cI9 ?_ ?_<;>intro h6
   ·have hjt := lt_of_dec h6
    have hjn : 0 ≤ (j : Int) ∧ (j : Int) < (X.length : Nat) := by omega
    have hst := hstep j hjt
    have hs1 := hsub (j + 1)
    rw [hst, zP9] at hs1
    have hpre : (eaTI (ns, X.getD j 0) = eaTI (ns, X.getD j 0)) ∧ FrmT ns ∧ 0 ≤ X.getD j 0 ∧ X.getD j 0 < (ns.length : Nat) ∧ (ns.length : Int) - X.getD j 0 ≤ (k : Nat) ∧ (wk k ns (X.getD j 0)).length ≤ 1000000000 := by
     have he : X.getD j 0 = X[j] := by simp [hjt]
     have hm : X.getD j 0 ∈ chS ns node := by
      rw [hX, he]
      exact List.getElem_mem hjt
     obtain ⟨jj, e1, e2, e3, e4⟩ := chS_mem hm
     have e5 := (hf.par jj e2 e3).2
     have e6 : paI ns jj = node := e4
     rw [e6] at e5
     refine ⟨rfl, hf, by omega, by omega, by omega, by omega⟩
    have hcap : ([node] ++ (X.take j).flatMap fun c => wk k ns c).length + (wk k ns (X.getD j 0)).length ≤ capBound := Nat.le_trans hs1 (by decide)
    repeat ((conv => whnf); refine ⟨by first | exact hjn | exact hpre | exact hcap | (unfold inI64; omega) | omega | exact ⟨by omega, by omega⟩ | exact rfl | decide +kernel, ?_⟩)
    conv => whnf
    refine kI9 (j + 1) [0, 1, 2] rfl id3 ?_ ?_ (by show j + 1 ≤ _; omega) (by show X.length - (j + 1) < X.length - j; omega)
    ·show some [AO.row _, AO.tok _ _ (([node] ++ (X.take j).flatMap fun c => wk k ns c).length + (wk k ns (X.getD j 0)).length) false, AO.tok _ _ X.length true] = some [AO.row _, AO.tok _ _ ([node] ++ (X.take (j + 1)).flatMap fun c => wk k ns c).length false, AO.tok _ _ X.length true]
     rw [hst, zP9 (bs := wk k ns (X.getD j 0))]
    ·dsimp only
     rw [hst]
     repeat first|exact kN9|refine kD9 ?_|refine kR9 rfl ?_
   ·obtain rfl : j = X.length := by
     have := ge_of_dec h6
     omega
    repeat ((conv => whnf); refine ⟨by first | (unfold inI64; omega) | omega | exact ⟨by omega, by omega⟩ | exact rfl | decide +kernel, ?_⟩)
    conv => whnf
    rw [List.take_length]
    exact eR9
  ·cases hs
 ·cases hs
theorem nodup_bound : ∀ (n : Nat) (l : List Int), l.Nodup → (∀ x ∈ l, 0 ≤ x ∧ x < (n : Int)) → l.length ≤ n := by
 intro n
 induction n with
 | zero =>
  intro l _ h
  cases l with
  | nil => exact nR9 _
  | cons x l =>
   have := h x (List.mem_cons_self ..)
   omega
 | succ n ih =>
  intro l hd h
  by_cases hm : (n : Int) ∈ l
  ·have h1 : (l.erase (n : Int)).length = l.length - 1 := List.length_erase_of_mem hm
   have h2 := ih (l.erase (n : Int)) (hd.erase _) fun x hx => by
    have h3 := (List.Nodup.mem_erase_iff hd).1 hx
    have h4 := h x h3.2
    omega
   omega
  ·have h2 := ih l hd fun x hx => by
    have h4 := h x hx
    have : x ≠ (n : Int) := fun e => hm (e ▸ hx)
    omega
   omega
def upN (ns : List Nd) : Nat → Nat → Nat
 | 0, j => j
 | t + 1, j => upN ns t (paN ns j)
theorem upN_add (ns : List Nd) : ∀ t u j, upN ns (t + u) j = upN ns u (upN ns t j) := by
 intro t
 induction t with
 | zero => intro u j; rw [Nat.zero_add]; rfl
 | succ t ih =>
  intro u j
  rw [Nat.succ_add]
  exact ih u (paN ns j)
theorem par_le {ns : List Nd} (hf : FrmT ns) (j : Nat) : paN ns j ≤ j := by
 by_cases h0 : 0 < j
 ·by_cases h1 : j < ns.length
  ·exact Nat.le_of_lt (par_lt hf.par h0 h1).1
  ·have : paN ns j = 0 := by
    unfold paN paI ndAt
    rw [List.getD_eq_getElem?_getD, List.getElem?_eq_none (by omega)]
    rfl
   omega
 ·obtain rfl : j = 0 := by omega
  have h1 := frm_nd hf.frm hf.len.1
  unfold ndFrm at h1
  obtain ⟨h2, _⟩ := bA9.1 h1
  obtain ⟨h3, _⟩ := bA9.1 h2
  have h4 : (ndAt ns 0).1 = -1 := by
   by_cases hx : (ndAt ns 0).1 = -1
   ·exact hx
   ·rw [dF9 hx] at h3
    simp at h3
  unfold paN paI
  rw [h4]
  exact nR9 _
theorem up_le {ns : List Nd} (hf : FrmT ns) : ∀ t j, upN ns t j ≤ j := by
 intro t
 induction t with
 | zero => intro j; exact nR9 _
 | succ t ih => intro j; exact Nat.le_trans (ih _) (par_le hf j)
theorem wk_mem {ns : List Nd} (hf : FrmT ns) : ∀ k (i : Nat), i < ns.length → ∀ x ∈ wk k ns (i : Int), ∃ j t : Nat, x = (j : Int) ∧ j < ns.length ∧ upN ns t j = i := by
 intro k
 induction k with
 | zero => intro i _ x hx; cases hx
 | succ k ih =>
  intro i hi x hx
  rcases List.mem_cons.1 hx with rfl | hx
  ·exact ⟨i, 0, rfl, hi, rfl⟩
  ·obtain ⟨c, hc, hx⟩ := List.mem_flatMap.1 hx
   obtain ⟨jj, rfl, e2, e3, e4⟩ := chS_mem hc
   obtain ⟨j, t, h1, h2, h3⟩ := ih jj e3 x hx
   refine ⟨j, t + 1, h1, h2, ?_⟩
   rw [upN_add, h3]
   show paN ns jj = i
   have h5 := (par_lt hf.par e2 e3).2
   rw [e4] at h5
   omega
theorem insC_nodup {ns : List Nd} {i : Nat} {cs : List Int} (h : cs.Nodup) (hi : (i : Int) ∉ cs) : (insC ns i cs).Nodup := by
 unfold insC
 have h1 : (cs.take (posC ns (ndAt ns i).2.1 cs) ++ cs.drop (posC ns (ndAt ns i).2.1 cs)).Nodup := by rw [List.take_append_drop]; exact h
 rw [List.nodup_append] at h1 ⊢
 refine ⟨h1.1, List.nodup_cons.2 ⟨fun hm => hi (List.mem_of_mem_drop hm), h1.2.1⟩, ?_⟩
 intro a ha b hb
 rcases List.mem_cons.1 hb with rfl | hb
 ·exact fun e => hi (e ▸ List.mem_of_mem_take ha)
 ·exact h1.2.2 a ha b hb
theorem chGo_nodup (ns : List Nd) (node : Int) : ∀ (m i : Nat) (cs : List Int), cs.Nodup → (∀ c ∈ cs, c < (i : Int)) → (chGo ns node m i cs).Nodup := by
 intro m
 induction m with
 | zero => intro i cs h _; exact h
 | succ m ih =>
  intro i cs h hc
  unfold chGo
  refine ih _ _ ?_ ?_
  ·split
   ·exact insC_nodup h fun hm => by have := hc _ hm; omega
   ·exact h
  ·intro c hm
   split at hm
   ·rcases insC_mem hm with h1 | h1
    ·omega
    ·have := hc _ h1
     omega
   ·have := hc _ hm
    omega
theorem chS_nodup (ns : List Nd) (node : Int) : (chS ns node).Nodup := chGo_nodup ns node _ _ _ List.nodup_nil fun c hc => by cases hc
theorem up_same {ns : List Nd} (hf : FrmT ns) {i a b j t u : Nat} (ha0 : 0 < a) (han : a < ns.length) (hb0 : 0 < b) (hbn : b < ns.length) (hpa : paN ns a = i) (hpb : paN ns b = i) (hta : upN ns t j = a) (hub : upN ns u j = b) : a = b := by
 have key : ∀ {a b t u : Nat}, 0 < a → a < ns.length → 0 < b → b < ns.length → paN ns a = i → paN ns b = i → upN ns t j = a → upN ns u j = b → t ≤ u → a = b := by
  intro a b t u ha0 han hb0 hbn hpa hpb hta hub htu
  obtain ⟨d, rfl⟩ : ∃ d, u = t + d := ⟨u - t, by omega⟩
  rw [upN_add, hta] at hub
  cases d with
  | zero => exact hub
  | succ d =>
   have h1 : upN ns d (paN ns a) = b := hub
   rw [hpa] at h1
   have h2 := up_le hf d i
   have h3 := (par_lt hf.par hb0 hbn).1
   omega
 rcases Nat.le_total t u with h | h
 ·exact key ha0 han hb0 hbn hpa hpb hta hub h
 ·exact (key hb0 hbn ha0 han hpb hpa hub hta h).symm
theorem wk_nodup {ns : List Nd} (hf : FrmT ns) : ∀ k (i : Nat), i < ns.length → (wk k ns (i : Int)).Nodup := by
 intro k
 induction k with
 | zero => intro i _; exact List.nodup_nil
 | succ k ih =>
  intro i hi
  have hch : ∀ c ∈ chS ns (i : Int), ∃ jj : Nat, c = (jj : Int) ∧ 0 < jj ∧ jj < ns.length ∧ paN ns jj = i := by
   intro c hc
   obtain ⟨jj, e1, e2, e3, e4⟩ := chS_mem hc
   have h5 := (par_lt hf.par e2 e3).2
   rw [e4] at h5
   exact ⟨jj, e1, e2, e3, by omega⟩
  refine List.nodup_cons.2 ⟨fun hm => ?_, ?_⟩
  ·obtain ⟨c, hc, hx⟩ := List.mem_flatMap.1 hm
   obtain ⟨jj, rfl, e2, e3, e4⟩ := hch c hc
   obtain ⟨j, t, h1, h2, h3⟩ := wk_mem hf k jj e3 _ hx
   have h4 := up_le hf t j
   have h5 := (par_lt hf.par e2 e3).1
   omega
  ·refine List.pairwise_flatMap.2 ⟨fun c hc => ?_, ?_⟩
   ·obtain ⟨jj, rfl, e2, e3, e4⟩ := hch c hc
    exact ih jj e3
   ·refine List.Pairwise.imp_of_mem (fun {c d} hc hd hne x hx y hy he => ?_) (chS_nodup ns (i : Int))
    obtain ⟨jj, rfl, e2, e3, e4⟩ := hch c hc
    obtain ⟨kk, rfl, f2, f3, f4⟩ := hch d hd
    obtain ⟨j, t, h1, h2, h3⟩ := wk_mem hf k jj e3 _ hx
    obtain ⟨j', u, g1, g2, g3⟩ := wk_mem hf k kk f3 _ hy
    have : j' = j := by omega
    subst this
    have := up_same hf e2 e3 f2 f3 e4 f4 h3 g3
    exact hne (by rw [this])
theorem wk_length {ns : List Nd} (hf : FrmT ns) (k : Nat) {i : Nat} (hi : i < ns.length) : (wk k ns (i : Int)).length ≤ ns.length :=
 nodup_bound _ _ (wk_nodup hf k i hi) fun x hx => by
  obtain ⟨j, _, h1, h2, _⟩ := wk_mem hf k i hi x hx
  omega
def C8 : Table := ext C7 115 (sWk 120)
theorem c8 : TS9 C8 := wk_run 120
def idOk : Nat → List Int → Bool
 | _, [] => true
 | i, k :: r => decide ((i : Int) = k) && idOk (i + 1) r
theorem idOk_drop {l : List Int} {i : Nat} (h : i < l.length) : idOk i (l.drop i) = (decide ((i : Int) = l[i]) && idOk (i + 1) (l.drop (i + 1))) := by
 rw [List.drop_eq_getElem_cons h]
 rfl
theorem asc_fin {ps : List Pt} {j : Nat} (h : ps.length ≤ j + 1) : ascV (ps.drop j) = true := by
 by_cases hj : j < ps.length
 ·rw [List.drop_eq_getElem_cons hj, List.drop_of_length_le (by omega)]
  rfl
 ·rw [List.drop_of_length_le (by omega)]
  rfl
def rOrd (ns : List Nd) : Bool := idOk 0 (wk 120 ns 0) && ns.all fun n => ascV n.2.2
theorem lim_LenN {ns : List Nd} (h : limV ns = true) : LenN ns := (lim_len h).1
def C9 : Table := ext C8 63 (saysG daT eaT fun ns => (some (FrmT ns), .bool (rOrd ns)))
theorem c9 : TS9 C9 := by
 refine extG c8 63 (fn := Tryz.f63) rfl rfl daT eaT _ (fun _ => nB9 rfl) [0, 1, 2, 3, 4, 6, 7, 9, 10, 11, 12, 18, 21, 22, 23, 24, 31, 47] fun ns hok => ?_
 have hf : FrmT ns := hok
 have hlen := hf.len
 have hln := lim_LenN hf.lim
 have hwl : (wk 120 ns 0).length ≤ ns.length := wk_length hf 120 (i := 0) hlen.1
 dsimp only
 unfold rOrd
 obtain ⟨W, hW⟩ : ∃ W, wk 120 ns 0 = W := ⟨_, rfl⟩
 have hpre : eaTI (ns, 0) = eaTI (ns, 0) ∧ FrmT ns ∧ (0 : Int) ≤ 0 ∧ (0 : Int) < (ns.length : Nat) ∧ (ns.length : Int) - 0 ≤ ((120 : Nat) : Int) ∧ (wk 120 ns 0).length ≤ 1000000000 := ⟨rfl, hf, Int.le_refl _, by omega, by omega, by omega⟩
 repeat ((conv => whnf); refine ⟨by first | exact hpre | (unfold inI64; omega) | omega | exact ⟨by omega, by omega⟩ | exact rfl | decide +kernel, ?_⟩)
 conv => whnf
 rw [hW]
 rw [hW] at hwl
 refine lI9 (σ := Nat) (fun i => [(0, nX9), (1, XV.s (.a (.c (.ptr 0 0)))), (2, nX9), (3, nX9), (4, nX9), (6, nX9), (7, nX9), (9, XV.s (.a (.c (.p (.l (.int .i64) W))))), (10, XV.s (.int .i64 (W.length : Nat))), (11, XV.s (.int .i64 (i : Nat))), (12, nX9), (18, nX9), (21, nX9), (22, nX9), (23, nX9), (24, nX9), (31, nX9), (47, nX9)])
  (fun _ => [.row [.p (.l ndC ns)]]) (fun i => i ≤ W.length ∧ idOk 0 W = idOk i (W.drop i)) (fun i => W.length - i) 0 ?_ rfl ⟨nZ9 _, rfl⟩ fun i hI => ?_
 ·repeat first|exact lN9|refine lD9 ?_|refine lS9 ?_
 obtain ⟨hi, hall⟩ := hI
 repeat ((conv => whnf); refine ⟨by first | (unfold inI64; omega) | omega | exact ⟨by omega, by omega⟩ | exact rfl | decide +kernel, ?_⟩)
 conv => whnf
 refine cI9 ?_ ?_<;>intro h2
 ·have hlt := lt_of_dec h2
  have hin : 0 ≤ (i : Int) ∧ (i : Int) < (W.length : Nat) := by omega
  rw [idOk_drop hlt] at hall
  have he : W.getD i 0 = W[i] := by simp [hlt]
  repeat ((conv => whnf); refine ⟨by first | exact hin | (unfold inI64; omega) | omega | exact ⟨by omega, by omega⟩ | exact rfl | decide +kernel, ?_⟩)
  conv => whnf
  refine cI9 ?_ ?_<;>intro h3
  ·have h4 : ¬ (i : Int) = W[i] := by
    have h5 : (!decide ((i : Int) = W.getD i 0)) = true := h3
    rw [he] at h5
    simpa using h5
   rw [hall, dF9 h4]
   repeat ((conv => whnf); refine ⟨by first | (unfold inI64; omega) | omega | exact ⟨by omega, by omega⟩ | exact rfl | decide +kernel, ?_⟩)
   conv => whnf
   exact eR9
  have h4 : (i : Int) = W[i] := by
   have h5 : (!decide ((i : Int) = W.getD i 0)) = false := h3
   rw [he] at h5
   simpa using h5
  rw [dT9 h4, Bool.true_and] at hall
  repeat ((conv => whnf); refine ⟨by first | (unfold inI64; omega) | omega | exact ⟨by omega, by omega⟩ | exact rfl | decide +kernel, ?_⟩)
  conv => whnf
  refine kI9 (i + 1) [0] rfl id0 rfl ?_ ⟨hlt, hall⟩ (by omega)
  repeat first|exact kN9|refine kD9 ?_|refine kR9 rfl ?_
 have hiw : i = W.length := by have := ge_of_dec h2; omega
 subst hiw
 rw [List.drop_length] at hall
 rw [hall]
 rw [show idOk W.length [] = true from rfl, Bool.true_and]
 repeat ((conv => whnf); refine ⟨by first | (unfold inI64; omega) | omega | exact ⟨by omega, by omega⟩ | exact rfl | decide +kernel, ?_⟩)
 conv => whnf
 refine lI9 (σ := Nat) (fun i => [(0, nX9), (1, XV.s (.a (.c (.ptr 0 0)))), (2, nX9), (3, nX9), (4, nX9), (6, nX9), (7, nX9), (9, nX9), (10, nX9), (11, nX9), (12, nX9), (18, nX9), (21, XV.s (.a (.c (.p (.l ndC ns))))), (22, XV.s (.int .i64 (ns.length : Nat))), (23, XV.s (.int .i64 (i : Nat))), (24, nX9), (31, nX9), (47, nX9)])
  (fun _ => [.row [.p (.l ndC ns)]]) (fun i => i ≤ ns.length ∧ ns.all (fun n => ascV n.2.2) = (ns.drop i).all fun n => ascV n.2.2) (fun i => ns.length - i) 0 ?_ rfl ⟨nZ9 _, rfl⟩ fun i hI => ?_
 ·repeat first|exact lN9|refine lD9 ?_|refine lS9 ?_
 obtain ⟨hi2, hall2⟩ := hI
 repeat ((conv => whnf); refine ⟨by first | (unfold inI64; omega) | omega | exact ⟨by omega, by omega⟩ | exact rfl | decide +kernel, ?_⟩)
 conv => whnf
 refine cI9 ?_ ?_<;>intro h6
 ·have hlt := lt_of_dec h6
  have hin : 0 ≤ (i : Int) ∧ (i : Int) < (ns.length : Nat) := by omega
  rw [all_drop hlt] at hall2
  have hg := nd_get hlt
  have hpl := hln.at hlt
  repeat ((conv => whnf); refine ⟨by first | exact hin | (unfold inI64; omega) | omega | exact ⟨by omega, by omega⟩ | exact rfl | decide +kernel, ?_⟩)
  conv => whnf
  generalize hnd : ns.getD ((i : Int)).toNat ndC.dflt = nd at hg ⊢
  rw [← hg] at hall2 hpl
  refine lI9 (σ := Nat) (fun j => [(0, nX9), (1, XV.s (.a (.c (.ptr 0 0)))), (2, nX9), (3, nX9), (4, nX9), (6, XV.s (.a (.c (.ptr 1 0)))), (7, XV.s (.int .i64 ((j : Nat) + 1))), (9, nX9), (10, nX9), (11, nX9), (12, nX9), (18, nX9), (21, XV.s (.a (.c (.p (.l ndC ns))))), (22, XV.s (.int .i64 (ns.length : Nat))), (23, XV.s (.int .i64 (i : Nat))), (24, nX9), (31, nX9), (47, nX9)])
   (fun _ => _) (fun j => j ≤ nd.2.2.length ∧ ascV nd.2.2 = ascV (nd.2.2.drop j)) (fun j => nd.2.2.length - j) 0 ?_ rfl ⟨nZ9 _, rfl⟩ fun j hJ => ?_
  ·repeat first|exact lN9|refine lD9 ?_|refine lS9 ?_
  obtain ⟨hj, hjall⟩ := hJ
  repeat ((conv => whnf); refine ⟨by first | (unfold inI64; omega) | omega | exact ⟨by omega, by omega⟩ | exact rfl | decide +kernel, ?_⟩)
  conv => whnf
  refine cI9 ?_ ?_<;>intro h7
  ·have hjt : j + 1 < nd.2.2.length := by
    have h8 : ((j : Int) + 1) < (nd.2.2.length : Nat) := oT9 h7
    omega
   have hj1 : 0 ≤ ((j : Int) + 1) ∧ ((j : Int) + 1) < (nd.2.2.length : Nat) := by omega
   have hj0 : 0 ≤ ((j : Int) + 1 - 1) ∧ ((j : Int) + 1 - 1) < (nd.2.2.length : Nat) := by omega
   rw [asc_drop hjt] at hjall
   repeat ((conv => whnf); refine ⟨by first | exact hj1 | exact hj0 | ((conv => whnf); exact ⟨⟨rfl, rfl, rfl⟩, trivial⟩) | exact Early.one (by decide +kernel) (by (conv => whnf); exact ⟨rfl, rfl, rfl⟩) trivial | (unfold inI64; omega) | omega | exact ⟨by omega, by omega⟩ | exact rfl | decide +kernel, ?_⟩)
   conv => whnf
   have t1 : ((j : Int) + 1 - 1).toNat = j := by omega
   have t2 : ((j : Int) + 1).toNat = j + 1 := by omega
   have e1 : nd.2.2.getD ((j : Int) + 1 - 1).toNat ptC.dflt = nd.2.2[j]'(by omega) := by rw [t1]; simp [show j < nd.2.2.length by omega]
   have e2 : nd.2.2.getD ((j : Int) + 1).toNat ptC.dflt = nd.2.2[j + 1] := by rw [t2]; simp [hjt]
   refine cI9 ?_ ?_<;>intro h8
   ·have h9 : (!bLt (nd.2.2.getD ((j : Int) + 1 - 1).toNat ptC.dflt).1 (nd.2.2.getD ((j : Int) + 1).toNat ptC.dflt).1) = true := h8
    rw [e1, e2] at h9
    rw [not_b h9, Bool.false_and] at hjall
    rw [hall2, hjall, Bool.false_and]
    repeat ((conv => whnf); refine ⟨by first | (unfold inI64; omega) | omega | exact ⟨by omega, by omega⟩ | exact rfl | decide +kernel, ?_⟩)
    conv => whnf
    exact eR9
   have h9 : (!bLt (nd.2.2.getD ((j : Int) + 1 - 1).toNat ptC.dflt).1 (nd.2.2.getD ((j : Int) + 1).toNat ptC.dflt).1) = false := h8
   rw [e1, e2] at h9
   rw [not_f h9, Bool.true_and] at hjall
   repeat ((conv => whnf); refine ⟨by first | (unfold inI64; omega) | omega | exact ⟨by omega, by omega⟩ | exact rfl | decide +kernel, ?_⟩)
   conv => whnf
   refine kI9 (j + 1) [0, 1] rfl id2 rfl ?_ ⟨by omega, hjall⟩ (by omega)
   repeat first|exact kN9|refine kD9 ?_|refine kR9 rfl ?_
  ·have hje : nd.2.2.length ≤ j + 1 := by
    have h8 : ¬ ((j : Int) + 1) < (nd.2.2.length : Nat) := oF9 h7
    omega
   rw [asc_fin hje] at hjall
   rw [hjall, Bool.true_and] at hall2
   repeat ((conv => whnf); refine ⟨by first | (unfold inI64; omega) | omega | exact ⟨by omega, by omega⟩ | exact rfl | decide +kernel, ?_⟩)
   conv => whnf
   refine kI9 (i + 1) [0] rfl id0 rfl ?_ ⟨hlt, hall2⟩ (by omega)
   repeat first|exact kN9|refine kD9 ?_|refine kR9 rfl ?_
 ·have : i = ns.length := by have := ge_of_dec h6; omega
  subst this
  rw [List.drop_length] at hall2
  rw [hall2]
  repeat ((conv => whnf); refine ⟨by first | (unfold inI64; omega) | omega | exact ⟨by omega, by omega⟩ | exact rfl | decide +kernel, ?_⟩)
  conv => whnf
  exact eR9
def twnB (ns : List Nd) (i k : Nat) : Bool := decide ((ndAt ns k).1 = (ndAt ns i).1) && decide ((ndAt ns k).2.1 = (ndAt ns i).2.1)
def rtIn (ns : List Nd) (i : Nat) : Nat → Nat → Bool
 | 0, _ => false
 | m + 1, k => twnB ns i k || rtIn ns i m (k + 1)
def rtGo (ns : List Nd) : Nat → Nat → Bool
 | 0, _ => false
 | m + 1, i => rtIn ns i (i - 1) 1 || rtGo ns m (i + 1)
def rlGo (ns : List Nd) : Nat → Nat → Bool
 | 0, _ => false
 | m + 1, i => decide ((8 : Int) < (dpV ns i : Nat)) || rlGo ns m (i + 1)
def rchk (ns : List Nd) : Int := if limV ns = false then 3 else if frmV ns = false then 1 else if rOrd ns = false then 12 else if rtGo ns ns.length 0 = true then 5 else if rlGo ns ns.length 0 = true then 2 else 0
def C10 : Table := ext C9 14 (saysG daT eaT fun ns => (none, .int .i64 (rchk ns)))
theorem c10 : TS9 C10 := by
 refine extG c9 14 (fn := Tryz.f14) rfl rfl daT eaT _ (fun _ => nB9 rfl) [0, 1, 2, 3, 4, 5, 6, 8, 11, 14, 16, 17, 18, 19, 25, 47, 51, 52, 53, 58] fun ns _ => ?_
 dsimp only
 unfold rchk
 repeat ((conv => whnf); refine ⟨by first | exact ⟨rfl, trivial⟩ | (unfold inI64; omega) | omega | exact ⟨by omega, by omega⟩ | exact rfl | decide +kernel, ?_⟩)
 conv => whnf
 refine cI9 ?_ ?_<;>intro h1
 ·have h1 : (!limV ns) = true := h1
  rw [if_pos (not_b h1)]
  repeat ((conv => whnf); refine ⟨by first | (unfold inI64; omega) | omega | exact ⟨by omega, by omega⟩ | exact rfl | decide +kernel, ?_⟩)
  conv => whnf
  exact eR9
 have h1 : (!limV ns) = false := h1
 have h1 := not_f h1
 rw [if_neg (ne_f h1)]
 have hl := lim_LenN h1
 repeat ((conv => whnf); refine ⟨by first | exact ⟨rfl, hl⟩ | (unfold inI64; omega) | omega | exact ⟨by omega, by omega⟩ | exact rfl | decide +kernel, ?_⟩)
 conv => whnf
 refine cI9 ?_ ?_<;>intro h2
 ·rw [if_pos (not_b h2)]
  repeat ((conv => whnf); refine ⟨by first | (unfold inI64; omega) | omega | exact ⟨by omega, by omega⟩ | exact rfl | decide +kernel, ?_⟩)
  conv => whnf
  exact eR9
 have h2 := not_f h2
 rw [if_neg (ne_f h2)]
 have hf : FrmT ns := ⟨h1, h2⟩
 have hlen := hf.len
 have hpar := hf.par
 repeat ((conv => whnf); refine ⟨by first | exact ⟨rfl, hf⟩ | (unfold inI64; omega) | omega | exact ⟨by omega, by omega⟩ | exact rfl | decide +kernel, ?_⟩)
 conv => whnf
 refine cI9 ?_ ?_<;>intro h3
 ·rw [if_pos (not_b h3)]
  repeat ((conv => whnf); refine ⟨by first | (unfold inI64; omega) | omega | exact ⟨by omega, by omega⟩ | exact rfl | decide +kernel, ?_⟩)
  conv => whnf
  exact eR9
 have h3 := not_f h3
 rw [if_neg (ne_f h3)]
 repeat ((conv => whnf); refine ⟨by first | (unfold inI64; omega) | omega | exact ⟨by omega, by omega⟩ | exact rfl | decide +kernel, ?_⟩)
 conv => whnf
 refine lI9 (σ := Nat × Nat) (fun ⟨_, i⟩ => [(0, nX9), (1, XV.s (.a (.c (.ptr 0 0)))), (2, nX9), (3, nX9), (4, nX9), (5, nX9), (6, nX9), (8, nX9), (11, nX9), (14, nX9), (16, XV.s (.a (.c (.p (.l ndC ns))))), (17, XV.s (.int .i64 (ns.length : Nat))), (18, XV.s (.int .i64 (i : Nat))), (19, nX9), (25, nX9), (47, nX9), (51, nX9), (52, nX9), (53, nX9), (58, nX9)])
  (fun _ => [.row [.p (.l ndC ns)]]) (fun ⟨m, i⟩ => i + m = ns.length ∧ rtGo ns ns.length 0 = rtGo ns m i) (fun ⟨m, _⟩ => m) (ns.length, 0) ?_ rfl ⟨Nat.zero_add _, rfl⟩ ?_
 ·repeat first|exact lN9|refine lD9 ?_|refine lS9 ?_
 rintro ⟨m, i⟩ ⟨him, hgo⟩
 repeat ((conv => whnf); refine ⟨by first | (unfold inI64; omega) | omega | exact ⟨by omega, by omega⟩ | exact rfl | decide +kernel, ?_⟩)
 conv => whnf
 refine cI9 ?_ ?_<;>intro h4
 ·have hlt := lt_of_dec h4
  obtain ⟨m, rfl⟩ : ∃ q, m = q + 1 := ⟨m - 1, by omega⟩
  have hin : 0 ≤ (i : Int) ∧ (i : Int) < (ns.length : Nat) := by omega
  have e : rtGo ns (m + 1) i = (rtIn ns i (i - 1) 1 || rtGo ns m (i + 1)) := rfl
  rw [e] at hgo
  repeat ((conv => whnf); refine ⟨by first | exact hin | (unfold inI64; omega) | omega | exact ⟨by omega, by omega⟩ | exact rfl | decide +kernel, ?_⟩)
  conv => whnf
  refine lI9 (σ := Nat × Nat) (fun ⟨_, k⟩ => [(0, nX9), (1, XV.s (.a (.c (.ptr 0 0)))), (2, nX9), (3, XV.s (.int .i64 (i : Nat))), (4, XV.s (.a (.c (.ptr 1 0)))), (5, XV.s (.int .i64 ((k : Nat) : Int))), (6, nX9), (8, nX9), (11, nX9), (14, nX9), (16, XV.s (.a (.c (.p (.l ndC ns))))), (17, XV.s (.int .i64 (ns.length : Nat))), (18, XV.s (.int .i64 (i : Nat))), (19, nX9), (25, nX9), (47, nX9), (51, nX9), (52, nX9), (53, nX9), (58, nX9)])
   (fun _ => _) (fun ⟨q, k⟩ => 1 ≤ k ∧ (k + q = i ∨ (q = 0 ∧ i ≤ k)) ∧ rtIn ns i (i - 1) 1 = rtIn ns i q k) (fun ⟨q, _⟩ => q) (i - 1, 1) ?_ rfl ⟨nR9 _, by omega, rfl⟩ ?_
  ·repeat first|exact lN9|refine lD9 ?_|refine lS9 ?_
  rintro ⟨q, k⟩ ⟨hk1, hkq, hkgo⟩
  repeat ((conv => whnf); refine ⟨by first | (unfold inI64; omega) | omega | exact ⟨by omega, by omega⟩ | exact rfl | decide +kernel, ?_⟩)
  conv => whnf
  refine cI9 ?_ ?_<;>intro h5
  ·have hki : k < i := lt_of_dec h5
   obtain ⟨q, rfl⟩ : ∃ z, q = z + 1 := ⟨q - 1, by omega⟩
   have hkn : 0 ≤ (k : Int) ∧ (k : Int) < (ns.length : Nat) := by omega
   have e2 : rtIn ns i (q + 1) k = (twnB ns i k || rtIn ns i q (k + 1)) := rfl
   rw [e2] at hkgo
   repeat ((conv => whnf); refine ⟨by first | exact hkn | exact fun _ => hkn | ((conv => whnf); exact ⟨⟨rfl, rfl, rfl⟩, trivial⟩) | exact Early.one (by decide +kernel) (by (conv => whnf); exact ⟨rfl, rfl, rfl⟩) trivial | (unfold inI64; omega) | omega | exact ⟨by omega, by omega⟩ | exact rfl | decide +kernel, ?_⟩)
   conv => whnf
   refine cI9 ?_ ?_<;>intro h6
   ·have h7 : twnB ns i k = true := h6
    rw [hkgo, h7, Bool.true_or, Bool.true_or] at hgo
    rw [if_pos hgo]
    repeat ((conv => whnf); refine ⟨by first | (unfold inI64; omega) | omega | exact ⟨by omega, by omega⟩ | exact rfl | decide +kernel, ?_⟩)
    conv => whnf
    exact eR9
   have h7 : twnB ns i k = false := h6
   rw [h7, Bool.false_or] at hkgo
   repeat ((conv => whnf); refine ⟨by first | (unfold inI64; omega) | omega | exact ⟨by omega, by omega⟩ | exact rfl | decide +kernel, ?_⟩)
   conv => whnf
   refine kI9 (q, k + 1) [0, 1] rfl id2 rfl ?_ ⟨by omega, by omega, hkgo⟩ (nS9 q)
   repeat first|exact kN9|refine kD9 ?_|refine kR9 rfl ?_
  ·have hki : i ≤ k := ge_of_dec h5
   obtain rfl : q = 0 := by omega
   have hz : rtIn ns i 0 k = false := rfl
   rw [hkgo, hz, Bool.false_or] at hgo
   repeat ((conv => whnf); refine ⟨by first | (unfold inI64; omega) | omega | exact ⟨by omega, by omega⟩ | exact rfl | decide +kernel, ?_⟩)
   conv => whnf
   refine kI9 (m, i + 1) [0] rfl id0 rfl ?_ ⟨by omega, hgo⟩ (nS9 m)
   repeat first|exact kN9|refine kD9 ?_|refine kR9 rfl ?_
 have hge := ge_of_dec h4
 obtain rfl : m = 0 := by omega
 have hz : rtGo ns 0 i = false := rfl
 rw [hz] at hgo
 rw [if_neg (ne_t hgo)]
 repeat ((conv => whnf); refine ⟨by first | (unfold inI64; omega) | omega | exact ⟨by omega, by omega⟩ | exact rfl | decide +kernel, ?_⟩)
 conv => whnf
 refine lI9 (σ := Nat × Nat) (fun ⟨_, i⟩ => [(0, nX9), (1, XV.s (.a (.c (.ptr 0 0)))), (2, nX9), (3, nX9), (4, nX9), (5, nX9), (6, nX9), (8, nX9), (11, nX9), (14, nX9), (16, nX9), (17, nX9), (18, nX9), (19, nX9), (25, nX9), (47, nX9), (51, XV.s (.int .i64 (ns.length : Nat))), (52, XV.s (.int .i64 (i : Nat))), (53, nX9), (58, nX9)])
  (fun _ => [.row [.p (.l ndC ns)]]) (fun ⟨m, i⟩ => i + m = ns.length ∧ rlGo ns ns.length 0 = rlGo ns m i) (fun ⟨m, _⟩ => m) (ns.length, 0) ?_ rfl ⟨Nat.zero_add _, rfl⟩ ?_
 ·repeat first|exact lN9|refine lD9 ?_|refine lS9 ?_
 rintro ⟨m, j⟩ ⟨hjm, hlgo⟩
 repeat ((conv => whnf); refine ⟨by first | (unfold inI64; omega) | omega | exact ⟨by omega, by omega⟩ | exact rfl | decide +kernel, ?_⟩)
 conv => whnf
 refine cI9 ?_ ?_<;>intro h5
 ·have hlt := lt_of_dec h5
  obtain ⟨m, rfl⟩ : ∃ q, m = q + 1 := ⟨m - 1, by omega⟩
  have e : rlGo ns (m + 1) j = (decide ((8 : Int) < (dpV ns j : Nat)) || rlGo ns m (j + 1)) := rfl
  rw [e] at hlgo
  have hpre : eaTI (ns, (j : Int)) = eaTI (ns, (j : Int)) ∧ ns.length ≤ 1000000000 ∧ ParOk ns ∧ (0 : Int) ≤ (j : Nat) ∧ (j : Int) < (ns.length : Nat) := ⟨rfl, by omega, hpar, by omega, by omega⟩
  repeat ((conv => whnf); refine ⟨by first | exact hpre | (unfold inI64; omega) | omega | exact ⟨by omega, by omega⟩ | exact rfl | decide +kernel, ?_⟩)
  conv => whnf
  refine cI9 ?_ ?_<;>intro h6
  ·have h7 : decide ((8 : Int) < (dpV ns j : Nat)) = true := h6
   rw [h7, Bool.true_or] at hlgo
   rw [if_pos hlgo]
   repeat ((conv => whnf); refine ⟨by first | (unfold inI64; omega) | omega | exact ⟨by omega, by omega⟩ | exact rfl | decide +kernel, ?_⟩)
   conv => whnf
   exact eR9
  have h7 : decide ((8 : Int) < (dpV ns j : Nat)) = false := h6
  rw [h7, Bool.false_or] at hlgo
  repeat ((conv => whnf); refine ⟨by first | (unfold inI64; omega) | omega | exact ⟨by omega, by omega⟩ | exact rfl | decide +kernel, ?_⟩)
  conv => whnf
  refine kI9 (m, j + 1) [0] rfl id0 rfl ?_ ⟨by omega, hlgo⟩ (nS9 m)
  repeat first|exact kN9|refine kD9 ?_|refine kR9 rfl ?_
 have hge := ge_of_dec h5
 obtain rfl : m = 0 := by omega
 have hz : rlGo ns 0 j = false := rfl
 rw [hz] at hlgo
 rw [if_neg (ne_t hlgo)]
 repeat ((conv => whnf); refine ⟨by first | (unfold inI64; omega) | omega | exact ⟨by omega, by omega⟩ | exact rfl | decide +kernel, ?_⟩)
 conv => whnf
 exact eR9
end Go.Ab
