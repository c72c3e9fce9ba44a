/- The reference of package tree. -/
import Derived.Test.YtnlifjljmbfomaaGreatTY68toY29
namespace Go.Ab
open Go.Proofs
set_option linter.unusedSectionVars false
set_option maxRecDepth 100000
variable [Base]
abbrev C1 : Table := EP A42
theorem c1 : TS9 C1 := ep a42
def C2 : Table := ext C1 61 (saysG daT eaT fun ns => (none, .bool (!limV ns)))
theorem c2 : TS9 C2 := by
 refine extG c1 61 (fn := Tryz.f61) rfl rfl daT eaT _ (fun _ => nB9 rfl) [0, 1, 2, 4, 6, 16, 18, 19, 20, 21, 27, 29, 30, 31, 32, 38] fun ns _ => ?_
 dsimp only
 unfold limV
 repeat ((conv => whnf); refine ⟨by first | (unfold inI64; omega) | omega | exact ⟨by omega, by omega⟩ | exact rfl | decide +kernel, ?_⟩)
 conv => whnf
 refine cI9 ?_ ?_<;>intro h
 ·have h1 : (!decide (ns.length = 0) && decide (ns.length ≤ 120)) = false := by
   have h2 : (decide ((ns.length : Int) < 1) || decide (120 < (ns.length : Int))) = true := h
   simp only [Bool.or_eq_true, decide_eq_true_eq] at h2
   rw [Bool.and_eq_false_iff]
   rcases h2 with h2 | h2
   ·left; rw [dT9 (by omega)]; rfl
   ·right; exact dF9 (by omega)
  rw [h1]
  repeat ((conv => whnf); refine ⟨by first | (unfold inI64; omega) | omega | exact ⟨by omega, by omega⟩ | exact rfl | decide +kernel, ?_⟩)
  conv => whnf
  exact eR9
 have h1 : ns.length ≠ 0 ∧ ns.length ≤ 120 := by
  have h2 : (decide ((ns.length : Int) < 1) || decide (120 < (ns.length : Int))) = false := h
  simp only [Bool.or_eq_false_iff, decide_eq_false_iff_not] at h2
  omega
 have e1 : (!decide (ns.length = 0) && decide (ns.length ≤ 120)) = true := by
  rw [dF9 h1.1, dT9 h1.2]; rfl
 rw [e1, Bool.true_and]
 clear h e1
 repeat ((conv => whnf); refine ⟨by first | (unfold inI64; omega) | omega | exact ⟨by omega, by omega⟩ | exact rfl | decide +kernel, ?_⟩)
 conv => whnf
 refine lI9 (σ := Nat) (fun i => [(0, nX9), (1, XV.s (.a (.c (.ptr 0 0)))), (2, nX9), (4, nX9), (6, nX9), (16, nX9), (18, XV.s (.a (.c (.p (.l ndC ns))))), (19, XV.s (.int .i64 (ns.length : Nat))), (20, XV.s (.int .i64 (i : Nat))), (21, nX9), (27, nX9), (29, nX9), (30, nX9), (31, nX9), (32, nX9), (38, nX9)])
  (fun _ => [.row [.p (.l ndC ns)]]) (fun i => i ≤ ns.length ∧ ns.all ndLim = (ns.drop i).all ndLim) (fun i => ns.length - i) 0 ?_ rfl ⟨nZ9 _, rfl⟩ fun i hI => ?_
 ·repeat first|exact lN9|refine lD9 ?_|refine lS9 ?_
 obtain ⟨hi, hall⟩ := hI
 repeat ((conv => whnf); refine ⟨by first | (unfold inI64; omega) | omega | exact ⟨by omega, by omega⟩ | exact rfl | decide +kernel, ?_⟩)
 conv => whnf
 refine cI9 ?_ ?_<;>intro h2
 ·have hlt := lt_of_dec h2
  have hin : 0 ≤ (i : Int) ∧ (i : Int) < (ns.length : Nat) := by omega
  rw [all_drop hlt] at hall
  have hg := nd_get hlt
  repeat ((conv => whnf); refine ⟨by first | exact hin | (unfold inI64; omega) | omega | exact ⟨by omega, by omega⟩ | exact rfl | decide +kernel, ?_⟩)
  conv => whnf
  generalize hnd : ns.getD ((i : Int)).toNat ndC.dflt = nd at hg ⊢
  rw [← hg] at hall
  refine cI9 ?_ ?_<;>intro h3
  ·have h4 : ndLim nd = false := by
    have h6 : (24 : Int) < (nd.2.2.length : Nat) := oT9 h3
    unfold ndLim
    rw [dF9 (by omega)]
    rfl
   rw [hall, h4]
   repeat ((conv => whnf); refine ⟨by first | (unfold inI64; omega) | omega | exact ⟨by omega, by omega⟩ | exact rfl | decide +kernel, ?_⟩)
   conv => whnf
   exact eR9
  have h4 : nd.2.2.length ≤ 24 := by
   have h6 : ¬ (24 : Int) < (nd.2.2.length : Nat) := oF9 h3
   omega
  have e4 : ndLim nd = nd.2.2.all ptLim := by
   unfold ndLim
   rw [dT9 h4, Bool.true_and]
  clear h3
  repeat ((conv => whnf); refine ⟨by first | (unfold inI64; omega) | omega | exact ⟨by omega, by omega⟩ | exact rfl | decide +kernel, ?_⟩)
  conv => whnf
  refine lI9 (σ := Nat) (fun j => [(0, nX9), (1, XV.s (.a (.c (.ptr 0 0)))), (2, nX9), (4, nX9), (6, nX9), (16, nX9), (18, XV.s (.a (.c (.p (.l ndC ns))))), (19, XV.s (.int .i64 (ns.length : Nat))), (20, XV.s (.int .i64 (i : Nat))), (21, nX9), (27, nX9), (29, XV.s (.a (.c (.p (.l ptC nd.2.2))))), (30, XV.s (.int .i64 (nd.2.2.length : Nat))), (31, XV.s (.int .i64 (j : Nat))), (32, nX9), (38, nX9)])
   (fun _ => _) (fun j => j ≤ nd.2.2.length ∧ nd.2.2.all ptLim = (nd.2.2.drop j).all ptLim) (fun j => nd.2.2.length - j) 0 ?_ rfl ⟨nZ9 _, rfl⟩ fun j hJ => ?_
  ·repeat first|exact lN9|refine lD9 ?_|refine lS9 ?_
  obtain ⟨hj, hjall⟩ := hJ
  repeat ((conv => whnf); refine ⟨by first | (unfold inI64; omega) | omega | exact ⟨by omega, by omega⟩ | exact rfl | decide +kernel, ?_⟩)
  conv => whnf
  refine cI9 ?_ ?_<;>intro h5
  ·have hjt := lt_of_dec h5
   have hjn : 0 ≤ (j : Int) ∧ (j : Int) < (nd.2.2.length : Nat) := by omega
   have hq := pt_get hjt
   rw [all_drop hjt] at hjall
   repeat ((conv => whnf); refine ⟨by first | exact hjn | (unfold inI64; omega) | omega | exact ⟨by omega, by omega⟩ | exact rfl | decide +kernel, ?_⟩)
   conv => whnf
   generalize hpt : nd.2.2.getD ((j : Int)).toNat ptC.dflt = pt at hq ⊢
   rw [← hq] at hjall
   refine cI9 ?_ ?_<;>intro h6
   ·have h7 : ptLim pt = false := by
     have h8 : (256 : Int) < (pt.2.size : Nat) := oT9 h6
     exact dF9 (by omega)
    rw [hall, e4, hjall, h7]
    repeat ((conv => whnf); refine ⟨by first | (unfold inI64; omega) | omega | exact ⟨by omega, by omega⟩ | exact rfl | decide +kernel, ?_⟩)
    conv => whnf
    exact eR9
   have h7 : ptLim pt = true := by
    have h8 : ¬ (256 : Int) < (pt.2.size : Nat) := oF9 h6
    exact dT9 (by omega)
   rw [h7, Bool.true_and] at hjall
   repeat ((conv => whnf); refine ⟨by first | (unfold inI64; omega) | omega | exact ⟨by omega, by omega⟩ | exact rfl | decide +kernel, ?_⟩)
   conv => whnf
   refine kI9 (j + 1) [0, 1] rfl id2 rfl ?_ ⟨hjt, hjall⟩ ?_
   ·repeat first|exact kN9|refine kD9 ?_|refine kR9 rfl ?_
   ·omega
  ·have hje : j = nd.2.2.length := by have := ge_of_dec h5; omega
   subst hje
   rw [List.drop_length] at hjall
   rw [e4, hjall] at hall
   repeat ((conv => whnf); refine ⟨by first | (unfold inI64; omega) | omega | exact ⟨by omega, by omega⟩ | exact rfl | decide +kernel, ?_⟩)
   conv => whnf
   refine kI9 (i + 1) [0] rfl id0 rfl ?_ ⟨hlt, hall⟩ ?_
   ·repeat first|exact kN9|refine kD9 ?_|refine kR9 rfl ?_
   ·omega
 ·have : i = ns.length := by have := ge_of_dec h2; omega
  subst this
  rw [List.drop_length] at hall
  rw [hall]
  repeat ((conv => whnf); refine ⟨by first | (unfold inI64; omega) | omega | exact ⟨by omega, by omega⟩ | exact rfl | decide +kernel, ?_⟩)
  conv => whnf
  exact eR9
def C3 : Table := ext C2 62 (saysG daT eaT fun ns => (some (LenN ns), .bool (frmV ns)))
theorem c3 : TS9 C3 := by
 refine extG c2 62 (fn := Tryz.f62) rfl rfl daT eaT _ (fun _ => nB9 rfl) [0, 1, 2, 3, 4, 6, 8, 9, 10, 11, 47, 49, 50, 51, 52, 58] fun ns hok => ?_
 have hok : LenN ns := hok
 have hlen := hok.len
 dsimp only
 unfold frmV
 repeat ((conv => whnf); refine ⟨by first | (unfold inI64; omega) | omega | exact ⟨by omega, by omega⟩ | exact rfl | decide +kernel, ?_⟩)
 conv => whnf
 refine lI9 (σ := Nat) (fun i => [(0, nX9), (1, XV.s (.a (.c (.ptr 0 0)))), (2, nX9), (3, nX9), (4, nX9), (6, nX9), (8, XV.s (.a (.c (.p (.l ndC ns))))), (9, XV.s (.int .i64 (ns.length : Nat))), (10, XV.s (.int .i64 (i : Nat))), (11, nX9), (47, nX9), (49, nX9), (50, nX9), (51, nX9), (52, nX9), (58, nX9)])
  (fun _ => [.row [.p (.l ndC ns)]]) (fun i => i ≤ ns.length ∧ frmGo 0 ns = frmGo i (ns.drop i)) (fun i => ns.length - i) 0 ?_ rfl ⟨nZ9 _, rfl⟩ fun i hI => ?_
 ·repeat first|exact lN9|refine lD9 ?_|refine lS9 ?_
 obtain ⟨hi, hall⟩ := hI
 repeat ((conv => whnf); refine ⟨by first | (unfold inI64; omega) | omega | exact ⟨by omega, by omega⟩ | exact rfl | decide +kernel, ?_⟩)
 conv => whnf
 refine cI9 ?_ ?_<;>intro h2
 ·have hlt := lt_of_dec h2
  have hin : 0 ≤ (i : Int) ∧ (i : Int) < (ns.length : Nat) := by omega
  rw [frm_drop hlt] at hall
  have hg := nd_get hlt
  have hpl := hok.at hlt
  repeat ((conv => whnf); refine ⟨by first | exact hin | (unfold inI64; omega) | omega | exact ⟨by omega, by omega⟩ | exact rfl | decide +kernel, ?_⟩)
  conv => whnf
  generalize hnd : ns.getD ((i : Int)).toNat ndC.dflt = nd at hg ⊢
  rw [← hg] at hall hpl
  refine cI9 ?_ ?_<;>intro h3
  ·have h4 : ndFrm i nd = false := by
    have h5 : ((decide ((i : Int) = 0) && (!decide (nd.1 = -1) || !decide (nd.2.1 = ⟨#[]⟩))) || (decide (0 < (i : Int)) && ((decide (nd.1 < 0) || decide ((i : Int) ≤ nd.1)) || !namB nd.2.1))) = true := h3
    unfold ndFrm
    rw [← Bool.not_or, h5]
    rfl
   rw [hall, h4]
   repeat ((conv => whnf); refine ⟨by first | (unfold inI64; omega) | omega | exact ⟨by omega, by omega⟩ | exact rfl | decide +kernel, ?_⟩)
   conv => whnf
   exact eR9
  have h5 : ((decide ((i : Int) = 0) && (!decide (nd.1 = -1) || !decide (nd.2.1 = ⟨#[]⟩))) || (decide (0 < (i : Int)) && ((decide (nd.1 < 0) || decide ((i : Int) ≤ nd.1)) || !namB nd.2.1))) = false := h3
  have e4 : ndFrm i nd = nd.2.2.all ptFrm := by
   unfold ndFrm
   rw [← Bool.not_or, h5]
   rfl
  repeat ((conv => whnf); refine ⟨by first | (unfold inI64; omega) | omega | exact ⟨by omega, by omega⟩ | exact rfl | decide +kernel, ?_⟩)
  conv => whnf
  refine lI9 (σ := Nat) (fun j => [(0, nX9), (1, XV.s (.a (.c (.ptr 0 0)))), (2, nX9), (3, nX9), (4, nX9), (6, nX9), (8, XV.s (.a (.c (.p (.l ndC ns))))), (9, XV.s (.int .i64 (ns.length : Nat))), (10, XV.s (.int .i64 (i : Nat))), (11, nX9), (47, nX9), (49, XV.s (.a (.c (.p (.l ptC nd.2.2))))), (50, XV.s (.int .i64 (nd.2.2.length : Nat))), (51, XV.s (.int .i64 (j : Nat))), (52, nX9), (58, nX9)])
   (fun _ => _) (fun j => j ≤ nd.2.2.length ∧ nd.2.2.all ptFrm = (nd.2.2.drop j).all ptFrm) (fun j => nd.2.2.length - j) 0 ?_ rfl ⟨nZ9 _, rfl⟩ fun j hJ => ?_
  ·repeat first|exact lN9|refine lD9 ?_|refine lS9 ?_
  obtain ⟨hj, hjall⟩ := hJ
  repeat ((conv => whnf); refine ⟨by first | (unfold inI64; omega) | omega | exact ⟨by omega, by omega⟩ | exact rfl | decide +kernel, ?_⟩)
  conv => whnf
  refine cI9 ?_ ?_<;>intro h6
  ·have hjt := lt_of_dec h6
   have hjn : 0 ≤ (j : Int) ∧ (j : Int) < (nd.2.2.length : Nat) := by omega
   have hq := pt_get hjt
   rw [all_drop hjt] at hjall
   repeat ((conv => whnf); refine ⟨by first | exact hjn | (unfold inI64; omega) | omega | exact ⟨by omega, by omega⟩ | exact rfl | decide +kernel, ?_⟩)
   conv => whnf
   generalize hpt : nd.2.2.getD ((j : Int)).toNat ptC.dflt = pt at hq ⊢
   rw [← hq] at hjall
   refine cI9 ?_ ?_<;>intro h7
   ·have h8 : ptFrm pt = false := by
     have h9 : (!prpB pt.1) = true := h7
     show prpB pt.1 = false
     simpa using h9
    rw [hall, e4, hjall, h8]
    repeat ((conv => whnf); refine ⟨by first | (unfold inI64; omega) | omega | exact ⟨by omega, by omega⟩ | exact rfl | decide +kernel, ?_⟩)
    conv => whnf
    exact eR9
   have h8 : ptFrm pt = true := by
    have h9 : (!prpB pt.1) = false := h7
    show prpB pt.1 = true
    simpa using h9
   rw [h8, Bool.true_and] at hjall
   repeat ((conv => whnf); refine ⟨by first | (unfold inI64; omega) | omega | exact ⟨by omega, by omega⟩ | exact rfl | decide +kernel, ?_⟩)
   conv => whnf
   refine kI9 (j + 1) [0, 1] rfl id2 rfl ?_ ⟨hjt, hjall⟩ ?_
   ·repeat first|exact kN9|refine kD9 ?_|refine kR9 rfl ?_
   ·omega
  ·have hje : j = nd.2.2.length := by have := ge_of_dec h6; omega
   subst hje
   rw [List.drop_length] at hjall
   rw [e4, hjall] at hall
   repeat ((conv => whnf); refine ⟨by first | (unfold inI64; omega) | omega | exact ⟨by omega, by omega⟩ | exact rfl | decide +kernel, ?_⟩)
   conv => whnf
   refine kI9 (i + 1) [0] rfl id0 rfl ?_ ⟨hlt, hall⟩ ?_
   ·repeat first|exact kN9|refine kD9 ?_|refine kR9 rfl ?_
   ·omega
 ·have : i = ns.length := by have := ge_of_dec h2; omega
  subst this
  rw [List.drop_length] at hall
  rw [hall]
  repeat ((conv => whnf); refine ⟨by first | (unfold inI64; omega) | omega | exact ⟨by omega, by omega⟩ | exact rfl | decide +kernel, ?_⟩)
  conv => whnf
  exact eR9
structure FrmT (ns : List Nd) : Prop where
 lim : limV ns = true
 frm : frmV ns = true
theorem FrmT.len {ns : List Nd} (h : FrmT ns) : 0 < ns.length ∧ ns.length ≤ 120 := (lim_len h.lim).2
theorem FrmT.par {ns : List Nd} (h : FrmT ns) : ParOk ns := frm_par h.frm
def C4 : Table := ext C3 64 (saysG daTI eaTI fun a => (some (a.1.length ≤ 1000000000 ∧ ParOk a.1 ∧ 0 ≤ a.2 ∧ a.2 < (a.1.length : Nat)), .int .i64 (dpV a.1 a.2.toNat : Nat)))
theorem c4 : TS9 C4 := by
 refine extG c3 64 (fn := Tryz.f64) rfl rfl daTI eaTI _ (fun _ => nB9 rfl) [0, 1, 2, 4, 5, 7] fun a hok => ?_
 obtain ⟨ns, i⟩ := a
 obtain ⟨hlen, hpar, hi0, hi1⟩ : ns.length ≤ 1000000000 ∧ ParOk ns ∧ 0 ≤ i ∧ i < (ns.length : Nat) := hok
 obtain ⟨i, rfl⟩ : ∃ k : Nat, i = k := ⟨i.toNat, by omega⟩
 dsimp only
 rw [Int.toNat_natCast]
 unfold dpV
 have hb := dp_le ns (i + 1) i
 repeat ((conv => whnf); refine ⟨by first | (unfold inI64; omega) | omega | exact ⟨by omega, by omega⟩ | exact rfl | decide +kernel, ?_⟩)
 conv => whnf
 refine lI9 (σ := Nat × Nat × Nat) (fun ⟨_, j, d⟩ => [(0, nX9), (1, XV.s (.int .i64 (j : Nat))), (2, XV.s (.a (.c (.ptr 0 0)))), (4, nX9), (5, XV.s (.int .i64 (d : Nat))), (7, nX9)])
  (fun _ => [.row [.p (.l ndC ns)]]) (fun ⟨k, j, d⟩ => j < k ∧ j < ns.length ∧ d ≤ 1000000001 ∧ d + dpGo ns k j = dpGo ns (i + 1) i) (fun ⟨_, j, _⟩ => j) (i + 1, i, 0) ?_ rfl ⟨by omega, by omega, by omega, Nat.zero_add _⟩ ?_
 ·repeat first|exact lN9|refine lD9 ?_|refine lS9 ?_
 rintro ⟨k, j, d⟩ ⟨hjk, hjl, hd, hgo⟩
 obtain ⟨k, rfl⟩ : ∃ m, k = m + 1 := ⟨k - 1, by omega⟩
 repeat ((conv => whnf); refine ⟨by first | (unfold inI64; omega) | omega | exact ⟨by omega, by omega⟩ | exact rfl | decide +kernel, ?_⟩)
 conv => whnf
 refine cI9 ?_ ?_<;>intro h2
 ·have hj0 : 0 < j := by
   have : (0 : Int) < (j : Nat) := oT9 h2
   omega
  have hjn : 0 ≤ (j : Int) ∧ (j : Int) < (ns.length : Nat) := by omega
  have e : dpGo ns (k + 1) j = dpGo ns k (paN ns j) + 1 := by
   show (if j = 0 then 0 else _) = _
   rw [if_neg (by omega)]
  rw [e] at hgo
  repeat ((conv => whnf); refine ⟨by first | exact hjn | (unfold inI64; omega) | omega | exact ⟨by omega, by omega⟩ | exact rfl | decide +kernel, ?_⟩)
  conv => whnf
  obtain ⟨hp1, hp2⟩ := par_lt hpar hj0 hjl
  refine hI9 (k, paN ns j, d + 1) ?_ rfl ⟨by omega, by omega, by omega, by omega⟩ hp1
  dsimp only
  rw [hp2]
  repeat first|exact lN9|refine lD9 ?_|refine lS9 ?_
 ·have hj0 : j = 0 := by
   have : ¬ (0 : Int) < (j : Nat) := oF9 h2
   omega
  subst hj0
  have e : dpGo ns (k + 1) 0 = 0 := rfl
  rw [e] at hgo
  repeat ((conv => whnf); refine ⟨by first | (unfold inI64; omega) | omega | exact ⟨by omega, by omega⟩ | exact rfl | decide +kernel, ?_⟩)
  conv => whnf
  refine eT9 ?_
  rw [← hgo]
  rfl
def C5 : Table := ext C4 71 (saysG daTI eaTI fun a => (some (FrmT a.1 ∧ 0 ≤ a.2 ∧ a.2 < (a.1.length : Nat)), .str (pathV a.1 a.2.toNat)))
theorem c5 : TS9 C5 := by
 refine extG c4 71 (fn := Tryz.f71) rfl rfl daTI eaTI _ (fun _ => nB9 rfl) [0, 1, 2, 4, 5, 7, 9] fun a hok => ?_
 obtain ⟨ns, i⟩ := a
 obtain ⟨hv, hi0, hi1⟩ : FrmT ns ∧ 0 ≤ i ∧ i < (ns.length : Nat) := hok
 obtain ⟨i, rfl⟩ : ∃ k : Nat, i = k := ⟨i.toNat, by omega⟩
 have hlen := hv.len
 have hpar := hv.par
 dsimp only
 rw [Int.toNat_natCast]
 unfold pathV
 repeat ((conv => whnf); refine ⟨by first | (unfold inI64; omega) | omega | exact ⟨by omega, by omega⟩ | exact rfl | decide +kernel, ?_⟩)
 conv => whnf
 refine cI9 ?_ ?_<;>intro h
 ·have h1 : i = 0 := by
   have : (i : Int) = 0 := oT9 h
   omega
  rw [if_pos h1]
  repeat ((conv => whnf); refine ⟨by first | (unfold inI64; omega) | omega | exact ⟨by omega, by omega⟩ | exact rfl | decide +kernel, ?_⟩)
  conv => whnf
  exact eR9
 have h1 : ¬ i = 0 := by
  have : ¬ (i : Int) = 0 := oF9 h
  omega
 rw [if_neg h1]
 repeat ((conv => whnf); refine ⟨by first | (unfold inI64; omega) | omega | exact ⟨by omega, by omega⟩ | exact rfl | decide +kernel, ?_⟩)
 conv => whnf
 refine lI9 (σ := Nat × Nat × ByteArray) (fun ⟨_, j, s⟩ => [(0, nX9), (1, XV.s (.int .i64 (j : Nat))), (2, XV.s (.a (.c (.ptr 0 0)))), (4, nX9), (5, XV.s (.str s)), (7, nX9), (9, nX9)])
  (fun _ => [.row [.p (.l ndC ns)]]) (fun ⟨k, j, s⟩ => j < k ∧ j < ns.length ∧ s.size + 32 * j ≤ 4000 ∧ pathGo ns (i + 1) i ⟨#[]⟩ = pathGo ns k j s) (fun ⟨_, j, _⟩ => j) (i + 1, i, ⟨#[]⟩) ?_ rfl ⟨by omega, by omega, by show 0 + 32 * i ≤ 4000; omega, rfl⟩ ?_
 ·repeat first|exact lN9|refine lD9 ?_|refine lS9 ?_
 rintro ⟨k, j, s⟩ ⟨hjk, hjl, hs, hgo⟩
 obtain ⟨k, rfl⟩ : ∃ m, k = m + 1 := ⟨k - 1, by omega⟩
 repeat ((conv => whnf); refine ⟨by first | (unfold inI64; omega) | omega | exact ⟨by omega, by omega⟩ | exact rfl | decide +kernel, ?_⟩)
 conv => whnf
 refine cI9 ?_ ?_<;>intro h2
 ·have hj0 : 0 < j := by
   have : (0 : Int) < (j : Nat) := oT9 h2
   omega
  have hjn : 0 ≤ (j : Int) ∧ (j : Int) < (ns.length : Nat) := by omega
  have e : pathGo ns (k + 1) j s = pathGo ns k (paN ns j) (⟨#[47]⟩ ++ (ndAt ns j).2.1 ++ s) := by
   show (if j = 0 then s else _) = _
   rw [if_neg (by omega)]
  rw [e] at hgo
  have hnm := nam_size (frm_nam hv.frm hj0 hjl)
  have c1 : (((⟨#[47]⟩ : ByteArray).size + (ndAt ns j).2.1.size : Nat) : Int) ≤ 9223372036854775807 := by
   show ((1 + (ndAt ns j).2.1.size : Nat) : Int) ≤ _
   omega
  have c2 : (((⟨#[47]⟩ ++ (ndAt ns j).2.1 : ByteArray).size + s.size : Nat) : Int) ≤ 9223372036854775807 := by
   rw [zA9]
   show ((1 + (ndAt ns j).2.1.size + s.size : Nat) : Int) ≤ _
   omega
  repeat ((conv => whnf); refine ⟨by first | exact hjn | exact c1 | exact c2 | (unfold inI64; omega) | omega | exact ⟨by omega, by omega⟩ | exact rfl | decide +kernel, ?_⟩)
  conv => whnf
  obtain ⟨hp1, hp2⟩ := par_lt hpar hj0 hjl
  refine hI9 (k, paN ns j, ⟨#[47]⟩ ++ (ndAt ns j).2.1 ++ s) ?_ rfl ⟨by omega, by omega, ?_, hgo⟩ hp1
  ·dsimp only
   rw [hp2]
   repeat first|exact lN9|refine lD9 ?_|refine lS9 ?_
  ·rw [zA9, zA9]
   show 1 + (ndAt ns j).2.1.size + s.size + 32 * paN ns j ≤ 4000
   omega
 ·have hj0 : j = 0 := by
   have : ¬ (0 : Int) < (j : Nat) := oF9 h2
   omega
  subst hj0
  have e : pathGo ns (k + 1) 0 s = s := rfl
  rw [e] at hgo
  repeat ((conv => whnf); refine ⟨by first | (unfold inI64; omega) | omega | exact ⟨by omega, by omega⟩ | exact rfl | decide +kernel, ?_⟩)
  conv => whnf
  rw [hgo]
  exact eR9
def rfV (ns : List Nd) (s : ByteArray) : Int := if skV (isB ns s) ns.length < ns.length then (skV (isB ns s) ns.length : Nat) else -1
def C6 : Table := ext C5 75 (saysG daTS eaTS fun a => (some (FrmT a.1), .int .i64 (rfV a.1 a.2)))
theorem c6 : TS9 C6 := by
 refine extG c5 75 (fn := Tryz.f75) rfl rfl daTS eaTS _ (fun _ => nB9 rfl) [0, 1, 2, 4, 5, 8, 9, 10, 16] fun a hok => ?_
 obtain ⟨ns, s⟩ := a
 have hf : FrmT ns := hok
 have hlen := hf.len
 dsimp only
 repeat ((conv => whnf); refine ⟨by first | (unfold inI64; omega) | omega | exact ⟨by omega, by omega⟩ | exact rfl | decide +kernel, ?_⟩)
 conv => whnf
 refine lI9 (σ := Nat × Nat) (fun ⟨_, i⟩ => [(0, nX9), (1, XV.s (.str s)), (2, XV.s (.a (.c (.ptr 0 0)))), (4, nX9), (5, nX9), (8, XV.s (.int .i64 (ns.length : Nat))), (9, XV.s (.int .i64 (i : Nat))), (10, nX9), (16, nX9)])
  (fun _ => [.row [.p (.l ndC ns)]]) (fun ⟨m, i⟩ => i + m = ns.length ∧ skV (isB ns s) ns.length = skGo (isB ns s) m i) (fun ⟨m, _⟩ => m) (ns.length, 0) ?_ rfl ⟨Nat.zero_add _, rfl⟩ ?_
 ·repeat first|exact lN9|refine lD9 ?_|refine lS9 ?_
 rintro ⟨m, i⟩ ⟨him, hgo⟩
 repeat ((conv => whnf); refine ⟨by first | (unfold inI64; omega) | omega | exact ⟨by omega, by omega⟩ | exact rfl | decide +kernel, ?_⟩)
 conv => whnf
 refine cI9 ?_ ?_<;>intro h3
 ·have hlt := lt_of_dec h3
  obtain ⟨m, rfl⟩ : ∃ q, m = q + 1 := ⟨m - 1, by omega⟩
  have hin : 0 ≤ (i : Int) ∧ (i : Int) < (ns.length : Nat) := by omega
  have e : skGo (isB ns s) (m + 1) i = if isB ns s i = true then i else skGo (isB ns s) m (i + 1) := rfl
  rw [e] at hgo
  repeat ((conv => whnf); refine ⟨by first | exact ⟨rfl, hf, hin.1, hin.2⟩ | (unfold inI64; omega) | omega | exact ⟨by omega, by omega⟩ | exact rfl | decide +kernel, ?_⟩)
  conv => whnf
  refine cI9 ?_ ?_<;>intro h4
  ·have h5 : isB ns s i = true := h4
   rw [if_pos h5] at hgo
   have e2 : rfV ns s = (i : Nat) := by
    unfold rfV
    rw [hgo, if_pos hlt]
   rw [e2]
   repeat ((conv => whnf); refine ⟨by first | (unfold inI64; omega) | omega | exact ⟨by omega, by omega⟩ | exact rfl | decide +kernel, ?_⟩)
   conv => whnf
   exact eR9
  have h5 : ¬ isB ns s i = true := ne_t h4
  rw [if_neg h5] at hgo
  repeat ((conv => whnf); refine ⟨by first | (unfold inI64; omega) | omega | exact ⟨by omega, by omega⟩ | exact rfl | decide +kernel, ?_⟩)
  conv => whnf
  refine hI9 (m, i + 1) ?_ rfl ⟨by omega, hgo⟩ (nS9 m)
  repeat first|exact lN9|refine lD9 ?_|refine lS9 ?_
 ·have hge := ge_of_dec h3
  obtain rfl : m = 0 := by omega
  obtain rfl : i = ns.length := by omega
  have e2 : rfV ns s = -1 := by
   unfold rfV
   rw [hgo]
   exact if_neg (Nat.lt_irrefl _)
  rw [e2]
  repeat ((conv => whnf); refine ⟨by first | (unfold inI64; omega) | omega | exact ⟨by omega, by omega⟩ | exact rfl | decide +kernel, ?_⟩)
  conv => whnf
  exact eR9
abbrev tokN (n : Nat) : AO := .tok ndT ndC n true
theorem id4 : ∀ k, k < 4 → [0, 1, 2, 3][k]? = some k := fun k hk => by
 obtain rfl | rfl | rfl | rfl : k = 0 ∨ k = 1 ∨ k = 2 ∨ k = 3 := by omega
 all_goals rfl
theorem id4' : ∀ k, k < 3 → [0, 1, 2, 3][k]? = some k := fun k hk => id4 k (by omega)
def saysRc : Says := fun args H => match H with
 | [] => match daT args with
  | some ns => some (some (args = eaT ns ∧ LenN ns), .a (.agg [.own 0 ndC ns]), [tokN ns.length])
  | none => none
 | _ => none
def C7 : Table := ext C6 86 saysRc
theorem c7 : TS9 C7 := by
 refine ext_run c6 (f := 86) (fn := Tryz.f86) rfl rfl [0, 1, 2, 3, 5, 7, 8, 9, 10] fun args H p r' H' hs hp => ?_
 unfold saysRc at hs
 split at hs
 ·split at hs
  ·rename_i ns _
   cases hs
   obtain ⟨rfl, hl⟩ := hp
   have hlen := hl.len
   refine ⟨nB9 rfl, [3], rfl, nK9, ?_⟩
   repeat ((conv => whnf); refine ⟨by first | (unfold inI64; omega) | omega | exact ⟨by omega, by omega⟩ | exact rfl | decide +kernel, ?_⟩)
   conv => whnf
   refine loop_weak (fun i : Nat => [(0, nX9), (1, XV.s (.a (.c (.ptr 0 0)))), (2, XV.s (.a (.c (.ptr 1 0)))), (3, XV.s (.a (.c (.ptr 2 0)))), (5, nX9), (7, XV.s (.a (.c (.p (.l ndC ns))))), (8, XV.s (.int .i64 (ns.length : Nat))), (9, XV.s (.int .i64 (i : Nat))), (10, nX9)])
    (fun i => [.row [.p (.l ndC ns)], .row [.p (.v (.slice none 0 0))], .row [.own 3 ndC (ns.take i)], tokN (ns.take i).length]) (fun i => i ≤ ns.length) (fun i => ns.length - i) 0 ?_ (nZ9 _) fun i hi => ?_
   ·refine (Weak.cell 2 rfl 0 rfl ndT ndC).trans (Weak.le _ ?_)
    repeat first|exact lN9|refine lD9 ?_|refine lS9 ?_
   repeat ((conv => whnf); refine ⟨by first | (unfold inI64; omega) | omega | exact ⟨by omega, by omega⟩ | exact rfl | decide +kernel, ?_⟩)
   conv => whnf
   refine cI9 ?_ ?_<;>intro h
   ·have hin : i < ns.length := lt_of_dec h
    have hob : (0 : Int) ≤ (i : Nat) ∧ (i : Int) < (ns.length : Nat) := ⟨by omega, by omega⟩
    have hcl : 0 + (ns.getD i ndC.dflt).2.2.length ≤ capBound := by
     have he : ns.getD i ndC.dflt = ns[i] := by simp [hin]
     rw [he, Nat.zero_add]
     exact Nat.le_trans (hl.at hin) (by decide)
    have hcl2 : (ns.take i).length + 1 ≤ capBound := by
     rw [List.length_take]
     exact Nat.le_trans (m := 1000000001) (by omega) (by decide)
    repeat ((conv => whnf); refine ⟨by first | exact hob | (unfold inI64; omega) | omega | exact ⟨by omega, by omega⟩ | exact rfl | decide +kernel, ?_⟩)
    conv => whnf
    refine Or.inl ?_
    repeat ((conv => whnf); refine ⟨by first | exact hcl | (unfold inI64; omega) | omega | exact ⟨by omega, by omega⟩ | exact rfl | decide +kernel, ?_⟩)
    conv => whnf
    refine Or.inl ?_
    repeat ((conv => whnf); refine ⟨by first | exact hcl2 | (unfold inI64; omega) | omega | exact ⟨by omega, by omega⟩ | exact rfl | decide +kernel, ?_⟩)
    conv => whnf
    have he : ns.take i ++ [((ns.getD i ndC.dflt).1, (ns.getD i ndC.dflt).2.1, ([] : List Pt) ++ (ns.getD i ndC.dflt).2.2)] = ns.take (i + 1) := by
     rw [List.nil_append, List.take_succ_eq_append_getElem hin]
     have he : ns.getD i ndC.dflt = ns[i] := by simp [hin]
     rw [he]
    have he2 : (ns.take i).length + 1 = (ns.take (i + 1)).length := by
     rw [List.length_take, List.length_take]
     omega
    refine kI9 (i + 1) [0, 1, 2, 3] rfl id4' ?_ ?_ (by show i + 1 ≤ _; omega) (by show _ - (i + 1) < _ - i; omega)
    ·show some [AO.row _, AO.row _, AO.row [.own 3 ndC (ns.take i ++ [((ns.getD i ndC.dflt).1, (ns.getD i ndC.dflt).2.1, ([] : List Pt) ++ (ns.getD i ndC.dflt).2.2)])], tokN ((ns.take i).length + 1)] = _
     rw [he, he2]
    ·repeat first|exact kN9|refine kD9 ?_|refine kR9 rfl ?_
   ·obtain rfl : i = ns.length := by
     have := ge_of_dec h
     omega
    repeat ((conv => whnf); refine ⟨by first | (unfold inI64; omega) | omega | exact ⟨by omega, by omega⟩ | exact rfl | decide +kernel, ?_⟩)
    conv => whnf
    rw [List.take_length]
    exact eR9
  ·cases hs
 ·cases hs
end Go.Ab
