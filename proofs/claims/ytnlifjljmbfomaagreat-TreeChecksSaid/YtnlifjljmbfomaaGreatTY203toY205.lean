/- Value and Children of the reference; both sides say the same of every tree. -/
import Derived.Test.YtnlifjljmbfomaaGreatTY202toY173
import Derived.Test.YtnlifjljmbfomaaGreatTY201toY204
namespace Go.Ab
open Go.Proofs
set_option linter.unusedSectionVars false
set_option maxRecDepth 100000
variable [Base]
def rvC (a : List Nd × Int × ByteArray) : Bool := (!decide (rchk a.1 = 0) || decide (a.2.1 < 0)) || decide (((a.1.length : Nat) : Int) ≤ a.2.1)
def rValV (a : List Nd × Int × ByteArray) : ByteArray × Bool := if rvC a = true then (⟨#[]⟩, false) else ofV (ndAt a.1 a.2.1.toNat).2.2 a.2.2
def BT4 : Table := ext BT3 25 (saysG daTIS eaTIS fun a => (none, valR (rValV a)))
theorem bT4 : TS9 BT4 := by
 refine extG bT3 25 (fn := Tryz.f25) rfl rfl daTIS eaTIS _ (fun _ => nB9 rfl) [0, 1, 2, 3, 6, 7, 21] fun a _ => ?_
 obtain ⟨ns, k, s⟩ := a
 show runF _ _ _ [] [.agg [.p (.l ndC ns)], .c (.int .i64 k), .c (.str s)] [] fun r H => Ends r H (valR (rValV (ns, k, s))) []
 unfold rValV
 obtain ⟨C, hC⟩ : ∃ C, rvC (ns, k, s) = C := ⟨_, rfl⟩
 rw [hC]
 unfold rvC at hC
 repeat ((conv => whnf); refine ⟨by first | exact ⟨rfl, trivial⟩ | (unfold inI64; omega) | omega | exact ⟨by omega, by omega⟩ | exact rfl | decide +kernel, ?_⟩)
 conv => whnf
 refine cI9 ?_ ?_<;>intro h
 ·have h1 : C = true := hC.symm.trans h
  rw [if_pos h1]
  repeat ((conv => whnf); refine ⟨by first | (unfold inI64; omega) | omega | exact ⟨by omega, by omega⟩ | exact rfl | decide +kernel, ?_⟩)
  conv => whnf
  exact eR9
 have h1 : C = false := hC.symm.trans h
 rw [if_neg (by rw [h1]; decide)]
 rw [h1] at hC
 dsimp only at hC
 simp only [Bool.or_eq_false_iff, decide_eq_false_iff_not] at hC
 have hb : 0 ≤ k ∧ k < (ns.length : Nat) := by omega
 have hc : rchk ns = 0 := by
  have := hC.1.1
  simpa using this
 have hlen := (lim_len (chk_vld.1 ((chk_same ns).trans hc)).lim).1
 have hps : (ndAt ns k.toNat).2.2.length ≤ 1000000000 := by rw [nd_at' (by omega)]; exact hlen.at (by omega)
 repeat ((conv => whnf); refine ⟨by first | exact hb | exact ⟨rfl, hps⟩ | (unfold inI64; omega) | omega | exact ⟨by omega, by omega⟩ | exact rfl | decide +kernel, ?_⟩)
 conv => whnf
 exact eR9
def rchlV (a : List Nd × Int) : List Int := if (decide (rchk a.1 = 0) && decide (0 ≤ a.2)) = true then chlGo a.1 a.2 a.1.length 0 [] else []
def BT5 : Table := ext BT4 22 (saysG daTI eaTI fun a => (none, .list (.int .i64) (rchlV a)))
theorem bT5 : TS9 BT5 := by
 refine extG bT4 22 (fn := Tryz.f22) rfl rfl daTI eaTI _ (fun _ => nB9 rfl) [0, 1, 2, 4, 5, 6, 7, 14, 16, 17, 18, 19, 26] fun a _ => ?_
 obtain ⟨ns, i⟩ := a
 dsimp only
 unfold rchlV
 obtain ⟨C, hC⟩ : ∃ C, (decide (rchk ns = 0) && decide (0 ≤ i)) = C := ⟨_, rfl⟩
 dsimp only
 rw [hC]
 repeat ((conv => whnf); refine ⟨by first | exact ⟨rfl, trivial⟩ | (unfold inI64; omega) | omega | exact ⟨by omega, by omega⟩ | exact rfl | decide +kernel, ?_⟩)
 conv => whnf
 refine cI9 ?_ ?_<;>intro h
 ·have h1 : C = true := hC.symm.trans h
  rw [if_pos h1]
  rw [h1] at hC
  have hc : rchk ns = 0 := oT9 (bA9.1 hC).1
  have hlen : ns.length ≤ 1000000000 := (lim_len (chk_vld.1 ((chk_same ns).trans hc)).lim).1.len
  repeat ((conv => whnf); refine ⟨by first | (unfold inI64; omega) | omega | exact ⟨by omega, by omega⟩ | exact rfl | decide +kernel, ?_⟩)
  conv => whnf
  refine loop_weak (σ := Nat × Nat × List Int) (fun ⟨_, j, out⟩ => [(0, nX9), (1, XV.s (.int .i64 i)), (2, nX9), (4, nX9), (5, XV.s (.a (.c (.own 1 (.int .i64) out)))), (6, nX9), (7, nX9), (14, nX9), (16, XV.s (.a (.c (.p (.l ndC ns))))), (17, XV.s (.int .i64 (ns.length : Nat))), (18, XV.s (.int .i64 (j : Nat))), (19, nX9), (26, nX9)])
   (fun ⟨_, _, out⟩ => [.row [.p (.l ndC ns)], .tok 3 (.int .i64) out.length true]) (fun ⟨m, j, out⟩ => j + m = ns.length ∧ out.length ≤ j ∧ chlGo ns i ns.length 0 [] = chlGo ns i m j out) (fun ⟨m, _, _⟩ => m) (ns.length, 0, []) ?_ ⟨Nat.zero_add _, nZ9 _, rfl⟩ ?_
  ·refine Weak.own 3 ?_
   repeat first|exact wN9|refine wD9 ?_|refine wS9 ?_|refine wO9 ?_
  rintro ⟨m, j, out⟩ ⟨hjm, hol, hgo⟩
  repeat ((conv => whnf); refine ⟨by first | (unfold inI64; omega) | omega | exact ⟨by omega, by omega⟩ | exact rfl | decide +kernel, ?_⟩)
  conv => whnf
  refine cI9 ?_ ?_<;>intro h2
  ·have hlt := lt_of_dec h2
   obtain ⟨m, rfl⟩ : ∃ q, m = q + 1 := ⟨m - 1, by omega⟩
   have hin : 0 ≤ (j : Int) ∧ (j : Int) < (ns.length : Nat) := by omega
   have e : chlGo ns i (m + 1) j out = chlGo ns i m (j + 1) (if (ndAt ns j).1 = i then out ++ [(j : Int)] else out) := rfl
   rw [e] at hgo
   repeat ((conv => whnf); refine ⟨by first | exact hin | (unfold inI64; omega) | omega | exact ⟨by omega, by omega⟩ | exact rfl | decide +kernel, ?_⟩)
   conv => whnf
   rw [nd_at]
   refine cI9 ?_ ?_<;>intro h3
   ·have h4 : (ndAt ns j).1 = i := oT9 h3
    rw [if_pos h4] at hgo
    have c1 : out.length + 1 ≤ 1000000000000 := by omega
    repeat ((conv => whnf); refine ⟨by first | (unfold inI64; omega) | omega | exact ⟨by omega, by omega⟩ | exact rfl | decide +kernel, ?_⟩)
    conv => whnf
    refine ⟨c1, ?_⟩
    repeat ((conv => whnf); refine ⟨by first | (unfold inI64; omega) | omega | exact ⟨by omega, by omega⟩ | exact rfl | decide +kernel, ?_⟩)
    conv => whnf
    refine kI9 (m, j + 1, out ++ [(j : Int)]) [0, 1] rfl id2c ?_ ?_ ⟨by omega, ?_, hgo⟩ (nS9 m)
    ·show _ = some [AO.row _, AO.tok _ _ (out ++ [(j : Int)]).length true]
     rw [zP9]
     rfl
    ·repeat first|exact kN9|refine kD9 ?_|refine kR9 rfl ?_
    ·rw [zP9]; simp only [zC9, zN9]; omega
   have h4 : ¬ (ndAt ns j).1 = i := oF9 h3
   rw [if_neg h4] at hgo
   repeat ((conv => whnf); refine ⟨by first | (unfold inI64; omega) | omega | exact ⟨by omega, by omega⟩ | exact rfl | decide +kernel, ?_⟩)
   conv => whnf
   refine kI9 (m, j + 1, out) [0, 1] rfl id2c rfl ?_ ⟨by omega, by omega, hgo⟩ (nS9 m)
   repeat first|exact kN9|refine kD9 ?_|refine kR9 rfl ?_
  ·have hge := ge_of_dec h2
   obtain rfl : m = 0 := by omega
   repeat ((conv => whnf); refine ⟨by first | (unfold inI64; omega) | omega | exact ⟨by omega, by omega⟩ | exact rfl | decide +kernel, ?_⟩)
   conv => whnf
   rw [hgo]
   exact eR9
 have h1 : C = false := hC.symm.trans h
 rw [if_neg (by rw [h1]; decide)]
 repeat ((conv => whnf); refine ⟨by first | (unfold inI64; omega) | omega | exact ⟨by omega, by omega⟩ | exact rfl | decide +kernel, ?_⟩)
 conv => whnf
 refine eO9 (fun G v hv => ?_) rfl
 obtain ⟨_, rfl⟩ := hv
 exact .inl ⟨rfl, rfl⟩
theorem pa_0 {ns : List Nd} (hf : FrmT ns) : (ndAt ns 0).1 = -1 := by
 have h4 := frm_nd hf.frm (i := 0) (by have := hf.len; omega)
 unfold ndFrm at h4
 obtain ⟨h5, _⟩ := bA9.1 h4
 obtain ⟨h6, _⟩ := bA9.1 h5
 simp at h6
 exact h6.1
theorem pa_ltI {ns : List Nd} (hf : FrmT ns) {j : Nat} (hj : j < ns.length) : @LT.lt Int _ (ndAt ns j).1 (j : Int) := by
 rcases Nat.eq_zero_or_pos j with h0 | h0
 ·subst h0
  rw [pa_0 hf]
  decide
 ·obtain ⟨h1, h2⟩ := par_lt hf.par h0 hj
  rw [← h2]
  exact Int.ofNat_lt.2 h1
theorem path_same (a : List Nd × Int) : rPathV a = PathV a := by
 obtain ⟨ns, i⟩ := a
 unfold rPathV PathV hasB
 dsimp only
 rw [chk_same]
 by_cases h : (0 ≤ i ∧ i < (ns.length : Nat)) ∧ rchk ns = 0
 ·rw [if_pos ⟨h.2, h.1.1, h.1.2⟩, if_pos (by simp [h.1.1, h.1.2, h.2])]
 ·rw [if_neg fun h2 => h ⟨⟨h2.2.1, h2.2.2⟩, h2.1⟩, if_neg fun h2 => h (by simpa [and_assoc] using h2)]
theorem find_same (a : List Nd × ByteArray) : rFindV a = FindV a := by
 obtain ⟨ns, s⟩ := a
 unfold rFindV FindV fndV rfV
 dsimp only
 rw [chk_same]
 by_cases h : rchk ns = 0
 ·rw [if_pos h, if_pos h]
  have hle := skV_le (isB ns s) ns.length
  generalize skV (isB ns s) ns.length = m at hle
  by_cases h2 : m = ns.length
  ·rw [if_pos h2, if_neg (show ¬ m < ns.length by omega)]
   rfl
  ·rw [if_neg h2, if_pos (show m < ns.length by omega), if_neg (show ¬ ((m : Nat) : Int) < 0 by omega), dT9 (show (0 : Int) ≤ ((m : Nat) : Int) by omega)]
 ·rw [if_neg h, if_neg h]
theorem chl_none {ns : List Nd} {i : Int} : ∀ (m j : Nat) (out : List Int), (∀ q, j ≤ q → q < j + m → ¬ (ndAt ns q).1 = i) → chlGo ns i m j out = out := by
 intro m
 induction m with
 | zero => intro j out _; rfl
 | succ m ih =>
  intro j out h
  unfold chlGo
  rw [if_neg (h j (nR9 _) (by omega)), ih (j + 1) out fun q h1 h2 => h q (by omega) (by omega)]
theorem chl_same (a : List Nd × Int) : rchlV a = chlV a := by
 obtain ⟨ns, i⟩ := a
 unfold rchlV chlV hasB
 dsimp only
 rw [chk_same]
 by_cases h : rchk ns = 0
 ·by_cases h2 : 0 ≤ i
  ·by_cases h3 : i < (ns.length : Nat)
   ·rw [if_pos (by simp [h, h2]), if_pos (by simp [h, h2, h3])]
   ·rw [if_pos (by simp [h, h2]), if_neg (by simp [h3])]
    have hf := (vld_vl (chk_vld.1 ((chk_same ns).trans h))).f
    refine chl_none _ _ _ fun q _ hq h4 => ?_
    have h5 := pa_ltI hf (j := q) (by omega)
    rw [h4] at h5
    have h6 : i < (q : Int) := h5
    omega
  ·rw [if_neg (by simp [h2]), if_neg (by simp [h2])]
 ·rw [if_neg (by simp [h]), if_neg (by simp [h])]
def saysBn (q : List Int → Int → List Nd → Prop) : Says := fun args H => match args, H with
 | [.c (.ptr 0 0), .agg [.p (.l (.pair (.int .i64) (.pair .str (.list (.pair .str .str)))) ns)]], [.row [.p (.l (.int .i64) zs), .p (.v (.int .i64 n))]] =>
  some (some ((tapeOk zs n ∧ LenN ns ∧ ns.length ≤ 1000) ∧ q zs n ns), .a (.agg [.p (.l ndC (bnV zs n ns).1)]), [tapeO zs (bnV zs n ns).2])
 | _, _ => none
theorem tp_pure (zs : List Int) (n : Int) : ∀ y ∈ [AC.p (.l (.int .i64) zs), AC.p (.v (.int .i64 n))], ∃ z, y = .p z := fun y hy => by
 simp only [List.mem_cons, List.not_mem_nil, or_false] at hy
 rcases hy with rfl | rfl <;> exact ⟨_, rfl⟩
def saysBn0 : Says := fun args H => match args, H with
 | [.c (.ptr 0 0), .agg [.p (.l (.pair (.int .i64) (.pair .str (.list (.pair .str .str)))) ns)]], [.row [.p (.l (.int .i64) zs), .p (.v (.int .i64 n))]] =>
  some (some (ns = []), .a (.agg [.p (.v (.slice none 0 0))]), [tapeO zs n])
 | _, _ => none
theorem bn_0 : TS9 (ext N6 12 saysBn0) := by
 refine ext_run n6 (f := 12) (fn := Tryz.f12) rfl rfl [0, 1, 3, 4, 5, 7, 8, 9, 10, 12, 13, 14, 15, 33, 45, 51, 62, 72, 86, 103, 115, 124, 142, 149] fun args H p r' H' hs hp => ?_
 unfold saysBn0 at hs
 split at hs
 ·rename_i ns zs n
  cases hs
  have hn : ns = [] := hp
  subst hn
  refine ⟨nB9 rfl, [0], rfl, id0, ?_⟩
  repeat ((conv => whnf); refine ⟨by first | (unfold inI64; omega) | omega | exact ⟨by omega, by omega⟩ | exact rfl | decide +kernel, ?_⟩)
  conv => whnf
  refine lI9 (fun i : Nat => [(0, XV.s (.a (.c (.ptr 0 0)))), (1, nX9), (3, XV.s (.a (.c (.ptr 1 0)))), (4, XV.s (.a (.c (.ptr 2 0)))), (5, XV.s (.a (.c (.ptr 3 0)))), (7, nX9), (8, nX9), (9, nX9), (10, nX9), (12, XV.s (.a (.c (.p (.l ndC []))))), (13, XV.s (.int .i64 0)), (14, XV.s (.int .i64 0)), (15, nX9), (33, nX9), (45, nX9), (51, nX9), (62, nX9), (72, nX9), (86, nX9), (103, nX9), (115, nX9), (124, nX9), (142, nX9), (149, nX9)])
   (fun _ => [tapeO zs n, .row [.p (.l ndC [])], .row [.p (.v (.slice none 0 0))], .row [.p (.v (.slice none 0 0))]]) (fun _ => True) (fun i => i) 0 ?_ rfl trivial fun i _ => ?_
  ·repeat first|exact lN9|refine lD9 ?_|refine lS9 ?_
  repeat ((conv => whnf); refine ⟨by first | (unfold inI64; omega) | omega | exact ⟨by omega, by omega⟩ | exact rfl | decide +kernel, ?_⟩)
  conv => whnf
  exact eR9
 ·cases hs
theorem bn_0c : TS9 (ext N6 12 (saysBn fun _ _ ns => ns = [])) := by
 refine ext_rowT bn_0 n6 fun args H p r H' hs hp => ?_
 unfold saysBn at hs
 split at hs
 ·rename_i ns zs n
  cases hs
  obtain ⟨_, hn⟩ := hp
  have hn : ns = [] := hn
  subst hn
  have hb : bnV zs n [] = ([], n) := by unfold bnV; exact if_pos rfl
  rw [hb]
  exact ⟨some (([] : List Nd) = []), _, [.p (.l (.int .i64) zs), .p (.v (.int .i64 n))], [], .p (.v (.slice none 0 0)), ndC, [], rfl, rfl, rfl, tp_pure zs n, .inr (.inr (.inl ⟨rfl, rfl⟩)), rfl, rfl⟩
 ·cases hs
theorem bn_pc : TS9 (ext N6 12 (saysBn fun zs n ns => 0 < ns.length ∧ bnPl zs n ns)) := by
 refine ext_rowT bn_p n6 fun args H p r H' hs hp => ?_
 unfold saysBn at hs
 split at hs
 ·rename_i ns zs n
  cases hs
  obtain ⟨⟨h1, h2, h3⟩, h4, h5⟩ := hp
  have hm0 := mN9 (rawV zs n) ns.length
  have hm1 := modV_lt (rawV zs n) ns.length (by omega)
  have hk : bnK zs n ns < ns.length := by unfold bnK; omega
  have hc0 : 0 ≤ bnC zs n := mN9 _ 9
  have hc1 : bnC zs n < 9 := modV_lt _ 9 (by decide)
  refine ⟨some (tapeOk zs n ∧ LenN ns ∧ 0 < ns.length ∧ ns.length ≤ 1000 ∧ bnPl zs n ns), _, [.p (.l (.int .i64) zs), .p (.v (.int .i64 (bnV zs n ns).2))], _, _, ndC, _, ⟨h1, h2, h4, h3, h5⟩, rfl, rfl, tp_pure zs _, .inr (.inl ⟨1, _, _, _, _, rfl, rfl, ?_, ?_, ?_⟩), rfl, rfl⟩
  ·split
   ·exact h4
   ·rename_i h8
    unfold bnV
    rw [if_neg (by omega)]
    split
    ·rw [List.length_set]; exact h4
    split
    ·rw [List.length_set]; exact h4
    split
    ·show 0 < (List.set _ _ _).length; rw [List.length_set]; exact h4
    split
    ·show 0 < (List.set _ _ _).length; rw [List.length_set]; exact h4
    split
    ·rw [zP9]; omega
    split
    ·rw [zP9]; omega
    split
    ·show 0 < (List.set _ _ _).length; rw [List.length_set]; exact h4
    split
    ·show 0 < (List.set _ _ _).length; rw [List.length_set]; exact h4
    ·omega
  ·split
   ·rename_i h8
    have : (bnV zs n ns).1 = ns.take (bnK zs n ns) := by
     unfold bnV
     rw [if_neg (by omega), if_neg (by omega), if_neg (by omega), if_neg (by omega), if_neg (by omega), if_neg (by omega), if_neg (by omega), if_neg (by omega), if_neg (by omega)]
    rw [this, List.length_take]
    omega
   ·exact nR9 _
  ·split
   ·rename_i h8
    have : (bnV zs n ns).1 = ns.take (bnK zs n ns) := by
     unfold bnV
     rw [if_neg (by omega), if_neg (by omega), if_neg (by omega), if_neg (by omega), if_neg (by omega), if_neg (by omega), if_neg (by omega), if_neg (by omega), if_neg (by omega)]
    rw [this, List.length_take, Nat.min_eq_left (by omega)]
   ·rw [List.take_length]
 ·cases hs
theorem bn_hc : TS9 (ext N6 12 (saysBn fun zs n ns => 0 < ns.length ∧ (bnC zs n = 2 ∨ bnC zs n = 3 ∨ bnC zs n = 6))) := by
 refine ext_rowT bn_h n6 fun args H p r H' hs hp => ?_
 unfold saysBn at hs
 split at hs
 ·rename_i ns zs n
  cases hs
  obtain ⟨⟨h1, h2, h3⟩, h4, h5⟩ := hp
  have hm0 := mN9 (rawV zs n) ns.length
  have hm1 := modV_lt (rawV zs n) ns.length (by omega)
  have hk : bnK zs n ns < ns.length := by unfold bnK; omega
  have hV : bnV zs n ns = (bnP ns (bnK zs n ns) ((ndAt ns (bnK zs n ns)).2.2 ++ [bnNw zs n]), rawN zs (bnN zs n)) := by
   unfold bnV bnNw
   rw [if_neg (by omega)]
   rcases h5 with h5 | h5 | h5
   ·rw [if_neg (by omega), if_neg (by omega), if_pos h5, if_pos h5]
   ·rw [if_neg (by omega), if_neg (by omega), if_neg (by omega), if_pos h5, if_neg (by omega), if_pos h5]
   ·rw [if_neg (by omega), if_neg (by omega), if_neg (by omega), if_neg (by omega), if_neg (by omega), if_neg (by omega), if_pos h5, if_neg (by omega), if_neg (by omega)]
  rw [hV]
  refine ⟨some (tapeOk zs n ∧ LenN ns ∧ 0 < ns.length ∧ ns.length ≤ 1000 ∧ (bnC zs n = 2 ∨ bnC zs n = 3 ∨ bnC zs n = 6)), _, [.p (.l (.int .i64) zs), .p (.v (.int .i64 (rawN zs (bnN zs n))))], _, _, ndC, _, ⟨h1, h2, h4, h3, h5⟩, rfl, rfl, tp_pure zs _, .inl ⟨1, _, bnP ns (bnK zs n ns) [], bnK zs n ns, 2, _, ns.length - 1, ?_, rfl, ?_⟩, rfl, rfl⟩
  ·rw [bnP_len]
  ·show some (bnP (bnP ns (bnK zs n ns) []) (bnK zs n ns) ((ndAt ns (bnK zs n ns)).2.2 ++ [bnNw zs n])) = _
   rw [bnP_again _ _ hk]
 ·cases hs
theorem prSw_len (l : List Pt) : (prSw l).length = l.length := by
 cases l with
 | nil => rfl
 | cons a r => cases r <;> rfl
theorem bn_sc : TS9 (ext N6 12 (saysBn fun zs n ns => 0 < ns.length ∧ bnC zs n = 7 ∧ 1 < (ndAt ns (bnK zs n ns)).2.2.length)) := by
 refine ext_rowT bn_s n6 fun args H p r H' hs hp => ?_
 unfold saysBn at hs
 split at hs
 ·rename_i ns zs n
  cases hs
  obtain ⟨⟨h1, h2, h3⟩, h4, h5, h6⟩ := hp
  have hm0 := mN9 (rawV zs n) ns.length
  have hm1 := modV_lt (rawV zs n) ns.length (by omega)
  have hk : bnK zs n ns < ns.length := by unfold bnK; omega
  have hV : bnV zs n ns = (bnP ns (bnK zs n ns) (prSw (ndAt ns (bnK zs n ns)).2.2), bnN zs n) := by
   unfold bnV
   rw [if_neg (by omega), if_neg (by omega), if_neg (by omega), if_neg (by omega), if_neg (by omega), if_neg (by omega), if_neg (by omega), if_neg (by omega), if_pos h5]
  rw [hV]
  refine ⟨some (tapeOk zs n ∧ LenN ns ∧ 0 < ns.length ∧ ns.length ≤ 1000 ∧ (bnC zs n = 7 ∧ 1 < (ndAt ns (bnK zs n ns)).2.2.length)), _, [.p (.l (.int .i64) zs), .p (.v (.int .i64 (bnN zs n)))], _, _, ndC, _, ⟨h1, h2, h4, h3, h5, h6⟩, rfl, rfl, tp_pure zs _, .inr (.inr (.inr ⟨1, ndT, bnP ns (bnK zs n ns) [], bnK zs n ns, 2, ns.length - 1, 2, ptT, ptC, prSw (ndAt ns (bnK zs n ns)).2.2, 0, ?_, ?_, rfl, ?_, ?_⟩)), rfl, rfl⟩
  ·rw [bnP_len]
  ·rw [prSw_len]; rfl
  ·rw [prSw_len]; omega
  ·show some (bnP (bnP ns (bnK zs n ns) []) (bnK zs n ns) (prSw (ndAt ns (bnK zs n ns)).2.2)) = _
   rw [bnP_again _ _ hk]
 ·cases hs
def BT6 : Table := ext BT5 12 (saysBn fun _ _ _ => True)
theorem bT6 : TS9 BT6 := by
 refine ext_case (ext_case (ext_only (U := N6) bn_0c bT5) (ext_only (U := N6) bn_pc bT5) bT5 (s' := saysBn fun zs n ns => ns = [] ∨ (0 < ns.length ∧ bnPl zs n ns)) fun args H p r H' hs hp => ?_) (ext_case (ext_only (U := N6) bn_hc bT5) (ext_only (U := N6) bn_sc bT5) bT5 (s' := saysBn fun zs n ns => (0 < ns.length ∧ (bnC zs n = 2 ∨ bnC zs n = 3 ∨ bnC zs n = 6)) ∨ (0 < ns.length ∧ bnC zs n = 7 ∧ 1 < (ndAt ns (bnK zs n ns)).2.2.length)) fun args H p r H' hs hp => ?_) bT5 fun args H p r H' hs hp => ?_
 all_goals
  unfold saysBn at hs
  split at hs
  ·rename_i ns zs n
   cases hs
   obtain ⟨h1, h2⟩ := hp
   first
    | (rcases h2 with h2 | h2
       ·exact .inl ⟨some (_ ∧ _), ⟨h1, h2⟩, rfl⟩
       ·exact .inr ⟨some (_ ∧ _), ⟨h1, h2⟩, rfl⟩)
    | (have hc0 : 0 ≤ bnC zs n := mN9 _ 9
       have hc1 : bnC zs n < 9 := modV_lt _ 9 (by decide)
       rcases Nat.eq_zero_or_pos ns.length with h3 | h3
       ·exact .inl ⟨some (_ ∧ _), ⟨h1, .inl (List.eq_nil_of_length_eq_zero h3)⟩, rfl⟩
       ·by_cases h4 : bnC zs n = 2 ∨ bnC zs n = 3 ∨ bnC zs n = 6
        ·exact .inr ⟨some (_ ∧ _), ⟨h1, .inl ⟨h3, h4⟩⟩, rfl⟩
        ·by_cases h5 : bnC zs n = 7 ∧ 1 < (ndAt ns (bnK zs n ns)).2.2.length
         ·exact .inr ⟨some (_ ∧ _), ⟨h1, .inr ⟨h3, h5⟩⟩, rfl⟩
         ·exact .inl ⟨some (_ ∧ _), ⟨h1, .inr ⟨h3, by omega, by omega, by omega, fun h6 => by omega⟩⟩, rfl⟩)
  ·cases hs
end Go.Ab
