/- TreeChecks: the law. -/
import Derived.Test.YtnlifjljmbfomaaGreatTY203toY205
import Derived.Test.YtnlifjljmbfomaaGreatTY121toY107
import Derived.Test.YtnlifjljmbfomaaGreatTX0toY61
import Derived.SizedLaws
namespace Go.Ab
open Go.Proofs
set_option linter.unusedSectionVars false
set_option maxRecDepth 100000
variable [Base]
def saysRng2 : Says := fun args H => match args, H with
 | [.c (.ptr 0 0), .c (.p (.v (.int .i64 lo))), .c (.p (.v (.int .i64 hi)))], [.row [.p (.l (.int .i64) zs), .p (.v (.int .i64 n))]] => some (some (tapeOk zs n ∧ -1000 ≤ lo ∧ lo ≤ hi ∧ hi ≤ 4294967295), .int .i64 (lo + modV (rawV zs n) (hi - lo + 1)), [tapeO zs (rawN zs n)])
 | _, _ => none
def BT7 : Table := ext BT6 17 saysRng2
theorem bT7 : TS9 BT7 := by
 refine ext_run bT6 (f := 17) (fn := Tryz.f17) rfl rfl [0, 1, 2, 6] fun args H p r H' hs hp => ?_
 unfold saysRng2 at hs
 split at hs
 ·rename_i lo hi zs n
  cases hs
  obtain ⟨ht, h0, h1, h2⟩ := hp
  refine ⟨nB9 rfl, [0], rfl, id0, ?_⟩
  have hm0 := mN9 (rawV zs n) (hi - lo + 1)
  have hm1 := modV_lt (rawV zs n) (hi - lo + 1) (by omega)
  repeat ((conv => whnf); refine ⟨by first | exact ⟨ht, by omega⟩ | (unfold inI64; omega) | omega | exact ⟨by omega, by omega⟩ | (intro hg; first | (unfold inI64; omega) | omega | exact ⟨by omega, by omega⟩ | (simp [lit] at hg; unfold inI64; omega) | (simp [lit] at hg; omega) | (simp [lit] at hg; exact ⟨by omega, by omega⟩)) | (show (_ : Nat) + 1 ≤ 1000000000000; omega) | exact rfl | (unfold inI64; dsimp only; omega) | (dsimp only; omega) | (intro hg; simp [lit] at hg; first | (unfold inI64; dsimp only; omega) | (dsimp only; omega)) | decide +kernel, ?_⟩)
  conv => whnf
  exact eR9
 ·cases hs
structure SmN (k : Nat) (ns : List Nd) : Prop where
 len : ns.length ≤ k
 ps : ∀ n ∈ ns, n.2.2.length ≤ k
theorem SmN.lenN {k : Nat} {ns : List Nd} (h : SmN k ns) (hk : k ≤ 1000) : LenN ns := ⟨by have := h.len; omega, fun n hn => by have := h.ps n hn; omega⟩
theorem SmN.tt {k : Nat} {ns : List Nd} (h : SmN k ns) (hk : k ≤ 1000) (ms : List Nd) : TTOk (ns, ms) := ⟨by have := h.len; show ns.length ≤ _; omega, fun i hi => by
 have := h.ps (ndAt ns i) (by rw [nd_at' hi]; exact List.getElem_mem hi)
 show (ndAt ns i).2.2.length ≤ _
 omega⟩
theorem sm_len : ∀ (l : List Nd) (n : Nat), smF l n ≤ 400 → n ≤ 400 ∧ ∀ x ∈ l, x.2.2.length ≤ 400 := by
 intro l
 induction l with
 | nil => intro n h; exact ⟨h, fun x hx => by cases hx⟩
 | cons x r ih =>
  intro n h
  unfold smF at h
  split at h
  ·obtain ⟨h1, h2⟩ := ih _ h
   refine ⟨by omega, fun y hy => ?_⟩
   rcases List.mem_cons.1 hy with rfl | hy
   ·omega
   ·exact h2 y hy
  ·exact absurd h (by omega)
theorem sm_raw {ns : List Nd} (h : smB ns = true) : SmN 400 ns := by
 obtain ⟨h1, h2⟩ := sm_len ns ns.length (oT9 h)
 exact ⟨h1, h2⟩
theorem bnP_sm {k : Nat} {ns : List Nd} (h : SmN k ns) (j : Nat) (q : Nd) (hq : q.2.2.length ≤ k + 1) : SmN (k + 1) (ns.set j q) := by
 refine ⟨by rw [List.length_set]; have := h.len; omega, fun n hn => ?_⟩
 rcases List.mem_or_eq_of_mem_set hn with h1 | h1
 ·have := h.ps n h1
  omega
 ·rw [h1]; exact hq
theorem bn_sm {k : Nat} {zs : List Int} {n : Int} {ns : List Nd} (h : SmN k ns) : SmN (k + 1) (bnV zs n ns).1 := by
 have hat : ∀ j, (ndAt ns j).2.2.length ≤ k := fun j => by
  rcases Nat.lt_or_ge j ns.length with h1 | h1
  ·rw [nd_at' h1]; exact h.ps _ (List.getElem_mem h1)
  ·unfold ndAt
   rw [List.getD_eq_getElem?_getD, List.getElem?_eq_none h1]
   exact nZ9 _
 have hl := h.len
 unfold bnV
 split
 ·exact ⟨nZ9 _, fun n hn => by cases hn⟩
 split
 ·exact bnP_sm h _ _ (Nat.le_succ_of_le (hat _))
 split
 ·exact bnP_sm h _ _ (Nat.le_succ_of_le (hat _))
 split
 ·exact bnP_sm h _ _ (by show (_ ++ [_]).length ≤ _; rw [zP9]; exact Nat.succ_le_succ (hat _))
 split
 ·exact bnP_sm h _ _ (by show (_ ++ [_]).length ≤ _; rw [zP9]; exact Nat.succ_le_succ (hat _))
 split
 ·refine ⟨by rw [zP9]; show _ + 1 ≤ _; omega, fun x hx => ?_⟩
  rcases List.mem_append.1 hx with h1 | h1
  ·have := h.ps x h1; omega
  ·rw [List.mem_singleton.1 h1]; exact Nat.le_succ_of_le (hat _)
 split
 ·refine ⟨by rw [zP9]; show _ + 1 ≤ _; omega, fun x hx => ?_⟩
  rcases List.mem_append.1 hx with h1 | h1
  ·have := h.ps x h1; omega
  ·rw [List.mem_singleton.1 h1]; exact nZ9 _
 split
 ·exact bnP_sm h _ _ (by show (_ ++ [_]).length ≤ _; rw [zP9]; exact Nat.succ_le_succ (hat _))
 split
 ·exact bnP_sm h _ _ (by show (prSw _).length ≤ _; rw [prSw_len]; exact Nat.le_succ_of_le (hat _))
 ·exact ⟨by rw [List.length_take]; show min _ _ ≤ _; omega, fun x hx => Nat.le_succ_of_le (h.ps x (List.mem_of_mem_take hx))⟩
theorem bn_tp {zs : List Int} {n : Int} {ns : List Nd} (h : tapeOk zs n) : tapeOk zs (bnV zs n ns).2 := by
 have h2 : tapeOk zs (bnN zs n) := rawN_ok9 (rawN_ok9 h)
 have h3 : tapeOk zs (rawN zs (bnN zs n)) := rawN_ok9 h2
 unfold bnV
 split; exact h
 split; exact h3
 split; exact h3
 split; exact h3
 split; exact h3
 split; exact h2
 split; exact h2
 split; exact h3
 split; exact h2
 exact h2
theorem vl_smN {ns : List Nd} (hv : Vl ns) : SmN 120 ns := ⟨hv.f.len.2, fun n hn => by
 obtain ⟨i, hi, rfl⟩ := List.getElem_of_mem hn
 have h1 := hv.f.lim
 unfold limV at h1
 obtain ⟨_, h2⟩ := bA9.1 h1
 have h3 : ndLim ns[i] = true := List.all_eq_true.1 h2 _ (List.getElem_mem hi)
 unfold ndLim at h3
 have h4 := oT9 (bA9.1 h3).1
 omega⟩
theorem ofV_at : ∀ {ps : List Pt} {s : ByteArray} {j : Nat}, j < ps.length → (ptAt ps j).1 = s → (∀ i, i < j → ¬ (ptAt ps i).1 = s) → ofV ps s = ((ptAt ps j).2, true) := by
 intro ps
 induction ps with
 | nil => intro s j h; exact absurd h (nN9 j)
 | cons a r ih =>
  intro s j h1 h2 h3
  cases j with
  | zero => exact if_pos h2
  | succ j =>
   unfold ofV
   rw [if_neg (show ¬ a.1 = s from h3 0 (Nat.succ_pos j))]
   exact ih (Nat.lt_of_succ_lt_succ h1) h2 fun i hi => h3 (i + 1) (Nat.succ_lt_succ hi)
theorem ofV_no : ∀ {ps : List Pt} {s : ByteArray}, (∀ i, i < ps.length → ¬ (ptAt ps i).1 = s) → ofV ps s = (⟨#[]⟩, false) := by
 intro ps
 induction ps with
 | nil => intro s _; rfl
 | cons a r ih =>
  intro s h
  unfold ofV
  rw [if_neg (show ¬ a.1 = s from h 0 (Nat.succ_pos _))]
  exact ih fun i hi => h (i + 1) (Nat.succ_lt_succ hi)
theorem bLt_ne {a s : ByteArray} (h : bLt a s = true) : ¬ a = s := fun h2 => by
 rw [h2] at h
 have h3 := cmpV_lt.2 h
 rw [cmpV_zero.2 rfl] at h3
 exact absurd h3 (by decide)
theorem of_asc {ps : List Pt} (ha : ascV ps = true) (s : ByteArray) : ofV ps s = if fndP ps s = true then ((ptAt ps (posV ps s)).2, true) else (⟨#[]⟩, false) := by
 by_cases h : fndP ps s = true
 ·rw [if_pos h]
  unfold fndP at h
  obtain ⟨h1, h2⟩ := bA9.1 h
  exact ofV_at (oT9 h1) (oT9 h2) fun i hi => bLt_ne (pos_lo hi)
 ·rw [if_neg h]
  refine ofV_no fun i hi he => ?_
  rcases Nat.lt_trichotomy i (posV ps s) with h1 | h1 | h1
  ·exact bLt_ne (pos_lo h1) he
  ·refine h ?_
   unfold fndP
   rw [dT9 (show posV ps s < ps.length by omega), dT9 (by rw [← h1]; exact he)]
   rfl
  ·have h2 := asc_pw ha _ _ h1 hi
   rw [he] at h2
   have h3 := pos_hi (s := s) ha (nR9 _) (show posV ps s < ps.length by omega)
   rw [h2] at h3
   cases h3
theorem val_same (a : List Nd × Int × ByteArray) : rValV a = ValV a := by
 obtain ⟨ns, i, s⟩ := a
 unfold rValV ValV rvC hasB
 dsimp only
 rw [chk_same]
 by_cases h : (0 ≤ i ∧ i < (ns.length : Nat)) ∧ rchk ns = 0
 ·rw [if_neg (by simp [h.1.1, h.1.2, h.2]), if_pos (by simp [h.1.1, h.1.2, h.2])]
  have hv := vld_vl (chk_vld.1 ((chk_same ns).trans h.2))
  exact of_asc (hv.asc _ (by omega)) s
 ·rw [if_pos, if_neg fun h2 => h (by simpa [and_assoc] using h2)]
  by_cases h2 : rchk ns = 0
  ·by_cases h3 : i < 0
   ·simp [h3]
   ·have h4 : ((ns.length : Nat) : Int) ≤ i := by
     have := fun h5 : i < (ns.length : Nat) => h ⟨⟨by omega, h5⟩, h2⟩
     omega
    simp [h4]
  ·simp [h2]
theorem chlGo_len (ns : List Nd) (i : Int) : ∀ (m j : Nat) (out : List Int), (chlGo ns i m j out).length ≤ out.length + m := by
 intro m
 induction m with
 | zero => intro j out; exact nR9 _
 | succ m ih =>
  intro j out
  unfold chlGo
  refine Nat.le_trans (ih _ _) ?_
  split
  ·rw [zP9]; simp only [zC9, zN9]; omega
  ·omega
theorem chl_len (ns : List Nd) (i : Int) : (chlV (ns, i)).length ≤ ns.length := by
 unfold chlV
 split
 ·have := chlGo_len ns i ns.length 0 []
  simp only [zN9, Nat.zero_add] at this
  exact this
 ·exact nZ9 _
abbrev tcE (path name : ByteArray) (node : Int) (a14 a16 a54 a55 a56 a86 a87 a88 a112 a113 a114 a146 a147 a148 a184 a185 a186 : XV) : Env := [(0, nX9), (1, nX9), (2, XV.s (.str path)), (3, XV.s (.str name)), (4, XV.s (.int .i64 node)), (6, XV.s (.a (.c (.ptr 0 0)))), (10, nX9), (11, XV.s (.a (.c (.ptr 1 0)))), (12, XV.s (.a (.c (.ptr 2 0)))), (14, a14), (16, a16), (18, nX9), (19, nX9), (20, nX9), (21, nX9), (22, nX9), (24, nX9), (25, nX9), (26, nX9), (27, nX9), (28, nX9), (30, nX9), (38, nX9), (54, a54), (55, a55), (56, a56), (57, nX9), (82, nX9), (86, a86), (87, a87), (88, a88), (89, nX9), (108, nX9), (112, a112), (113, a113), (114, a114), (115, nX9), (139, nX9), (146, a146), (147, a147), (148, a148), (149, nX9), (171, nX9), (184, a184), (185, a185), (186, a186), (187, nX9), (194, nX9)]
def saysTc : Says := fun args H => match args, H with
 | [.c (.p (.l (.int .i64) _)), .agg [.p (.l (.pair (.int .i64) (.pair .str (.list (.pair .str .str)))) raw)], .c (.p (.v (.string _))), .c (.p (.v (.string _))), .c (.p (.v (.int .i64 _)))], [] => some (some (LenM raw), .bool true, [])
 | _, _ => none
set_option maxHeartbeats 4000000 in
theorem tc_law : TS9 (ext BT7 3 saysTc) := by
 refine ext_run bT7 (f := 3) (fn := Tryz.f3) rfl rfl [0, 1, 2, 3, 4, 6, 10, 11, 12, 14, 16, 18, 19, 20, 21, 22, 24, 25, 26, 27, 28, 30, 38, 54, 55, 56, 57, 82, 86, 87, 88, 89, 108, 112, 113, 114, 115, 139, 146, 147, 148, 149, 171, 184, 185, 186, 187, 194] fun args H p r' H' hs hp => ?_
 unfold saysTc at hs
 split at hs
 ·rename_i zs raw path name node
  cases hs
  have hm : LenM raw := hp
  refine ⟨nB9 rfl, [], rfl, nK9, ?_⟩
  repeat ((conv => whnf); refine ⟨by first | exact ⟨rfl, hm⟩ | (unfold inI64; omega) | omega | exact ⟨by omega, by omega⟩ | exact rfl | decide +kernel, ?_⟩)
  conv => whnf
  refine cI9 ?_ ?_<;>intro h
  ·repeat ((conv => whnf); refine ⟨by first | (unfold inI64; omega) | omega | exact ⟨by omega, by omega⟩ | exact rfl | decide +kernel, ?_⟩)
   conv => whnf
   exact eR9
  have hsm : smB raw = true ∧ path.size ≤ 400 := by
   have h2 : (!smB raw || decide ((400 : Int) < (path.size : Nat))) = false := h
   rw [Bool.or_eq_false_iff] at h2
   have h3 : smB raw = true := by
    have h4 := h2.1
    cases h5 : smB raw with
    | true => rfl
    | false => rw [h5] at h4; cases h4
   have h6 : ¬ (400 : Int) < (path.size : Nat) := oF9 h2.2
   exact ⟨h3, by omega⟩
  have hr := sm_raw hsm.1
  have ht0 : tapeOk (zs.take 500) 0 := by
   have := List.length_take_le 500 zs
   exact ⟨by decide, by decide, by omega⟩
  generalize hz : (zs : List Int).take 500 = ys at ht0
  have hv := gr_vl ys 0 10
  have htt := gr_ok (zs := ys) (n := 0) (k := 10) ht0
  obtain ⟨R, hR⟩ : ∃ R, grV ys 0 10 = R := ⟨_, rfl⟩
  rw [hR] at hv htt
  obtain ⟨a, x0⟩ := R
  have hv : Vl a := hv
  have ha : SmN 120 a := vl_smN hv
  have htt : tapeOk ys x0 := htt
  have q1 : tapeOk ys 0 ∧ (0 : Int) ≤ 10 ∧ (10 : Int) ≤ 100 := ⟨ht0, by decide, by decide⟩
  conv => whnf
  rw [hz]
  repeat ((conv => whnf); refine ⟨by first | exact q1 | (unfold inI64; omega) | omega | exact ⟨by omega, by omega⟩ | exact rfl | decide +kernel, ?_⟩)
  conv => whnf
  rw [hR]
  have hb1 : SmN 121 (bnV ys x0 a).1 := bn_sm ha
  have hp1 : tapeOk ys (bnV ys x0 a).2 := bn_tp htt
  have hb2 : SmN 121 (bnV ys (bnV ys x0 a).2 a).1 := bn_sm ha
  have hp2 : tapeOk ys (bnV ys (bnV ys x0 a).2 a).2 := bn_tp hp1
  have hb3 : SmN 122 (bnV ys (bnV ys (bnV ys x0 a).2 a).2 (bnV ys (bnV ys x0 a).2 a).1).1 := bn_sm hb2
  have hp3 : tapeOk ys (bnV ys (bnV ys (bnV ys x0 a).2 a).2 (bnV ys (bnV ys x0 a).2 a).1).2 := bn_tp hp2
  have hal : a.length ≤ 1000 := by have := ha.len; omega
  have hbl : (bnV ys (bnV ys x0 a).2 a).1.length ≤ 1000 := by have := hb2.len; omega
  have c1 : (tapeOk ys x0 ∧ LenN a ∧ a.length ≤ 1000) ∧ True := ⟨⟨htt, ha.lenN (by decide), hal⟩, trivial⟩
  have c2 : (tapeOk ys (bnV ys x0 a).2 ∧ LenN a ∧ a.length ≤ 1000) ∧ True := ⟨⟨hp1, ha.lenN (by decide), hal⟩, trivial⟩
  have c3 : (tapeOk ys (bnV ys (bnV ys x0 a).2 a).2 ∧ LenN (bnV ys (bnV ys x0 a).2 a).1 ∧ (bnV ys (bnV ys x0 a).2 a).1.length ≤ 1000) ∧ True := ⟨⟨hp2, hb2.lenN (by decide), hbl⟩, trivial⟩
  repeat ((conv => whnf); refine ⟨by first | exact c1 | exact c2 | exact c3 | (repeat ((conv => whnf); refine ⟨by ((conv => whnf); first | exact ⟨rfl, rfl, rfl⟩ | exact ⟨rfl, rfl⟩ | exact ⟨by assumption, rfl, rfl, rfl⟩), ?_⟩)); ((conv => whnf); exact trivial) | ((conv => whnf); exact ⟨⟨rfl, rfl, rfl⟩, trivial⟩) | exact Early.one (by decide +kernel) (by (conv => whnf); exact ⟨rfl, rfl, rfl⟩) trivial | (unfold inI64; omega) | omega | exact ⟨by omega, by omega⟩ | exact rfl | decide +kernel, ?_⟩)
  conv => whnf
  have hL : ∀ x ∈ ([raw, a, (bnV ys x0 a).1, (bnV ys (bnV ys (bnV ys x0 a).2 a).2 (bnV ys (bnV ys x0 a).2 a).1).1] : List (List Nd)), SmN 400 x := fun x hx => by
   simp only [List.mem_cons, List.not_mem_nil, or_false] at hx
   rcases hx with rfl | rfl | rfl | rfl
   ·exact hr
   ·exact ⟨by have := ha.len; omega, fun n hn => by have := ha.ps n hn; omega⟩
   ·exact ⟨by have := hb1.len; omega, fun n hn => by have := hb1.ps n hn; omega⟩
   ·exact ⟨by have := hb3.len; omega, fun n hn => by have := hb3.ps n hn; omega⟩
  have hL4 : ([raw, a, (bnV ys x0 a).1, (bnV ys (bnV ys (bnV ys x0 a).2 a).2 (bnV ys (bnV ys x0 a).2 a).1).1] : List (List Nd)).length = 4 := rfl
  refine lI9 (σ := Nat × Int) (fun ⟨i, p⟩ => tcE path name node (nX9) (nX9) (XV.s (.a (.c (.p (.l (.list ndC) ([raw, a, (bnV ys x0 a).1, (bnV ys (bnV ys (bnV ys x0 a).2 a).2 (bnV ys (bnV ys x0 a).2 a).1).1] : List (List Nd))))))) (XV.s (.int .i64 4)) (XV.s (.int .i64 (i : Nat))) (nX9) (nX9) (nX9) (nX9) (nX9) (nX9) (nX9) (nX9) (nX9) (nX9) (nX9) (nX9))
   (fun ⟨_, p⟩ => [.row [.p (.l ndC raw)], tapeO ys p, .row [.p (.l ndC a)]]) (fun ⟨i, p⟩ => i ≤ 4 ∧ tapeOk ys p) (fun ⟨i, _⟩ => 4 - i) (0, (bnV ys (bnV ys (bnV ys x0 a).2 a).2 (bnV ys (bnV ys x0 a).2 a).1).2) ?_ rfl ⟨by decide, hp3⟩ ?_
  ·repeat first|exact lN9|refine lD9 ?_|refine lS9 ?_
  rintro ⟨i, p⟩ ⟨hi, hp⟩
  generalize ([raw, a, (bnV ys x0 a).1, (bnV ys (bnV ys (bnV ys x0 a).2 a).2 (bnV ys (bnV ys x0 a).2 a).1).1] : List (List Nd)) = L at hL hL4 ⊢
  repeat ((conv => whnf); refine ⟨by first | (unfold inI64; omega) | omega | exact ⟨by omega, by omega⟩ | exact rfl | decide +kernel, ?_⟩)
  conv => whnf
  refine cI9 ?_ ?_<;>intro h1
  ·have hlt : i < 4 := by
    have h2 : (i : Int) < 4 := oT9 h1
    omega
   have hin : 0 ≤ (i : Int) ∧ (i : Int) < (L.length : Nat) := by omega
   have hx : SmN 400 (L.getD (i : Int).toNat (CT.list ndC).dflt) := hL _ (by rw [Int.toNat_natCast, List.getD_eq_getElem?_getD, List.getElem?_eq_getElem (show i < L.length by omega)]; exact List.getElem_mem _)
   have s1 := hx.tt (by decide) a
   have s2 := hr.tt (by decide) (L.getD (i : Int).toNat (CT.list ndC).dflt)
   repeat ((conv => whnf); refine ⟨by first | exact hin | (unfold inI64; omega) | omega | exact ⟨by omega, by omega⟩ | exact rfl | decide +kernel, ?_⟩)
   conv => whnf
   generalize L.getD (i : Int).toNat (CT.list ndC).dflt = x at hx s1 s2 ⊢
   repeat ((conv => whnf); refine ⟨by first | exact ⟨rfl, trivial⟩ | exact ⟨rfl, s1⟩ | exact ⟨rfl, s2⟩ | exact fun _ => ⟨rfl, s1⟩ | exact fun _ => ⟨rfl, s2⟩ | (repeat ((conv => whnf); refine ⟨by ((conv => whnf); first | exact ⟨rfl, rfl, rfl⟩ | exact ⟨rfl, rfl⟩ | exact ⟨by assumption, rfl, rfl, rfl⟩), ?_⟩)); ((conv => whnf); exact trivial) | ((conv => whnf); exact ⟨⟨rfl, rfl, rfl⟩, trivial⟩) | exact Early.one (by decide +kernel) (by (conv => whnf); exact ⟨rfl, rfl, rfl⟩) trivial | (unfold inI64; omega) | omega | exact ⟨by omega, by omega⟩ | exact rfl | decide +kernel, ?_⟩)
   conv => whnf
   refine cI9 ?_ ?_<;>intro h2
   ·exfalso
    have h3 : (((!decide (chkP x = rchk x)) || !(eqTB (x, a) == eqTB (x, a))) || !(eqTB (raw, x) == eqTB (raw, x))) = true := h2
    rw [chk_same] at h3
    simp at h3
   have q2 : tapeOk ys p ∧ (-1000 : Int) ≤ -1 ∧ (-1 : Int) ≤ 11 ∧ (11 : Int) ≤ 4294967295 := ⟨hp, by decide, by decide, by decide⟩
   repeat ((conv => whnf); refine ⟨by first | exact q2 | (unfold inI64; omega) | omega | exact ⟨by omega, by omega⟩ | exact rfl | decide +kernel, ?_⟩)
   conv => whnf
   generalize (-1 : Int) + modV (rawV ys p) (11 - -1 + 1) = r
   have hpr : tapeOk ys (rawN ys p) := rawN_ok9 hp
   refine lI9 (σ := Nat × Int) (fun ⟨j, p⟩ => tcE path name node (XV.s (.a (.c (.ptr 3 0)))) (nX9) (XV.s (.a (.c (.p (.l (.list ndC) L))))) (XV.s (.int .i64 4)) (XV.s (.int .i64 (i : Nat))) (XV.s (.a (.c (.own 4 (.int .i64) [node, r])))) (XV.s (.int .i64 2)) (XV.s (.int .i64 (j : Nat))) (nX9) (nX9) (nX9) (nX9) (nX9) (nX9) (nX9) (nX9) (nX9))
    (fun ⟨_, p⟩ => [.row [.p (.l ndC raw)], tapeO ys p, .row [.p (.l ndC a)], .row [.p (.l ndC x)], .tok 3 (.int .i64) 2 false]) (fun ⟨j, p⟩ => j ≤ 2 ∧ tapeOk ys p) (fun ⟨j, _⟩ => 2 - j) (0, rawN ys p) ?_ rfl ⟨by decide, hpr⟩ ?_
   ·repeat first|exact lN9|refine lD9 ?_|refine lS9 ?_
   rintro ⟨j, p⟩ ⟨hj, hp⟩
   have hK : ([node, r] : List Int).length = 2 := rfl
   generalize ([node, r] : List Int) = K at hK ⊢
   have hch : (chlV (x, K.getD (j : Int).toNat (CT.int .i64).dflt)).length ≤ 1000000000 := by
    have h5 := chl_len x (K.getD (j : Int).toNat (CT.int .i64).dflt)
    have h6 := hx.len
    omega
   repeat ((conv => whnf); refine ⟨by first | (unfold inI64; omega) | omega | exact ⟨by omega, by omega⟩ | exact rfl | decide +kernel, ?_⟩)
   conv => whnf
   refine cI9 ?_ ?_<;>intro h3
   ·have hjt : j < 2 := by
     have h2 : (j : Int) < 2 := oT9 h3
     omega
    have hjn : 0 ≤ (j : Int) ∧ (j : Int) < (K.length : Nat) := by omega
    repeat ((conv => whnf); refine ⟨by first | exact hjn | ((conv => whnf); exact ⟨⟨rfl, rfl, rfl⟩, trivial⟩) | exact Early.one (by decide +kernel) (by (conv => whnf); exact ⟨rfl, rfl, rfl⟩) trivial | (unfold inI64; omega) | omega | exact ⟨by omega, by omega⟩ | exact rfl | decide +kernel, ?_⟩)
    conv => whnf
    generalize K.getD (j : Int).toNat (CT.int .i64).dflt = k at hch ⊢
    repeat ((conv => whnf); refine ⟨by first | exact ⟨rfl, trivial⟩ | exact ⟨rfl, hch⟩ | exact fun _ => ⟨rfl, trivial⟩ | exact fun _ => ⟨rfl, hch⟩ | (repeat ((conv => whnf); refine ⟨by ((conv => whnf); first | exact ⟨rfl, rfl, rfl⟩ | exact ⟨rfl, rfl⟩ | exact ⟨by assumption, rfl, rfl, rfl⟩), ?_⟩)); ((conv => whnf); exact trivial) | ((conv => whnf); exact ⟨⟨rfl, rfl, rfl⟩, trivial⟩) | exact Early.one (by decide +kernel) (by (conv => whnf); exact ⟨rfl, rfl, rfl⟩) trivial | (unfold inI64; omega) | omega | exact ⟨by omega, by omega⟩ | exact rfl | decide +kernel, ?_⟩)
    conv => whnf
    refine cI9 ?_ ?_<;>intro h4
    ·exfalso
     have h5 : ((!decide (PathV (x, k) = rPathV (x, k))) || !intB (chlV (x, k), rchlV (x, k))) = true := h4
     rw [path_same, chl_same] at h5
     unfold intB at h5
     simp at h5
    repeat ((conv => whnf); refine ⟨by first | exact hp | (unfold inI64; omega) | omega | exact ⟨by omega, by omega⟩ | exact rfl | decide +kernel, ?_⟩)
    conv => whnf
    generalize pickS propL ys p = pn
    have hpr : tapeOk ys (rawN ys p) := rawN_ok9 hp
    refine lI9 (σ := Nat) (fun m => tcE path name node (XV.s (.a (.c (.ptr 3 0)))) (XV.s (.int .i64 k)) (XV.s (.a (.c (.p (.l (.list ndC) L))))) (XV.s (.int .i64 4)) (XV.s (.int .i64 (i : Nat))) (XV.s (.a (.c (.own 4 (.int .i64) K)))) (XV.s (.int .i64 2)) (XV.s (.int .i64 (j : Nat))) (XV.s (.a (.c (.own 5 .str [name, pn])))) (XV.s (.int .i64 2)) (XV.s (.int .i64 (m : Nat))) (nX9) (nX9) (nX9) (nX9) (nX9) (nX9))
     (fun _ => [.row [.p (.l ndC raw)], tapeO ys (rawN ys p), .row [.p (.l ndC a)], .row [.p (.l ndC x)], .tok 3 (.int .i64) 2 false, .tok 9 .str 2 false]) (fun m => m ≤ 2) (fun m => 2 - m) 0 ?_ rfl (by decide) ?_
    ·repeat first|exact lN9|refine lD9 ?_|refine lS9 ?_
    intro m hm
    have hN : ([name, pn] : List ByteArray).length = 2 := rfl
    generalize ([name, pn] : List ByteArray) = N at hN ⊢
    repeat ((conv => whnf); refine ⟨by first | (unfold inI64; omega) | omega | exact ⟨by omega, by omega⟩ | exact rfl | decide +kernel, ?_⟩)
    conv => whnf
    refine cI9 ?_ ?_<;>intro h5
    ·have hmt : m < 2 := by
      have h2 : (m : Int) < 2 := oT9 h5
      omega
     have hmn : 0 ≤ (m : Int) ∧ (m : Int) < (N.length : Nat) := by omega
     repeat ((conv => whnf); refine ⟨by first | exact hmn | ((conv => whnf); exact ⟨⟨rfl, rfl, rfl⟩, trivial⟩) | exact Early.one (by decide +kernel) (by (conv => whnf); exact ⟨rfl, rfl, rfl⟩) trivial | (unfold inI64; omega) | omega | exact ⟨by omega, by omega⟩ | exact rfl | decide +kernel, ?_⟩)
     conv => whnf
     generalize N.getD (m : Int).toNat CT.str.dflt = s
     repeat ((conv => whnf); refine ⟨by first | exact ⟨rfl, trivial⟩ | (repeat ((conv => whnf); refine ⟨by ((conv => whnf); first | exact ⟨rfl, rfl, rfl⟩ | exact ⟨rfl, rfl⟩ | exact ⟨by assumption, rfl, rfl, rfl⟩), ?_⟩)); ((conv => whnf); exact trivial) | ((conv => whnf); exact ⟨⟨rfl, rfl, rfl⟩, trivial⟩) | exact Early.one (by decide +kernel) (by (conv => whnf); exact ⟨rfl, rfl, rfl⟩) trivial | (unfold inI64; omega) | omega | exact ⟨by omega, by omega⟩ | exact rfl | decide +kernel, ?_⟩)
     conv => whnf
     refine cI9 ?_ ?_<;>intro h6
     ·exfalso
      have h7 : ((!decide ((ValV (x, k, s)).1 = (rValV (x, k, s)).1)) || !((ValV (x, k, s)).2 == (rValV (x, k, s)).2)) = true := h6
      rw [val_same] at h7
      simp at h7
     repeat ((conv => whnf); refine ⟨by first | (unfold inI64; omega) | omega | exact ⟨by omega, by omega⟩ | exact rfl | decide +kernel, ?_⟩)
     conv => whnf
     refine hI9 (m + 1) ?_ rfl (by show m + 1 ≤ 2; omega) (by show 2 - (m + 1) < 2 - m; omega)
     repeat first|exact lN9|refine lD9 ?_|refine lS9 ?_
    ·repeat ((conv => whnf); refine ⟨by first | (unfold inI64; omega) | omega | exact ⟨by omega, by omega⟩ | exact rfl | decide +kernel, ?_⟩)
     conv => whnf
     refine kI9 (j + 1, rawN ys p) [0, 1, 2, 3, 4] rfl (fun k hk => ?_) rfl ?_ ⟨hjt, hpr⟩ (by show 2 - (j + 1) < 2 - j; omega)
     ·have hk : k < 5 := hk
      obtain rfl | rfl | rfl | rfl | rfl : k = 0 ∨ k = 1 ∨ k = 2 ∨ k = 3 ∨ k = 4 := by omega
      all_goals rfl
     ·repeat first|exact kN9|refine kD9 ?_|refine kR9 rfl ?_
   ·have ho : ([.c (.ptr 0 0), .agg [.p (.l ndC a)]] : List AV) = [.c (.ptr 0 0), .agg [.p (.l ndC a)]] ∧ tapeOk ys p ∧ a.length ≤ 1000000000 := ⟨rfl, hp, by omega⟩
    repeat ((conv => whnf); refine ⟨by first | exact ho | (unfold inI64; omega) | omega | exact ⟨by omega, by omega⟩ | exact rfl | decide +kernel, ?_⟩)
    conv => whnf
    have hpr : tapeOk ys (rawN ys (rawN ys p)) := rawN_ok9 (rawN_ok9 hp)
    generalize gpV ys p a = gp
    refine lI9 (σ := Nat) (fun m => tcE path name node (XV.s (.a (.c (.ptr 3 0)))) (nX9) (XV.s (.a (.c (.p (.l (.list ndC) L))))) (XV.s (.int .i64 4)) (XV.s (.int .i64 (i : Nat))) (nX9) (nX9) (nX9) (nX9) (nX9) (nX9) (XV.s (.a (.c (.own 5 .str [path, gp])))) (XV.s (.int .i64 2)) (XV.s (.int .i64 (m : Nat))) (nX9) (nX9) (nX9))
     (fun _ => [.row [.p (.l ndC raw)], tapeO ys (rawN ys (rawN ys p)), .row [.p (.l ndC a)], .row [.p (.l ndC x)], .tok 3 (.int .i64) 2 false, .tok 9 .str 2 false]) (fun m => m ≤ 2) (fun m => 2 - m) 0 ?_ rfl (by decide) ?_
    ·repeat first|exact lN9|refine lD9 ?_|refine lS9 ?_
    intro m hm
    have hN : ([path, gp] : List ByteArray).length = 2 := rfl
    generalize ([path, gp] : List ByteArray) = N at hN ⊢
    repeat ((conv => whnf); refine ⟨by first | (unfold inI64; omega) | omega | exact ⟨by omega, by omega⟩ | exact rfl | decide +kernel, ?_⟩)
    conv => whnf
    refine cI9 ?_ ?_<;>intro h5
    ·have hmt : m < 2 := by
      have h2 : (m : Int) < 2 := oT9 h5
      omega
     have hmn : 0 ≤ (m : Int) ∧ (m : Int) < (N.length : Nat) := by omega
     repeat ((conv => whnf); refine ⟨by first | exact hmn | ((conv => whnf); exact ⟨⟨rfl, rfl, rfl⟩, trivial⟩) | exact Early.one (by decide +kernel) (by (conv => whnf); exact ⟨rfl, rfl, rfl⟩) trivial | (unfold inI64; omega) | omega | exact ⟨by omega, by omega⟩ | exact rfl | decide +kernel, ?_⟩)
     conv => whnf
     generalize N.getD (m : Int).toNat CT.str.dflt = s
     repeat ((conv => whnf); refine ⟨by first | exact ⟨rfl, trivial⟩ | (repeat ((conv => whnf); refine ⟨by ((conv => whnf); first | exact ⟨rfl, rfl, rfl⟩ | exact ⟨rfl, rfl⟩ | exact ⟨by assumption, rfl, rfl, rfl⟩), ?_⟩)); ((conv => whnf); exact trivial) | ((conv => whnf); exact ⟨⟨rfl, rfl, rfl⟩, trivial⟩) | exact Early.one (by decide +kernel) (by (conv => whnf); exact ⟨rfl, rfl, rfl⟩) trivial | (unfold inI64; omega) | omega | exact ⟨by omega, by omega⟩ | exact rfl | decide +kernel, ?_⟩)
     conv => whnf
     refine cI9 ?_ ?_<;>intro h6
     ·exfalso
      have h7 : ((!decide ((FindV (x, s)).1 = (rFindV (x, s)).1)) || !((FindV (x, s)).2 == (rFindV (x, s)).2)) = true := h6
      rw [find_same] at h7
      simp at h7
     repeat ((conv => whnf); refine ⟨by first | (unfold inI64; omega) | omega | exact ⟨by omega, by omega⟩ | exact rfl | decide +kernel, ?_⟩)
     conv => whnf
     refine hI9 (m + 1) ?_ rfl (by show m + 1 ≤ 2; omega) (by show 2 - (m + 1) < 2 - m; omega)
     repeat first|exact lN9|refine lD9 ?_|refine lS9 ?_
    ·repeat ((conv => whnf); refine ⟨by first | (unfold inI64; omega) | omega | exact ⟨by omega, by omega⟩ | exact rfl | decide +kernel, ?_⟩)
     conv => whnf
     refine kI9 (i + 1, rawN ys (rawN ys p)) [0, 1, 2] rfl (fun k hk => ?_) rfl ?_ ⟨hlt, hpr⟩ (by show 4 - (i + 1) < 4 - i; omega)
     ·have hk : k < 3 := hk
      obtain rfl | rfl | rfl : k = 0 ∨ k = 1 ∨ k = 2 := by omega
      all_goals rfl
     ·repeat first|exact kN9|refine kD9 ?_|refine kR9 rfl ?_
  ·have t1 := rawN_ok9 hp
   have t2 := rawN_ok9 t1
   have t3 := rawN_ok9 t2
   repeat ((conv => whnf); refine ⟨by first | exact hp | exact t1 | exact t2 | exact t3 | (unfold inI64; omega) | omega | exact ⟨by omega, by omega⟩ | exact rfl | decide +kernel, ?_⟩)
   conv => whnf
   refine lI9 (σ := Nat) (fun m => tcE path name node (nX9) (nX9) (nX9) (nX9) (nX9) (nX9) (nX9) (nX9) (nX9) (nX9) (nX9) (nX9) (nX9) (nX9) (XV.s (.a (.c (.own 3 .str [name, path, pickS propL ys p, pickS pieceL ys (rawN ys p), pickS oddL ys (rawN ys (rawN ys p)), pickS nameL ys (rawN ys (rawN ys (rawN ys p)))])))) (XV.s (.int .i64 6)) (XV.s (.int .i64 (m : Nat))))
    (fun _ => [.row [.p (.l ndC raw)], tapeO ys (rawN ys (rawN ys (rawN ys (rawN ys p)))), .row [.p (.l ndC a)], .tok 9 .str 6 false]) (fun m => m ≤ 6) (fun m => 6 - m) 0 ?_ rfl (by decide) ?_
   ·repeat first|exact lN9|refine lD9 ?_|refine lS9 ?_
   intro m hm
   have hN : ([name, path, pickS propL ys p, pickS pieceL ys (rawN ys p), pickS oddL ys (rawN ys (rawN ys p)), pickS nameL ys (rawN ys (rawN ys (rawN ys p)))] : List ByteArray).length = 6 := rfl
   generalize ([name, path, pickS propL ys p, pickS pieceL ys (rawN ys p), pickS oddL ys (rawN ys (rawN ys p)), pickS nameL ys (rawN ys (rawN ys (rawN ys p)))] : List ByteArray) = N at hN ⊢
   repeat ((conv => whnf); refine ⟨by first | (unfold inI64; omega) | omega | exact ⟨by omega, by omega⟩ | exact rfl | decide +kernel, ?_⟩)
   conv => whnf
   refine cI9 ?_ ?_<;>intro h5
   ·have hmt : m < 6 := by
     have h2 : (m : Int) < 6 := oT9 h5
     omega
    have hmn : 0 ≤ (m : Int) ∧ (m : Int) < (N.length : Nat) := by omega
    repeat ((conv => whnf); refine ⟨by first | exact hmn | ((conv => whnf); exact ⟨⟨rfl, rfl, rfl⟩, trivial⟩) | exact Early.one (by decide +kernel) (by (conv => whnf); exact ⟨rfl, rfl, rfl⟩) trivial | (unfold inI64; omega) | omega | exact ⟨by omega, by omega⟩ | exact rfl | decide +kernel, ?_⟩)
    conv => whnf
    generalize N.getD (m : Int).toNat CT.str.dflt = s
    refine cI9 ?_ ?_<;>intro h6
    ·exfalso
     have h7 : (!(prpB s == prpB s)) = true := h6
     simp at h7
    repeat ((conv => whnf); refine ⟨by first | (unfold inI64; omega) | omega | exact ⟨by omega, by omega⟩ | exact rfl | decide +kernel, ?_⟩)
    conv => whnf
    refine hI9 (m + 1) ?_ rfl (by show m + 1 ≤ 6; omega) (by show 6 - (m + 1) < 6 - m; omega)
    repeat first|exact lN9|refine lD9 ?_|refine lS9 ?_
   ·repeat ((conv => whnf); refine ⟨by first | (unfold inI64; omega) | omega | exact ⟨by omega, by omega⟩ | exact rfl | decide +kernel, ?_⟩)
    conv => whnf
    exact eR9
 ·cases hs
end Go.Ab
namespace Go.Ab
open Go.RowKit
set_option linter.unusedSectionVars false
def nestGo (P : Program) (f : TypeId → Option CT) (tot : Nat) : List Field → Nat → Option CT
 | [], _ => none
 | [x], off => match f x.type with
  | some c => if x.offset = off ∧ P.cellsOf x.type = c.width ∧ tot = off + c.width then some c else none
  | none => none
 | x :: r, off => match f x.type, nestGo P f tot r (off + P.cellsOf x.type) with
  | some a, some b => if x.offset = off ∧ P.cellsOf x.type = a.width then some (.pair a b) else none
  | _, _ => none
def nestOf (P : Program) : Nat → TypeId → Option CT
 | 0, _ => none
 | d + 1, t => match P.underlying t with
  | some (.int k) => some (.int k)
  | some .bool => some .bool
  | some .string => some .str
  | some (.slice e) => match nestOf P d e with
   | some c => if P.cellsOf e = c.width then some (.list c) else none
   | none => none
  | some (.struct fs) => nestGo P (nestOf P d) (P.cellsOf t) fs.toList 0
  | _ => none
theorem CT.width_pos : ∀ t : CT, 0 < t.width
 | .pair a b => by have := CT.width_pos a; show 0 < a.width + b.width; omega
 | .int _ => Nat.one_pos
 | .bool => Nat.one_pos
 | .str => Nat.one_pos
 | .list _ => Nat.one_pos
 | .fn => Nat.one_pos
 | .map _ _ => Nat.one_pos
variable {H : Type} {enc : TypeId × Value → H} {P : Program} {w : World} {base : Nat} {spare : Nat → Bool} {held : Bool} {I : Cells}
theorem nestGo_tot {f : TypeId → Option CT} {tot : Nat} : ∀ (fs : List Field) (o : Nat) (c : CT), nestGo P f tot fs o = some c → o ≤ tot := by
 intro fs
 induction fs with
 | nil => intro o c h; cases h
 | cons u v ihh =>
  intro o c h
  cases v with
  | nil =>
   simp only [nestGo] at h
   split at h
   ·split at h
    ·rename_i hc; omega
    ·cases h
   ·cases h
  | cons v1 v2 =>
   simp only [nestGo] at h
   split at h
   ·rename_i hh
    have := ihh _ _ hh
    omega
   ·cases h
theorem choose_list' {α : Type} (n : Nat) (p : Nat → α → Prop) (h : ∀ i, i < n → ∃ z, p i z) : ∃ zs : List α, zs.length = n ∧ ∀ i z, zs[i]? = some z → p i z := by
 induction n with
 | zero => exact ⟨[], rfl, fun i z hz => by simp at hz⟩
 | succ n ih =>
  obtain ⟨zs, h1, h2⟩ := ih fun i hi => h i (by omega)
  obtain ⟨z, hz⟩ := h n (by omega)
  refine ⟨zs ++ [z], by simp [h1], fun i x hx => ?_⟩
  rcases Nat.lt_or_ge i zs.length with hi | hi
  ·rw [List.getElem?_append_left hi] at hx
   exact h2 i x hx
  ·have e : i = n := by
    have := (List.getElem?_eq_some_iff.1 hx).1
    simp at this
    omega
   subst e
   rw [List.getElem?_append_right (by omega), show i - zs.length = 0 by omega] at hx
   cases hx
   exact hz
theorem addr_add4 (b off n : Nat) : (⟨b, off, none⟩ : Addr).add n = ⟨b, off + n, none⟩ := by unfold Addr.add; split <;> simp_all
theorem cell_nospot {w : World} {a : Addr} {v : Value} (h : w.cell? a = some v) : a.spot = none := by
 unfold World.cell? at h
 split at h
 ·split at h
  ·cases h
  ·rename_i hs
   cases hsp : a.spot with
   | none => rfl
   | some s => rw [hsp] at hs; simp at hs
 ·cases h
def Bnd : (c : CT) → c.den → Prop
 | .str, (s : ByteArray) => s.size ≤ reachBytes
 | .pair a b, z => Bnd a z.1 ∧ Bnd b z.2
 | .list c, (zs : List c.den) => zs.length ≤ reachBytes ∧ ∀ z ∈ zs, Bnd c z
 | _, _ => True
def nestPos (P : Program) : Nat → TypeId → Bool
 | 0, _ => true
 | d + 1, t => match P.underlying t with
  | some (.slice e) => decide (1 ≤ P.bytesOf e) && nestPos P d e
  | some (.struct fs) => fs.toList.all fun x => nestPos P d x.type
  | _ => true
variable {H : Type} {enc : TypeId × Value → H} {P : Program} {w : World} {base : Nat} {spare : Nat → Bool} {held : Bool} {I : Cells}
theorem nestGo_repB {f : TypeId → Option CT} {tot : Nat} {cs : List Value} (htot : tot = cs.length) :
  ∀ (fs : List Field) (off : Nat) (c : CT), nestGo P f tot fs off = some c → off ≤ cs.length →
   (∀ x ∈ fs, ∀ a, f x.type = some a → ∃ z : a.den, Rep I w a z ((cs.drop x.offset).take (P.cellsOf x.type)) ∧ Bnd a z) → ∃ z : c.den, Rep I w c z (cs.drop off) ∧ Bnd c z := by
 intro fs
 induction fs with
 | nil => intro off c h; cases h
 | cons x r ih =>
  intro off c h ho hx
  cases r with
  | nil =>
   simp only [nestGo] at h
   cases hf : f x.type with
   | none => rw [hf] at h; cases h
   | some a =>
    rw [hf] at h
    dsimp only at h
    split at h
    ·rename_i hc
     obtain rfl : a = c := Option.some.inj h
     obtain ⟨h1, h2, h3⟩ := hc
     obtain ⟨z, hz, hzb⟩ := hx x (by simp) a hf
     refine ⟨z, ?_, hzb⟩
     rwa [h1, List.take_of_length_le (by rw [List.length_drop]; omega)] at hz
    ·cases h
  | cons y r =>
   simp only [nestGo] at h
   cases hf : f x.type with
   | none => rw [hf] at h; cases h
   | some a =>
    rw [hf] at h
    cases hg : nestGo P f tot (y :: r) (off + P.cellsOf x.type) with
    | none =>
     rw [hg] at h
     cases h
    | some b =>
     rw [hg] at h
     dsimp only at h
     split at h
     ·rename_i hc
      cases h
      obtain ⟨h1, h2⟩ := hc
      have hle : off + P.cellsOf x.type ≤ cs.length := by
       have := nestGo_tot _ _ _ hg
       omega
      obtain ⟨z1, hz1, hb1⟩ := hx x (by simp) a hf
      obtain ⟨z2, hz2, hb2⟩ := ih _ b hg hle fun u hu => hx u (by simp [hu])
      refine ⟨(z1, z2), ⟨(cs.drop off).take (P.cellsOf x.type), cs.drop (off + P.cellsOf x.type), ?_, ?_, hz2⟩, hb1, hb2⟩
      ·rw [← List.drop_drop, List.take_append_drop]
      ·rwa [h1] at hz1
     ·cases h
theorem weightsAll_mem {e : TypeId} : ∀ {l : List (DataW H)} {x : DataW H}, x ∈ l → ∀ n ∈ x.weights P e, n ∈ DataW.weightsAll P e l := by
 intro l
 induction l with
 | nil => intro x hx; cases hx
 | cons a r ih =>
  intro x hx n hn
  unfold DataW.weightsAll
  rcases List.mem_cons.1 hx with rfl | hx
  ·exact List.mem_append.2 (.inl hn)
  ·exact List.mem_append.2 (.inr (ih hx n hn))
theorem nest_repB (hI : ∀ b o, b < w.heap.size → I b o) : ∀ (d : Nat) (t : TypeId) (c : CT), nestOf P d t = some c → ∀ (fuel : Nat) (cs : List Value) (y : DataW H × List MemPlace), DataW.trod enc P w base spare held fuel t cs = some y → nestPos P d t = true → (∀ n ∈ y.1.weights P t, n ≤ reachBytes) → ∃ z : c.den, Rep I w c z cs ∧ Bnd c z := by
 intro d
 induction d with
 | zero => intro t c h; cases h
 | succ d ih =>
  intro t c h fuel cs y hy hp hwt
  unfold nestOf at h
  unfold nestPos at hp
  split at h
  ·rename_i k hu
   cases h
   obtain ⟨n, rfl, _⟩ := DataW.trod_int hu hy
   exact ⟨n, rfl, trivial⟩
  ·rename_i hu
   cases h
   obtain ⟨b, rfl, _⟩ := DataW.trod_bool hu hy
   exact ⟨b, rfl, trivial⟩
  ·rename_i hu
   cases h
   obtain ⟨s, rfl, rfl, _⟩ := DataW.trod_string hu hy
   have hs : s.data.toList.length ≤ reachBytes := hwt s.data.toList.length (by simp [DataW.weights])
   rw [Array.length_toList] at hs
   exact ⟨s, rfl, hs⟩
  ·rename_i e hu
   split at h
   ·rename_i c' hc
    split at h
    ·rename_i hw
     cases h
     simp only [hu, Bool.and_eq_true, decide_eq_true_eq] at hp
     rcases DataW.trod_slice hu hy with ⟨rfl, _⟩ | ⟨a, len, cap, elems, rest, n, _, rfl, rfl, _, hl, hmx, hlen, hel, _, _⟩
     ·exact ⟨[], .inl ⟨rfl, rfl⟩, nZ9 _, fun z hz => by cases hz⟩
     ·have hwl : len ≤ reachBytes := by
       have h1 := hwt ((elems.length + rest.length) * P.bytesOf e) (by simp [DataW.weights, hu])
       have h2 : (elems.length + rest.length) * 1 ≤ (elems.length + rest.length) * P.bytesOf e := Nat.mul_le_mul_left _ hp.1
       omega
      have hwe : ∀ (i : Nat) (x : DataW H × List MemPlace), elems[i]? = some x → ∀ m ∈ x.1.weights P e, m ≤ reachBytes := fun i x hx m hm => hwt m (by
       simp only [DataW.weights, hu, List.mem_cons, List.mem_append]
       exact .inr (.inl (weightsAll_mem (List.mem_map_of_mem (List.mem_of_getElem? hx)) m hm)))
      rcases Nat.eq_zero_or_pos len with h0 | h0
      ·subst h0
       exact ⟨[], .inr (.inr ⟨rfl, a, cap, rfl⟩), nZ9 _, fun z hz => by cases hz⟩
      ·have hwp := CT.width_pos c'
       have get : ∀ i, i < len → ∃ (cs : List Value) (z : c'.den), cs.length = c'.width ∧ (Rep I w c' z cs ∧ Bnd c' z) ∧ ∀ j, j < c'.width → w.cell? ((a.add (i * P.cellsOf e)).add j) = cs[j]? := by
        intro i hi
        have h1 := hel i hi
        rw [List.getElem?_eq_getElem (by omega)] at h1
        obtain ⟨cs, h2, h3⟩ := Option.bind_eq_some_iff.1 h1
        obtain ⟨_, h4, h5⟩ := World.cells?_some h2
        obtain ⟨z, hz⟩ := ih e c' hc n cs _ h3 hp.2 (hwe i _ (List.getElem?_eq_getElem (by omega)))
        exact ⟨cs, z, by rw [h4, hw], hz, fun j hj => h5 j (by rw [hw]; exact hj)⟩
       have hsp : a.spot = none := by
        obtain ⟨cs, _, hcl, _, hcell⟩ := get 0 h0
        have h6 := hcell 0 hwp
        rw [List.getElem?_eq_getElem (by omega)] at h6
        have h7 := cell_nospot h6
        have h8 : (a.add (0 * P.cellsOf e)).add 0 = a := by simp [Addr.add]
        rwa [h8] at h7
       obtain ⟨b, off, sp⟩ := a
       obtain rfl : sp = none := hsp
       have each : ∀ i, i < len → ∃ z : c'.den, ∃ us : List Value, us.length = c'.width ∧ (Rep I w c' z us ∧ Bnd c' z) ∧ ∀ j u, us[j]? = some u → w.at' b (off + i * c'.width + j) = some u := by
        intro i hi
        obtain ⟨cs, z, hcl, hz, hcell⟩ := get i hi
        refine ⟨z, cs, hcl, hz, fun j u hj => ?_⟩
        have hjl : j < c'.width := by
         have := (List.getElem?_eq_some_iff.1 hj).1
         omega
        have h6 := hcell j hjl
        rw [addr_add4, addr_add4, hj, hw] at h6
        exact h6
       obtain ⟨zs, hz1, hz2⟩ := choose_list' len _ each
       refine ⟨zs, .inr (.inl ⟨b, off, cap, by rw [hz1], by rw [hz1]; exact hl, fun i z hi => ?_⟩), by rw [hz1]; exact hwl, fun z hz => ?_⟩
       ·obtain ⟨us, _, ⟨h2, _⟩, h3⟩ := hz2 i z hi
        exact ⟨us, h2, fun j u hj => ⟨hI _ _ (cell_lt (h3 j u hj)), h3 j u hj⟩⟩
       ·obtain ⟨i, hi⟩ := List.getElem?_of_mem hz
        obtain ⟨_, _, h2, _⟩ := hz2 i z hi
        exact h2.2
    ·cases h
   ·cases h
  ·rename_i fs hu
   simp only [hu, List.all_eq_true] at hp
   obtain ⟨xs, n, _, rfl, hl, hxl, hf⟩ := DataW.trod_struct hu hy
   obtain ⟨z, hz, hzb⟩ := nestGo_repB (P := P) hl.symm fs.toList 0 c h (nZ9 _) fun x hx a ha => by
    obtain ⟨i, hi⟩ := List.getElem?_of_mem hx
    have hi' : fs[i]? = some x := by rw [← Array.getElem?_toList]; exact hi
    have h2 := hf i x hi'
    have hil : i < xs.length := by
     have := (Array.getElem?_eq_some_iff.1 hi').1
     omega
    rw [List.getElem?_eq_getElem hil] at h2
    refine ih x.type a ha n _ _ h2 (hp x hx) fun m hm => hwt m ?_
    simp only [DataW.weights, hu]
    refine DataW.weights_mem_each (j := i) (t := x.type) (d := xs[i].1) ?_ ?_ m hm
    ·rw [List.getElem?_map, Array.getElem?_toList, hi']; rfl
    ·rw [List.getElem?_map, List.getElem?_eq_getElem hil]; rfl
   exact ⟨z, by rwa [List.drop_zero] at hz, hzb⟩
  ·cases h
theorem arr_one {cs : Array Value} (h : cs.size = 1) : ∃ x, cs = #[x] := by
 obtain ⟨l⟩ := cs
 match l, h with
 | [x], _ => exact ⟨x, rfl⟩
theorem nest_any {t : TypeId} {c : CT} {d : Nat} {v : Value} {y : DataW H} {ps : List MemPlace} (hI : ∀ b o, b < w.heap.size → I b o) (hc : nestOf P d t = some c) (hp : nestPos P d t = true)
  (h : DataW.Trod enc P w base spare held t v y ps) (hw : ∀ n ∈ y.weights P t, n ≤ reachBytes) : ∃ z : c.den, Rep I w c z v.cells.toList ∧ Bnd c z := by
 obtain ⟨fuel, hf⟩ := h
 exact nest_repB hI d t _ hc fuel _ _ hf hp hw
end Go.Ab
