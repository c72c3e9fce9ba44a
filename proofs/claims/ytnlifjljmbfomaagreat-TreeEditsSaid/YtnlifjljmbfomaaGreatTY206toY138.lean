/- TreeChecks: the law. -/
import Derived.Test.YtnlifjljmbfomaaGreatTY143toY205
import Derived.Test.YtnlifjljmbfomaaGreatTY102toY117
import Derived.Test.YtnlifjljmbfomaaGreatTY129toU12
import Derived.Test.YtnlifjljmbfomaaGreatTY112toY128
namespace Go.Ab
open Go.Proofs
set_option linter.unusedSectionVars false
set_option maxRecDepth 100000
variable [Base]
def saysRng2 : Says := fun args H => match args, H with
 | [.c (.ptr 0 0), .c (.p (.v (.int .i64 lo))), .c (.p (.v (.int .i64 hi)))], [.row [.p (.l (.int .i64) zs), .p (.v (.int .i64 n))]] => some (some (tapeOk zs n ∧ -1000 ≤ lo ∧ lo ≤ hi ∧ hi ≤ 4294967295), .int .i64 (lo + modV (rawV zs n) (hi - lo + 1)), [tapeO zs (rawN zs n)])
 | _, _ => none
def BT7 : Table := ext BT6 17 saysRng2
theorem bT7 : TS9 BT7 := by
 refine ext_run bT6 (f := 17) (fn := Tryz.f17) rfl rfl [0, 1, 2, 6] fun args H p r H' hs hp => ?_
 unfold saysRng2 at hs
 split at hs
 ·rename_i lo hi zs n
  cases hs
  obtain ⟨ht, h0, h1, h2⟩ := hp
  refine ⟨nB9 rfl, [0], rfl, id0, ?_⟩
  have hm0 := mN9 (rawV zs n) (hi - lo + 1)
  have hm1 := modV_lt (rawV zs n) (hi - lo + 1) (by omega)
  repeat ((conv => whnf); refine ⟨by first | exact ⟨ht, by omega⟩ | (unfold inI64; omega) | omega | exact ⟨by omega, by omega⟩ | (intro hg; first | (unfold inI64; omega) | omega | exact ⟨by omega, by omega⟩ | (simp [lit] at hg; unfold inI64; omega) | (simp [lit] at hg; omega) | (simp [lit] at hg; exact ⟨by omega, by omega⟩)) | (show (_ : Nat) + 1 ≤ 1000000000000; omega) | exact rfl | (unfold inI64; dsimp only; omega) | (dsimp only; omega) | (intro hg; simp [lit] at hg; first | (unfold inI64; dsimp only; omega) | (dsimp only; omega)) | decide +kernel, ?_⟩)
  conv => whnf
  exact eR9
 ·cases hs
structure SmN (k : Nat) (ns : List Nd) : Prop where
 len : ns.length ≤ k
 ps : ∀ n ∈ ns, n.2.2.length ≤ k
theorem SmN.lenN {k : Nat} {ns : List Nd} (h : SmN k ns) (hk : k ≤ 1000) : LenN ns := ⟨by have := h.len; omega, fun n hn => by have := h.ps n hn; omega⟩
theorem SmN.tt {k : Nat} {ns : List Nd} (h : SmN k ns) (hk : k ≤ 1000) (ms : List Nd) : TTOk (ns, ms) := ⟨by have := h.len; show ns.length ≤ _; omega, fun i hi => by
 have := h.ps (ndAt ns i) (by rw [nd_at' hi]; exact List.getElem_mem hi)
 show (ndAt ns i).2.2.length ≤ _
 omega⟩
theorem sm_len : ∀ (l : List Nd) (n : Nat), smF l n ≤ 400 → n ≤ 400 ∧ ∀ x ∈ l, x.2.2.length ≤ 400 := by
 intro l
 induction l with
 | nil => intro n h; exact ⟨h, fun x hx => by cases hx⟩
 | cons x r ih =>
  intro n h
  unfold smF at h
  split at h
  ·obtain ⟨h1, h2⟩ := ih _ h
   refine ⟨by omega, fun y hy => ?_⟩
   rcases List.mem_cons.1 hy with rfl | hy
   ·omega
   ·exact h2 y hy
  ·exact absurd h (by omega)
theorem sm_raw {ns : List Nd} (h : smB ns = true) : SmN 400 ns := by
 obtain ⟨h1, h2⟩ := sm_len ns ns.length (oT9 h)
 exact ⟨h1, h2⟩
theorem bnP_sm {k : Nat} {ns : List Nd} (h : SmN k ns) (j : Nat) (q : Nd) (hq : q.2.2.length ≤ k + 1) : SmN (k + 1) (ns.set j q) := by
 refine ⟨by rw [List.length_set]; have := h.len; omega, fun n hn => ?_⟩
 rcases List.mem_or_eq_of_mem_set hn with h1 | h1
 ·have := h.ps n h1
  omega
 ·rw [h1]; exact hq
theorem bn_sm {k : Nat} {zs : List Int} {n : Int} {ns : List Nd} (h : SmN k ns) : SmN (k + 1) (bnV zs n ns).1 := by
 have hat : ∀ j, (ndAt ns j).2.2.length ≤ k := fun j => by
  rcases Nat.lt_or_ge j ns.length with h1 | h1
  ·rw [nd_at' h1]; exact h.ps _ (List.getElem_mem h1)
  ·unfold ndAt
   rw [List.getD_eq_getElem?_getD, List.getElem?_eq_none h1]
   exact nZ9 _
 have hl := h.len
 unfold bnV
 split
 ·exact ⟨nZ9 _, fun n hn => by cases hn⟩
 split
 ·exact bnP_sm h _ _ (Nat.le_succ_of_le (hat _))
 split
 ·exact bnP_sm h _ _ (Nat.le_succ_of_le (hat _))
 split
 ·exact bnP_sm h _ _ (by show (_ ++ [_]).length ≤ _; rw [zP9]; exact Nat.succ_le_succ (hat _))
 split
 ·exact bnP_sm h _ _ (by show (_ ++ [_]).length ≤ _; rw [zP9]; exact Nat.succ_le_succ (hat _))
 split
 ·refine ⟨by rw [zP9]; show _ + 1 ≤ _; omega, fun x hx => ?_⟩
  rcases List.mem_append.1 hx with h1 | h1
  ·have := h.ps x h1; omega
  ·rw [List.mem_singleton.1 h1]; exact Nat.le_succ_of_le (hat _)
 split
 ·refine ⟨by rw [zP9]; show _ + 1 ≤ _; omega, fun x hx => ?_⟩
  rcases List.mem_append.1 hx with h1 | h1
  ·have := h.ps x h1; omega
  ·rw [List.mem_singleton.1 h1]; exact nZ9 _
 split
 ·exact bnP_sm h _ _ (by show (_ ++ [_]).length ≤ _; rw [zP9]; exact Nat.succ_le_succ (hat _))
 split
 ·exact bnP_sm h _ _ (by show (prSw _).length ≤ _; rw [prSw_len]; exact Nat.le_succ_of_le (hat _))
 ·exact ⟨by rw [List.length_take]; show min _ _ ≤ _; omega, fun x hx => Nat.le_succ_of_le (h.ps x (List.mem_of_mem_take hx))⟩
theorem bn_tp {zs : List Int} {n : Int} {ns : List Nd} (h : tapeOk zs n) : tapeOk zs (bnV zs n ns).2 := by
 have h2 : tapeOk zs (bnN zs n) := rawN_ok9 (rawN_ok9 h)
 have h3 : tapeOk zs (rawN zs (bnN zs n)) := rawN_ok9 h2
 unfold bnV
 split; exact h
 split; exact h3
 split; exact h3
 split; exact h3
 split; exact h3
 split; exact h2
 split; exact h2
 split; exact h3
 split; exact h2
 exact h2
theorem vl_smN {ns : List Nd} (hv : Vl ns) : SmN 120 ns := ⟨hv.f.len.2, fun n hn => by
 obtain ⟨i, hi, rfl⟩ := List.getElem_of_mem hn
 have h1 := hv.f.lim
 unfold limV at h1
 obtain ⟨_, h2⟩ := bA9.1 h1
 have h3 : ndLim ns[i] = true := List.all_eq_true.1 h2 _ (List.getElem_mem hi)
 unfold ndLim at h3
 have h4 := oT9 (bA9.1 h3).1
 omega⟩
theorem ofV_at : ∀ {ps : List Pt} {s : ByteArray} {j : Nat}, j < ps.length → (ptAt ps j).1 = s → (∀ i, i < j → ¬ (ptAt ps i).1 = s) → ofV ps s = ((ptAt ps j).2, true) := by
 intro ps
 induction ps with
 | nil => intro s j h; exact absurd h (nN9 j)
 | cons a r ih =>
  intro s j h1 h2 h3
  cases j with
  | zero => exact if_pos h2
  | succ j =>
   unfold ofV
   rw [if_neg (show ¬ a.1 = s from h3 0 (Nat.succ_pos j))]
   exact ih (Nat.lt_of_succ_lt_succ h1) h2 fun i hi => h3 (i + 1) (Nat.succ_lt_succ hi)
theorem ofV_no : ∀ {ps : List Pt} {s : ByteArray}, (∀ i, i < ps.length → ¬ (ptAt ps i).1 = s) → ofV ps s = (⟨#[]⟩, false) := by
 intro ps
 induction ps with
 | nil => intro s _; rfl
 | cons a r ih =>
  intro s h
  unfold ofV
  rw [if_neg (show ¬ a.1 = s from h 0 (Nat.succ_pos _))]
  exact ih fun i hi => h (i + 1) (Nat.succ_lt_succ hi)
theorem bLt_ne {a s : ByteArray} (h : bLt a s = true) : ¬ a = s := fun h2 => by
 rw [h2] at h
 have h3 := cmpV_lt.2 h
 rw [cmpV_zero.2 rfl] at h3
 exact absurd h3 (by decide)
theorem of_asc {ps : List Pt} (ha : ascV ps = true) (s : ByteArray) : ofV ps s = if fndP ps s = true then ((ptAt ps (posV ps s)).2, true) else (⟨#[]⟩, false) := by
 by_cases h : fndP ps s = true
 ·rw [if_pos h]
  unfold fndP at h
  obtain ⟨h1, h2⟩ := bA9.1 h
  exact ofV_at (oT9 h1) (oT9 h2) fun i hi => bLt_ne (pos_lo hi)
 ·rw [if_neg h]
  refine ofV_no fun i hi he => ?_
  rcases Nat.lt_trichotomy i (posV ps s) with h1 | h1 | h1
  ·exact bLt_ne (pos_lo h1) he
  ·refine h ?_
   unfold fndP
   rw [dT9 (show posV ps s < ps.length by omega), dT9 (by rw [← h1]; exact he)]
   rfl
  ·have h2 := asc_pw ha _ _ h1 hi
   rw [he] at h2
   have h3 := pos_hi (s := s) ha (nR9 _) (show posV ps s < ps.length by omega)
   rw [h2] at h3
   cases h3
theorem beg_fnd (ns : List Nd) (p : ByteArray) : begV (ns, p) = if chkP ns = 0 then if (fndV (ns, p)).2 = true then ((fndV (ns, p)).1, 0) else (0, 4) else (0, chkP ns) := by
 unfold begV
 dsimp only
 rw [← chk_same]
 by_cases h : chkP ns = 0
 ·rw [if_pos h, if_pos h]
  have hle := skV_le (isB ns p) ns.length
  unfold rfV fndV
  dsimp only
  by_cases h2 : skV (isB ns p) ns.length = ns.length
  ·rw [if_pos h2, if_neg (show ¬ skV (isB ns p) ns.length < ns.length by omega), if_neg (by decide), if_neg (by decide)]
  ·rw [if_neg h2, if_pos (show skV (isB ns p) ns.length < ns.length by omega), if_pos (Int.natCast_nonneg _), if_pos rfl]
 ·rw [if_neg h, if_neg h]
theorem ltC_a {s : ByteArray} : ∀ {A B : List Pt}, (∀ q ∈ A, bLt q.1 s = true) → (∀ q r', B = q :: r' → bLt q.1 s = false) → ltC s (A ++ B) = A.length := by
 intro A
 induction A with
 | nil =>
  intro B _ hB
  cases B with
  | nil => rfl
  | cons q r =>
   show ltC s (q :: r) = 0
   unfold ltC
   rw [if_neg (by rw [hB q r rfl]; decide)]
 | cons a A ih =>
  intro B hA hB
  show ltC s (a :: (A ++ B)) = A.length + 1
  unfold ltC
  rw [if_pos (hA a (List.mem_cons_self ..)), ih (fun q hq => hA q (List.mem_cons_of_mem _ hq)) hB]
theorem put_same {ps : List Pt} (ha : ascV ps = true) (p : Pt) : putV (ps, p) = stP ps p ∧ (stP ps p).length = if fndP ps p.1 = true then ps.length else ps.length + 1 := by
 obtain ⟨s, v⟩ := p
 obtain ⟨A, B, rfl, hA, hc⟩ := pt_cases ((asc_iff _).1 ha) s
 rcases hc with hB | ⟨o, r, rfl, _⟩
 ·rw [st_no hA hB, fnd_no hA hB]
  refine ⟨?_, by rw [if_neg (by decide)]; simp; omega⟩
  unfold putV
  dsimp only
  rw [ltC_a hA fun q r' h => (hB q r' h).1, List.take_left, List.drop_left]
  cases B with
  | nil => rfl
  | cons q r' =>
   dsimp only
   rw [if_neg (hB q r' rfl).2]
 ·rw [st_at hA, fnd_at hA]
  refine ⟨?_, by rw [if_pos rfl]; simp⟩
  unfold putV
  dsimp only
  rw [ltC_a hA fun q r' h => by
   obtain ⟨h1, _⟩ := List.cons.inj h
   rw [← h1]
   exact bLt_irrefl s, List.take_left, List.drop_left]
  dsimp only
  rw [if_pos rfl]
theorem lim_set {ns : List Nd} (hv : Vl ns) {k : Nat} (hk : k < ns.length) (x : Nd) : limV (ns.set k x) = ndLim x := by
 have h1 := hv.f.lim
 unfold limV at h1 ⊢
 obtain ⟨h2, h3⟩ := bA9.1 h1
 rw [List.length_set, h2, Bool.true_and]
 have h4 : ∀ y ∈ ns, ndLim y = true := List.all_eq_true.1 h3
 cases hx : ndLim x with
 | true =>
  refine List.all_eq_true.2 fun y hy => ?_
  rcases List.mem_or_eq_of_mem_set hy with h5 | rfl
  ·exact h4 y h5
  ·exact hx
 | false =>
  refine Bool.eq_false_iff.2 fun h5 => ?_
  have h6 := List.all_eq_true.1 h5 x (List.mem_iff_getElem.2 ⟨k, by rw [List.length_set]; exact hk, by simp⟩)
  rw [hx] at h6
  cases h6
theorem set_same (a : List Nd × ByteArray × ByteArray × ByteArray) : rSetV a = SetV a := by
 obtain ⟨ns, p, s, v⟩ := a
 unfold rSetV SetV
 dsimp only
 rw [beg_fnd]
 by_cases h : chkP ns = 0
 ·rw [if_pos h, if_pos h]
  by_cases h2 : (fndV (ns, p)).2 = true
  ·rw [if_pos h2, if_pos h2]
   dsimp only
   have hv := vld_vl (chk_vld.1 h)
   rw [if_neg (by decide)]
   obtain ⟨k, hk⟩ : ∃ k, (fndV (ns, p)).1.toNat = k := ⟨_, rfl⟩
   have hkl : k < ns.length := by
    rw [← hk]
    unfold fndV at h2 ⊢
    have hle := skV_le (isB ns p) ns.length
    split at h2
    ·cases h2
    ·rename_i h3
     rw [if_neg h3]
     dsimp only at h3 ⊢
     omega
   rw [hk]
   have hasc := hv.asc k hkl
   obtain ⟨e1, e2⟩ := put_same hasc (s, v)
   have e3 : setN ns k s v = stN ns k (s, v) := by unfold setN stN; rw [e1]
   rw [e3]
   have e4 : limV (stN ns k (s, v)) = ndLim ((ndAt ns k).1, (ndAt ns k).2.1, stP (ndAt ns k).2.2 (s, v)) := lim_set hv hkl _
   rw [e4]
   obtain ⟨l1, l2⟩ := lim_ps hv hkl
   unfold stE
   dsimp only
   cases h3 : prpB s with
   | false => rw [if_pos rfl, if_pos rfl, if_neg (by decide)]
   | true =>
    simp only [reduceCtorEq, if_false]
    have e5 : ndLim ((ndAt ns k).1, (ndAt ns k).2.1, stP (ndAt ns k).2.2 (s, v)) = !((!fndP (ndAt ns k).2.2 s && decide (24 ≤ (ndAt ns k).2.2.length)) || decide (256 < v.size)) := by
     unfold ndLim
     dsimp only
     have hall : (stP (ndAt ns k).2.2 (s, v)).all ptLim = decide (v.size ≤ 256) := by
      obtain ⟨A, B, hAB, hA, hc⟩ := pt_cases ((asc_iff _).1 hasc) s
      have hl : ∀ q ∈ A ++ B, ptLim q = true := fun q hq => (l2 q (hAB ▸ hq)).2
      have hAl : A.all ptLim = true := List.all_eq_true.2 fun q hq => hl q (List.mem_append.2 (.inl hq))
      have hBl : B.all ptLim = true := List.all_eq_true.2 fun q hq => hl q (List.mem_append.2 (.inr hq))
      rcases hc with hB | ⟨o, r, rfl, _⟩
      ·rw [hAB, st_no hA hB, List.all_append, List.all_cons, hAl, hBl]
       simp [ptLim]
      ·rw [List.all_cons] at hBl
       rw [hAB, st_at hA, List.all_append, List.all_cons, hAl, (bA9.1 hBl).2]
       simp [ptLim]
     rw [hall, e2]
     cases h6 : fndP (ndAt ns k).2.2 s with
     | true =>
      rw [if_pos rfl, dT9 l1]
      by_cases h7 : v.size ≤ 256
      ·rw [dT9 h7, dF9 (show ¬ 256 < v.size by omega)]; rfl
      ·rw [dF9 h7, dT9 (show 256 < v.size by omega)]; rfl
     | false =>
      rw [if_neg (by decide)]
      by_cases h7 : v.size ≤ 256
      ·rw [dT9 h7, dF9 (show ¬ 256 < v.size by omega)]
       by_cases h8 : 24 ≤ (ndAt ns k).2.2.length
       ·rw [dT9 h8, dF9 (show ¬ (ndAt ns k).2.2.length + 1 ≤ 24 by omega)]; rfl
       ·rw [dF9 h8, dT9 (show (ndAt ns k).2.2.length + 1 ≤ 24 by omega)]; rfl
      ·rw [dF9 h7, dT9 (show 256 < v.size by omega), Bool.and_false, Bool.or_true]; rfl
    rw [e5]
    cases h6 : ((!fndP (ndAt ns k).2.2 s && decide (24 ≤ (ndAt ns k).2.2.length)) || decide (256 < v.size)) with
    | true => rfl
    | false => rfl
  ·rw [if_neg h2, if_neg h2]
   rfl
 ·rw [if_neg h, if_neg h]
  exact if_pos h
def BT8 : Table := ext BT7 93 (saysG daPS eaPS fun a => (some (a.1.length ≤ 1000000000), .a (.c (.p (.l ptC (woP a.1 a.2))))))
theorem bT8 : TS9 BT8 := ext_only g1 bT7
def woN (ns : List Nd) (k : Nat) (s : ByteArray) : List Nd := ns.set k ((ndAt ns k).1, (ndAt ns k).2.1, woP (ndAt ns k).2.2 s)
def rDelV (a : List Nd × ByteArray × ByteArray) : List Nd × Int :=
 if ¬ (begV (a.1, a.2.1)).2 = 0 then ([], (begV (a.1, a.2.1)).2)
 else if (ofV (ndAt a.1 (begV (a.1, a.2.1)).1.toNat).2.2 a.2.2).2 = false then ([], 4)
 else (woN a.1 (begV (a.1, a.2.1)).1.toNat a.2.2, 0)
def saysDelE : Says := fun args H => match H with
 | [] => match daTSS args with
  | some a => some (some (args = eaTSS a ∧ ¬ (rDelV a).2 = 0), treR (rDelV a), [])
  | none => none
 | _ => none
def saysDelO : Says := fun args H => match H with
 | [] => match daTSS args with
  | some a => some (some (args = eaTSS a ∧ (rDelV a).2 = 0), .tup [.agg [.sl 0 ndC (a.1.length - 1) (rDelV a).1.length], .c (.int .i64 (rDelV a).2)], [hpV (rDelV a).1 (a.1.length - 1)])
  | none => none
 | _ => none
theorem del_er : TS9 (ext BT8 40 saysDelE) := by
 refine ext_run bT8 (f := 40) (fn := Tryz.f40) rfl rfl [0, 1, 2, 3, 6, 7, 8, 9, 11, 12, 20, 34] fun args H q r' H' hs hp => ?_
 unfold saysDelE at hs
 split at hs
 ·split at hs
  ·rename_i a _
   cases hs
   obtain ⟨rfl, hc⟩ := hp
   obtain ⟨ns, p, s⟩ := a
   refine ⟨nB9 rfl, [], rfl, nK9, ?_⟩
   obtain ⟨R, hR⟩ : ∃ R, rDelV (ns, p, s) = R := ⟨_, rfl⟩
   rw [hR] at hc ⊢
   show runF _ _ _ _ [.agg [.p (.l ndC ns)], .c (.str p), .c (.str s)] [] _
   repeat ((conv => whnf); refine ⟨by first | exact ⟨rfl, trivial⟩ | (unfold inI64; omega) | omega | exact ⟨by omega, by omega⟩ | exact rfl | decide +kernel, ?_⟩)
   conv => whnf
   refine cI9 ?_ ?_<;>intro h
   ·have h1 : ¬ (begV (ns, p)).2 = 0 := by
     have h2 : (!decide ((begV (ns, p)).2 = 0)) = true := h
     simpa using h2
    repeat ((conv => whnf); refine ⟨by first | (unfold inI64; omega) | omega | exact ⟨by omega, by omega⟩ | exact rfl | decide +kernel, ?_⟩)
    conv => whnf
    exact ends_nil (by rw [← hR]; unfold rDelV; rw [if_pos h1])
   have h1 : (begV (ns, p)).2 = 0 := by
    have h2 : (!decide ((begV (ns, p)).2 = 0)) = false := h
    simpa using h2
   have h1' : ¬ ¬ (begV (ns, p)).2 = 0 := fun h => h h1
   obtain ⟨hf, hk0, hk1⟩ := beg_ok h1
   have hlen := hf.len
   have hln := lim_LenN hf.lim
   obtain ⟨k, hk⟩ : ∃ k, (begV (ns, p)).1 = k := ⟨_, rfl⟩
   have hR2 : R = if (ofV (ndAt ns k.toNat).2.2 s).2 = false then ([], 4) else (woN ns k.toNat s, 0) := by
    rw [← hR]
    unfold rDelV
    rw [if_neg h1']
    dsimp only
    rw [hk]
   rw [hk] at hk0 hk1
   have hpl : (ns.getD k.toNat ndC.dflt).2.2.length ≤ 1000000000 := by
    have hkn : k.toNat < ns.length := by omega
    have he : ns.getD k.toNat ndC.dflt = ns[k.toNat] := by simp [hkn]
    rw [he]
    exact hln.at hkn
   have hin : 0 ≤ k ∧ k < (ns.length : Nat) := ⟨hk0, hk1⟩
   repeat ((conv => whnf); refine ⟨by first | (unfold inI64; omega) | omega | exact ⟨by omega, by omega⟩ | exact rfl | decide +kernel, ?_⟩)
   conv => whnf
   rw [hk]
   repeat ((conv => whnf); refine ⟨by first | exact hin | exact ⟨rfl, hpl⟩ | (unfold inI64; omega) | omega | exact ⟨by omega, by omega⟩ | exact rfl | decide +kernel, ?_⟩)
   conv => whnf
   refine cI9 ?_ ?_<;>intro h2
   ·have h3 : (ofV (ndAt ns k.toNat).2.2 s).2 = false := not_b h2
    repeat ((conv => whnf); refine ⟨by first | (unfold inI64; omega) | omega | exact ⟨by omega, by omega⟩ | exact rfl | decide +kernel, ?_⟩)
    conv => whnf
    exact ends_nil (by rw [hR2, if_pos h3])
   have h3 : (ofV (ndAt ns k.toNat).2.2 s).2 = true := not_f h2
   rw [if_neg (ne_f h3)] at hR2
   exact absurd (by rw [hR2]) hc
  ·cases hs
 ·cases hs
theorem del_ok : TS9 (ext BT8 40 saysDelO) := by
 refine ext_run bT8 (f := 40) (fn := Tryz.f40) rfl rfl [0, 1, 2, 3, 6, 7, 8, 9, 11, 12, 20, 34] fun args H q r' H' hs hp => ?_
 unfold saysDelO at hs
 split at hs
 ·split at hs
  ·rename_i a _
   cases hs
   obtain ⟨rfl, hc⟩ := hp
   obtain ⟨ns, p, s⟩ := a
   refine ⟨nB9 rfl, [2], rfl, nK9, ?_⟩
   obtain ⟨R, hR⟩ : ∃ R, rDelV (ns, p, s) = R := ⟨_, rfl⟩
   rw [hR] at hc ⊢
   show runF _ _ _ _ [.agg [.p (.l ndC ns)], .c (.str p), .c (.str s)] [] _
   repeat ((conv => whnf); refine ⟨by first | exact ⟨rfl, trivial⟩ | (unfold inI64; omega) | omega | exact ⟨by omega, by omega⟩ | exact rfl | decide +kernel, ?_⟩)
   conv => whnf
   refine cI9 ?_ ?_<;>intro h
   ·have h1 : ¬ (begV (ns, p)).2 = 0 := by
     have h2 : (!decide ((begV (ns, p)).2 = 0)) = true := h
     simpa using h2
    exact absurd hc (by rw [← hR]; unfold rDelV; rw [if_pos h1]; exact h1)
   have h1 : (begV (ns, p)).2 = 0 := by
    have h2 : (!decide ((begV (ns, p)).2 = 0)) = false := h
    simpa using h2
   have h1' : ¬ ¬ (begV (ns, p)).2 = 0 := fun h => h h1
   obtain ⟨hf, hk0, hk1⟩ := beg_ok h1
   have hlen := hf.len
   have hln := lim_LenN hf.lim
   obtain ⟨k, hk⟩ : ∃ k, (begV (ns, p)).1 = k := ⟨_, rfl⟩
   have hR2 : R = if (ofV (ndAt ns k.toNat).2.2 s).2 = false then ([], 4) else (woN ns k.toNat s, 0) := by
    rw [← hR]
    unfold rDelV
    rw [if_neg h1']
    dsimp only
    rw [hk]
   rw [hk] at hk0 hk1
   have hpl : (ns.getD k.toNat ndC.dflt).2.2.length ≤ 1000000000 := by
    have hkn : k.toNat < ns.length := by omega
    have he : ns.getD k.toNat ndC.dflt = ns[k.toNat] := by simp [hkn]
    rw [he]
    exact hln.at hkn
   have hin : 0 ≤ k ∧ k < (ns.length : Nat) := ⟨hk0, hk1⟩
   repeat ((conv => whnf); refine ⟨by first | (unfold inI64; omega) | omega | exact ⟨by omega, by omega⟩ | exact rfl | decide +kernel, ?_⟩)
   conv => whnf
   rw [hk]
   repeat ((conv => whnf); refine ⟨by first | exact hin | exact ⟨rfl, hpl⟩ | (unfold inI64; omega) | omega | exact ⟨by omega, by omega⟩ | exact rfl | decide +kernel, ?_⟩)
   conv => whnf
   refine cI9 ?_ ?_<;>intro h2
   ·have h3 : (ofV (ndAt ns k.toNat).2.2 s).2 = false := not_b h2
    exact absurd hc (by rw [hR2, if_pos h3]; exact fun h => by cases h)
   have h3 : (ofV (ndAt ns k.toNat).2.2 s).2 = true := not_f h2
   rw [if_neg (ne_f h3)] at hR2
   have hin : 0 ≤ k ∧ k < (ns.length : Nat) := ⟨hk0, hk1⟩
   have hob : 0 = 0 ∧ 0 ≤ k ∧ k < (ns.length : Nat) := ⟨rfl, hk0, hk1⟩
   repeat ((conv => whnf); refine ⟨by first | exact ⟨rfl, hln, hlen.1⟩ | exact hin | exact hob | exact ⟨rfl, hpl⟩ | ((conv => whnf); exact ⟨⟨rfl, rfl, rfl⟩, trivial⟩) | exact Early.one (by decide +kernel) (by (conv => whnf); exact ⟨rfl, rfl, rfl⟩) trivial | (unfold inI64; omega) | omega | exact ⟨by omega, by omega⟩ | exact rfl | decide +kernel, ?_⟩)
   conv => whnf
   rw [hR2]
   show Ends (.tup [.agg [.sl 0 ndC (ns.length - 1) ns.length], .c (.int .i64 0)]) [hpV (woN ns k.toNat s) (ns.length - 1)] (.tup [.agg [.sl 0 ndC (ns.length - 1) (woN ns k.toNat s).length], .c (.int .i64 0)]) [hpV (woN ns k.toNat s) (ns.length - 1)]
   rw [show (woN ns k.toNat s).length = ns.length by unfold woN; rw [List.length_set]]
   exact eR9
  ·cases hs
 ·cases hs
def BT9 : Table := ext BT8 40 (saysG daTSS eaTSS fun a => (none, treR (rDelV a)))
theorem del_len {a : List Nd × ByteArray × ByteArray} (h : (rDelV a).2 = 0) : 0 < (rDelV a).1.length := by
 unfold rDelV at *
 split at h
 ·rename_i h1
  exact absurd h h1
 ·rename_i h1
  rw [if_neg h1]
  split at h
  ·cases h
  ·rename_i h2
   rw [if_neg h2]
   show 0 < (woN _ _ _).length
   unfold woN
   rw [List.length_set]
   have h4 : (begV (a.1, a.2.1)).2 = 0 := Classical.not_not.1 h1
   exact (beg_ok h4).1.len.1
def saysDelF : Says := fun args H => match H with
 | [] => match daTSS args with
  | some a => some (some (args = eaTSS a ∧ (rDelV a).2 = 0), treR (rDelV a), [])
  | none => none
 | _ => none
theorem del_f : TS9 (ext BT8 40 saysDelF) := by
 refine ext_frz2 del_ok bT8 fun args H p r H' hs hp => ?_
 unfold saysDelF at hs
 split at hs
 ·split at hs
  ·rename_i a ha
   cases hs
   refine ⟨rfl, rfl, some (args = eaTSS a ∧ (rDelV a).2 = 0), ndT, ndC, (rDelV a).1, a.1.length - 1, .v (.int .i64 (rDelV a).2), hp, del_len hp.2, ?_, rfl⟩
   unfold saysDelO
   dsimp only
   rw [ha]
  ·cases hs
 ·cases hs
theorem bT9 : TS9 BT9 := by
 refine ext_case del_f del_er bT8 fun args H p r H' hs hp => ?_
 unfold saysG at hs
 split at hs
 ·split at hs
  ·rename_i a ha
   cases hs
   obtain ⟨h1, _⟩ := hp
   by_cases h0 : (rDelV a).2 = 0
   ·refine .inl ⟨_, ?_, by unfold saysDelF; dsimp only; rw [ha]⟩
    exact ⟨h1, h0⟩
   ·refine .inr ⟨_, ?_, by unfold saysDelE; dsimp only; rw [ha]⟩
    exact ⟨h1, h0⟩
  ·cases hs
 ·cases hs
theorem fnd_lt {ns : List Nd} {p : ByteArray} (h : (fndV (ns, p)).2 = true) : (fndV (ns, p)).1.toNat < ns.length := by
 unfold fndV at h ⊢
 have hle := skV_le (isB ns p) ns.length
 split at h
 ·cases h
 ·rename_i h3
  rw [if_neg h3]
  dsimp only at h3 ⊢
  omega
theorem wo_same {ps : List Pt} (ha : ascV ps = true) (s : ByteArray) (hf : fndP ps s = true) : woP ps s = unP ps s := by
 obtain ⟨A, B, rfl, hA, hc⟩ := pt_cases ((asc_iff _).1 ha) s
 rcases hc with hB | ⟨o, r, rfl, _⟩
 ·rw [fnd_no hA hB] at hf
  cases hf
 ·rw [un_at hA]
  unfold woP
  rw [List.filter_append, List.filter_cons]
  have h1 : A.filter (wo1 s) = A := List.filter_eq_self.2 fun q hq => by
   unfold wo1
   rw [dF9 (bLt_ne (hA q hq))]
   rfl
  have h2 : r.filter (wo1 s) = r := List.filter_eq_self.2 fun q hq => by
   obtain ⟨i, hi, rfl⟩ := List.getElem_of_mem hq
   have h3 := asc_pw ha A.length (A.length + 1 + i) (by omega) (by rw [zP9, zC9]; omega)
   have e1 : ptAt (A ++ (s, o) :: r) A.length = (s, o) := by rw [pt_at' (by rw [zP9, zC9]; omega)]; simp
   have e2 : ptAt (A ++ (s, o) :: r) (A.length + 1 + i) = r[i] := by
    rw [pt_at' (by rw [zP9, zC9]; omega), List.getElem_append_right (by omega)]
    simp [show A.length + 1 + i - A.length = i + 1 by omega]
   rw [e1, e2] at h3
   unfold wo1
   rw [dF9 fun h4 => bLt_ne h3 h4.symm]
   rfl
  have h3 : wo1 s (s, o) = false := by
   unfold wo1
   rw [dT9 rfl]
   rfl
  show A.filter (wo1 s) ++ (if wo1 s (s, o) = true then (s, o) :: r.filter (wo1 s) else r.filter (wo1 s)) = A ++ r
  rw [h1, h2, h3, if_neg (by decide)]
theorem del_same (a : List Nd × ByteArray × ByteArray) : rDelV a = DelV a := by
 obtain ⟨ns, p, s⟩ := a
 unfold rDelV DelV
 dsimp only
 rw [beg_fnd]
 by_cases h : chkP ns = 0
 ·rw [if_pos h, if_pos h]
  by_cases h2 : (fndV (ns, p)).2 = true
  ·rw [if_pos h2, if_pos h2]
   dsimp only
   have hv := vld_vl (chk_vld.1 h)
   rw [if_neg (by decide)]
   have hkl := fnd_lt h2
   generalize (fndV (ns, p)).1.toNat = k at hkl
   have hasc := hv.asc k hkl
   rw [of_asc hasc]
   by_cases h3 : fndP (ndAt ns k).2.2 s = true
   ·rw [if_pos h3, if_pos h3]
    dsimp only
    rw [if_neg (by decide)]
    unfold woN unN
    rw [wo_same hasc s h3]
   ·rw [if_neg h3, if_neg h3]
    rfl
  ·rw [if_neg h2, if_neg h2]
   rfl
 ·rw [if_neg h, if_neg h]
  exact if_pos h
def blGo (ns : List Nd) (k : Int) : Nat → Int → Int
 | 0, j => j
 | m + 1, j => if k < j then blGo ns k m (paI ns j.toNat) else j
def blB (ns : List Nd) (k j : Int) : Bool := decide (blGo ns k j.toNat j = k)
def daTII : List AV → Option (List Nd × Int × Int)
 | [.agg [.p (.l c0 ns)], .c (.p (.v (.int .i64 j))), .c (.p (.v (.int .i64 k)))] => match castD (e := ndC) (e' := c0) ns with | some ns => some (ns, j, k) | _ => none
 | _ => none
def eaTII (a : List Nd × Int × Int) : List AV := [.agg [.p (.l ndC a.1)], .c (.int .i64 a.2.1), .c (.int .i64 a.2.2)]
def BT10 : Table := ext BT9 95 (saysG daTII eaTII fun a => (some (FrmT a.1 ∧ 0 ≤ a.2.1 ∧ a.2.1 < (a.1.length : Nat) ∧ 0 ≤ a.2.2), .bool (blB a.1 a.2.2 a.2.1)))
theorem bT10 : TS9 BT10 := by
 refine extG bT9 95 (fn := Tryz.f95) rfl rfl daTII eaTII _ (fun _ => nB9 rfl) [0, 1, 2, 3, 6, 9] fun a hok => ?_
 obtain ⟨ns, j, k⟩ := a
 obtain ⟨hf, h0, h1, h2⟩ : FrmT ns ∧ 0 ≤ j ∧ j < (ns.length : Nat) ∧ 0 ≤ k := hok
 dsimp only
 unfold blB
 obtain ⟨R, hR⟩ : ∃ R, blGo ns k j.toNat j = R := ⟨_, rfl⟩
 rw [hR]
 repeat ((conv => whnf); refine ⟨by first | (unfold inI64; omega) | omega | exact ⟨by omega, by omega⟩ | exact rfl | decide +kernel, ?_⟩)
 conv => whnf
 refine lI9 (σ := Int) (fun j => [(0, nX9), (1, XV.s (.int .i64 j)), (2, XV.s (.int .i64 k)), (3, XV.s (.a (.c (.ptr 0 0)))), (6, XV.s (.bool false)), (9, nX9)])
  (fun _ => [.row [.p (.l ndC ns)]]) (fun j => 0 ≤ j ∧ j < (ns.length : Nat) ∧ ∃ m : Nat, j.toNat ≤ m ∧ blGo ns k m j = R) (fun j => j.toNat) j ?_ rfl ⟨h0, h1, j.toNat, nR9 _, hR⟩ ?_
 ·repeat first|exact lN9|refine lD9 ?_|refine lS9 ?_
 rintro j ⟨h0, h1, m, hm, hgo⟩
 repeat ((conv => whnf); refine ⟨by first | (unfold inI64; omega) | omega | exact ⟨by omega, by omega⟩ | exact rfl | decide +kernel, ?_⟩)
 conv => whnf
 refine cI9 ?_ ?_<;>intro h
 ·have hlt : k < j := oT9 h
  have hp := hf.par j.toNat (by omega) (by omega)
  have hb : 0 ≤ j ∧ j < (ns.length : Nat) := ⟨h0, h1⟩
  obtain ⟨m, rfl⟩ : ∃ q, m = q + 1 := ⟨m - 1, by omega⟩
  have e : blGo ns k (m + 1) j = blGo ns k m (paI ns j.toNat) := if_pos hlt
  rw [e] at hgo
  repeat ((conv => whnf); refine ⟨by first | exact hb | (unfold inI64; omega) | omega | exact ⟨by omega, by omega⟩ | exact rfl | decide +kernel, ?_⟩)
  conv => whnf
  refine kI9 (paI ns j.toNat) [0] rfl id0 rfl ?_ ⟨by omega, by omega, m, by omega, hgo⟩ (by show (paI ns j.toNat).toNat < j.toNat; omega)
  repeat first|exact kN9|refine kD9 ?_|refine kR9 rfl ?_
 ·have hge : ¬ k < j := oF9 h
  have e : blGo ns k m j = j := by
   cases m with
   | zero => rfl
   | succ m => exact if_neg hge
  rw [e] at hgo
  subst hgo
  repeat ((conv => whnf); refine ⟨by first | (unfold inI64; omega) | omega | exact ⟨by omega, by omega⟩ | exact rfl | decide +kernel, ?_⟩)
  conv => whnf
  exact eR9
def rvX (ns : List Nd) (i : Nat) (z : List Int) (n : Nat) : Nd := if 0 < i then ((z.set i (n : Int)).getD (paI ns i).toNat 0, (ndAt ns i).2) else ndAt ns i
def rvGo (ns : List Nd) (k : Int) : Nat → Nat → List Int → List Nd → List Nd
 | 0, _, _, out => out
 | m + 1, i, z, out => if blB ns k (i : Nat) = true then rvGo ns k m (i + 1) z out else rvGo ns k m (i + 1) (z.set i (out.length : Nat)) (out ++ [rvX ns i z out.length])
def rRemV (a : List Nd × ByteArray) : List Nd × Int :=
 if ¬ (begV a).2 = 0 then ([], (begV a).2)
 else if (begV a).1 = 0 then ([], 1)
 else (rvGo a.1 (begV a).1 a.1.length 0 (List.replicate a.1.length 0) [], 0)
def BT11 : Table := ext BT10 42 (saysG daTS eaTS fun a => (none, treR (rRemV a)))
theorem bT11 : TS9 BT11 := by
 refine extG bT10 42 (fn := Tryz.f42) rfl rfl daTS eaTS _ (fun _ => nB9 rfl) [0, 1, 2, 4, 5, 6, 7, 8, 9, 10, 11, 19, 23, 31, 32, 33, 34, 41, 49] fun a _ => ?_
 obtain ⟨ns, p⟩ := a
 show runF _ _ _ [] [.agg [.p (.l ndC ns)], .c (.str p)] [] fun r H => Ends r H (treR (rRemV (ns, p))) []
 repeat ((conv => whnf); refine ⟨by first | exact ⟨rfl, trivial⟩ | (unfold inI64; omega) | omega | exact ⟨by omega, by omega⟩ | exact rfl | decide +kernel, ?_⟩)
 conv => whnf
 refine cI9 ?_ ?_<;>intro h
 ·have h1 : ¬ (begV (ns, p)).2 = 0 := by
   have h2 : (!decide ((begV (ns, p)).2 = 0)) = true := h
   simpa using h2
  repeat ((conv => whnf); refine ⟨by first | (unfold inI64; omega) | omega | exact ⟨by omega, by omega⟩ | exact rfl | decide +kernel, ?_⟩)
  conv => whnf
  exact ends_nil (by unfold rRemV; rw [if_pos h1])
 have h1 : (begV (ns, p)).2 = 0 := by
  have h2 : (!decide ((begV (ns, p)).2 = 0)) = false := h
  simpa using h2
 have h1' : ¬ ¬ (begV (ns, p)).2 = 0 := fun h => h h1
 obtain ⟨hf, hk0, hk1⟩ := beg_ok h1
 have hlen := hf.len
 have hln := lim_LenN hf.lim
 repeat ((conv => whnf); refine ⟨by first | (unfold inI64; omega) | omega | exact ⟨by omega, by omega⟩ | exact rfl | decide +kernel, ?_⟩)
 conv => whnf
 refine cI9 ?_ ?_<;>intro h2
 ·have h3 : (begV (ns, p)).1 = 0 := oT9 h2
  repeat ((conv => whnf); refine ⟨by first | (unfold inI64; omega) | omega | exact ⟨by omega, by omega⟩ | exact rfl | decide +kernel, ?_⟩)
  conv => whnf
  exact ends_nil (by unfold rRemV; rw [if_neg h1', if_pos h3])
 have h3 : ¬ (begV (ns, p)).1 = 0 := oF9 h2
 obtain ⟨R, hR⟩ : ∃ R, rRemV (ns, p) = R := ⟨_, rfl⟩
 rw [hR]
 unfold rRemV at hR
 rw [if_neg h1', if_neg h3] at hR
 dsimp only at hR
 obtain ⟨k, hk⟩ : ∃ k, (begV (ns, p)).1 = k := ⟨_, rfl⟩
 rw [hk] at hk0 hk1 h3 hR
 have hmk : ((ns.length : Nat) : Int) = (ns.length : Nat) ∧ (0 : Int) < (ns.length : Nat) ∧ ((ns.length : Nat) : Int) ≤ 1000000 := by omega
 repeat ((conv => whnf); refine ⟨by first | exact hmk | exact ⟨rfl, hln, hlen.1⟩ | (unfold inI64; omega) | omega | exact ⟨by omega, by omega⟩ | exact rfl | decide +kernel, ?_⟩)
 conv => whnf
 rw [hk]
 obtain ⟨V, hV⟩ : ∃ V, rvGo ns k ns.length 0 (List.replicate ns.length 0) [] = V := ⟨_, rfl⟩
 rw [hV] at hR
 subst hR
 refine loop_weak (σ := Nat × Nat × List Int × List Nd) (fun ⟨_, i, _, _⟩ => [(0, nX9), (1, nX9), (2, XV.s (.a (.c (.ptr 0 0)))), (4, XV.s (.a (.c (.ptr 1 0)))), (5, nX9), (6, XV.s (.int .i64 k)), (7, nX9), (8, XV.s (.a (.c (.sl 2 (.int .i64) 0 ns.length)))), (9, XV.s (.a (.c (.ptr 3 0)))), (10, nX9), (11, nX9), (19, nX9), (23, nX9), (31, XV.s (.a (.c (.sl 4 ndC (ns.length - 1) ns.length)))), (32, XV.s (.int .i64 (ns.length : Nat))), (33, XV.s (.int .i64 (i : Nat))), (34, nX9), (41, nX9), (49, nX9)])
  (fun ⟨_, _, z, out⟩ => [.row [.p (.l ndC ns)], .row [.p (.v (.slice none 0 0))], .arr 3 (.int .i64) z 0, .row [.own 5 ndC out], hpV ns (ns.length - 1), tokN out.length]) (fun ⟨m, i, z, out⟩ => i + m = ns.length ∧ z.length = ns.length ∧ out.length ≤ i ∧ rvGo ns k m i z out = V) (fun ⟨m, _, _, _⟩ => m) (ns.length, 0, List.replicate ns.length 0, []) ?_ ⟨Nat.zero_add _, List.length_replicate .., nR9 _, hV⟩ ?_
 ·refine (Weak.cell 3 rfl 0 rfl ndT ndC).trans (Weak.le _ ?_)
  repeat first|exact lN9|refine lD9 ?_|refine lS9 ?_
 rintro ⟨m, i, z, out⟩ ⟨him, hzl, hol, hgo⟩
 repeat ((conv => whnf); refine ⟨by first | (unfold inI64; omega) | omega | exact ⟨by omega, by omega⟩ | exact rfl | decide +kernel, ?_⟩)
 conv => whnf
 have hids : ∀ k, k < 5 → [0, 1, 2, 3, 4, 5][k]? = some k := fun k hk => by
  obtain rfl | rfl | rfl | rfl | rfl : k = 0 ∨ k = 1 ∨ k = 2 ∨ k = 3 ∨ k = 4 := by omega
  all_goals rfl
 refine cI9 ?_ ?_<;>intro h4
 ·have hlt := lt_of_dec h4
  obtain ⟨m, rfl⟩ : ∃ q, m = q + 1 := ⟨m - 1, by omega⟩
  have hb : (ns.length - 1) = (ns.length - 1) ∧ 0 ≤ (i : Int) ∧ (i : Int) < (ns.length : Nat) := by omega
  have hbl : FrmT ns ∧ 0 ≤ (i : Int) ∧ (i : Int) < (ns.length : Nat) ∧ 0 ≤ k := ⟨hf, by omega, by omega, hk0⟩
  have e : rvGo ns k (m + 1) i z out = if blB ns k (i : Nat) = true then rvGo ns k m (i + 1) z out else rvGo ns k m (i + 1) (z.set i (out.length : Nat)) (out ++ [rvX ns i z out.length]) := rfl
  rw [e] at hgo
  repeat ((conv => whnf); refine ⟨by first | exact hb | exact ⟨rfl, hbl⟩ | (unfold inI64; omega) | omega | exact ⟨by omega, by omega⟩ | exact rfl | decide +kernel, ?_⟩)
  conv => whnf
  refine cI9 ?_ ?_<;>intro h5
  ·have h6 : blB ns k (i : Int) = true := h5
   rw [if_pos h6] at hgo
   repeat ((conv => whnf); refine ⟨by first | (unfold inI64; omega) | omega | exact ⟨by omega, by omega⟩ | exact rfl | decide +kernel, ?_⟩)
   conv => whnf
   refine kI9 (m, i + 1, z, out) [0, 1, 2, 3, 4, 5] rfl hids rfl ?_ ⟨by omega, hzl, by omega, hgo⟩ (nS9 m)
   repeat first|exact kN9|refine kD9 ?_|refine kR9 rfl ?_
  have h6 : blB ns k (i : Int) = false := h5
  rw [if_neg (by rw [h6]; decide)] at hgo
  have hob : 0 = 0 ∧ 0 ≤ (i : Int) ∧ (i : Int) < (z.length : Nat) := ⟨rfl, by omega, by omega⟩
  have hob2 : 0 = 0 ∧ 0 ≤ (i : Int) ∧ (i : Int) < (ns.length : Nat) := ⟨rfl, by omega, by omega⟩
  have hcap : out.length + 1 ≤ capBound := Nat.le_trans (m := 1000) (by omega) (by decide)
  repeat ((conv => whnf); refine ⟨by first | exact hob | exact hob2 | (unfold inI64; omega) | omega | exact ⟨by omega, by omega⟩ | exact rfl | decide +kernel, ?_⟩)
  conv => whnf
  refine cI9 ?_ ?_<;>intro h7
  ·have hi0 : 0 < i := by
    have h8 : (0 : Int) < (i : Int) := oT9 h7
    omega
   have hp := hf.par i hi0 hlt
   have hob3 : 0 = 0 ∧ 0 ≤ paI ns i ∧ paI ns i < ((z.set i (out.length : Nat)).length : Nat) := ⟨rfl, by omega, by rw [List.length_set]; omega⟩
   have hob4 : 0 = 0 ∧ 0 ≤ paI ns i ∧ paI ns i < (ns.length : Nat) := ⟨rfl, by omega, by omega⟩
   have hx : rvX ns i z out.length = ((z.set i (out.length : Int)).getD (paI ns i).toNat 0, (ndAt ns i).2.1, (ndAt ns i).2.2) := if_pos hi0
   rw [hx] at hgo
   repeat ((conv => whnf); refine ⟨by first | exact hob3 | exact hob4 | exact hcap | (unfold inI64; omega) | omega | exact ⟨by omega, by omega⟩ | exact rfl | decide +kernel, ?_⟩)
   conv => whnf
   refine kI9 (m, i + 1, z.set i (out.length : Nat), out ++ [((z.set i (out.length : Int)).getD (paI ns i).toNat 0, (ndAt ns i).2.1, (ndAt ns i).2.2)]) [0, 1, 2, 3, 4, 5] rfl hids ?_ ?_ ⟨by omega, by rw [List.length_set]; exact hzl, by rw [zP9]; simp only [zC9, zN9]; omega, hgo⟩ (nS9 m)
   ·show some [AO.row _, AO.row _, AO.arr _ (.int .i64) (z.set i (out.length : Nat)) 0, AO.row [.own 5 ndC (out ++ [((z.set i (out.length : Int)).getD (paI ns i).toNat 0, (ndAt ns i).2.1, (ndAt ns i).2.2)])], hpV ns (ns.length - 1), tokN (out.length + 1)] = some [AO.row _, AO.row _, AO.arr _ (.int .i64) (z.set i (out.length : Nat)) 0, AO.row [.own 5 ndC (out ++ [((z.set i (out.length : Int)).getD (paI ns i).toNat 0, (ndAt ns i).2.1, (ndAt ns i).2.2)])], hpV ns (ns.length - 1), tokN (out ++ [((z.set i (out.length : Int)).getD (paI ns i).toNat 0, (ndAt ns i).2.1, (ndAt ns i).2.2)]).length]
    rw [zP9]
    rfl
   ·repeat first|exact kN9|refine kD9 ?_|refine kR9 rfl ?_
  have hi0 : ¬ 0 < i := by
   have h8 : ¬ (0 : Int) < (i : Int) := oF9 h7
   omega
  have hx : rvX ns i z out.length = ((ndAt ns i).1, (ndAt ns i).2.1, (ndAt ns i).2.2) := if_neg hi0
  rw [hx] at hgo
  repeat ((conv => whnf); refine ⟨by first | exact hcap | (unfold inI64; omega) | omega | exact ⟨by omega, by omega⟩ | exact rfl | decide +kernel, ?_⟩)
  conv => whnf
  refine kI9 (m, i + 1, z.set i (out.length : Nat), out ++ [((ndAt ns i).1, (ndAt ns i).2.1, (ndAt ns i).2.2)]) [0, 1, 2, 3, 4, 5] rfl hids ?_ ?_ ⟨by omega, by rw [List.length_set]; exact hzl, by rw [zP9]; simp only [zC9, zN9]; omega, hgo⟩ (nS9 m)
  ·show some [AO.row _, AO.row _, AO.arr _ (.int .i64) (z.set i (out.length : Nat)) 0, AO.row [.own 5 ndC (out ++ [((ndAt ns i).1, (ndAt ns i).2.1, (ndAt ns i).2.2)])], hpV ns (ns.length - 1), tokN (out.length + 1)] = some [AO.row _, AO.row _, AO.arr _ (.int .i64) (z.set i (out.length : Nat)) 0, AO.row [.own 5 ndC (out ++ [((ndAt ns i).1, (ndAt ns i).2.1, (ndAt ns i).2.2)])], hpV ns (ns.length - 1), tokN (out ++ [((ndAt ns i).1, (ndAt ns i).2.1, (ndAt ns i).2.2)]).length]
   rw [zP9]
   rfl
  ·repeat first|exact kN9|refine kD9 ?_|refine kR9 rfl ?_
 ·obtain rfl : m = 0 := by have := ge_of_dec h4; omega
  have hgo : out = V := hgo
  subst hgo
  repeat ((conv => whnf); refine ⟨by first | (unfold inI64; omega) | omega | exact ⟨by omega, by omega⟩ | exact rfl | decide +kernel, ?_⟩)
  conv => whnf
  exact eR9
structure OrF (l : List Int) (k : Nat) : Prop where
 len : l.length = k
 rng : ∀ c, c < l.length → ∃ j : Nat, l.getD c 0 = (j : Int) ∧ j < k
 all : ∀ j, j < k → ∃ c, c < l.length ∧ l.getD c 0 = (j : Int)
abbrev inT (y x : List Nd) (k : Nat) : Prop := (fndV (y, pathV x k)).2 = true
section
variable {x y : List Nd} {g : Nat → Nat} (hx : Vl x) (he : Emb x y g)
include hx he
theorem in_of {i k : Nat} (hi : i < y.length) (h : g i = k) : fndV (y, pathV x k) = ((i : Int), true) := by
 rw [← h, ← Emb.path hx he hi]
 exact fnd_path (Emb.vl hx he) hi
theorem in_get {k : Nat} (hk : k < x.length) (h : inT y x k) : ∃ i, i < y.length ∧ g i = k := by
 refine Classical.byContradiction fun hn => ?_
 have h1 : fndV (y, pathV x k) = (0, false) := fnd_none fun j hj hp => by
  rw [Emb.path hx he hj] at hp
  exact hn ⟨j, hj, path_inj hx (he.lt j hj) hk hp⟩
 unfold inT at h
 rw [h1] at h
 cases h
theorem emb_len {k : Nat} (hk : k < x.length) (hno : ∀ i, i < y.length → ¬ g i = k) : y.length < x.length := by
 have h1 : ∀ i, i ≤ g i := by
  intro i
  induction i with
  | zero => exact nZ9 _
  | succ i ih =>
   have := he.mono i (i + 1) (nS9 i)
   omega
 rcases Nat.lt_or_ge y.length x.length with h | h
 ·exact h
 ·exfalso
  have key : ∀ m i, i + m + 1 = y.length → g i ≤ i := by
   intro m
   induction m with
   | zero =>
    intro i hi
    have := he.lt i (by omega)
    omega
   | succ m ih =>
    intro i hi
    have h2 := ih (i + 1) (by omega)
    have h3 := he.mono i (i + 1) (nS9 i)
    omega
  have h2 := key (y.length - k - 1) k (by omega)
  have h3 := h1 k
  exact hno k (by omega) (by omega)
theorem emb_full (hall : ∀ k, k < x.length → inT y x k) : y = x := by
 have h1 : ∀ i, i ≤ g i := by
  intro i
  induction i with
  | zero => exact nZ9 _
  | succ i ih =>
   have := he.mono i (i + 1) (nS9 i)
   omega
 have h2 : ∀ n k, k ≤ n → k < x.length → k < y.length ∧ g k = k := by
  intro n
  induction n with
  | zero =>
   intro k hk _
   obtain rfl : k = 0 := by omega
   exact ⟨he.pos, he.zero⟩
  | succ n ih =>
   intro k hk hkl
   obtain ⟨i, hi, hg⟩ := in_get hx he hkl (hall k hkl)
   have h3 := h1 i
   rcases Nat.lt_or_eq_of_le (show i ≤ k by omega) with h4 | h4
   ·have h5 := (ih i (by omega) (by omega)).2
    omega
   ·rw [h4] at hi hg
    exact ⟨hi, hg⟩
 have hl : y.length = x.length := by
  rcases Nat.lt_trichotomy y.length x.length with h | h | h
  ·have := (h2 y.length y.length (nR9 _) h).1
   omega
  ·exact h
  ·have h3 := he.lt x.length h
   have h4 := h1 x.length
   omega
 refine List.ext_getElem hl fun i a b => ?_
 rw [← nd_at', ← nd_at']
 have hg := (h2 i i (nR9 _) b).2
 have hr := he.rest i a
 rw [hg] at hr
 refine Prod.ext ?_ hr
 rcases Nat.eq_zero_or_pos i with h0 | h0
 ·subst h0
  rw [he.root]
  have h4 := frm_nd hx.f.frm hx.f.len.1
  unfold ndFrm at h4
  obtain ⟨h5, _⟩ := bA9.1 h4
  obtain ⟨h6, _⟩ := bA9.1 h5
  simp at h6
  exact h6.1.symm
 ·obtain ⟨p, p1, p2, p3⟩ := he.par i h0 a
  have h5 := (par_lt hx.f.par h0 b)
  rw [p1, ← h5.2]
  rw [hg, (h2 p p (nR9 _) (by omega)).2] at p3
  rw [p3]
end
end Go.Ab
