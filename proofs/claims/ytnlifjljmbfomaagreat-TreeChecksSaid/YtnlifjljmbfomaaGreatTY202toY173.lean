/- What TreeChecks calls besides: Small, Ints; Of, Value and Children of the reference. -/
import Derived.Test.YtnlifjljmbfomaaGreatTY133toY200
import Derived.Test.YtnlifjljmbfomaaGreatTY122toY132
namespace Go.Ab
open Go.Proofs
set_option linter.unusedSectionVars false
set_option maxRecDepth 100000
variable [Base]
structure LenM (ns : List Nd) : Prop where
 len : ns.length ≤ 140737488355328
 ps : ∀ n ∈ ns, n.2.2.length ≤ 140737488355328
def smF : List Nd → Nat → Nat
 | [], n => n
 | x :: r, n => if n < 900 then smF r (n + x.2.2.length) else n
def smB (ns : List Nd) : Bool := decide (smF ns ns.length ≤ 400)
def BT1 : Table := ext N6 8 (saysG daT eaT fun ns => (some (LenM ns), .bool (smB ns)))
theorem bT1 : TS9 BT1 := by
 refine extG n6 8 (fn := Tryz.f8) rfl rfl daT eaT _ (fun _ => nB9 rfl) [0, 1, 2, 3, 4, 16] fun ns hok => ?_
 have hm : LenM ns := hok
 have hl := hm.len
 dsimp only
 unfold smB
 repeat ((conv => whnf); refine ⟨by first | (unfold inI64; omega) | omega | exact ⟨by omega, by omega⟩ | exact rfl | decide +kernel, ?_⟩)
 conv => whnf
 refine lI9 (σ := Nat × Nat) (fun ⟨i, n⟩ => [(0, nX9), (1, XV.s (.a (.c (.ptr 0 0)))), (2, nX9), (3, XV.s (.int .i64 (n : Nat))), (4, XV.s (.int .i64 (i : Nat))), (16, nX9)])
  (fun _ => [.row [.p (.l ndC ns)]]) (fun ⟨i, n⟩ => i ≤ ns.length ∧ n ≤ 281474976710656 ∧ smF (ns.drop i) n = smF ns ns.length) (fun ⟨i, _⟩ => ns.length - i) (0, ns.length) ?_ rfl ⟨nZ9 _, by omega, rfl⟩ ?_
 ·repeat first|exact lN9|refine lD9 ?_|refine lS9 ?_
 rintro ⟨i, n⟩ ⟨hi, hn, hgo⟩
 repeat ((conv => whnf); refine ⟨by first | (unfold inI64; omega) | omega | exact ⟨by omega, by omega⟩ | exact rfl | decide +kernel, ?_⟩)
 conv => whnf
 refine cI9 ?_ ?_<;>intro h
 ·have h2 : (decide ((i : Int) < (ns.length : Nat)) && decide ((n : Int) < 900)) = true := h
  obtain ⟨h3, h4⟩ := bA9.1 h2
  have hlt : i < ns.length := lt_of_dec h3
  have h5 : n < 900 := Int.ofNat_lt.1 (show (n : Int) < ((900 : Nat) : Int) from oT9 h4)
  have hin : 0 ≤ (i : Int) ∧ (i : Int) < (ns.length : Nat) := by omega
  have he : ns.getD i ndC.dflt = ns[i] := by simp [hlt]
  have hp := hm.ps _ (List.getElem_mem hlt)
  have hadd : inI64 ((n : Int) + ((ns.getD i ndC.dflt).2.2.length : Nat)) := by rw [he]; unfold inI64; omega
  rw [List.drop_eq_getElem_cons hlt] at hgo
  have e : smF (ns[i] :: ns.drop (i + 1)) n = smF (ns.drop (i + 1)) (n + ns[i].2.2.length) := if_pos h5
  rw [e] at hgo
  repeat ((conv => whnf); refine ⟨by first | exact hin | exact hadd | (unfold inI64; omega) | omega | exact ⟨by omega, by omega⟩ | exact rfl | decide +kernel, ?_⟩)
  conv => whnf
  refine hI9 (i + 1, n + (ns.getD i ndC.dflt).2.2.length) ?_ rfl ⟨hlt, by rw [he]; omega, by rw [he]; exact hgo⟩ (by show ns.length - (i + 1) < ns.length - i; omega)
  repeat first|exact lN9|refine lD9 ?_|refine lS9 ?_
 ·have h2 : (decide ((i : Int) < (ns.length : Nat)) && decide ((n : Int) < 900)) = false := h
  have hfin : smF (ns.drop i) n = n := by
   rcases Nat.lt_or_ge i ns.length with h3 | h3
   ·rw [dT9 (show (i : Int) < (ns.length : Nat) by omega), Bool.true_and] at h2
    have h4 : ¬ (n : Int) < 900 := oF9 h2
    rw [List.drop_eq_getElem_cons h3]
    exact if_neg (by omega)
   ·rw [List.drop_eq_nil_of_le h3]
    rfl
  rw [hfin] at hgo
  rw [← hgo]
  repeat ((conv => whnf); refine ⟨by first | (unfold inI64; omega) | omega | exact ⟨by omega, by omega⟩ | exact rfl | decide +kernel, ?_⟩)
  conv => whnf
  refine eE9 ⟨congrArg (fun b => SV.bool b) (?_ : _ = _), rfl⟩
  exact decide_eq_decide.2 (by omega)
def daLL : List AV → Option (List Int × List Int)
 | [.c (.p (.l c0 zs)), .c (.p (.l c1 ys))] => match castD (e := .int .i64) (e' := c0) zs, castD (e := .int .i64) (e' := c1) ys with | some zs, some ys => some (zs, ys) | _, _ => none
 | _ => none
def eaLL (a : List Int × List Int) : List AV := [.c (.p (.l (.int .i64) a.1)), .c (.p (.l (.int .i64) a.2))]
def intB (a : List Int × List Int) : Bool := decide (a.1 = a.2)
def BT2 : Table := ext BT1 20 (saysG daLL eaLL fun a => (some (a.1.length ≤ 1000000000), .bool (intB a)))
theorem bT2 : TS9 BT2 := by
 refine extG bT1 20 (fn := Tryz.f20) rfl rfl daLL eaLL _ (fun _ => nB9 rfl) [0, 1, 4, 5, 10, 14, 25] fun a hok => ?_
 obtain ⟨zs, ys⟩ := a
 have hl : zs.length ≤ 1000000000 := hok
 dsimp only
 unfold intB
 dsimp only
 repeat ((conv => whnf); refine ⟨by first | (unfold inI64; omega) | omega | exact ⟨by omega, by omega⟩ | exact rfl | decide +kernel, ?_⟩)
 conv => whnf
 refine cI9 ?_ ?_<;>intro h
 ·have h1 : ¬ zs = ys := fun h2 => by
   rw [h2] at h
   simp at h
  rw [dF9 h1]
  repeat ((conv => whnf); refine ⟨by first | (unfold inI64; omega) | omega | exact ⟨by omega, by omega⟩ | exact rfl | decide +kernel, ?_⟩)
  conv => whnf
  exact eR9
 have hlen : zs.length = ys.length := by
  have h1 : (!decide (((zs.length : Nat) : Int) = (ys.length : Nat))) = false := h
  simp at h1
  omega
 repeat ((conv => whnf); refine ⟨by first | (unfold inI64; omega) | omega | exact ⟨by omega, by omega⟩ | exact rfl | decide +kernel, ?_⟩)
 conv => whnf
 refine lI9 (σ := Nat) (fun i => [(0, XV.s (.a (.c (.p (.l (.int .i64) zs))))), (1, XV.s (.a (.c (.p (.l (.int .i64) ys))))), (4, nX9), (5, XV.s (.int .i64 (i : Nat))), (10, nX9), (14, nX9), (25, nX9)])
  (fun _ => []) (fun i => i ≤ zs.length ∧ zs.take i = ys.take i) (fun i => zs.length - i) 0 ?_ rfl ⟨nZ9 _, rfl⟩ ?_
 ·repeat first|exact lN9|refine lD9 ?_|refine lS9 ?_
 rintro i ⟨hi, hpre⟩
 repeat ((conv => whnf); refine ⟨by first | (unfold inI64; omega) | omega | exact ⟨by omega, by omega⟩ | exact rfl | decide +kernel, ?_⟩)
 conv => whnf
 refine cI9 ?_ ?_<;>intro h2
 ·have hlt : i < zs.length := lt_of_dec h2
  have b1 : 0 ≤ (i : Int) ∧ (i : Int) < (zs.length : Nat) := by omega
  have b2 : 0 ≤ (i : Int) ∧ (i : Int) < (ys.length : Nat) := by omega
  repeat ((conv => whnf); refine ⟨by first | exact b1 | exact b2 | ((conv => whnf); exact ⟨⟨rfl, rfl, rfl⟩, trivial⟩) | exact Early.one (by decide +kernel) (by (conv => whnf); exact ⟨rfl, rfl, rfl⟩) trivial | (unfold inI64; omega) | omega | exact ⟨by omega, by omega⟩ | exact rfl | decide +kernel, ?_⟩)
  conv => whnf
  have ez : zs.getD i 0 = zs[i] := by simp [hlt]
  have ey : ys.getD i 0 = ys[i]'(by omega) := by simp [show i < ys.length by omega]
  refine cI9 ?_ ?_<;>intro h3
  ·have h4 : (!decide (zs.getD i 0 = ys.getD i 0)) = true := h3
   have h1 : ¬ zs = ys := fun h5 => by
    rw [h5] at h4
    simp at h4
   rw [dF9 h1]
   repeat ((conv => whnf); refine ⟨by first | (unfold inI64; omega) | omega | exact ⟨by omega, by omega⟩ | exact rfl | decide +kernel, ?_⟩)
   conv => whnf
   exact eR9
  have h4 : (!decide (zs.getD i 0 = ys.getD i 0)) = false := h3
  have h5 : zs.getD i 0 = ys.getD i 0 := by simpa using h4
  have hs : inI64 ((i : Int) + 1) := by unfold inI64; omega
  have hnext : zs.take (i + 1) = ys.take (i + 1) := by
   rw [List.take_succ_eq_append_getElem hlt, List.take_succ_eq_append_getElem (show i < ys.length by omega), hpre, ← ez, ← ey, h5]
  repeat ((conv => whnf); refine ⟨by first | exact hs | (unfold inI64; omega) | omega | exact ⟨by omega, by omega⟩ | exact rfl | decide +kernel, ?_⟩)
  conv => whnf
  refine hI9 (i + 1) ?_ rfl ⟨hlt, hnext⟩ (by show zs.length - (i + 1) < zs.length - i; omega)
  repeat first|exact lN9|refine lD9 ?_|refine lS9 ?_
 ·obtain rfl : i = zs.length := by have := ge_of_dec h2; omega
  have h1 : zs = ys := by
   rw [List.take_length, hlen, List.take_length] at hpre
   exact hpre
  rw [dT9 h1]
  repeat ((conv => whnf); refine ⟨by first | (unfold inI64; omega) | omega | exact ⟨by omega, by omega⟩ | exact rfl | decide +kernel, ?_⟩)
  conv => whnf
  exact eR9
def daNS3 : List AV → Option (Nd × ByteArray)
 | [.agg [.p (.v (.int .i64 p)), .p (.v (.string s)), .p (.l c0 ps)], .c (.p (.v (.string q)))] => match castD (e := ptC) (e' := c0) ps with | some ps => some ((p, s, ps), q) | none => none
 | _ => none
def eaNS3 (a : Nd × ByteArray) : List AV := [.agg [.int .i64 a.1.1, .str a.1.2.1, .p (.l ptC a.1.2.2)], .c (.str a.2)]
def ofV : List Pt → ByteArray → ByteArray × Bool
 | [], _ => (⟨#[]⟩, false)
 | p :: r, s => if p.1 = s then (p.2, true) else ofV r s
def BT3 : Table := ext BT2 73 (saysG daNS3 eaNS3 fun a => (some (a.1.2.2.length ≤ 1000000000), valR (ofV a.1.2.2 a.2)))
theorem bT3 : TS9 BT3 := by
 refine extG bT2 73 (fn := Tryz.f73) rfl rfl daNS3 eaNS3 _ (fun _ => nB9 rfl) [0, 1, 2, 4, 5, 7, 9, 10, 11, 12, 18] fun a hok => ?_
 obtain ⟨⟨p, nm, ps⟩, s⟩ := a
 have hl : ps.length ≤ 1000000000 := hok
 dsimp only
 obtain ⟨R, hR⟩ : ∃ R, ofV ps s = R := ⟨_, rfl⟩
 rw [hR]
 repeat ((conv => whnf); refine ⟨by first | (unfold inI64; omega) | omega | exact ⟨by omega, by omega⟩ | exact rfl | decide +kernel, ?_⟩)
 conv => whnf
 refine lI9 (σ := Nat) (fun i => [(0, nX9), (1, XV.s (.str s)), (2, nX9), (4, nX9), (5, nX9), (7, nX9), (9, XV.s (.a (.c (.p (.l ptC ps))))), (10, XV.s (.int .i64 (ps.length : Nat))), (11, XV.s (.int .i64 (i : Nat))), (12, nX9), (18, nX9)])
  (fun _ => [.row [.int .i64 p, .str nm, .p (.l ptC ps)]]) (fun i => i ≤ ps.length ∧ ofV (ps.drop i) s = R) (fun i => ps.length - i) 0 ?_ rfl ⟨nZ9 _, hR⟩ ?_
 ·repeat first|exact lN9|refine lD9 ?_|refine lS9 ?_
 rintro i ⟨hi, hgo⟩
 repeat ((conv => whnf); refine ⟨by first | (unfold inI64; omega) | omega | exact ⟨by omega, by omega⟩ | exact rfl | decide +kernel, ?_⟩)
 conv => whnf
 refine cI9 ?_ ?_<;>intro h
 ·have hlt : i < ps.length := lt_of_dec h
  have b1 : 0 ≤ (i : Int) ∧ (i : Int) < (ps.length : Nat) := by omega
  have he : ps.getD i ptC.dflt = ps[i] := by simp [hlt]
  rw [List.drop_eq_getElem_cons hlt] at hgo
  repeat ((conv => whnf); refine ⟨by first | exact b1 | (unfold inI64; omega) | omega | exact ⟨by omega, by omega⟩ | exact rfl | decide +kernel, ?_⟩)
  conv => whnf
  refine cI9 ?_ ?_<;>intro h2
  ·have h3 : (ps.getD i ptC.dflt).1 = s := oT9 h2
   rw [he] at h3
   have e : ofV (ps[i] :: ps.drop (i + 1)) s = (ps[i].2, true) := if_pos h3
   rw [e, ← he] at hgo
   subst hgo
   repeat ((conv => whnf); refine ⟨by first | (unfold inI64; omega) | omega | exact ⟨by omega, by omega⟩ | exact rfl | decide +kernel, ?_⟩)
   conv => whnf
   exact eR9
  have h3 : ¬ (ps.getD i ptC.dflt).1 = s := oF9 h2
  rw [he] at h3
  have e : ofV (ps[i] :: ps.drop (i + 1)) s = ofV (ps.drop (i + 1)) s := if_neg h3
  rw [e] at hgo
  have hs : inI64 ((i : Int) + 1) := by unfold inI64; omega
  repeat ((conv => whnf); refine ⟨by first | exact hs | (unfold inI64; omega) | omega | exact ⟨by omega, by omega⟩ | exact rfl | decide +kernel, ?_⟩)
  conv => whnf
  refine kI9 (i + 1) [0] rfl id0 rfl ?_ ⟨hlt, hgo⟩ (by show ps.length - (i + 1) < ps.length - i; omega)
  repeat first|exact kN9|refine kD9 ?_|refine kR9 rfl ?_
 ·rw [List.drop_eq_nil_of_le (by have := ge_of_dec h; omega)] at hgo
  have hgo : (⟨#[]⟩, false) = R := hgo
  subst hgo
  repeat ((conv => whnf); refine ⟨by first | (unfold inI64; omega) | omega | exact ⟨by omega, by omega⟩ | exact rfl | decide +kernel, ?_⟩)
  conv => whnf
  exact eR9
theorem ky_refl (p : kyC.den) : keyEq kyC p p = true := by
 obtain ⟨a, b⟩ := p
 simp [keyEq]
theorem find_set : ∀ (es : twE) (p : kyC.den), findE (k := kyC) (v := .bool) (setE (k := kyC) (v := .bool) p true es) p = some true := by
 intro es
 induction es with
 | nil =>
  intro p
  show (match keyEq kyC p p with | true => some true | false => _) = some true
  rw [ky_refl]
 | cons e es ih =>
  intro p
  obtain ⟨a, y⟩ := e
  unfold setE
  cases h : keyEq kyC p a with
  | true =>
   show (match keyEq kyC p p with | true => some true | false => _) = some true
   rw [ky_refl]
  | false =>
   show (match keyEq kyC p a with | true => some y | false => _) = some true
   rw [h]
   exact ih p
theorem find_keep : ∀ (es : twE) (p q : kyC.den), findE (k := kyC) (v := .bool) es q = some true → findE (k := kyC) (v := .bool) (setE (k := kyC) (v := .bool) p true es) q = some true := by
 intro es
 induction es with
 | nil => intro p q h; cases h
 | cons e es ih =>
  intro p q h
  obtain ⟨a, y⟩ := e
  unfold setE
  have h : (match keyEq kyC q a with | true => some y | false => findE (k := kyC) (v := .bool) es q) = some true := h
  cases hp : keyEq kyC p a with
  | true =>
   show (match keyEq kyC q p with | true => some true | false => findE (k := kyC) (v := .bool) es q) = some true
   have hpa := ky_eq hp
   subst hpa
   cases hq : keyEq kyC q p with
   | true => rfl
   | false => rw [hq] at h; exact h
  | false =>
   show (match keyEq kyC q a with | true => some y | false => findE (k := kyC) (v := .bool) (setE (k := kyC) (v := .bool) p true es) q) = some true
   cases hq : keyEq kyC q a with
   | true => rw [hq] at h; exact h
   | false => rw [hq] at h; exact ih p q h
theorem tw_inv : ∀ (l : List Nd) (es : twE), twGo es l = false → ((l.map fun n : Nd => ((n.1, n.2.1) : kyC.den)).Pairwise (· ≠ ·)) ∧ ∀ n ∈ l, ¬ findE (k := kyC) (v := .bool) es (n.1, n.2.1) = some true := by
 intro l
 induction l with
 | nil => intro es _; exact ⟨List.Pairwise.nil, fun n h => by cases h⟩
 | cons n l ih =>
  intro es h
  unfold twGo at h
  split at h
  ·cases h
  ·rename_i hn
   obtain ⟨h1, h2⟩ := ih _ h
   refine ⟨List.pairwise_cons.2 ⟨fun k hk he => ?_, h1⟩, fun m hm hf => ?_⟩
   ·obtain ⟨m, hm, hmk⟩ := List.mem_map.1 hk
    refine h2 m hm ?_
    have e : ((m.1, m.2.1) : kyC.den) = (n.1, n.2.1) := hmk.trans he.symm
    rw [e]
    exact find_set _ _
   ·rcases List.mem_cons.1 hm with h3 | h3
    ·rw [h3] at hf
     rw [hf] at hn
     exact hn rfl
    ·exact h2 m h3 (find_keep _ _ _ hf)
theorem ord_flw {ns : List Nd} (h : ordV ns = true) {i : Nat} (h0 : 0 < i) (hi : i < ns.length) : flwV ns i = true := by
 have key : ∀ m j, ordGo ns m j = true → ∀ i, j ≤ i → i < j + m → ordAt ns i = true := by
  intro m
  induction m with
  | zero => intro j _ i h1 h2; omega
  | succ m ih =>
   intro j h i h1 h2
   obtain ⟨h3, h4⟩ := bA9.1 (show (ordAt ns j && ordGo ns m (j + 1)) = true from h)
   by_cases hij : i = j
   ·rw [hij]; exact h3
   ·exact ih (j + 1) h4 i (by omega) (by omega)
 have h1 := key _ _ h i (nZ9 _) (by omega)
 unfold ordAt at h1
 cases hx : flwV ns i with
 | true => rfl
 | false =>
  rw [hx, dT9 (show (0 : Int) < (i : Int) by omega)] at h1
  simp at h1
theorem vld_vl {ns : List Nd} (h : VldT ns) : Vl ns := by
 have hf : FrmT ns := ⟨h.lim, h.frm⟩
 refine ⟨hf, ?_, fun i hi => ord_asc h.ord hi, fun i hi => ?_, fun i h0 hi => ord_flw h.ord h0 hi⟩
 ·intro a b a0 ha b0 hb hp hn
  have h1 := (tw_inv ns [] h.tw).1
  rw [List.pairwise_map, List.pairwise_iff_getElem] at h1
  have e1 : (ndAt ns a).1 = (ndAt ns b).1 := by rw [← (par_lt hf.par a0 ha).2, ← (par_lt hf.par b0 hb).2, hp]
  rcases Nat.lt_trichotomy a b with h2 | h2 | h2
  ·refine absurd ?_ (h1 a b ha hb h2)
   rw [← nd_at' ha, ← nd_at' hb, e1, hn]
  ·exact h2
  ·refine absurd ?_ (h1 b a hb ha h2)
   rw [← nd_at' ha, ← nd_at' hb, e1, hn]
 ·have h1 := h.dp
  unfold deepV at h1
  have h2 : ¬ ((skV (deepB ns) ns.length : Nat) : Int) < (ns.length : Nat) := oF9 h1
  have h3 : skV (deepB ns) ns.length = skGo (deepB ns) ns.length 0 := rfl
  have h4 := (skGo_spec (deepB ns) ns.length 0).1 i (nZ9 _) (by omega)
  unfold deepB at h4
  have h5 : ¬ (8 : Int) < (dpV ns i : Nat) := oF9 h4
  omega
theorem rl_iff {ns : List Nd} : ∀ m i, rlGo ns m i = true ↔ ∃ j, i ≤ j ∧ j < i + m ∧ 8 < dpV ns j := by
 intro m
 induction m with
 | zero =>
  intro i
  constructor
  ·intro h
   cases h
  ·rintro ⟨j, h1, h2, _⟩
   omega
 | succ m ih =>
  intro i
  show (decide ((8 : Int) < (dpV ns i : Nat)) || rlGo ns m (i + 1)) = true ↔ _
  rw [Bool.or_eq_true, ih, decide_eq_true_eq]
  constructor
  ·rintro (h | ⟨j, h1, h2, h3⟩)
   ·exact ⟨i, nR9 _, by omega, by omega⟩
   ·exact ⟨j, by omega, by omega, h3⟩
  ·rintro ⟨j, h1, h2, h3⟩
   by_cases hj : j = i
   ·exact .inl (by rw [← hj]; omega)
   ·exact .inr ⟨j, by omega, by omega, h3⟩
theorem deep_rl (ns : List Nd) : deepV ns = rlGo ns ns.length 0 := by
 have h1 := (skGo_spec (deepB ns) ns.length 0)
 have h3 : skV (deepB ns) ns.length = skGo (deepB ns) ns.length 0 := rfl
 have h4 := skV_le (deepB ns) ns.length
 cases h : rlGo ns ns.length 0 with
 | true =>
  obtain ⟨j, _, h5, h6⟩ := (rl_iff ns.length 0).1 h
  unfold deepV
  refine dT9 ?_
  rcases Nat.lt_or_ge (skV (deepB ns) ns.length) ns.length with h7 | h7
  ·omega
  ·exfalso
   have h8 := h1.1 j (nZ9 _) (by omega)
   unfold deepB at h8
   have h9 : ¬ (8 : Int) < (dpV ns j : Nat) := oF9 h8
   omega
 | false =>
  unfold deepV
  refine dF9 fun h5 => ?_
  have h6 := h1.2 (by omega)
  rw [← h3] at h6
  have h7 : (8 : Int) < (dpV ns (skV (deepB ns) ns.length) : Nat) := oT9 h6
  have h8 := (rl_iff (ns := ns) ns.length 0).2 ⟨skV (deepB ns) ns.length, nZ9 _, by omega, by omega⟩
  rw [h] at h8
  cases h8
theorem rtIn_iff {ns : List Nd} {i : Nat} : ∀ m k, rtIn ns i m k = true ↔ ∃ j, k ≤ j ∧ j < k + m ∧ twnB ns i j = true := by
 intro m
 induction m with
 | zero =>
  intro k
  constructor
  ·intro h
   cases h
  ·rintro ⟨j, h1, h2, _⟩
   omega
 | succ m ih =>
  intro k
  show (twnB ns i k || rtIn ns i m (k + 1)) = true ↔ _
  rw [Bool.or_eq_true, ih]
  constructor
  ·rintro (h | ⟨j, h1, h2, h3⟩)
   ·exact ⟨k, nR9 _, by omega, h⟩
   ·exact ⟨j, by omega, by omega, h3⟩
  ·rintro ⟨j, h1, h2, h3⟩
   by_cases hj : j = k
   ·exact .inl (by rw [← hj]; exact h3)
   ·exact .inr ⟨j, by omega, by omega, h3⟩
theorem rtGo_iff {ns : List Nd} : ∀ m i, rtGo ns m i = true ↔ ∃ j, i ≤ j ∧ j < i + m ∧ rtIn ns j (j - 1) 1 = true := by
 intro m
 induction m with
 | zero =>
  intro i
  constructor
  ·intro h
   cases h
  ·rintro ⟨j, h1, h2, _⟩
   omega
 | succ m ih =>
  intro i
  show (rtIn ns i (i - 1) 1 || rtGo ns m (i + 1)) = true ↔ _
  rw [Bool.or_eq_true, ih]
  constructor
  ·rintro (h | ⟨j, h1, h2, h3⟩)
   ·exact ⟨i, nR9 _, by omega, h⟩
   ·exact ⟨j, by omega, by omega, h3⟩
  ·rintro ⟨j, h1, h2, h3⟩
   by_cases hj : j = i
   ·exact .inl (by rw [← hj]; exact h3)
   ·exact .inr ⟨j, by omega, by omega, h3⟩
theorem tw_rt {ns : List Nd} (hf : FrmT ns) : twV ns = rtGo ns ns.length 0 := by
 have key : ∀ i j, i < j → j < ns.length → (ndAt ns i).1 = (ndAt ns j).1 → (ndAt ns i).2.1 = (ndAt ns j).2.1 → 0 < i := by
  intro i j h1 h2 h3 _
  rcases Nat.eq_zero_or_pos i with h | h
  ·exfalso
   rw [h] at h3
   have h4 := frm_nd hf.frm hf.len.1
   unfold ndFrm at h4
   obtain ⟨h5, _⟩ := bA9.1 h4
   obtain ⟨h6, _⟩ := bA9.1 h5
   simp at h6
   have h7 : (ndAt ns 0).1 = -1 := h6.1
   have h8 : ((paN ns j : Nat) : Int) = -1 := (par_lt hf.par (j := j) (by omega) h2).2.trans (h3.symm.trans h7)
   omega
  ·exact h
 cases h : rtGo ns ns.length 0 with
 | true =>
  obtain ⟨j, _, h1, h2⟩ := (rtGo_iff ns.length 0).1 h
  obtain ⟨i, h3, h4, h5⟩ := (rtIn_iff (j - 1) 1).1 h2
  cases ht : twV ns with
  | true => rfl
  | false =>
   exfalso
   have h6 := (tw_inv ns [] ht).1
   rw [List.pairwise_map, List.pairwise_iff_getElem] at h6
   obtain ⟨h7, h8⟩ := bA9.1 (show (decide ((ndAt ns i).1 = (ndAt ns j).1) && decide ((ndAt ns i).2.1 = (ndAt ns j).2.1)) = true from h5)
   have h7 : (ndAt ns i).1 = (ndAt ns j).1 := oT9 h7
   have h8 : (ndAt ns i).2.1 = (ndAt ns j).2.1 := oT9 h8
   refine h6 i j (by omega) (by omega) (by omega) ?_
   rw [← nd_at', ← nd_at', h7, h8]
 | false =>
  refine twGo_no _ _ ?_ fun n _ h => by cases h
  rw [List.pairwise_map, List.pairwise_iff_getElem]
  intro i j hi hj hij he
  obtain ⟨e1, e2⟩ := Prod.mk.inj he
  rw [← nd_at' hi, ← nd_at' hj] at e1 e2
  have h0 := key i j hij hj e1 e2
  have h1 := (rtGo_iff (ns := ns) ns.length 0).2 ⟨j, nZ9 _, by omega, (rtIn_iff (j - 1) 1).2 ⟨i, h0, by omega, by
   show (decide ((ndAt ns i).1 = (ndAt ns j).1) && decide ((ndAt ns i).2.1 = (ndAt ns j).2.1)) = true
   rw [e1, e2]
   simp⟩⟩
  rw [h] at h1
  cases h1
def NxE (ns : List Nd) (a b : Nat) : Prop := paN ns b = a ∨ ∃ t, 0 < upN ns t a ∧ paN ns (upN ns t a) = paN ns b ∧ bLe (ndAt ns (upN ns t a)).2.1 (ndAt ns b).2.1 = true
def ChE (ns : List Nd) : List Int → Prop
 | [] => True
 | [_] => True
 | a :: b :: r => NxE ns a.toNat b.toNat ∧ ChE ns (b :: r)
theorem che_app {ns : List Nd} : ∀ (l m : List Int), ChE ns l → ChE ns m → (∀ a b, a ∈ l → m.head? = some b → NxE ns a.toNat b.toNat) → ChE ns (l ++ m) := by
 intro l
 induction l with
 | nil => intro m _ h _; exact h
 | cons a l ih =>
  intro m hl hm hx
  cases l with
  | nil =>
   cases m with
   | nil => trivial
   | cons b m => exact ⟨hx a b (List.mem_cons_self ..) rfl, hm⟩
  | cons c l => exact ⟨hl.1, ih m hl.2 hm fun x b h1 h2 => hx x b (List.mem_cons_of_mem _ h1) h2⟩
theorem che_at {ns : List Nd} : ∀ (l : List Int), ChE ns l → ∀ i (h : i + 1 < l.length), NxE ns (l[i]'(by omega)).toNat (l[i + 1]).toNat := by
 intro l
 induction l with
 | nil => intro _ i h; cases h
 | cons a l ih =>
  intro hc i h
  cases l with
  | nil => simp at h
  | cons b l =>
   cases i with
   | zero => exact hc.1
   | succ i => exact ih hc.2 i (by simpa using h)
theorem wk_che {ns : List Nd} (hf : FrmT ns) : ∀ k (i : Nat), i < ns.length → ns.length - i ≤ k → ChE ns (wk k ns (i : Int)) := by
 intro k
 induction k with
 | zero => intro i hi hk; omega
 | succ k ih =>
  intro i hi hk
  have hch : ∀ c ∈ chS ns (i : Int), ∃ j : Nat, c = (j : Int) ∧ 0 < j ∧ j < ns.length ∧ paN ns j = i := by
   intro c hc
   obtain ⟨j, e1, e2, e3, e4⟩ := chS_mem hc
   have h5 := (par_lt hf.par e2 e3).2
   rw [e4] at h5
   exact ⟨j, e1, e2, e3, by omega⟩
  have main : ∀ cs : List Int, (∀ c ∈ cs, ∃ j : Nat, c = (j : Int) ∧ 0 < j ∧ j < ns.length ∧ paN ns j = i) → cs.Pairwise (fun a b => bLe (nmI ns a) (nmI ns b) = true) → ChE ns (cs.flatMap fun c => wk k ns c) ∧ ∀ b, (cs.flatMap fun c => wk k ns c).head? = some b → b ∈ cs := by
   intro cs
   induction cs with
   | nil => intro _ _; exact ⟨trivial, fun b hb => by cases hb⟩
   | cons c cs ihc =>
    intro hc hs
    obtain ⟨h1, h2⟩ := List.pairwise_cons.1 hs
    obtain ⟨h3, h4⟩ := ihc (fun x hx => hc x (List.mem_cons_of_mem _ hx)) h2
    obtain ⟨j, rfl, j1, j2, j3⟩ := hc c (List.mem_cons_self ..)
    have hji := (par_lt hf.par j1 j2).1
    obtain ⟨k, rfl⟩ : ∃ q, k = q + 1 := ⟨k - 1, by omega⟩
    rw [List.flatMap_cons]
    refine ⟨che_app _ _ (ih j j2 (by omega)) h3 fun a b ha hb => ?_, fun b hb => ?_⟩
    ·obtain ⟨x, t, rfl, x1, x2⟩ := wk_mem hf (k + 1) j j2 a ha
     have hbm := h4 b hb
     obtain ⟨y, rfl, y1, y2, y3⟩ := hc b (List.mem_cons_of_mem _ hbm)
     refine .inr ⟨t, ?_, ?_, ?_⟩
     ·show 0 < upN ns t x
      omega
     ·show paN ns (upN ns t x) = paN ns y
      rw [x2, j3, y3]
     ·show bLe (ndAt ns (upN ns t x)).2.1 (ndAt ns y).2.1 = true
      rw [x2]
      exact h1 _ hbm
    ·have e : (wk (k + 1) ns (j : Int) ++ cs.flatMap fun c => wk (k + 1) ns c).head? = some (j : Int) := rfl
     rw [e] at hb
     cases hb
     exact List.mem_cons_self ..
  obtain ⟨h1, h2⟩ := main _ hch (chS_srt ns (i : Int))
  show ChE ns ([(i : Int)] ++ (chS ns (i : Int)).flatMap fun c => wk k ns c)
  refine che_app _ _ trivial h1 fun a b ha hb => ?_
  obtain rfl : a = (i : Int) := by simpa using ha
  obtain ⟨j, rfl, j1, j2, j3⟩ := hch b (h2 b hb)
  exact .inl j3
theorem idOk_at : ∀ (l : List Int) (k : Nat), idOk k l = true → ∀ i (h : i < l.length), l[i] = ((k + i : Nat) : Int) := by
 intro l
 induction l with
 | nil => intro k _ i h; cases h
 | cons a l ih =>
  intro k hk i h
  obtain ⟨h1, h2⟩ := bA9.1 (show (decide ((k : Int) = a) && idOk (k + 1) l) = true from hk)
  have h1 : (k : Int) = a := oT9 h1
  cases i with
  | zero => exact h1.symm
  | succ i =>
   have := ih (k + 1) h2 i (by simpa using h)
   rw [List.getElem_cons_succ, this]
   omega
theorem id_nx {ns : List Nd} (hf : FrmT ns) (h : idOk 0 (wkT ns) = true) {i : Nat} (hi : i + 1 < ns.length) : NxE ns i (i + 1) := by
 have h1 := idOk_at _ _ h
 obtain ⟨q, hq, he⟩ := List.getElem_of_mem (wkT_all hf hi)
 have h2 := h1 q hq
 have hqi : q = i + 1 := by omega
 subst hqi
 have h3 := che_at _ (wk_che hf 120 0 hf.len.1 (by have := hf.len; omega)) i hq
 have e1 := h1 i (by omega)
 have e2 := h1 (i + 1) hq
 have h3 : NxE ns ((wkT ns)[i]'(by omega)).toNat ((wkT ns)[i + 1]).toNat := h3
 rw [e1, e2, Int.toNat_natCast, Int.toNat_natCast, Nat.zero_add, Nat.zero_add] at h3
 exact h3
theorem nx_flw {ns : List Nd} (hf : FrmT ns) {i : Nat} (hi : i + 1 < ns.length) (h : NxE ns i (i + 1)) : flwV ns (i + 1) = true := by
 have hpe := (par_lt hf.par (Nat.succ_pos i) hi).2
 unfold flwV
 rcases h with h5 | ⟨t, t1, t2, t3⟩
 ·have h6 : (ndAt ns (i + 1)).1 = ((i + 1 : Nat) : Int) - 1 := hpe.symm.trans (by rw [h5]; exact (by omega : ((i : Nat) : Int) = ((i + 1 : Nat) : Int) - 1))
  rw [if_pos h6]
 ·split
  ·rfl
  ·obtain ⟨c, hc⟩ : ∃ c, upN ns t i = c := ⟨_, rfl⟩
   have hci : c ≤ i := by rw [← hc]; exact up_le hf t i
   rw [hc] at t1 t2 t3
   have hce := (par_lt hf.par t1 (by omega)).2
   refine flw_up hf _ t (i + 1) i (by omega) (by omega) (by rw [hc]; exact t1) (by rw [hc, ← hce, ← hpe, t2]) fun s s1 s2 s3 => ?_
   have hsl : upN ns s i < ns.length := by
    have := up_le hf s i
    omega
   have hse := (par_lt hf.par s2 hsl).2
   have es : upN ns s i = c := up_same hf (i := paN ns c) s2 hsl t1 (by omega) (by
    rw [s3, ← hpe, t2.symm] at hse
    omega) rfl rfl hc
   rw [es]
   exact t3
theorem id_flw {ns : List Nd} (hf : FrmT ns) (h : idOk 0 (wkT ns) = true) {i : Nat} (h0 : 0 < i) (hi : i < ns.length) : flwV ns i = true := by
 obtain ⟨i, rfl⟩ : ∃ q, i = q + 1 := ⟨i - 1, by omega⟩
 exact nx_flw hf hi (id_nx hf h hi)
structure Fl (ns : List Nd) : Prop where
 f : FrmT ns
 flw : ∀ i, 0 < i → i < ns.length → flwV ns i = true
theorem fl_flw {ns : List Nd} (hv : Fl ns) {m : Nat} (hm : m + 1 < ns.length) : paN ns (m + 1) = m ∨ ∃ t, 0 < upN ns t m ∧ paN ns (upN ns t m) = paN ns (m + 1) ∧ bLe (ndAt ns (upN ns t m)).2.1 (ndAt ns (m + 1)).2.1 = true := by
 have h := hv.flw (m + 1) (by omega) hm
 unfold flwV at h
 split at h
 ·rename_i h1
  left
  unfold paN paI
  rw [h1]
  omega
 ·obtain ⟨t, h1, h2, h3⟩ := flwGo_ex _ _ h
  refine .inr ⟨t, h1, ?_, h3⟩
  have h2' : (ndAt ns (upN ns t m)).1 = (ndAt ns (m + 1)).1 := h2
  unfold paN paI
  rw [h2']
theorem fl_below {ns : List Nd} (hv : Fl ns) {a : Nat} : ∀ m, m < ns.length → (∃ t, upN ns t m = a) → ∀ j, a ≤ j → j ≤ m → ∃ t, upN ns t j = a := by
 intro m
 induction m with
 | zero =>
  intro _ h j _ h2
  obtain rfl : j = 0 := by omega
  exact h
 | succ m ih =>
  intro hm h j h1 h2
  by_cases hj : j = m + 1
  ·rw [hj]; exact h
  ·obtain ⟨t, ht⟩ := h
   cases t with
   | zero =>
    have : m + 1 = a := ht
    omega
   | succ t =>
    have ht : upN ns t (paN ns (m + 1)) = a := ht
    refine ih (by omega) ?_ j h1 (by omega)
    rcases fl_flw hv hm with h3 | ⟨u, h3, h4, _⟩
    ·rw [h3] at ht
     exact ⟨t, ht⟩
    ·rw [← h4, ← up_succ, ← upN_add] at ht
     exact ⟨_, ht⟩
theorem fl_next {ns : List Nd} (hv : Fl ns) {i c d : Nat} (hd : d < ns.length) (c0 : 0 < c) (hcd : c < d) (hpc : paN ns c = i) (hpd : paN ns d = i) (hno : ∀ e, c < e → e < d → ¬ paN ns e = i) : bLe (ndAt ns c).2.1 (ndAt ns d).2.1 = true := by
 obtain ⟨d, rfl⟩ : ∃ q, d = q + 1 := ⟨d - 1, by omega⟩
 have hci := (par_lt hv.f.par c0 (by omega)).1
 rcases fl_flw hv hd with h | ⟨t, h1, h2, h3⟩
 ·omega
 ·have hle := up_le hv.f t d
  obtain ⟨e, he⟩ : ∃ e, upN ns t d = e := ⟨_, rfl⟩
  rw [he] at h1 h2 h3 hle
  have hec : e ≤ c := by
   rcases Nat.lt_or_ge c e with h | h
   ·exact absurd (by omega) (hno e h (by omega))
   ·exact h
  obtain ⟨u, hu⟩ := fl_below hv d (by omega) ⟨t, he⟩ c hec (by omega)
  have hec2 : c = e := up_same hv.f (i := i) (j := c) (t := 0) (u := u) c0 (by omega) h1 (by omega) hpc (by omega) rfl hu
  subst hec2
  exact h3
theorem sib_le {ns : List Nd} (hv : Fl ns) {i : Nat} : ∀ n c d, d - c ≤ n → 0 < c → c < d → d < ns.length → paN ns c = i → paN ns d = i → bLe (ndAt ns c).2.1 (ndAt ns d).2.1 = true := by
 intro n
 induction n with
 | zero => intro c d h1 h2 h3; omega
 | succ n ih =>
  intro c d h1 c0 h3 hd hc hp
  by_cases hno : ∀ e, c < e → e < d → ¬ paN ns e = i
  ·exact fl_next hv hd c0 h3 hc hp hno
  ·have hno : ∃ e, c < e ∧ e < d ∧ paN ns e = i := by
    refine Classical.byContradiction fun h => hno fun e a b k => h ⟨e, a, b, k⟩
   obtain ⟨e, e1, e2, e3⟩ := hno
   exact bLe_trans (ih c e (by omega) c0 e1 (by omega) hc e3) (ih e d (by omega) (by omega) e2 hd e3 hp)
def LtR (ns : List Nd) (a b : Nat) : Prop := bLt (ndAt ns a).2.1 (ndAt ns b).2.1 = true ∨ ((ndAt ns a).2.1 = (ndAt ns b).2.1 ∧ a < b)
def NxT (ns : List Nd) (a b : Nat) : Prop := paN ns b = a ∨ ∃ t, 0 < upN ns t a ∧ paN ns (upN ns t a) = paN ns b ∧ LtR ns (upN ns t a) b
theorem nxt_lt {ns : List Nd} (hv : Fl ns) {a b : Nat} (ha : a < ns.length) (hb0 : 0 < b) (hb : b < ns.length) (h : NxT ns a b) : a < b := by
 rcases h with h | ⟨t, h1, h2, h3⟩
 ·have := (par_lt hv.f.par hb0 hb).1
  omega
 ·obtain ⟨c, hc⟩ : ∃ c, upN ns t a = c := ⟨_, rfl⟩
  rw [hc] at h1 h2 h3
  have hca : c ≤ a := by rw [← hc]; exact up_le hv.f t a
  have hcb : c < b := by
   rcases h3 with h3 | h3
   ·rcases Nat.lt_trichotomy c b with h | h | h
    ·exact h
    ·subst h
     rw [bLt_irrefl] at h3
     cases h3
    ·have h4 := sib_le hv (c - b) b c (nR9 _) hb0 h (by omega) h2.symm rfl
     rcases bLe_iff.1 h4 with h5 | h5
     ·have h6 := bLt_trans h3 h5
      rw [bLt_irrefl] at h6
      cases h6
     ·rw [h5, bLt_irrefl] at h3
      cases h3
   ·exact h3.2
  rcases Nat.lt_or_ge a b with h | h
  ·exact h
  ·exfalso
   obtain ⟨u, hu⟩ := fl_below hv a ha ⟨t, hc⟩ b (by omega) h
   cases u with
   | zero =>
    have : b = c := hu
    omega
   | succ u =>
    have hu : upN ns u (paN ns b) = c := hu
    have h4 := up_le hv.f u (paN ns b)
    have h5 := (par_lt hv.f.par h1 (by omega)).1
    omega
def SrtR (ns : List Nd) (cs : List Int) : Prop := cs.Pairwise fun a b => bLt (nmI ns a) (nmI ns b) = true ∨ (nmI ns a = nmI ns b ∧ a < b)
theorem srtR_C {ns : List Nd} {cs : List Int} (h : SrtR ns cs) : SrtC ns cs := List.Pairwise.imp (fun h => bLe_iff.2 (h.imp id fun k => k.1)) h
theorem pos_drop_lt {ns : List Nd} {nm : ByteArray} : ∀ (cs : List Int), SrtC ns cs → ∀ c ∈ cs.drop (posC ns nm cs), bLt nm (nmI ns c) = true := by
 intro cs
 induction cs with
 | nil => intro _ c hc; cases hc
 | cons a r ih =>
  intro hs c hc
  obtain ⟨h1, h2⟩ := List.pairwise_cons.1 hs
  unfold posC at hc
  split at hc
  ·exact ih h2 c (by simpa using hc)
  ·rename_i h
   have ha : bLt nm (nmI ns a) = true := bLe_total (Bool.eq_false_iff.2 h)
   rcases List.mem_cons.1 hc with rfl | hc
   ·exact ha
   ·rcases bLe_iff.1 (h1 c hc) with h3 | h3
    ·exact bLt_trans ha h3
    ·rw [← h3]; exact ha
theorem insC_srtR {ns : List Nd} {i : Nat} {cs : List Int} (h : SrtR ns cs) (hi : ∀ c ∈ cs, c < (i : Int)) : SrtR ns (insC ns i cs) := by
 unfold insC SrtR
 have hn : nmI ns (i : Int) = (ndAt ns i).2.1 := rfl
 have h0 : (cs.take (posC ns (ndAt ns i).2.1 cs) ++ cs.drop (posC ns (ndAt ns i).2.1 cs)).Pairwise fun a b => bLt (nmI ns a) (nmI ns b) = true ∨ (nmI ns a = nmI ns b ∧ a < b) := by rw [List.take_append_drop]; exact h
 rw [List.pairwise_append] at h0 ⊢
 refine ⟨h0.1, List.pairwise_cons.2 ⟨fun c hc => ?_, h0.2.1⟩, fun a ha b hb => ?_⟩
 ·rw [hn]
  exact .inl (pos_drop_lt cs (srtR_C h) c hc)
 ·rcases List.mem_cons.1 hb with rfl | hb
  ·rw [hn]
   rcases bLe_iff.1 (pos_take cs a ha) with h1 | h1
   ·exact .inl h1
   ·exact .inr ⟨h1, hi a (List.mem_of_mem_take ha)⟩
  ·exact h0.2.2 a ha b hb
theorem insC_in9 {ns : List Nd} {i : Nat} {cs : List Int} {c : Int} (h : c ∈ insC ns i cs) : c = (i : Int) ∨ c ∈ cs := by
 unfold insC at h
 rcases List.mem_append.1 h with h | h
 ·exact .inr (List.mem_of_mem_take h)
 ·rcases List.mem_cons.1 h with h | h
  ·exact .inl h
  ·exact .inr (List.mem_of_mem_drop h)
theorem chGo_srtR (ns : List Nd) (node : Int) : ∀ (m i : Nat) (cs : List Int), SrtR ns cs → (∀ c ∈ cs, c < (i : Int)) → SrtR ns (chGo ns node m i cs) := by
 intro m
 induction m with
 | zero => intro i cs h _; exact h
 | succ m ih =>
  intro i cs h hi
  unfold chGo
  refine ih _ _ ?_ ?_
  ·split
   ·exact insC_srtR h hi
   ·exact h
  ·intro c hc
   split at hc
   ·rcases insC_in9 hc with h1 | h1
    ·omega
    ·have := hi c h1
     omega
   ·have := hi c hc
    omega
theorem chS_srtR (ns : List Nd) (node : Int) : SrtR ns (chS ns node) := chGo_srtR ns node _ _ _ List.Pairwise.nil fun c hc => by cases hc
def ChT (ns : List Nd) : List Int → Prop
 | [] => True
 | [_] => True
 | a :: b :: r => NxT ns a.toNat b.toNat ∧ ChT ns (b :: r)
theorem cht_app {ns : List Nd} : ∀ (l m : List Int), ChT ns l → ChT ns m → (∀ a b, a ∈ l → m.head? = some b → NxT ns a.toNat b.toNat) → ChT ns (l ++ m) := by
 intro l
 induction l with
 | nil => intro m _ h _; exact h
 | cons a l ih =>
  intro m hl hm hx
  cases l with
  | nil =>
   cases m with
   | nil => trivial
   | cons b m => exact ⟨hx a b (List.mem_cons_self ..) rfl, hm⟩
  | cons c l => exact ⟨hl.1, ih m hl.2 hm fun x b h1 h2 => hx x b (List.mem_cons_of_mem _ h1) h2⟩
theorem wk_cht {ns : List Nd} (hf : FrmT ns) : ∀ k (i : Nat), i < ns.length → ns.length - i ≤ k → ChT ns (wk k ns (i : Int)) := by
 intro k
 induction k with
 | zero => intro i hi hk; omega
 | succ k ih =>
  intro i hi hk
  have hch : ∀ c ∈ chS ns (i : Int), ∃ j : Nat, c = (j : Int) ∧ 0 < j ∧ j < ns.length ∧ paN ns j = i := by
   intro c hc
   obtain ⟨j, e1, e2, e3, e4⟩ := chS_mem hc
   have h5 := (par_lt hf.par e2 e3).2
   rw [e4] at h5
   exact ⟨j, e1, e2, e3, by omega⟩
  have main : ∀ cs : List Int, (∀ c ∈ cs, ∃ j : Nat, c = (j : Int) ∧ 0 < j ∧ j < ns.length ∧ paN ns j = i) → SrtR ns cs → ChT ns (cs.flatMap fun c => wk k ns c) ∧ ∀ b, (cs.flatMap fun c => wk k ns c).head? = some b → b ∈ cs := by
   intro cs
   induction cs with
   | nil => intro _ _; exact ⟨trivial, fun b hb => by cases hb⟩
   | cons c cs ihc =>
    intro hc hs
    obtain ⟨h1, h2⟩ := List.pairwise_cons.1 hs
    obtain ⟨h3, h4⟩ := ihc (fun x hx => hc x (List.mem_cons_of_mem _ hx)) h2
    obtain ⟨j, rfl, j1, j2, j3⟩ := hc c (List.mem_cons_self ..)
    have hji := (par_lt hf.par j1 j2).1
    obtain ⟨k, rfl⟩ : ∃ q, k = q + 1 := ⟨k - 1, by omega⟩
    rw [List.flatMap_cons]
    refine ⟨cht_app _ _ (ih j j2 (by omega)) h3 fun a b ha hb => ?_, fun b hb => ?_⟩
    ·obtain ⟨x, t, rfl, x1, x2⟩ := wk_mem hf (k + 1) j j2 a ha
     have hbm := h4 b hb
     obtain ⟨y, rfl, y1, y2, y3⟩ := hc b (List.mem_cons_of_mem _ hbm)
     refine .inr ⟨t, ?_, ?_, ?_⟩
     ·show 0 < upN ns t x
      omega
     ·show paN ns (upN ns t x) = paN ns y
      rw [x2, j3, y3]
     ·show LtR ns (upN ns t x) y
      rw [x2]
      rcases h1 _ hbm with h5 | h5
      ·exact .inl h5
      ·exact .inr ⟨h5.1, by omega⟩
    ·have e : (wk (k + 1) ns (j : Int) ++ cs.flatMap fun c => wk (k + 1) ns c).head? = some (j : Int) := rfl
     rw [e] at hb
     cases hb
     exact List.mem_cons_self ..
  obtain ⟨h1, h2⟩ := main _ hch (chS_srtR ns (i : Int))
  show ChT ns ([(i : Int)] ++ (chS ns (i : Int)).flatMap fun c => wk k ns c)
  refine cht_app _ _ trivial h1 fun a b ha hb => ?_
  obtain rfl : a = (i : Int) := by simpa using ha
  obtain ⟨j, rfl, j1, j2, j3⟩ := hch b (h2 b hb)
  exact .inl j3
theorem cht_asc {ns : List Nd} (hv : Fl ns) : ∀ (l : List Int), ChT ns l → (∀ c ∈ l, 0 ≤ c ∧ c < (ns.length : Nat)) → (∀ c ∈ l.drop 1, 0 < c) → l.Pairwise fun a b => a < b := by
 intro l
 induction l with
 | nil => intro _ _ _; exact List.Pairwise.nil
 | cons a l ih =>
  intro h1 h2 h3
  cases l with
  | nil => exact List.Pairwise.cons (fun b hb => by cases hb) List.Pairwise.nil
  | cons b l =>
   obtain ⟨h4, h5⟩ := h1
   have h3 : ∀ c ∈ b :: l, 0 < c := h3
   have ih := ih h5 (fun c hc => h2 c (List.mem_cons_of_mem _ hc)) fun c hc => h3 c (List.mem_cons_of_mem _ hc)
   have ha := h2 a (List.mem_cons_self ..)
   have hb := h2 b (List.mem_cons_of_mem _ (List.mem_cons_self ..))
   have hb0 := h3 b (List.mem_cons_self ..)
   have hab : a < b := by
    have := nxt_lt hv (a := a.toNat) (b := b.toNat) (by omega) (by omega) (by omega) h4
    omega
   refine List.pairwise_cons.2 ⟨fun c hc => ?_, ih⟩
   rcases List.mem_cons.1 hc with rfl | hc
   ·exact hab
   ·have := (List.pairwise_cons.1 ih).1 c hc
    omega
theorem fl_ord {ns : List Nd} (hv : Fl ns) : idOk 0 (wk 120 ns 0) = true := by
 have hin : ∀ c ∈ wkT ns, 0 ≤ c ∧ c < (ns.length : Nat) := fun c hc => by
  obtain ⟨i, hi, rfl⟩ := List.getElem_of_mem hc
  exact wkT_in hv.f hi
 have hch : ChT ns (wkT ns) := wk_cht hv.f 120 0 hv.f.len.1 (by have := hv.f.len; omega)
 refine asc_id _ 0 ns.length (cht_asc hv _ hch hin fun c hc => ?_) (fun c hc => by have := hin c hc; omega) fun j _ hj => wkT_all hv.f hj
 obtain ⟨i, hi, rfl⟩ := List.getElem_of_mem hc
 rw [List.getElem_drop]
 rw [List.length_drop] at hi
 have hi : i < (wkT ns).length - 1 := hi
 exact wkT_gt hv.f (by omega) (by omega)
theorem ord_same {ns : List Nd} (hf : FrmT ns) : ordV ns = rOrd ns := by
 cases h : ordV ns with
 | true =>
  symm
  have h1 := fl_ord ⟨hf, fun i h0 hi => ord_flw h h0 hi⟩
  unfold rOrd
  rw [h1, Bool.true_and, List.all_eq_true]
  intro n hn
  obtain ⟨i, hi, rfl⟩ := List.getElem_of_mem hn
  rw [← nd_at' hi]
  exact ord_asc h hi
 | false =>
  symm
  cases h2 : rOrd ns with
  | false => rfl
  | true =>
   exfalso
   unfold rOrd at h2
   obtain ⟨h3, h4⟩ := bA9.1 h2
   have h5 : ordV ns = true := by
    unfold ordV
    refine ordGo_all _ _ fun j _ hj => ?_
    have hj : j < ns.length := by omega
    unfold ordAt
    have h6 : ascV (ndAt ns j).2.2 = true := by rw [nd_at' hj]; exact List.all_eq_true.1 h4 _ (List.getElem_mem hj)
    rw [h6]
    rcases Nat.eq_zero_or_pos j with h0 | h0
    ·subst h0
     rfl
    ·rw [id_flw hf h3 h0 hj]
     simp
   rw [h5] at h
   cases h
theorem chk_same (ns : List Nd) : chkP ns = rchk ns := by
 unfold chkP rchk
 by_cases h1 : limV ns = false
 ·rw [if_pos h1, if_pos h1]
 ·rw [if_neg h1, if_neg h1]
  by_cases h2 : frmV ns = false
  ·rw [if_pos h2, if_pos h2]
  ·rw [if_neg h2, if_neg h2]
   have hf : FrmT ns := ⟨by simpa using h1, by simpa using h2⟩
   rw [ord_same hf, tw_rt hf, deep_rl]
end Go.Ab
