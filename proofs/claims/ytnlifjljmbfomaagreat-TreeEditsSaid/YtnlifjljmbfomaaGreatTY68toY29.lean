/- Package tree: add, edit, Add. -/
import Derived.Test.YtnlifjljmbfomaaGreatTY65toY67
import Derived.Test.YtnlifjljmbfomaaGreatTOtoR1
import Derived.Test.YtnlifjljmbfomaaGreatTX0toY61
namespace Go.Ab
open Go.Proofs
set_option linter.unusedSectionVars false
set_option maxRecDepth 100000
variable [Base]
def atV (ns : List Nd) (k : Int) (s : ByteArray) : Nat := skV (addB (skV (behB ns k) ns.length : Nat) ns k s) ns.length
def adV (ns : List Nd) (k : Int) (s : ByteArray) : List Nd := wiV (ns.map (mvGo (atV ns k s : Nat) 1), (atV ns k s : Nat), k, s)
def adR (a : List Nd × Int × ByteArray) : List Nd := if adbV a = 0 then adV a.1 a.2.1 a.2.2 else []
abbrev adS (a : List Nd × Int × ByteArray) : SV := .tup [.c (.p (.l ndC (adR a))), .c (.int .i64 (adbV a))]
structure AdOk (ns : List Nd) (k : Int) : Prop where
 pos : 0 < ns.length
 len : ns.length ≤ 1000000000
 par : ParOk ns
 pm : ParM ns
 k0 : 0 ≤ k
 k1 : k < (ns.length : Nat)
def saysAddX (c : List Nd × Int × ByteArray → Prop) (h : List Nd → List AO) : Says := fun args H => match args, H with
 | [.c (.sl _ _ _ _), .c (.p (.v (.int .i64 k))), .c (.p (.v (.string s)))], [.arr _ c0 ns _] => match castD (e := ndC) (e' := c0) ns with
  | some ns => some (some (args = [.c (.sl 0 ndC 0 ns.length), .c (.int .i64 k), .c (.str s)] ∧ H = hpN ns ∧ AdOk ns k ∧ c (ns, k, s)), adS (ns, k, s), h ns)
  | none => none
 | _, _ => none
theorem add_er : TS9 (ext A37 84 (saysAddX (fun a => ¬ adbV a = 0) hpN)) := by
 refine ext_run a37 (f := 84) (fn := Tryz.f84) rfl rfl [0, 1, 2, 3, 4, 5, 6, 7, 8, 9, 10, 16] fun args H p r' H' hs hp => ?_
 unfold saysAddX at hs
 split at hs
 ·split at hs
  ·rename_i k s _ _ _ _ _ ns _
   cases hs
   obtain ⟨ha, hH, hok, he⟩ := hp
   rw [ha, hH]
   obtain ⟨h0, h1, h2, h3, h4, h5⟩ := hok
   refine ⟨nB9 rfl, [0], rfl, id0, ?_⟩
   repeat ((conv => whnf); refine ⟨by first | exact ⟨rfl, rfl, h0, h1, h2, h4, h5⟩ | (unfold inI64; omega) | omega | exact ⟨by omega, by omega⟩ | exact rfl | decide +kernel, ?_⟩)
   conv => whnf
   refine cI9 ?_ ?_<;>intro h
   ·repeat ((conv => whnf); refine ⟨by first | (unfold inI64; omega) | omega | exact ⟨by omega, by omega⟩ | exact rfl | decide +kernel, ?_⟩)
    conv => whnf
    refine eO9 (fun G v hv => ?_) rfl
    obtain ⟨vs, rfl, hvs⟩ := hv
    cases hvs with
    | cons a b =>
     refine ⟨_, rfl, .cons ?_ b⟩
     obtain ⟨_, rfl⟩ := a
     show RepV G.I G.w (.l ndC (adR (ns, k, s))) _
     unfold adR
     rw [if_neg he]
     exact .inl ⟨rfl, rfl⟩
   ·have h7 : (!decide (adbV (ns, k, s) = 0)) = false := h
    exact absurd (show adbV (ns, k, s) = 0 by simpa using h7) he
  ·cases hs
 ·cases hs
theorem add_ok : TS9 (ext A37 84 (saysAddX (fun a => adbV a = 0) fun _ => [.dead])) := by
 refine ext_run a37 (f := 84) (fn := Tryz.f84) rfl rfl [0, 1, 2, 3, 4, 5, 6, 7, 8, 9, 10, 16] fun args H p r' H' hs hp => ?_
 unfold saysAddX at hs
 split at hs
 ·split at hs
  ·rename_i k s _ _ _ _ _ ns _
   cases hs
   obtain ⟨ha, hH, hok, he⟩ := hp
   rw [ha, hH]
   obtain ⟨h0, h1, h2, h3, h4, h5⟩ := hok
   refine ⟨nB9 rfl, [0], rfl, id0, ?_⟩
   repeat ((conv => whnf); refine ⟨by first | exact ⟨rfl, rfl, h0, h1, h2, h4, h5⟩ | (unfold inI64; omega) | omega | exact ⟨by omega, by omega⟩ | exact rfl | decide +kernel, ?_⟩)
   conv => whnf
   refine cI9 ?_ ?_<;>intro h
   ·have h6 : ¬ adbV (ns, k, s) = 0 := by
     have h7 : (!decide (adbV (ns, k, s) = 0)) = true := h
     simpa using h7
    exact absurd he h6
   have hle : atV ns k s ≤ ns.length := skV_le _ _
   have hw : (([.c (.sl 0 ndC 0 ns.length), .c (.int .i64 (atV ns k s : Nat)), ndA (k, s)] : List AV) = [.c (.sl 0 ndC 0 (ns.map (mvGo (atV ns k s : Nat) 1)).length), .c (.int .i64 (atV ns k s : Nat)), ndA (k, s)]) ∧ hpN (ns.map (mvGo (atV ns k s : Nat) 1)) = hpN (ns.map (mvGo (atV ns k s : Nat) 1)) ∧ 0 < (ns.map (mvGo (atV ns k s : Nat) 1)).length ∧ (ns.map (mvGo (atV ns k s : Nat) 1)).length ≤ 1000000000 ∧ (0 : Int) ≤ (atV ns k s : Nat) ∧ ((atV ns k s : Nat) : Int) ≤ ((ns.map (mvGo (atV ns k s : Nat) 1)).length : Nat) := by
    rw [List.length_map]
    exact ⟨rfl, rfl, h0, h1, by omega, by omega⟩
   have hm : ((-1000 : Int) ≤ 1 ∧ (1 : Int) ≤ 1000) := ⟨by decide, by decide⟩
   repeat ((conv => whnf); refine ⟨by first | exact ⟨rfl, rfl, h0, h1⟩ | exact ⟨rfl, rfl, h1⟩ | exact ⟨rfl, rfl, h1, hm, h3⟩ | exact hw | (unfold inI64; omega) | omega | exact ⟨by omega, by omega⟩ | exact rfl | decide +kernel, ?_⟩)
   conv => whnf
   have e1 : adR (ns, k, s) = adV ns k s := by
    unfold adR
    rw [if_pos he]
   show Ends (.tup [.c (.p (.l ndC (adV ns k s))), .c (.int .i64 0)]) [.dead] (.tup [.c (.p (.l ndC (adR (ns, k, s)))), .c (.int .i64 (adbV (ns, k, s)))]) [.dead]
   rw [e1, he]
   exact eR9
  ·cases hs
 ·cases hs
theorem add_e2 : TS9 (ext A37 84 (saysAddX (fun a => ¬ adbV a = 0) fun _ => [.dead])) := by
 refine ext_kill add_er a37 fun args H p r H' hs hp => ?_
 unfold saysAddX at hs
 split at hs
 ·split at hs
  ·rename_i k s _ _ _ _ _ ns hc
   cases hs
   refine ⟨rfl, fun v hv => ?_, _, ndT, ndC, ns, hp, hp.2.2.1.pos, ?_⟩
   ·rcases List.mem_cons.1 hv with rfl | hv
    ·exact ⟨_, rfl⟩
    ·rcases List.mem_cons.1 hv with rfl | hv
     ·exact ⟨_, rfl⟩
     ·cases hv
   ·unfold saysAddX
    dsimp only
    rw [hc]
  ·cases hs
 ·cases hs
def saysAdd : Says := saysAddX (fun _ => True) fun _ => [.dead]
def A38 : Table := ext A37 84 saysAdd
theorem a38 : TS9 A38 := by
 refine ext_case add_ok add_e2 a37 fun args H p r H' hs hp => ?_
 unfold saysAdd saysAddX at hs
 split at hs
 ·split at hs
  ·rename_i k s _ _ _ _ _ ns hc
   cases hs
   obtain ⟨h1, h2, h3, _⟩ := hp
   by_cases he : adbV (ns, k, s) = 0
   ·refine .inl ⟨_, ?_, by unfold saysAddX; dsimp only; rw [hc]⟩
    exact ⟨h1, h2, h3, he⟩
   ·refine .inr ⟨_, ?_, by unfold saysAddX; dsimp only; rw [hc]⟩
    exact ⟨h1, h2, h3, he⟩
  ·cases hs
 ·cases hs
def saysAd1 : Says := fun args H => match args, H with
 | [.c (.sl _ _ _ _), .c (.p (.v (.int .i64 k))), .c (.ptr 1 0)], [.arr _ c0 ns _, .row [.p (.v (.string s))]] => match castD (e := ndC) (e' := c0) ns with
  | some ns => some (some (args = [.c (.sl 0 ndC 0 ns.length), .c (.int .i64 k), .c (.ptr 1 0)] ∧ H = [.arr ndT ndC ns 0, .row [.str s]] ∧ AdOk ns k), adS (ns, k, s), [.dead, .row [.str s]])
  | none => none
 | _, _ => none
def A39 : Table := ext A38 83 saysAd1
theorem a39 : TS9 A39 := by
 refine ext_run a38 (f := 83) (fn := Tryz.f83) rfl rfl [0, 1, 2, 5, 6] fun args H p r' H' hs hp => ?_
 unfold saysAd1 at hs
 split at hs
 ·split at hs
  ·rename_i k _ _ _ _ s _ ns _
   cases hs
   obtain ⟨ha, hH, h1⟩ := hp
   rw [ha, hH]
   refine ⟨nB9 rfl, [0, 1], rfl, id2, ?_⟩
   repeat ((conv => whnf); refine ⟨by first | exact ⟨rfl, rfl, h1, trivial⟩ | (unfold inI64; omega) | omega | exact ⟨by omega, by omega⟩ | exact rfl | decide +kernel, ?_⟩)
   conv => whnf
   exact eR9
  ·cases hs
 ·cases hs
theorem nd_mem {ns : List Nd} {n : Nd} (h : n ∈ ns) : ∃ i, i < ns.length ∧ n = ndAt ns i := by
 obtain ⟨i, hi, rfl⟩ := List.getElem_of_mem h
 exact ⟨i, hi, by unfold ndAt; simp [hi]⟩
theorem frm_pm {ns : List Nd} (h : frmV ns = true) (hl : ns.length ≤ 120) : ParM ns := by
 intro n hn
 obtain ⟨i, hi, rfl⟩ := nd_mem hn
 by_cases h0 : 0 < i
 ·have h1 := frm_par h i h0 hi
  have h2 : (ndAt ns i).1 = paI ns i := rfl
  rw [h2]
  constructor <;> omega
 ·obtain rfl : i = 0 := by omega
  have h1 := frm_nd h hi
  unfold ndFrm at h1
  obtain ⟨h2, _⟩ := bA9.1 h1
  obtain ⟨h3, _⟩ := bA9.1 h2
  have h4 : (ndAt ns 0).1 = -1 := by
   by_cases hx : (ndAt ns 0).1 = -1
   ·exact hx
   ·rw [dF9 hx] at h3
    simp at h3
  rw [h4]
  exact ⟨Int.le_of_sub_nonneg (by decide), Int.le_of_sub_nonneg (by decide)⟩
theorem vld_ad {ns : List Nd} {p : ByteArray} (hv : VldT ns) (hf : (fndV (ns, p)).2 = true) : AdOk ns (fndV (ns, p)).1 := by
 obtain ⟨_, h1, h2⟩ := lim_len hv.lim
 have h3 : 0 ≤ (fndV (ns, p)).1 ∧ (fndV (ns, p)).1 < (ns.length : Nat) := by
  unfold fndV at *
  dsimp only at *
  split at hf
  ·cases hf
  ·rename_i h4
   rw [if_neg h4]
   dsimp only
   have := skV_le (isB ns p) ns.length
   omega
 exact ⟨h1, by omega, frm_par hv.frm, frm_pm hv.frm h2, h3.1, h3.2⟩
def AddV (a : List Nd × ByteArray × ByteArray) : List Nd × Int :=
 if chkP a.1 = 0 then if (fndV (a.1, a.2.1)).2 = true then (adR (a.1, (fndV (a.1, a.2.1)).1, a.2.2), adbV (a.1, (fndV (a.1, a.2.1)).1, a.2.2)) else ([], 4) else ([], chkP a.1)
abbrev treR (x : List Nd × Int) : SV := .tup [.agg [.p (.l ndC x.1)], .c (.int .i64 x.2)]
theorem ends_nil {e : Int} {x : List Nd × Int} {H : List AO} (h : x = ([], e)) : Ends (.tup [.agg [.p (.v (.slice none 0 0))], .c (.int .i64 e)]) H (treR x) H := by
 subst h
 refine eO9 (fun G v hv => ?_) rfl
 obtain ⟨vs, rfl, hvs⟩ := hv
 cases hvs with
 | cons a b =>
  refine ⟨_, rfl, .cons ?_ b⟩
  obtain ⟨cs, rfl, hcs⟩ := a
  cases hcs with
  | cons c d =>
   refine ⟨_, rfl, .cons ?_ d⟩
   obtain ⟨_, rfl⟩ := c
   exact .inl ⟨rfl, rfl⟩
def saysEdA : Says := fun args H => match args, H with
 | [.agg [.p (.l c0 ns)], .c (.p (.v (.string p))), .c (.clo _ _ _)], [.row [.p (.v (.string s))]] => match castD (e := ndC) (e' := c0) ns with
  | some ns => some (some (args = [.agg [.p (.l ndC ns)], .c (.str p), .c (.clo false 83 [0])] ∧ H = [.row [.str s]]), treR (AddV (ns, p, s)), [.row [.str s]])
  | none => none
 | _, _ => none
def A40 : Table := ext A39 82 saysEdA
theorem a40 : TS9 A40 := by
 refine ext_run a39 (f := 82) (fn := Tryz.f82) rfl rfl [0, 1, 2, 3, 6, 7, 8, 9, 10, 11, 12, 16, 27] fun args H p r' H' hs hp => ?_
 unfold saysEdA at hs
 split at hs
 ·split at hs
  ·rename_i p _ _ _ s _ ns _
   cases hs
   obtain ⟨ha, hH⟩ := hp
   rw [ha, hH]
   refine ⟨nB9 rfl, [0], rfl, id0, ?_⟩
   repeat ((conv => whnf); refine ⟨by first | exact ⟨rfl, trivial⟩ | (unfold inI64; omega) | omega | exact ⟨by omega, by omega⟩ | exact rfl | decide +kernel, ?_⟩)
   conv => whnf
   refine cI9 ?_ ?_<;>intro h
   ·have h1 : ¬ chkP ns = 0 := by
     have h2 : (!decide (chkP ns = 0)) = true := h
     simpa using h2
    repeat ((conv => whnf); refine ⟨by first | (unfold inI64; omega) | omega | exact ⟨by omega, by omega⟩ | exact rfl | decide +kernel, ?_⟩)
    conv => whnf
    exact ends_nil (by unfold AddV; rw [if_neg h1])
   have h1 : chkP ns = 0 := by
    have h2 : (!decide (chkP ns = 0)) = false := h
    simpa using h2
   have hv := chk_vld.1 h1
   repeat ((conv => whnf); refine ⟨by first | exact ⟨rfl, hv⟩ | (unfold inI64; omega) | omega | exact ⟨by omega, by omega⟩ | exact rfl | decide +kernel, ?_⟩)
   conv => whnf
   refine cI9 ?_ ?_<;>intro h3
   ·have h4 : ¬ (fndV (ns, p)).2 = true := ne_t (not_b h3)
    repeat ((conv => whnf); refine ⟨by first | (unfold inI64; omega) | omega | exact ⟨by omega, by omega⟩ | exact rfl | decide +kernel, ?_⟩)
    conv => whnf
    exact ends_nil (by unfold AddV; rw [if_pos h1, if_neg h4])
   have h4 : (fndV (ns, p)).2 = true := not_f h3
   have hok := vld_ad hv h4
   obtain ⟨hl, hp0, _⟩ := lim_len hv.lim
   repeat ((conv => whnf); refine ⟨by first | exact ⟨rfl, hl, hp0⟩ | exact ⟨rfl, rfl, hok⟩ | (unfold inI64; omega) | omega | exact ⟨by omega, by omega⟩ | exact rfl | decide +kernel, ?_⟩)
   conv => whnf
   have e : AddV (ns, p, s) = (adR (ns, (fndV (ns, p)).1, s), adbV (ns, (fndV (ns, p)).1, s)) := by
    unfold AddV
    rw [if_pos h1, if_pos h4]
   show Ends (treR (adR (ns, (fndV (ns, p)).1, s), adbV (ns, (fndV (ns, p)).1, s))) _ (treR (AddV (ns, p, s))) _
   rw [e]
   exact eR9
  ·cases hs
 ·cases hs
def daTSS : List AV → Option (List Nd × ByteArray × ByteArray)
 | [.agg [.p (.l c0 ns)], .c (.p (.v (.string p))), .c (.p (.v (.string s)))] => match castD (e := ndC) (e' := c0) ns with | some ns => some (ns, p, s) | none => none
 | _ => none
def eaTSS (a : List Nd × ByteArray × ByteArray) : List AV := [.agg [.p (.l ndC a.1)], .c (.str a.2.1), .c (.str a.2.2)]
def A41 : Table := ext A40 35 (saysG daTSS eaTSS fun a => (none, treR (AddV a)))
theorem a41 : TS9 A41 := by
 refine extG a40 35 (fn := Tryz.f35) rfl rfl daTSS eaTSS _ (fun _ => nB9 rfl) [0, 1, 2, 3, 5, 6, 7] fun a _ => ?_
 obtain ⟨ns, p, s⟩ := a
 show runF _ _ _ [] [.agg [.p (.l ndC ns)], .c (.str p), .c (.str s)] [] _
 repeat ((conv => whnf); refine ⟨by first | exact ⟨rfl, rfl⟩ | ((conv => whnf); exact ⟨⟨rfl, rfl, rfl⟩, trivial⟩) | exact Early.one (by decide +kernel) (by (conv => whnf); exact ⟨rfl, rfl, rfl⟩) trivial | (unfold inI64; omega) | omega | exact ⟨by omega, by omega⟩ | exact rfl | decide +kernel, ?_⟩)
 conv => whnf
 exact eR9
abbrev rtL : List Nd := [(-1, ⟨#[]⟩, [])]
abbrev awL1 : List Nd := [(-1, ⟨#[]⟩, []), (0, ⟨#[98]⟩, [])]
abbrev awL2 : List Nd := [(-1, ⟨#[]⟩, []), (0, ⟨#[98]⟩, []), (1, ⟨#[99]⟩, [])]
abbrev awL3 : List Nd := [(-1, ⟨#[]⟩, []), (0, ⟨#[97]⟩, []), (0, ⟨#[98]⟩, []), (2, ⟨#[99]⟩, [])]
theorem aw_1 : AddV (rtL, ⟨#[47]⟩, ⟨#[98]⟩) = (awL1, 0) := by decide +kernel
theorem aw_2 : AddV (awL1, ⟨#[47, 98]⟩, ⟨#[99]⟩) = (awL2, 0) := by decide +kernel
theorem aw_3 : AddV (awL2, ⟨#[47]⟩, ⟨#[97]⟩) = (awL3, 0) := by decide +kernel
theorem aw_4 : FindV (awL3, ⟨#[47, 98, 47, 99]⟩) = (3, true) := by decide +kernel
theorem aw_5 : PathV (awL3, 3) = ⟨#[47, 98, 47, 99]⟩ := by decide +kernel
theorem ext_sub {P : Program} {T : Table} {f : FuncId} {s s' : Says} (h1 : TSound P (ext T f s)) (hT : TSound P T)
  (h : ∀ args H p r H', s' args H = some (p, r, H') → holdsO p → ∃ q, holdsO q ∧ s args H = some (q, r, H')) : TSound P (ext T f s') :=
 ext_case h1 h1 hT fun args H p r H' hs hp => .inl (h args H p r H' hs hp)
theorem daTSS_at (a : List Nd × ByteArray × ByteArray) : daTSS (eaTSS a) = some a := by
 unfold daTSS eaTSS
 dsimp only
 rw [castD_self]
theorem daTS_at (a : List Nd × ByteArray) : daTS (eaTS a) = some a := by
 unfold daTS eaTS
 dsimp only
 rw [castD_self]
theorem daTI_at (a : List Nd × Int) : daTI (eaTI a) = some a := by
 unfold daTI eaTI
 dsimp only
 rw [castD_self]
def B1 : Table := ext A41 53 fun args H => match args, H with | [], [] => some (none, .a (.agg [.p (.l ndC rtL)]), []) | _, _ => none
theorem b1 : TS9 B1 := by
 refine ext_run a41 (f := 53) (fn := Tryz.f53) rfl rfl [0] fun args H p r' H' hs hp => ?_
 split at hs
 ·cases hs
  refine ⟨nB9 rfl, [], rfl, nK9, ?_⟩
  repeat ((conv => whnf); refine ⟨by first | (unfold inI64; omega) | omega | exact ⟨by omega, by omega⟩ | exact rfl | decide +kernel, ?_⟩)
  conv => whnf
  exact eR9
 ·cases hs
def saysAwA : Says := fun args H => match args, H with
 | [.agg [.p (.l c0 ns)], .c (.p (.v (.string _))), .c (.p (.v (.string _)))], [] => match castD (e := ndC) (e' := c0) ns with
  | some [_] => some (some (args = eaTSS (rtL, ⟨#[47]⟩, ⟨#[98]⟩)), treR (awL1, 0), [])
  | some [_, _] => some (some (args = eaTSS (awL1, ⟨#[47, 98]⟩, ⟨#[99]⟩)), treR (awL2, 0), [])
  | some [_, _, _] => some (some (args = eaTSS (awL2, ⟨#[47]⟩, ⟨#[97]⟩)), treR (awL3, 0), [])
  | _ => none
 | _, _ => none
def B2 : Table := ext B1 35 saysAwA
theorem b2 : TS9 B2 := by
 refine ext_sub (ext_only a41 b1) b1 fun args H p r H' hs hp => ?_
 unfold saysAwA at hs
 split at hs
 ·split at hs
  ·cases hs
   rw [show _ = _ from hp, ← aw_1]
   exact saysG_at (daTSS_at _) trivial
  ·cases hs
   rw [show _ = _ from hp, ← aw_2]
   exact saysG_at (daTSS_at _) trivial
  ·cases hs
   rw [show _ = _ from hp, ← aw_3]
   exact saysG_at (daTSS_at _) trivial
  ·cases hs
 ·cases hs
def saysAwF : Says := fun args H => match args, H with
 | [.agg _, .c (.p (.v (.string _)))], [] => some (some (args = eaTS (awL3, ⟨#[47, 98, 47, 99]⟩)), fndR (3, true), [])
 | _, _ => none
def B3 : Table := ext B2 27 saysAwF
theorem b3 : TS9 B3 := by
 refine ext_sub (ext_only a21 b2) b2 fun args H p r H' hs hp => ?_
 unfold saysAwF at hs
 split at hs
 ·cases hs
  rw [show _ = _ from hp, ← aw_4]
  exact saysG_at (daTS_at _) trivial
 ·cases hs
def saysAwP : Says := fun args H => match args, H with
 | [.agg _, .c (.p (.v (.int .i64 _)))], [] => some (some (args = eaTI (awL3, 3)), .str ⟨#[47, 98, 47, 99]⟩, [])
 | _, _ => none
def B4 : Table := ext B3 18 saysAwP
theorem b4 : TS9 B4 := by
 refine ext_sub (ext_only a22 b3) b3 fun args H p r H' hs hp => ?_
 unfold saysAwP at hs
 split at hs
 ·cases hs
  rw [show _ = _ from hp, ← aw_5]
  exact saysG_at (daTI_at _) trivial
 ·cases hs
def saysAwake : Says := fun args H => match args, H with | [], [] => some (none, .bool true, []) | _, _ => none
theorem awake_line : TS9 (ext B4 9 saysAwake) := by
 refine ext_run b4 (f := 9) (fn := Tryz.f9) rfl rfl [0, 1, 2, 3, 4, 5, 6, 7, 8] fun args H p r' H' hs hp => ?_
 unfold saysAwake at hs
 split at hs
 ·cases hs
  refine ⟨nB9 rfl, [], rfl, nK9, ?_⟩
  repeat ((conv => whnf); refine ⟨by first | exact rfl | ((conv => whnf); exact ⟨⟨rfl, rfl, rfl⟩, trivial⟩) | exact Early.one (by decide +kernel) (by (conv => whnf); exact ⟨rfl, rfl, rfl⟩) trivial | exact fun _ => rfl | (unfold inI64; omega) | omega | exact ⟨by omega, by omega⟩ | exact rfl | decide +kernel, ?_⟩)
  conv => whnf
  exact eR9
 ·cases hs
def A42 : Table := ext A41 9 saysAwake
theorem a42 : TS9 A42 := ext_only awake_line a41
end Go.Ab
namespace Go.Ab
abbrev B (l : List UInt8) : ByteArray := ⟨⟨l⟩⟩
theorem B_size (l : List UInt8) : (B l).size = l.length := rfl
theorem B_inj {l m : List UInt8} : B l = B m ↔ l = m := by
 constructor
 ·intro h
  have := congrArg (fun s : ByteArray => s.data.toList) h
  exact this
 ·intro h; rw [h]
theorem B_append (l m : List UInt8) : B l ++ B m = B (l ++ m) := by
 have h : ∀ a b : ByteArray, a.data.toList = b.data.toList → a = b := fun a b h => (B_inj (l := a.data.toList) (m := b.data.toList)).2 h
 apply h
 rw [ByteArray.data_append]
 simp
theorem B_extract (l : List UInt8) (a b : Nat) : (B l).extract a b = B ((l.take b).drop a) := by
 have h : ∀ a b : ByteArray, a.data.toList = b.data.toList → a = b := fun a b h => (B_inj (l := a.data.toList) (m := b.data.toList)).2 h
 apply h
 rw [ByteArray.data_extract]
 simp [List.drop_take]
theorem byteAt_B (l : List UInt8) (i : Nat) : byteAt (B l) i = ((l.getD i 0).toNat : Int) := rfl
end Go.Ab
namespace Go.Ab
open Go.Proofs
set_option linter.unusedSectionVars false
set_option maxRecDepth 100000
variable [Base]
theorem idx_mem9 : ∀ (l : List UInt8) (c : UInt8), (0 ≤ Lib.indexByte l c) = (l.contains c = true)
 | [], c => by simp [Lib.indexByte]
 | b :: l, c => by
  have ih := idx_mem9 l c
  have hge := Lib.indexByte_ge l c
  unfold Lib.indexByte
  rw [List.contains_cons]
  by_cases h : b = c
  ·subst h; simp
  ·have h1 : (b == c) = false := by simpa using h
   have h2 : (c == b) = false := by simpa using fun h' : c = b => h h'.symm
   rw [h1, h2, Bool.false_or, ← ih]
   by_cases h3 : Lib.indexByte l c = -1
   ·simp [h3]
   ·simp only [Bool.false_eq_true, if_false]
    rw [if_neg (by simpa using h3)]
    apply propext
    constructor <;> intro _ <;> omega
theorem namB_cons (a : UInt8) (r : List UInt8) : namB (B (a :: r)) = (decide (((r.length + 1 : Nat) : Int) ≤ 31) && firstB ((a.toNat : Nat) : Int) && (nameB ((a.toNat : Nat) : Int) && r.all fun u : UInt8 => nameB ((u.toNat : Nat) : Int))) := by
 unfold namB consB
 rw [lead_all]
 have h1 : decide (B (a :: r) = ⟨#[]⟩) = false := dF9 fun h => by
  have := congrArg ByteArray.size h
  rw [B_size] at this
  have h0 : (⟨#[]⟩ : ByteArray).size = 0 := rfl
  rw [h0] at this
  simp at this
 have h2 : byteAt (B (a :: r)) 0 = ((a.toNat : Nat) : Int) := rfl
 have h3 : ((B (a :: r)).size : Int) = ((r.length + 1 : Nat) : Int) := rfl
 rw [h1, h2, h3]
 have h4 : allB nameB (B (a :: r)) = (nameB ((a.toNat : Nat) : Int) && r.all fun u : UInt8 => nameB ((u.toNat : Nat) : Int)) := by
  unfold allB
  rfl
 rw [h4]
 rfl
theorem namB_nil : namB (B []) = false := by decide
def has64 : List UInt8 → Bool
 | [] => false
 | a :: r => if ((a.toNat : Nat) : Int) = 64 then true else has64 r
theorem has64_cons (a : UInt8) (r : List UInt8) : has64 (a :: r) = if ((a.toNat : Nat) : Int) = 64 then true else has64 r := rfl
theorem has64_at (l : List UInt8) : has64 l = atB (B l) := by
 have h : atB (B l) = l.contains 64 := by
  unfold atB
  show decide (0 ≤ Lib.indexByte l 64) = _
  have := idx_mem9 l 64
  cases hc : l.contains 64 with
  | true => rw [hc] at this; exact dT9 (by rw [this])
  | false => rw [hc] at this; exact dF9 (by rw [this]; simp)
 rw [h]
 induction l with
 | nil => rfl
 | cons a r ih =>
  unfold has64
  rw [List.contains_cons]
  have ih' := ih (by
   unfold atB
   show decide (0 ≤ Lib.indexByte r 64) = _
   have := idx_mem9 r 64
   cases hc : r.contains 64 with
   | true => rw [hc] at this; exact dT9 (by rw [this])
   | false => rw [hc] at this; exact dF9 (by rw [this]; simp))
  by_cases ha : ((a.toNat : Nat) : Int) = 64
  ·have : a = 64 := by
    apply UInt8.toNat_inj.1
    have h64 : (64 : UInt8).toNat = 64 := rfl
    omega
   rw [if_pos ha, this]
   rfl
  ·have : ((64 : UInt8) == a) = false := by
    refine beq_eq_false_iff_ne.2 fun h => ha ?_
    rw [← h]
    rfl
   rw [if_neg ha, ih', this, Bool.false_or]
def rPrp (s : ByteArray) : Bool :=
 if (s.size : Int) < 1 ∨ 31 < (s.size : Int) then false
 else if has64 s.data.toList = true then false
 else if byteAt s 0 = 35 then (decide ((s.size : Int) = 1) || namB (⟨#[97]⟩ ++ s.extract 1 s.size)) else namB s
theorem prp_same (s : ByteArray) : rPrp s = prpB s := by
 obtain ⟨l, rfl⟩ : ∃ l, s = B l := ⟨s.data.toList, rfl⟩
 unfold rPrp prpB
 rw [show has64 (B l).data.toList = atB (B l) from has64_at l]
 cases l with
 | nil => decide
 | cons a r =>
  have hs : ((B (a :: r)).size : Int) = ((r.length + 1 : Nat) : Int) := rfl
  rw [hs]
  by_cases h1 : 31 < ((r.length + 1 : Nat) : Int)
  ·rw [if_pos (.inr h1), if_pos h1]
  rw [if_neg (by omega), if_neg h1]
  by_cases h2 : atB (B (a :: r)) = true
  ·rw [if_pos h2, if_pos h2]
  rw [if_neg h2, if_neg h2]
  have hb : byteAt (B (a :: r)) 0 = ((a.toNat : Nat) : Int) := rfl
  rw [hb]
  by_cases h3 : ((a.toNat : Nat) : Int) = 35
  ·have ha : a = 35 := by
    apply UInt8.toNat_inj.1
    have h35 : (35 : UInt8).toNat = 35 := rfl
    omega
   subst ha
   have e1 : (B (35 :: r)).extract 1 (B (35 :: r)).size = B r := by
    rw [B_extract, B_size]
    simp
   have hp : prefB (B (35 :: r)) ⟨#[35]⟩ = true := by
    unfold prefB
    have : (B (35 :: r)).extract 0 (⟨#[35]⟩ : ByteArray).size = ⟨#[35]⟩ := by
     show (B (35 :: r)).extract 0 1 = B [35]
     rw [B_extract]
     simp
    rw [this]
    have h1 : (((⟨#[35]⟩ : ByteArray).size : Nat) : Int) ≤ ((B (35 :: r)).size : Nat) := by
     rw [B_size]
     show ((1 : Nat) : Int) ≤ ((r.length + 1 : Nat) : Int)
     omega
    rw [dT9 h1]
    simp
   have ht : trimP (B (35 :: r)) ⟨#[35]⟩ = B r := by
    unfold trimP
    rw [if_pos hp]
    exact e1
   rw [if_pos h3, if_pos hp, ht, e1]
   have f1 : (⟨#[97]⟩ ++ B r : ByteArray) = B (97 :: r) := by show B [97] ++ B r = _; rw [B_append]; rfl
   have f2 : (⟨#[95]⟩ ++ B r : ByteArray) = B (95 :: r) := by show B [95] ++ B r = _; rw [B_append]; rfl
   rw [f1, f2, namB_cons, namB_cons]
   have g1 : firstB (((97 : UInt8).toNat : Nat) : Int) = true := by decide
   have g2 : firstB (((95 : UInt8).toNat : Nat) : Int) = true := by decide
   have g3 : nameB (((97 : UInt8).toNat : Nat) : Int) = true := by decide +kernel
   have g4 : nameB (((95 : UInt8).toNat : Nat) : Int) = true := by decide +kernel
   rw [g1, g2, g3, g4]
   cases r with
   | nil => decide
   | cons b r =>
    rw [dF9 (show ¬ (((b :: r).length + 1 : Nat) : Int) = 1 by simp only [zC9]; omega)]
    rfl
  ·have hp : prefB (B (a :: r)) ⟨#[35]⟩ = false := by
    unfold prefB
    have : ¬ (B (a :: r)).extract 0 (⟨#[35]⟩ : ByteArray).size = ⟨#[35]⟩ := by
     show ¬ (B (a :: r)).extract 0 1 = B [35]
     rw [B_extract]
     intro h
     have h5 : B [a] = B [35] := by simpa using h
     have h6 : byteAt (B [a]) 0 = byteAt (B [35]) 0 := by rw [h5]
     exact h3 h6
    rw [dF9 this]
    simp
   rw [if_neg h3, if_neg (by rw [hp]; simp)]
section
variable {T : Table} (hT : TS9 T)
theorem nam_big {s : ByteArray} (h : 31 < s.size) : namB s = false := by
 unfold namB consB
 rw [dF9 (show ¬ (s.size : Int) ≤ 31 by omega), Bool.and_false, Bool.false_and, Bool.false_and]
theorem en_big : TS9 (ext T18 79 (saysS fun s => (some (31 < s.size), .bool (namB s)))) := by
 refine extS t18 79 (fn := Tryz.f79) rfl rfl (by decide) _ [0, 2, 3, 22, 26, 33] fun s hs => ?_
 have hs' : 31 < s.size := hs
 conv => whnf
 refine ⟨fun h => ?_, ?_⟩
 ·simp [lit] at h; omega
 conv => whnf
 refine ⟨fun h => ?_, ?_⟩
 ·simp [lit] at h; omega
 conv => whnf
 refine cI9 ?_ ?_<;>intro h0
 ·conv => whnf
  refine eT9 ?_
  rw [nam_big hs']
 ·exfalso
  rw [show decide ((31 : Int) < (s.size : Nat)) = true from dT9 (by omega)] at h0
  simp at h0
theorem ext_or2 {f : FuncId} {s1 s2 s' : Says} (h1 : TS9 (ext T18 f s1)) (h2 : TS9 (ext T18 f s2)) (hT : TS9 T)
  (h : ∀ args H p r H', s' args H = some (p, r, H') → holdsO p → (∃ q, holdsO q ∧ s1 args H = some (q, r, H')) ∨ ∃ q, holdsO q ∧ s2 args H = some (q, r, H')) : TS9 (ext T f s') := by
 intro g args H p r H' hg hp G hS hH cargs ha
 unfold ext at hg
 split at hg
 ·rename_i hb
  have hb' : Nat.beq g f = true := hb
  rcases h args H p r H' hg hp with ⟨q, hq, hs⟩ | ⟨q, hq, hs⟩
  ·exact h1 g args H q r H' (by unfold ext; rw [hb']; exact hs) hq G hS hH cargs ha
  ·exact h2 g args H q r H' (by unfold ext; rw [hb']; exact hs) hq G hS hH cargs ha
 ·exact hT g args H p r H' hg hp G hS hH cargs ha
abbrev EN (T : Table) : Table := ext T 79 (saysS fun s => (none, .bool (namB s)))
include hT in
theorem en : TS9 (EN T) := by
 refine ext_or2 t19 en_big hT fun args H p r H' hs hp => ?_
 unfold saysS at hs
 split at hs
 ·rename_i s
  cases hs
  by_cases h : 31 < s.size
  ·exact .inr ⟨some (31 < s.size), h, rfl⟩
  ·refine .inl ⟨some (fits s), (show s.size ≤ 1000000000 by omega), ?_⟩
   show some (some (fits s), SV.bool (rNameS s), ([] : List AO)) = some (some (fits s), SV.bool (namB s), [])
   rw [nameS_same]
   rfl
 ·cases hs
abbrev EP (T : Table) : Table := ext (EN T) 33 (saysS fun s => (none, .bool (prpB s)))
include hT in
theorem ep : TS9 (EP T) := by
 refine extS (en hT) 33 (fn := Tryz.f33) rfl rfl (by decide) _ [0, 2, 3, 11, 15, 21, 24] fun s _ => ?_
 dsimp only
 rw [← prp_same]
 unfold rPrp
 repeat ((conv => whnf); refine ⟨by first | (unfold inI64; omega) | omega | exact ⟨by omega, by omega⟩ | (intro hg; first | (unfold inI64; omega) | omega | exact ⟨by omega, by omega⟩ | (simp [lit] at hg; unfold inI64; omega) | (simp [lit] at hg; omega) | (simp [lit] at hg; exact ⟨by omega, by omega⟩)) | (show (_ : Nat) + 1 ≤ 1000000000000; omega) | exact rfl | (unfold inI64; dsimp only; omega) | (dsimp only; omega) | (intro hg; simp [lit] at hg; first | (unfold inI64; dsimp only; omega) | (dsimp only; omega)) | decide +kernel, ?_⟩)
 conv => whnf
 refine cI9 ?_ ?_<;>intro h
 ·have h1 : (s.size : Int) < 1 ∨ 31 < (s.size : Int) := by
   have h2 : (decide ((s.size : Int) < 1) || decide (31 < (s.size : Int))) = true := h
   simpa using h2
  rw [if_pos h1]
  repeat ((conv => whnf); refine ⟨by first | (unfold inI64; omega) | omega | exact ⟨by omega, by omega⟩ | exact rfl | decide +kernel, ?_⟩)
  conv => whnf
  exact eR9
 have h1 : ¬ ((s.size : Int) < 1 ∨ 31 < (s.size : Int)) := by
  have h2 : (decide ((s.size : Int) < 1) || decide (31 < (s.size : Int))) = false := h
  simp at h2
  omega
 rw [if_neg h1]
 repeat ((conv => whnf); refine ⟨by first | (unfold inI64; omega) | omega | exact ⟨by omega, by omega⟩ | exact rfl | decide +kernel, ?_⟩)
 conv => whnf
 obtain ⟨l, rfl⟩ : ∃ l, s = B l := ⟨s.data.toList, rfl⟩
 have hB : (B l).size = l.length := rfl
 have hd : (B l).data.toList = l := rfl
 rw [hd]
 refine lI9 (σ := Nat) (fun i => [(0, XV.s (.str (B l))), (2, nX9), (3, XV.s (.int .i64 (i : Nat))), (11, nX9), (15, nX9), (21, nX9), (24, nX9)])
  (fun _ => []) (fun i => i ≤ l.length ∧ has64 (l.drop i) = has64 l) (fun i => l.length - i) 0 ?_ rfl ?_ fun i hI => ?_
 ·repeat first|exact lN9|refine lD9 ?_|refine lS9 ?_
 ·exact ⟨nZ9 _, rfl⟩
 obtain ⟨h2, h3⟩ := hI
 repeat ((conv => whnf); refine ⟨by first | (unfold inI64; omega) | omega | exact ⟨by omega, by omega⟩ | exact rfl | decide +kernel, ?_⟩)
 conv => whnf
 refine cI9 ?_ ?_<;>intro h4
 ·have h5 : i < l.length := by
   have h6 : (i : Int) < ((B l).size : Nat) := oT9 h4
   omega
  have hin : 0 ≤ (i : Int) ∧ (i : Int) < ((B l).size : Nat) := by omega
  have hb : byteAt (B l) (i : Int) = (((l[i]).toNat : Nat) : Int) := by
   rw [byteAt_B]
   simp [h5]
  rw [List.drop_eq_getElem_cons h5, has64_cons] at h3
  repeat ((conv => whnf); refine ⟨by first | exact hin | (unfold inI64; omega) | omega | exact ⟨by omega, by omega⟩ | exact rfl | decide +kernel, ?_⟩)
  conv => whnf
  refine cI9 ?_ ?_<;>intro h6
  ·have h7 : ((l[i].toNat : Nat) : Int) = 64 := by rw [← hb]; exact oT9 h6
   rw [if_pos h7] at h3
   rw [if_pos h3.symm]
   repeat ((conv => whnf); refine ⟨by first | (unfold inI64; omega) | omega | exact ⟨by omega, by omega⟩ | exact rfl | decide +kernel, ?_⟩)
   conv => whnf
   exact eR9
  ·have h7 : ¬ ((l[i].toNat : Nat) : Int) = 64 := by rw [← hb]; exact oF9 h6
   rw [if_neg h7] at h3
   repeat ((conv => whnf); refine ⟨by first | (unfold inI64; omega) | omega | exact ⟨by omega, by omega⟩ | exact rfl | decide +kernel, ?_⟩)
   conv => whnf
   refine hI9 (i + 1) ?_ rfl ?_ ?_
   ·repeat first|exact lN9|refine lD9 ?_|refine lS9 ?_
   ·exact ⟨h5, h3⟩
   ·omega
 ·have h5 : i = l.length := by
   have h6 : ¬ (i : Int) < ((B l).size : Nat) := oF9 h4
   omega
  subst h5
  rw [List.drop_length] at h3
  rw [if_neg (by rw [← h3]; decide)]
  have h0 : 0 ≤ (0 : Int) ∧ (0 : Int) < ((B l).size : Nat) := by omega
  repeat ((conv => whnf); refine ⟨by first | exact h0 | (unfold inI64; omega) | omega | exact ⟨by omega, by omega⟩ | exact rfl | decide +kernel, ?_⟩)
  conv => whnf
  refine cI9 ?_ ?_<;>intro h6
  ·have h7 : byteAt (B l) 0 = 35 := oT9 h6
   rw [if_pos h7]
   have e1 : (⟨#[97]⟩ : ByteArray).size = 1 := rfl
   have e2 : ((B l).extract 1 (B l).size).size ≤ (B l).size := by rw [ByteArray.size_extract]; omega
   have e3 : (((⟨#[97]⟩ : ByteArray).size + ((B l).extract 1 (B l).size).size : Nat) : Int) ≤ 9223372036854775807 := by omega
   have e4 : (⟨#[97]⟩ ++ (B l).extract 1 (B l).size : ByteArray).size ≤ 1000000000 := by
    rw [zA9, e1]
    have : ((B l).size : Int) ≤ 31 := by omega
    omega
   have e5 : 0 ≤ (1 : Int) ∧ (1 : Int) ≤ ((B l).size : Nat) ∧ ((B l).size : Int) ≤ ((B l).size : Nat) := by omega
   repeat ((conv => whnf); refine ⟨by first | exact fun _ => e5 | exact fun _ => e3 | (unfold inI64; omega) | omega | exact ⟨by omega, by omega⟩ | exact rfl | decide +kernel, ?_⟩)
   conv => whnf
   refine eE9 ⟨congrArg SV.bool ?_, rfl⟩
   rfl
  ·have h7 : ¬ byteAt (B l) 0 = 35 := oF9 h6
   rw [if_neg h7]
   repeat ((conv => whnf); refine ⟨by first | (unfold inI64; omega) | omega | exact ⟨by omega, by omega⟩ | exact rfl | decide +kernel, ?_⟩)
   conv => whnf
   exact eR9
end
end Go.Ab
