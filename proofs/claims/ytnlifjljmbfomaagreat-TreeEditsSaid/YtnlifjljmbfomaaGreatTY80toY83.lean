/- The reference of package tree: Set. -/
import Derived.Test.YtnlifjljmbfomaaGreatTY77toY79
namespace Go.Ab
open Go.Proofs
set_option linter.unusedSectionVars false
set_option maxRecDepth 100000
variable [Base]
def saysLimS : Says := fun args H => match args, H with
 | [.agg [.sl _ _ ver _]], [.arr _ c0 ns _] => match castD (e := ndC) (e' := c0) ns with
  | some ns => some (some (args = [.agg [.sl 0 ndC ver ns.length]] ∧ H = [hpV ns ver] ∧ 0 < ns.length), .bool (!limV ns), [hpV ns ver])
  | none => none
 | _, _ => none
theorem daT_at (ns : List Nd) : daT (eaT ns) = some ns := by
 unfold daT eaT
 dsimp only
 rw [castD_self]
def C16 : Table := ext C15 61 saysLimS
theorem c16 : TS9 C16 := by
 refine ext_ro (ext_only c2 c15) c15 fun args H p r H' hs hp => ?_
 unfold saysLimS at hs
 split at hs
 ·split at hs
  ·rename_i ver _ _ _ _ _ _ ns _
   cases hs
   obtain ⟨ha, hH, h0⟩ := hp
   refine ⟨ndT, ndC, ns, ver, eaT ns, hH, rfl, h0, ?_, saysG_at (daT_at _) trivial, trivial⟩
   rw [ha]
   exact .cons .asl .nil
  ·cases hs
 ·cases hs
def setN (ns : List Nd) (k : Nat) (n v : ByteArray) : List Nd := ns.set k ((ndAt ns k).1, (ndAt ns k).2.1, putV ((ndAt ns k).2.2, n, v))
def rSetV (a : List Nd × ByteArray × ByteArray × ByteArray) : List Nd × Int :=
 if ¬ (begV (a.1, a.2.1)).2 = 0 then ([], (begV (a.1, a.2.1)).2)
 else if prpB a.2.2.1 = false then ([], 1)
 else if limV (setN a.1 (begV (a.1, a.2.1)).1.toNat a.2.2.1 a.2.2.2) = false then ([], 3)
 else (setN a.1 (begV (a.1, a.2.1)).1.toNat a.2.2.1 a.2.2.2, 0)
def daTSSS : List AV → Option (List Nd × ByteArray × ByteArray × ByteArray)
 | [.agg [.p (.l c0 ns)], .c (.p (.v (.string p))), .c (.p (.v (.string s))), .c (.p (.v (.string v)))] => match castD (e := ndC) (e' := c0) ns with | some ns => some (ns, p, s, v) | none => none
 | _ => none
def eaTSSS (a : List Nd × ByteArray × ByteArray × ByteArray) : List AV := [.agg [.p (.l ndC a.1)], .c (.str a.2.1), .c (.str a.2.2.1), .c (.str a.2.2.2)]
def saysSetE : Says := fun args H => match H with
 | [] => match daTSSS args with
  | some a => some (some (args = eaTSSS a ∧ ¬ (rSetV a).2 = 0), treR (rSetV a), [])
  | none => none
 | _ => none
def saysSetO : Says := fun args H => match H with
 | [] => match daTSSS args with
  | some a => some (some (args = eaTSSS a ∧ (rSetV a).2 = 0), .tup [.agg [.sl 0 ndC (a.1.length - 1) (rSetV a).1.length], .c (.int .i64 (rSetV a).2)], [hpV (rSetV a).1 (a.1.length - 1)])
  | none => none
 | _ => none
theorem set_er : TS9 (ext C16 38 saysSetE) := by
 refine ext_run c16 (f := 38) (fn := Tryz.f38) rfl rfl [0, 1, 2, 3, 4, 8, 9, 10, 11, 12, 20, 25, 45] fun args H q r' H' hs hp => ?_
 unfold saysSetE at hs
 split at hs
 ·split at hs
  ·rename_i a _
   cases hs
   obtain ⟨rfl, hc⟩ := hp
   obtain ⟨ns, p, s, v⟩ := a
   refine ⟨nB9 rfl, [], rfl, nK9, ?_⟩
   obtain ⟨R, hR⟩ : ∃ R, rSetV (ns, p, s, v) = R := ⟨_, rfl⟩
   rw [hR] at hc ⊢
   show runF _ _ _ _ [.agg [.p (.l ndC ns)], .c (.str p), .c (.str s), .c (.str v)] [] _
   repeat ((conv => whnf); refine ⟨by first | exact ⟨rfl, trivial⟩ | (unfold inI64; omega) | omega | exact ⟨by omega, by omega⟩ | exact rfl | decide +kernel, ?_⟩)
   conv => whnf
   refine cI9 ?_ ?_<;>intro h
   ·have h1 : ¬ (begV (ns, p)).2 = 0 := by
     have h2 : (!decide ((begV (ns, p)).2 = 0)) = true := h
     simpa using h2
    repeat ((conv => whnf); refine ⟨by first | (unfold inI64; omega) | omega | exact ⟨by omega, by omega⟩ | exact rfl | decide +kernel, ?_⟩)
    conv => whnf
    exact ends_nil (by rw [← hR]; unfold rSetV; rw [if_pos h1])
   have h1 : (begV (ns, p)).2 = 0 := by
    have h2 : (!decide ((begV (ns, p)).2 = 0)) = false := h
    simpa using h2
   have h1' : ¬ ¬ (begV (ns, p)).2 = 0 := fun h => h h1
   obtain ⟨hf, hk0, hk1⟩ := beg_ok h1
   have hlen := hf.len
   have hln := lim_LenN hf.lim
   repeat ((conv => whnf); refine ⟨by first | (unfold inI64; omega) | omega | exact ⟨by omega, by omega⟩ | exact rfl | decide +kernel, ?_⟩)
   conv => whnf
   refine cI9 ?_ ?_<;>intro h2
   ·have h3 : prpB s = false := not_b h2
    repeat ((conv => whnf); refine ⟨by first | (unfold inI64; omega) | omega | exact ⟨by omega, by omega⟩ | exact rfl | decide +kernel, ?_⟩)
    conv => whnf
    exact ends_nil (by rw [← hR]; unfold rSetV; rw [if_neg h1', if_pos h3])
   have h3 : prpB s = true := not_f h2
   obtain ⟨k, hk⟩ : ∃ k, (begV (ns, p)).1 = k := ⟨_, rfl⟩
   have hR2 : R = if limV (setN ns k.toNat s v) = false then ([], 3) else (setN ns k.toNat s v, 0) := by
    rw [← hR]
    unfold rSetV
    rw [if_neg h1', if_neg (ne_f h3)]
    dsimp only
    rw [hk]
   rw [hk] at hk0 hk1
   repeat ((conv => whnf); refine ⟨by first | exact ⟨rfl, hln, hlen.1⟩ | (unfold inI64; omega) | omega | exact ⟨by omega, by omega⟩ | exact rfl | decide +kernel, ?_⟩)
   conv => whnf
   rw [hk]
   have hin : 0 ≤ k ∧ k < (ns.length : Nat) := ⟨hk0, hk1⟩
   have hob : 0 = 0 ∧ 0 ≤ k ∧ k < (ns.length : Nat) := ⟨rfl, hk0, hk1⟩
   have hpl : (ns.getD k.toNat ndC.dflt).2.2.length ≤ 1000000000 := by
    have hkn : k.toNat < ns.length := by omega
    have he : ns.getD k.toNat ndC.dflt = ns[k.toNat] := by simp [hkn]
    rw [he]
    exact hln.at hkn
   have hlm : (([.agg [.sl 0 ndC (ns.length - 1) ns.length]] : List AV) = [.agg [.sl 0 ndC (ns.length - 1) (setN ns k.toNat s v).length]]) ∧ [hpV (setN ns k.toNat s v) (ns.length - 1)] = [hpV (setN ns k.toNat s v) (ns.length - 1)] ∧ 0 < (setN ns k.toNat s v).length := by
    unfold setN
    rw [List.length_set]
    exact ⟨rfl, rfl, hlen.1⟩
   repeat ((conv => whnf); refine ⟨by first | exact hin | exact hob | exact ⟨rfl, hpl⟩ | exact hlm | ((conv => whnf); exact ⟨⟨rfl, rfl, rfl⟩, trivial⟩) | exact Early.one (by decide +kernel) (by (conv => whnf); exact ⟨rfl, rfl, rfl⟩) trivial | (unfold inI64; omega) | omega | exact ⟨by omega, by omega⟩ | exact rfl | decide +kernel, ?_⟩)
   conv => whnf
   refine cI9 ?_ ?_<;>intro h4
   ·have h5 : limV (setN ns k.toNat s v) = false := by
     have h6 : (!limV (setN ns k.toNat s v)) = true := h4
     exact not_b h6
    rw [if_pos h5] at hR2
    repeat ((conv => whnf); refine ⟨by first | (unfold inI64; omega) | omega | exact ⟨by omega, by omega⟩ | exact rfl | decide +kernel, ?_⟩)
    conv => whnf
    exact ends_nil hR2
   have h5 : limV (setN ns k.toNat s v) = true := by
    have h6 : (!limV (setN ns k.toNat s v)) = false := h4
    exact not_f h6
   rw [if_neg (ne_f h5)] at hR2
   exact absurd (by rw [hR2]) hc
  ·cases hs
 ·cases hs
theorem set_ok : TS9 (ext C16 38 saysSetO) := by
 refine ext_run c16 (f := 38) (fn := Tryz.f38) rfl rfl [0, 1, 2, 3, 4, 8, 9, 10, 11, 12, 20, 25, 45] fun args H q r' H' hs hp => ?_
 unfold saysSetO at hs
 split at hs
 ·split at hs
  ·rename_i a _
   cases hs
   obtain ⟨rfl, hc⟩ := hp
   obtain ⟨ns, p, s, v⟩ := a
   refine ⟨nB9 rfl, [2], rfl, nK9, ?_⟩
   obtain ⟨R, hR⟩ : ∃ R, rSetV (ns, p, s, v) = R := ⟨_, rfl⟩
   rw [hR] at hc ⊢
   show runF _ _ _ _ [.agg [.p (.l ndC ns)], .c (.str p), .c (.str s), .c (.str v)] [] _
   repeat ((conv => whnf); refine ⟨by first | exact ⟨rfl, trivial⟩ | (unfold inI64; omega) | omega | exact ⟨by omega, by omega⟩ | exact rfl | decide +kernel, ?_⟩)
   conv => whnf
   refine cI9 ?_ ?_<;>intro h
   ·have h1 : ¬ (begV (ns, p)).2 = 0 := by
     have h2 : (!decide ((begV (ns, p)).2 = 0)) = true := h
     simpa using h2
    exact absurd hc (by rw [← hR]; unfold rSetV; rw [if_pos h1]; exact h1)
   have h1 : (begV (ns, p)).2 = 0 := by
    have h2 : (!decide ((begV (ns, p)).2 = 0)) = false := h
    simpa using h2
   have h1' : ¬ ¬ (begV (ns, p)).2 = 0 := fun h => h h1
   obtain ⟨hf, hk0, hk1⟩ := beg_ok h1
   have hlen := hf.len
   have hln := lim_LenN hf.lim
   repeat ((conv => whnf); refine ⟨by first | (unfold inI64; omega) | omega | exact ⟨by omega, by omega⟩ | exact rfl | decide +kernel, ?_⟩)
   conv => whnf
   refine cI9 ?_ ?_<;>intro h2
   ·have h3 : prpB s = false := not_b h2
    exact absurd hc (by rw [← hR]; unfold rSetV; rw [if_neg h1', if_pos h3]; exact fun h => by cases h)
   have h3 : prpB s = true := not_f h2
   obtain ⟨k, hk⟩ : ∃ k, (begV (ns, p)).1 = k := ⟨_, rfl⟩
   have hR2 : R = if limV (setN ns k.toNat s v) = false then ([], 3) else (setN ns k.toNat s v, 0) := by
    rw [← hR]
    unfold rSetV
    rw [if_neg h1', if_neg (ne_f h3)]
    dsimp only
    rw [hk]
   rw [hk] at hk0 hk1
   repeat ((conv => whnf); refine ⟨by first | exact ⟨rfl, hln, hlen.1⟩ | (unfold inI64; omega) | omega | exact ⟨by omega, by omega⟩ | exact rfl | decide +kernel, ?_⟩)
   conv => whnf
   rw [hk]
   have hin : 0 ≤ k ∧ k < (ns.length : Nat) := ⟨hk0, hk1⟩
   have hob : 0 = 0 ∧ 0 ≤ k ∧ k < (ns.length : Nat) := ⟨rfl, hk0, hk1⟩
   have hpl : (ns.getD k.toNat ndC.dflt).2.2.length ≤ 1000000000 := by
    have hkn : k.toNat < ns.length := by omega
    have he : ns.getD k.toNat ndC.dflt = ns[k.toNat] := by simp [hkn]
    rw [he]
    exact hln.at hkn
   have hlm : (([.agg [.sl 0 ndC (ns.length - 1) ns.length]] : List AV) = [.agg [.sl 0 ndC (ns.length - 1) (setN ns k.toNat s v).length]]) ∧ [hpV (setN ns k.toNat s v) (ns.length - 1)] = [hpV (setN ns k.toNat s v) (ns.length - 1)] ∧ 0 < (setN ns k.toNat s v).length := by
    unfold setN
    rw [List.length_set]
    exact ⟨rfl, rfl, hlen.1⟩
   repeat ((conv => whnf); refine ⟨by first | exact hin | exact hob | exact ⟨rfl, hpl⟩ | exact hlm | ((conv => whnf); exact ⟨⟨rfl, rfl, rfl⟩, trivial⟩) | exact Early.one (by decide +kernel) (by (conv => whnf); exact ⟨rfl, rfl, rfl⟩) trivial | (unfold inI64; omega) | omega | exact ⟨by omega, by omega⟩ | exact rfl | decide +kernel, ?_⟩)
   conv => whnf
   refine cI9 ?_ ?_<;>intro h4
   ·have h5 : limV (setN ns k.toNat s v) = false := by
     have h6 : (!limV (setN ns k.toNat s v)) = true := h4
     exact not_b h6
    rw [if_pos h5] at hR2
    exact absurd hc (by rw [hR2]; exact fun h => by cases h)
   have h5 : limV (setN ns k.toNat s v) = true := by
    have h6 : (!limV (setN ns k.toNat s v)) = false := h4
    exact not_f h6
   rw [if_neg (ne_f h5)] at hR2
   repeat ((conv => whnf); refine ⟨by first | (unfold inI64; omega) | omega | exact ⟨by omega, by omega⟩ | exact rfl | decide +kernel, ?_⟩)
   conv => whnf
   rw [hR2]
   show Ends (.tup [.agg [.sl 0 ndC (ns.length - 1) ns.length], .c (.int .i64 0)]) [hpV (setN ns k.toNat s v) (ns.length - 1)] (.tup [.agg [.sl 0 ndC (ns.length - 1) (setN ns k.toNat s v).length], .c (.int .i64 0)]) [hpV (setN ns k.toNat s v) (ns.length - 1)]
   rw [show (setN ns k.toNat s v).length = ns.length by unfold setN; rw [List.length_set]]
   exact eR9
  ·cases hs
 ·cases hs
def C17 : Table := ext C16 38 (saysG daTSSS eaTSSS fun a => (none, treR (rSetV a)))
theorem set_len {a : List Nd × ByteArray × ByteArray × ByteArray} (h : (rSetV a).2 = 0) : 0 < (rSetV a).1.length := by
 unfold rSetV at *
 split at h
 ·rename_i h1
  exact absurd h h1
 ·rename_i h1
  rw [if_neg h1]
  split at h
  ·cases h
  ·rename_i h2
   rw [if_neg h2]
   split at h
   ·cases h
   ·rename_i h3
    rw [if_neg h3]
    show 0 < (setN _ _ _ _).length
    unfold setN
    rw [List.length_set]
    have h4 : (begV (a.1, a.2.1)).2 = 0 := Classical.not_not.1 h1
    exact (beg_ok h4).1.len.1
def saysSetF : Says := fun args H => match H with
 | [] => match daTSSS args with
  | some a => some (some (args = eaTSSS a ∧ (rSetV a).2 = 0), treR (rSetV a), [])
  | none => none
 | _ => none
theorem set_f : TS9 (ext C16 38 saysSetF) := by
 refine ext_frz2 set_ok c16 fun args H p r H' hs hp => ?_
 unfold saysSetF at hs
 split at hs
 ·split at hs
  ·rename_i a ha
   cases hs
   refine ⟨rfl, rfl, some (args = eaTSSS a ∧ (rSetV a).2 = 0), ndT, ndC, (rSetV a).1, a.1.length - 1, .v (.int .i64 (rSetV a).2), hp, set_len hp.2, ?_, rfl⟩
   unfold saysSetO
   dsimp only
   rw [ha]
  ·cases hs
 ·cases hs
theorem c17 : TS9 C17 := by
 refine ext_case set_f set_er c16 fun args H p r H' hs hp => ?_
 unfold saysG at hs
 split at hs
 ·split at hs
  ·rename_i a ha
   cases hs
   obtain ⟨h1, _⟩ := hp
   by_cases h0 : (rSetV a).2 = 0
   ·refine .inl ⟨_, ?_, by unfold saysSetF; dsimp only; rw [ha]⟩
    exact ⟨h1, h0⟩
   ·refine .inr ⟨_, ?_, by unfold saysSetE; dsimp only; rw [ha]⟩
    exact ⟨h1, h0⟩
  ·cases hs
 ·cases hs
def rPathV (a : List Nd × Int) : ByteArray := if rchk a.1 = 0 ∧ 0 ≤ a.2 ∧ a.2 < (a.1.length : Nat) then pathV a.1 a.2.toNat else ⟨#[]⟩
def C18 : Table := ext C17 19 (saysG daTI eaTI fun a => (none, .str (rPathV a)))
theorem c18 : TS9 C18 := by
 refine extG c17 19 (fn := Tryz.f19) rfl rfl daTI eaTI _ (fun _ => nB9 rfl) [0, 1, 2, 4, 18] fun a _ => ?_
 obtain ⟨ns, i⟩ := a
 dsimp only
 unfold rPathV
 repeat ((conv => whnf); refine ⟨by first | exact ⟨rfl, trivial⟩ | (unfold inI64; omega) | omega | exact ⟨by omega, by omega⟩ | exact rfl | decide +kernel, ?_⟩)
 conv => whnf
 refine cI9 ?_ ?_<;>intro h
 ·have h1 : ¬ (rchk ns = 0 ∧ 0 ≤ i ∧ i < (ns.length : Nat)) := by
   have h2 : (((!decide (rchk ns = 0)) || decide (i < 0)) || decide (((ns.length : Nat) : Int) ≤ i)) = true := h
   simp only [Bool.or_eq_true, Bool.not_eq_true', decide_eq_true_eq, decide_eq_false_iff_not] at h2
   rintro ⟨h3, h4, h5⟩
   rcases h2 with (h2 | h2) | h2
   ·exact h2 h3
   ·omega
   ·omega
  rw [if_neg h1]
  repeat ((conv => whnf); refine ⟨by first | (unfold inI64; omega) | omega | exact ⟨by omega, by omega⟩ | exact rfl | decide +kernel, ?_⟩)
  conv => whnf
  exact eR9
 have h1 : rchk ns = 0 ∧ 0 ≤ i ∧ i < (ns.length : Nat) := by
  have h2 : (((!decide (rchk ns = 0)) || decide (i < 0)) || decide (((ns.length : Nat) : Int) ≤ i)) = false := h
  simp only [Bool.or_eq_false_iff, Bool.not_eq_false', decide_eq_true_eq, decide_eq_false_iff_not] at h2
  exact ⟨h2.1.1, by omega, by omega⟩
 rw [if_pos h1]
 have hf := rchk_frm h1.1
 repeat ((conv => whnf); refine ⟨by first | exact ⟨rfl, hf, h1.2.1, h1.2.2⟩ | (unfold inI64; omega) | omega | exact ⟨by omega, by omega⟩ | exact rfl | decide +kernel, ?_⟩)
 conv => whnf
 exact eR9
def C19 : Table := ext C18 46 (saysTapeI fun zs n k => (some (tapeOk zs n ∧ k ≤ 4611686018427387904), .int .i64 (modV (rawV zs n) k), rawN zs n))
theorem c19 : TS9 C19 := ext_only t23 c18
def C20 : Table := ext C19 31 (saysTape fun zs n => (some (tapeOk zs n), .str (pickS nameL zs n), rawN zs n))
theorem c20 : TS9 C20 := ext_only t24 c19
def C21 : Table := ext C20 23 (saysTape fun zs n => (some (tapeOk zs n), .str (pickS propL zs n), rawN zs n))
theorem c21 : TS9 C21 := ext_only t25 c20
theorem rawN_ok9 {zs : List Int} {n : Int} (h : tapeOk zs n) : tapeOk zs (rawN zs n) := by
 obtain ⟨h1, h2, h3⟩ := h
 unfold rawN
 split
 ·exact ⟨h1, h2, h3⟩
 ·exact ⟨by omega, by omega, h3⟩
def badL : List ByteArray := [⟨#[]⟩, ⟨#[47, 113]⟩, ⟨#[47, 47]⟩, ⟨#[97]⟩, ⟨#[47, 97, 47]⟩]
def gpV (zs : List Int) (n : Int) (ns : List Nd) : ByteArray :=
 if modV (rawV zs n) 30 = 29 then badL.getD (modV (rawV zs (rawN zs n)) 5).toNat ⟨#[]⟩ else rPathV (ns, modV (rawV zs (rawN zs n)) (ns.length : Nat))
def saysTT (pre : List Int → Int → List Nd → Prop) (g : List Int → Int → List Nd → SV × Int) : Says := fun args H => match args, H with
 | [.c (.ptr 0 0), .agg [.p (.l c0 ns)]], [.row [.p (.l (.int .i64) zs), .p (.v (.int .i64 n))]] => match castD (e := ndC) (e' := c0) ns with
  | some ns => some (some (args = [.c (.ptr 0 0), .agg [.p (.l ndC ns)]] ∧ tapeOk zs n ∧ pre zs n ns), (g zs n ns).1, [tapeO zs (g zs n ns).2])
  | none => none
 | _, _ => none
def C22 : Table := ext C21 26 (saysTT (fun _ _ ns => ns.length ≤ 1000000000) fun zs n ns => (.str (gpV zs n ns), rawN zs (rawN zs n)))
theorem c22 : TS9 C22 := by
 refine ext_run c21 (f := 26) (fn := Tryz.f26) rfl rfl [0, 1, 3, 4, 7] fun args H p r' H' hs hp => ?_
 unfold saysTT at hs
 split at hs
 ·split at hs
  ·rename_i zs n _ ns _
   cases hs
   obtain ⟨ha, hok, hl⟩ := hp
   rw [ha]
   have hok2 := rawN_ok9 hok
   refine ⟨nB9 rfl, [0], rfl, id0, ?_⟩
   have p1 : tapeOk zs n ∧ (30 : Int) ≤ 4611686018427387904 := ⟨hok, by decide⟩
   have p2 : tapeOk zs (rawN zs n) ∧ (5 : Int) ≤ 4611686018427387904 := ⟨hok2, by decide⟩
   have p3 : tapeOk zs (rawN zs n) ∧ ((ns.length : Nat) : Int) ≤ 4611686018427387904 := ⟨hok2, by omega⟩
   have m1 := mN9 (rawV zs (rawN zs n)) 5
   have m2 := modV_lt (rawV zs (rawN zs n)) 5 (by decide)
   have p4 : 0 ≤ modV (rawV zs (rawN zs n)) 5 ∧ modV (rawV zs (rawN zs n)) 5 < ((5 : Nat) : Int) := ⟨m1, m2⟩
   repeat ((conv => whnf); refine ⟨by first | exact p1 | (unfold inI64; omega) | omega | exact ⟨by omega, by omega⟩ | exact rfl | decide +kernel, ?_⟩)
   conv => whnf
   refine cI9 ?_ ?_<;>intro h
   ·have h1 : modV (rawV zs n) 30 = 29 := oT9 h
    have eg : gpV zs n ns = badL.getD (modV (rawV zs (rawN zs n)) 5).toNat ⟨#[]⟩ := by
     unfold gpV
     rw [if_pos h1]
    repeat ((conv => whnf); refine ⟨by first | exact p2 | exact p4 | (unfold inI64; omega) | omega | exact ⟨by omega, by omega⟩ | exact rfl | decide +kernel, ?_⟩)
    conv => whnf
    show Ends _ _ (.str (gpV zs n ns)) _
    rw [eg]
    exact eR9
   have h1 : ¬ modV (rawV zs n) 30 = 29 := oF9 h
   have eg : gpV zs n ns = rPathV (ns, modV (rawV zs (rawN zs n)) (ns.length : Nat)) := by
    unfold gpV
    rw [if_neg h1]
   repeat ((conv => whnf); refine ⟨by first | exact p3 | exact ⟨rfl, trivial⟩ | (repeat ((conv => whnf); refine ⟨by ((conv => whnf); first | exact ⟨rfl, rfl, rfl⟩ | exact ⟨rfl, rfl⟩ | exact ⟨by assumption, rfl, rfl, rfl⟩), ?_⟩)); ((conv => whnf); exact trivial) | ((conv => whnf); exact ⟨⟨rfl, rfl, rfl⟩, trivial⟩) | exact Early.one (by decide +kernel) (by (conv => whnf); exact ⟨rfl, rfl, rfl⟩) trivial | (unfold inI64; omega) | omega | exact ⟨by omega, by omega⟩ | exact rfl | decide +kernel, ?_⟩)
   conv => whnf
   show Ends _ _ (.str (gpV zs n ns)) _
   rw [eg]
   exact eR9
  ·cases hs
 ·cases hs
def nm2 (zs : List Int) (n : Int) : Int := rawN zs (rawN zs n)
def gsR (zs : List Int) (n : Int) (ns : List Nd) : List Nd × Int := rAddV (ns, gpV zs n ns, pickS nameL zs (nm2 zs n))
def gsV (zs : List Int) (n : Int) (ns : List Nd) : List Nd := if (gsR zs n ns).2 = 0 then (gsR zs n ns).1 else ns
def C23 : Table := ext C22 54 (saysTT (fun _ _ ns => ns.length ≤ 1000000000) fun zs n ns => (.a (.agg [.p (.l ndC (gsV zs n ns))]), rawN zs (nm2 zs n)))
theorem c23 : TS9 C23 := by
 refine ext_run c22 (f := 54) (fn := Tryz.f54) rfl rfl [0, 1, 3, 4, 5, 6, 18] fun args H p r' H' hs hp => ?_
 unfold saysTT at hs
 split at hs
 ·split at hs
  ·rename_i zs n _ ns _
   cases hs
   obtain ⟨ha, hok, hl⟩ := hp
   rw [ha]
   have hok2 : tapeOk zs (nm2 zs n) := rawN_ok9 (rawN_ok9 hok)
   refine ⟨nB9 rfl, [0], rfl, id0, ?_⟩
   repeat ((conv => whnf); refine ⟨by first | exact ⟨rfl, hok, hl⟩ | exact hok2 | exact ⟨rfl, trivial⟩ | (repeat ((conv => whnf); refine ⟨by ((conv => whnf); first | exact ⟨rfl, rfl, rfl⟩ | exact ⟨rfl, rfl⟩ | exact ⟨by assumption, rfl, rfl, rfl⟩), ?_⟩)); ((conv => whnf); exact trivial) | ((conv => whnf); exact ⟨⟨rfl, rfl, rfl⟩, trivial⟩) | exact Early.one (by decide +kernel) (by (conv => whnf); exact ⟨rfl, rfl, rfl⟩) trivial | (unfold inI64; omega) | omega | exact ⟨by omega, by omega⟩ | exact rfl | decide +kernel, ?_⟩)
   conv => whnf
   refine cI9 ?_ ?_<;>intro h
   ·have h1 : ¬ (gsR zs n ns).2 = 0 := by
     have h2 : (!decide ((gsR zs n ns).2 = 0)) = true := h
     simpa using h2
    repeat ((conv => whnf); refine ⟨by first | (unfold inI64; omega) | omega | exact ⟨by omega, by omega⟩ | exact rfl | decide +kernel, ?_⟩)
    conv => whnf
    show Ends _ _ (.a (.agg [.p (.l ndC (gsV zs n ns))])) _
    rw [show gsV zs n ns = ns by unfold gsV; rw [if_neg h1]]
    exact eR9
   have h1 : (gsR zs n ns).2 = 0 := by
    have h2 : (!decide ((gsR zs n ns).2 = 0)) = false := h
    simpa using h2
   repeat ((conv => whnf); refine ⟨by first | (unfold inI64; omega) | omega | exact ⟨by omega, by omega⟩ | exact rfl | decide +kernel, ?_⟩)
   conv => whnf
   show Ends _ _ (.a (.agg [.p (.l ndC (gsV zs n ns))])) _
   rw [show gsV zs n ns = (gsR zs n ns).1 by unfold gsV; rw [if_pos h1]]
   exact eR9
  ·cases hs
 ·cases hs
def saysRange : Says := fun args H => match args, H with
 | [.c (.ptr 0 0), .c (.p (.v (.int .i64 lo))), .c (.p (.v (.int .i64 hi)))], [.row [.p (.l (.int .i64) zs), .p (.v (.int .i64 n))]] => some (some (tapeOk zs n ∧ 0 ≤ lo ∧ lo ≤ hi ∧ hi ≤ 4294967295), .int .i64 (lo + modV (rawV zs n) (hi - lo + 1)), [tapeO zs (rawN zs n)])
 | _, _ => none
def C24 : Table := ext C23 17 saysRange
theorem c24 : TS9 C24 := by
 refine ext_run c23 (f := 17) (fn := Tryz.f17) rfl rfl [0, 1, 2, 6] fun args H p r H' hs hp => ?_
 unfold saysRange at hs
 split at hs
 ·rename_i lo hi zs n
  cases hs
  obtain ⟨ht, h0, h1, h2⟩ := hp
  refine ⟨nB9 rfl, [0], rfl, id0, ?_⟩
  have hm0 := mN9 (rawV zs n) (hi - lo + 1)
  have hm1 := modV_lt (rawV zs n) (hi - lo + 1) (by omega)
  repeat ((conv => whnf); refine ⟨by first | exact ⟨ht, by omega⟩ | (unfold inI64; omega) | omega | exact ⟨by omega, by omega⟩ | (intro hg; first | (unfold inI64; omega) | omega | exact ⟨by omega, by omega⟩ | (simp [lit] at hg; unfold inI64; omega) | (simp [lit] at hg; omega) | (simp [lit] at hg; exact ⟨by omega, by omega⟩)) | (show (_ : Nat) + 1 ≤ 1000000000000; omega) | exact rfl | (unfold inI64; dsimp only; omega) | (dsimp only; omega) | (intro hg; simp [lit] at hg; first | (unfold inI64; dsimp only; omega) | (dsimp only; omega)) | decide +kernel, ?_⟩)
  conv => whnf
  exact eR9
 ·cases hs
def saysPick : Says := fun args H => match args, H with
 | [.c (.ptr 0 0), .c (.p (.l (.int .i64) l))], [.row [.p (.l (.int .i64) zs), .p (.v (.int .i64 n))]] => some (some (tapeOk zs n ∧ 1 ≤ (l : List Int).length ∧ (l : List Int).length ≤ 1000), .int .i64 ((l : List Int).getD (modV (rawV zs n) (l : List Int).length).toNat 0), [tapeO zs (rawN zs n)])
 | _, _ => none
def C25 : Table := ext C24 55 saysPick
theorem c25 : TS9 C25 := by
 refine ext_run c24 (f := 55) (fn := Tryz.f55) rfl rfl [0, 1, 4] fun args H p r H' hs hp => ?_
 unfold saysPick at hs
 split at hs
 ·rename_i l zs n
  cases hs
  obtain ⟨ht, h0, h1⟩ := hp
  refine ⟨nB9 rfl, [0], rfl, id0, ?_⟩
  have hm0 := mN9 (rawV zs n) (l : List Int).length
  have hm1 := modV_lt (rawV zs n) (l : List Int).length (by omega)
  repeat ((conv => whnf); refine ⟨by first | exact ⟨ht, by omega⟩ | exact ⟨hm0, hm1⟩ | (unfold inI64; omega) | omega | exact ⟨by omega, by omega⟩ | (intro hg; first | (unfold inI64; omega) | omega | exact ⟨by omega, by omega⟩ | (simp [lit] at hg; unfold inI64; omega) | (simp [lit] at hg; omega) | (simp [lit] at hg; exact ⟨by omega, by omega⟩)) | (show (_ : Nat) + 1 ≤ 1000000000000; omega) | exact rfl | (unfold inI64; dsimp only; omega) | (dsimp only; omega) | (intro hg; simp [lit] at hg; first | (unfold inI64; dsimp only; omega) | (dsimp only; omega)) | decide +kernel, ?_⟩)
  conv => whnf
  exact eR9
 ·cases hs
def tnL (zs : List Int) (n : Int) : List Int := [0, 1, 2, 3, 5, 31, 32, 0 + modV (rawV zs n) 301, 4294967295, 2147483648, 0 + modV (rawV zs (rawN zs n)) 4294967296]
def tnV (zs : List Int) (n : Int) : Int := (tnL zs n).getD (modV (rawV zs (rawN zs (rawN zs n))) 11).toNat 0
def tnN (zs : List Int) (n : Int) : Int := rawN zs (rawN zs (rawN zs n))
def C26 : Table := ext C25 80 (saysTape fun zs n => (some (tapeOk zs n), .int .i64 (tnV zs n), tnN zs n))
theorem c26 : TS9 C26 := by
 refine extTape c25 80 (fn := Tryz.f80) rfl rfl (by decide) _ [0, 2] fun zs n hn => ?_
 have hn1 : tapeOk zs n := hn
 have hn2 := rawN_ok9 hn1
 have hn3 := rawN_ok9 hn2
 repeat ((conv => whnf); refine ⟨by first | exact ⟨hn1, by decide⟩ | exact ⟨hn2, by decide⟩ | exact ⟨hn3, nB9 rfl, nB9 rfl⟩ | (unfold inI64; omega) | omega | exact ⟨by omega, by omega⟩ | (intro hg; first | (unfold inI64; omega) | omega | exact ⟨by omega, by omega⟩ | (simp [lit] at hg; unfold inI64; omega) | (simp [lit] at hg; omega) | (simp [lit] at hg; exact ⟨by omega, by omega⟩)) | (show (_ : Nat) + 1 ≤ 1000000000000; omega) | exact rfl | (unfold inI64; dsimp only; omega) | (dsimp only; omega) | (intro hg; simp [lit] at hg; first | (unfold inI64; dsimp only; omega) | (dsimp only; omega)) | decide +kernel, ?_⟩)
 conv => whnf
 exact eR9
def cel4 (n : Int) : List Int := [IntKind.u8.wrap (Int.fdiv n (2 ^ min (Int.toNat 24) IntKind.i64.bits)), IntKind.u8.wrap (Int.fdiv n (2 ^ min (Int.toNat 16) IntKind.i64.bits)), IntKind.u8.wrap (Int.fdiv n (2 ^ min (Int.toNat 8) IntKind.i64.bits)), IntKind.u8.wrap n]
def celO (l : List Int) : List Int := l.flatMap cel4
theorem celO_length (l : List Int) : (celO l).length = 4 * l.length := by
 unfold celO
 induction l with
 | nil => rfl
 | cons a l ih =>
  rw [List.flatMap_cons, zP9, ih, zC9]
  show 4 + 4 * l.length = _
  omega
def saysCls : Says := fun args H => match args, H with
 | [.c (.p (.l c0 l))], [] => (match castD (e := .int .i64) (e' := c0) l with | some l => some (some (args = [.c (.p (.l (.int .i64) l))] ∧ (l : List Int).length ≤ 1000), .str (bytesOf (celO l)), []) | none => none)
 | _, _ => none
def C27 : Table := ext C26 81 saysCls
theorem c27 : TS9 C27 := by
 refine ext_run c26 (f := 81) (fn := Tryz.f81) rfl rfl [0, 2, 3, 5, 6, 7, 8, 9] fun args H p r' H' hs hp => ?_
 unfold saysCls at hs
 split at hs
 ·split at hs
  ·rename_i l _
   cases hs
   obtain ⟨ha, hl⟩ := hp
   rw [ha]
   refine ⟨nB9 rfl, [], rfl, nK9, ?_⟩
   repeat ((conv => whnf); refine ⟨by first | (unfold inI64; omega) | omega | exact ⟨by omega, by omega⟩ | exact rfl | decide +kernel, ?_⟩)
   conv => whnf
   refine loop_weak (σ := Nat) (fun i => [(0, nX9), (2, nX9), (3, XV.s (.a (.c (.own 0 (.int .u8) (celO ((l : List Int).take i)))))), (5, nX9), (6, XV.s (.a (.c (.p (.l (.int .i64) l))))), (7, XV.s (.int .i64 ((l : List Int).length : Nat))), (8, XV.s (.int .i64 (i : Nat))), (9, nX9)])
    (fun i => [.tok 5 (.int .u8) (celO ((l : List Int).take i)).length true]) (fun i => i ≤ (l : List Int).length) (fun i => (l : List Int).length - i) 0 ?_ (nZ9 _) fun i hi => ?_
   ·refine Weak.own 5 ?_
    repeat first|exact wN9|refine wD9 ?_|refine wS9 ?_|refine wO9 ?_
   repeat ((conv => whnf); refine ⟨by first | (unfold inI64; omega) | omega | exact ⟨by omega, by omega⟩ | exact rfl | decide +kernel, ?_⟩)
   conv => whnf
   refine cI9 ?_ ?_<;>intro h
   ·have hlt := lt_of_dec h
    have hb : 0 ≤ (i : Int) ∧ (i : Int) < ((l : List Int).length : Nat) := by omega
    have hcap : (celO ((l : List Int).take i)).length + 4 ≤ capBound := by
     rw [celO_length, List.length_take]
     exact Nat.le_trans (m := 100000) (by omega) (by decide)
    have he : (l : List Int).getD i 0 = (l : List Int)[i] := by simp [hlt]
    have hnx : celO ((l : List Int).take i) ++ cel4 ((l : List Int).getD i 0) = celO ((l : List Int).take (i + 1)) := by
     unfold celO
     rw [List.take_succ_eq_append_getElem hlt, List.flatMap_append, he, List.flatMap_singleton]
    have hnl : (celO ((l : List Int).take i)).length + 4 = (celO ((l : List Int).take (i + 1))).length := by
     rw [← hnx, zP9]
     rfl
    repeat ((conv => whnf); refine ⟨by first | exact hb | exact hcap | (unfold inI64; omega) | omega | exact ⟨by omega, by omega⟩ | exact rfl | decide +kernel, ?_⟩)
    conv => whnf
    refine kI9 (i + 1) [0] rfl (nK9) ?_ ?_ hlt (by show (l : List Int).length - (i + 1) < (l : List Int).length - i; omega)
    ·show some [AO.tok _ _ ((celO ((l : List Int).take i)).length + 4) true] = _
     rw [hnl]
    ·dsimp only
     rw [← hnx]
     repeat first|exact kN9|refine kD9 ?_|refine kR9 rfl ?_
   ·obtain rfl : i = (l : List Int).length := by
     have := ge_of_dec h
     omega
    repeat ((conv => whnf); refine ⟨by first | (unfold inI64; omega) | omega | exact ⟨by omega, by omega⟩ | exact rfl | decide +kernel, ?_⟩)
    conv => whnf
    rw [List.take_length]
    exact eR9
  ·cases hs
 ·cases hs
def numGo (zs : List Int) : Nat → Int → List Int → List Int × Int
 | 0, n, l => (l, n)
 | m + 1, n, l => numGo zs m (tnN zs n) (l ++ [tnV zs n])
def bytV (zs : List Int) (n : Int) : Int := IntKind.u8.wrap (([0, 1, 65, 255, modV (rawV zs n) 256] : List Int).getD (modV (rawV zs (rawN zs n)) 5).toNat 0)
def bytGo (zs : List Int) : Nat → Int → List Int → List Int × Int
 | 0, n, b => (b, n)
 | m + 1, n, b => bytGo zs m (rawN zs (rawN zs n)) (b ++ [bytV zs n])
def valL : List ByteArray := [⟨#[97, 0]⟩, ⟨#[111, 107, 97, 121, 0]⟩, ⟨#[102, 105, 114, 115, 116, 0, 115, 101, 99, 111, 110, 100, 0]⟩, ⟨#[119, 105, 116, 104, 32, 34, 113, 117, 111, 116, 101, 34, 32, 97, 110, 100, 32, 92, 0]⟩, ⟨#[116, 97, 98, 9, 0]⟩, ⟨#[97, 98, 0, 0]⟩]
def valV (zs : List Int) (n : Int) : ByteArray × Int :=
 if modV (rawV zs n) 7 = 0 then (⟨#[]⟩, rawN zs n)
 else if modV (rawV zs n) 7 = 1 ∨ modV (rawV zs n) 7 = 2 then
  (bytesOf (celO (numGo zs (1 + modV (rawV zs (rawN zs n)) 3).toNat (rawN zs (rawN zs n)) []).1), (numGo zs (1 + modV (rawV zs (rawN zs n)) 3).toNat (rawN zs (rawN zs n)) []).2)
 else if modV (rawV zs n) 7 = 3 then (valL.getD (modV (rawV zs (rawN zs n)) 6).toNat ⟨#[]⟩, rawN zs (rawN zs n))
 else if modV (rawV zs n) 7 = 4 then (⟨#[100, 105, 115, 97, 98, 108, 101, 100, 0]⟩, rawN zs n)
 else (bytesOf (bytGo zs (modV (rawV zs (rawN zs n)) 9).toNat (rawN zs (rawN zs n)) []).1, (bytGo zs (modV (rawV zs (rawN zs n)) 9).toNat (rawN zs (rawN zs n)) []).2)
theorem tnN_ok9 {zs : List Int} {n : Int} (h : tapeOk zs n) : tapeOk zs (tnN zs n) := rawN_ok9 (rawN_ok9 (rawN_ok9 h))
def C28 : Table := ext C27 34 (saysTape fun zs n => (some (tapeOk zs n), .str (valV zs n).1, (valV zs n).2))
theorem c28 : TS9 C28 := by
 refine extTape c27 34 (fn := Tryz.f34) rfl rfl (by decide) _ [0, 2, 3, 4, 5, 6, 8, 9, 11, 17, 27, 34, 39] fun zs n hn => ?_
 have h1 : tapeOk zs n := hn
 have h2 := rawN_ok9 h1
 have h3 := rawN_ok9 h2
 dsimp only
 obtain ⟨V, hV⟩ : ∃ V, valV zs n = V := ⟨_, rfl⟩
 have hV2 := hV
 unfold valV at hV2
 rw [hV]
 obtain ⟨k, hk⟩ : ∃ k, modV (rawV zs n) 7 = k := ⟨_, rfl⟩
 rw [hk] at hV2
 have r1 := mN9 (rawV zs (rawN zs n)) 3
 have r2 := modV_lt (rawV zs (rawN zs n)) 3 (by decide)
 have q3 : tapeOk zs (rawN zs n) ∧ (0 : Int) ≤ 1 ∧ (1 : Int) ≤ 3 ∧ (3 : Int) ≤ 4294967295 := ⟨h2, by decide, by decide, by decide⟩
 have id2' : ∀ k, k < 1 → [0, 1][k]? = some k := fun k hk => id2 k (by omega)
 have q1 : tapeOk zs n ∧ (7 : Int) ≤ 4611686018427387904 := ⟨h1, by decide⟩
 repeat ((conv => whnf); refine ⟨by first | exact q1 | (unfold inI64; omega) | omega | exact ⟨by omega, by omega⟩ | exact rfl | decide +kernel, ?_⟩)
 conv => whnf
 rw [hk]
 refine cI9 ?_ ?_<;>intro e0
 ·have e0 : k = 0 := oT9 e0
  rw [if_pos e0] at hV2
  repeat ((conv => whnf); refine ⟨by first | (unfold inI64; omega) | omega | exact ⟨by omega, by omega⟩ | exact rfl | decide +kernel, ?_⟩)
  conv => whnf
  subst hV2
  exact eR9
 have e0 : ¬ k = 0 := oF9 e0
 rw [if_neg e0] at hV2
 repeat ((conv => whnf); refine ⟨by first | (unfold inI64; omega) | omega | exact ⟨by omega, by omega⟩ | exact rfl | decide +kernel, ?_⟩)
 conv => whnf
 refine cI9 ?_ ?_<;>intro e1
 ·have e1 : k = 1 := oT9 e1
  have eb : k = 1 ∨ k = 2 := .inl e1
  rw [if_pos eb] at hV2
  repeat ((conv => whnf); refine ⟨by first | exact q3 | (unfold inI64; omega) | omega | exact ⟨by omega, by omega⟩ | exact rfl | decide +kernel, ?_⟩)
  conv => whnf
  refine loop_weak (σ := Nat × Int × Int × List Int) (fun ⟨_, c, _, l⟩ => [(0, XV.s (.a (.c (.ptr 0 0)))), (2, nX9), (3, XV.s (.a (.c (.own 1 (.int .i64) l)))), (4, XV.s (.int .i64 c)), (5, nX9), (6, nX9), (8, nX9), (9, nX9), (11, nX9), (17, nX9), (27, nX9), (34, nX9), (39, nX9)])
   (fun ⟨_, _, x, l⟩ => [tapeO zs x, tokI l.length true]) (fun ⟨m, c, x, l⟩ => c = (m : Nat) ∧ tapeOk zs x ∧ l.length + m ≤ 3 ∧ numGo zs (1 + modV (rawV zs (rawN zs n)) 3).toNat (rawN zs (rawN zs n)) [] = numGo zs m x l) (fun ⟨m, _, _, _⟩ => m) ((1 + modV (rawV zs (rawN zs n)) 3).toNat, 1 + modV (rawV zs (rawN zs n)) 3, rawN zs (rawN zs n), []) ?_ ⟨by omega, h3, by show 0 + (1 + modV (rawV zs (rawN zs n)) 3).toNat ≤ 3; omega, rfl⟩ ?_
  ·refine Weak.own 3 ?_
   repeat first|exact wN9|refine wD9 ?_|refine wS9 ?_|refine wO9 ?_
  rintro ⟨m, c, x, l⟩ ⟨hc, hx, hl, hgo⟩
  repeat ((conv => whnf); refine ⟨by first | (unfold inI64; omega) | omega | exact ⟨by omega, by omega⟩ | exact rfl | decide +kernel, ?_⟩)
  conv => whnf
  refine cI9 ?_ ?_<;>intro hz
  ·have hz : 0 < c := oT9 hz
   obtain ⟨m, rfl⟩ : ∃ q, m = q + 1 := ⟨m - 1, by omega⟩
   have hcap : l.length + 1 ≤ capBound := Nat.le_trans (m := 1000) (by omega) (by decide)
   have hc1 : inI64 (c - 1) := by unfold inI64; omega
   have hll : l.length + 1 = (l ++ [tnV zs x]).length := by rw [zP9]; rfl
   repeat ((conv => whnf); refine ⟨by first | exact hx | exact hcap | exact hc1 | (unfold inI64; omega) | omega | exact ⟨by omega, by omega⟩ | exact rfl | decide +kernel, ?_⟩)
   conv => whnf
   refine kI9 (m, c - 1, tnN zs x, l ++ [tnV zs x]) [0, 1] rfl id2' ?_ ?_ ⟨by omega, tnN_ok9 hx, by rw [← hll]; omega, hgo⟩ (nS9 m)
   ·show some [AO.row _, AO.tok _ _ (l.length + 1) true] = some [AO.row _, AO.tok _ _ (l ++ [tnV zs x]).length true]
    rw [hll]
   ·repeat first|exact kN9|refine kD9 ?_|refine kR9 rfl ?_
  have hz : ¬ 0 < c := oF9 hz
  obtain rfl : m = 0 := by omega
  have hgo : numGo zs (1 + modV (rawV zs (rawN zs n)) 3).toNat (rawN zs (rawN zs n)) [] = (l, x) := hgo
  rw [hgo] at hV2
  have q4 : ([.c (.p (.l (.int .i64) l))] : List AV) = [.c (.p (.l (.int .i64) l))] ∧ l.length ≤ 1000 := ⟨rfl, by omega⟩
  repeat ((conv => whnf); refine ⟨by first | exact q4 | (unfold inI64; omega) | omega | exact ⟨by omega, by omega⟩ | exact rfl | decide +kernel, ?_⟩)
  conv => whnf
  subst hV2
  exact eR9
 have e1 : ¬ k = 1 := oF9 e1
 repeat ((conv => whnf); refine ⟨by first | (unfold inI64; omega) | omega | exact ⟨by omega, by omega⟩ | exact rfl | decide +kernel, ?_⟩)
 conv => whnf
 refine cI9 ?_ ?_<;>intro e2
 ·have e2 : k = 2 := oT9 e2
  have eb : k = 1 ∨ k = 2 := .inr e2
  rw [if_pos eb] at hV2
  repeat ((conv => whnf); refine ⟨by first | exact q3 | (unfold inI64; omega) | omega | exact ⟨by omega, by omega⟩ | exact rfl | decide +kernel, ?_⟩)
  conv => whnf
  refine loop_weak (σ := Nat × Int × Int × List Int) (fun ⟨_, c, _, l⟩ => [(0, XV.s (.a (.c (.ptr 0 0)))), (2, nX9), (3, XV.s (.a (.c (.own 1 (.int .i64) l)))), (4, XV.s (.int .i64 c)), (5, nX9), (6, nX9), (8, nX9), (9, nX9), (11, nX9), (17, nX9), (27, nX9), (34, nX9), (39, nX9)])
   (fun ⟨_, _, x, l⟩ => [tapeO zs x, tokI l.length true]) (fun ⟨m, c, x, l⟩ => c = (m : Nat) ∧ tapeOk zs x ∧ l.length + m ≤ 3 ∧ numGo zs (1 + modV (rawV zs (rawN zs n)) 3).toNat (rawN zs (rawN zs n)) [] = numGo zs m x l) (fun ⟨m, _, _, _⟩ => m) ((1 + modV (rawV zs (rawN zs n)) 3).toNat, 1 + modV (rawV zs (rawN zs n)) 3, rawN zs (rawN zs n), []) ?_ ⟨by omega, h3, by show 0 + (1 + modV (rawV zs (rawN zs n)) 3).toNat ≤ 3; omega, rfl⟩ ?_
  ·refine Weak.own 3 ?_
   repeat first|exact wN9|refine wD9 ?_|refine wS9 ?_|refine wO9 ?_
  rintro ⟨m, c, x, l⟩ ⟨hc, hx, hl, hgo⟩
  repeat ((conv => whnf); refine ⟨by first | (unfold inI64; omega) | omega | exact ⟨by omega, by omega⟩ | exact rfl | decide +kernel, ?_⟩)
  conv => whnf
  refine cI9 ?_ ?_<;>intro hz
  ·have hz : 0 < c := oT9 hz
   obtain ⟨m, rfl⟩ : ∃ q, m = q + 1 := ⟨m - 1, by omega⟩
   have hcap : l.length + 1 ≤ capBound := Nat.le_trans (m := 1000) (by omega) (by decide)
   have hc1 : inI64 (c - 1) := by unfold inI64; omega
   have hll : l.length + 1 = (l ++ [tnV zs x]).length := by rw [zP9]; rfl
   repeat ((conv => whnf); refine ⟨by first | exact hx | exact hcap | exact hc1 | (unfold inI64; omega) | omega | exact ⟨by omega, by omega⟩ | exact rfl | decide +kernel, ?_⟩)
   conv => whnf
   refine kI9 (m, c - 1, tnN zs x, l ++ [tnV zs x]) [0, 1] rfl id2' ?_ ?_ ⟨by omega, tnN_ok9 hx, by rw [← hll]; omega, hgo⟩ (nS9 m)
   ·show some [AO.row _, AO.tok _ _ (l.length + 1) true] = some [AO.row _, AO.tok _ _ (l ++ [tnV zs x]).length true]
    rw [hll]
   ·repeat first|exact kN9|refine kD9 ?_|refine kR9 rfl ?_
  have hz : ¬ 0 < c := oF9 hz
  obtain rfl : m = 0 := by omega
  have hgo : numGo zs (1 + modV (rawV zs (rawN zs n)) 3).toNat (rawN zs (rawN zs n)) [] = (l, x) := hgo
  rw [hgo] at hV2
  have q4 : ([.c (.p (.l (.int .i64) l))] : List AV) = [.c (.p (.l (.int .i64) l))] ∧ l.length ≤ 1000 := ⟨rfl, by omega⟩
  repeat ((conv => whnf); refine ⟨by first | exact q4 | (unfold inI64; omega) | omega | exact ⟨by omega, by omega⟩ | exact rfl | decide +kernel, ?_⟩)
  conv => whnf
  subst hV2
  exact eR9
 have e2 : ¬ k = 2 := oF9 e2
 have eb : ¬ (k = 1 ∨ k = 2) := fun h => h.elim e1 e2
 rw [if_neg eb] at hV2
 repeat ((conv => whnf); refine ⟨by first | (unfold inI64; omega) | omega | exact ⟨by omega, by omega⟩ | exact rfl | decide +kernel, ?_⟩)
 conv => whnf
 refine cI9 ?_ ?_<;>intro e3
 ·have e3 : k = 3 := oT9 e3
  rw [if_pos e3] at hV2
  have q5 : tapeOk zs (rawN zs n) ∧ (6 : Int) ≤ 4611686018427387904 := ⟨h2, by decide⟩
  have q6 : 0 ≤ modV (rawV zs (rawN zs n)) 6 ∧ modV (rawV zs (rawN zs n)) 6 < ((6 : Nat) : Int) := ⟨mN9 _ _, modV_lt _ _ (by decide)⟩
  repeat ((conv => whnf); refine ⟨by first | exact q5 | exact q6 | (unfold inI64; omega) | omega | exact ⟨by omega, by omega⟩ | exact rfl | decide +kernel, ?_⟩)
  conv => whnf
  subst hV2
  exact eR9
 have e3 : ¬ k = 3 := oF9 e3
 rw [if_neg e3] at hV2
 repeat ((conv => whnf); refine ⟨by first | (unfold inI64; omega) | omega | exact ⟨by omega, by omega⟩ | exact rfl | decide +kernel, ?_⟩)
 conv => whnf
 refine cI9 ?_ ?_<;>intro e4
 ·have e4 : k = 4 := oT9 e4
  rw [if_pos e4] at hV2
  repeat ((conv => whnf); refine ⟨by first | (unfold inI64; omega) | omega | exact ⟨by omega, by omega⟩ | exact rfl | decide +kernel, ?_⟩)
  conv => whnf
  subst hV2
  exact eR9
 have e4 : ¬ k = 4 := oF9 e4
 rw [if_neg e4] at hV2
 have q7 : tapeOk zs (rawN zs n) ∧ (9 : Int) ≤ 4611686018427387904 := ⟨h2, by decide⟩
 have r3 := mN9 (rawV zs (rawN zs n)) 9
 have r4 := modV_lt (rawV zs (rawN zs n)) 9 (by decide)
 repeat ((conv => whnf); refine ⟨by first | exact q7 | (unfold inI64; omega) | omega | exact ⟨by omega, by omega⟩ | exact rfl | decide +kernel, ?_⟩)
 conv => whnf
 refine loop_weak (σ := Nat × Int × Int × List Int) (fun ⟨_, c, _, l⟩ => [(0, XV.s (.a (.c (.ptr 0 0)))), (2, nX9), (3, nX9), (4, nX9), (5, XV.s (.a (.c (.own 1 (.int .u8) l)))), (6, XV.s (.int .i64 c)), (8, nX9), (9, nX9), (11, nX9), (17, nX9), (27, nX9), (34, nX9), (39, nX9)])
  (fun ⟨_, _, x, l⟩ => [tapeO zs x, .tok 5 (.int .u8) l.length true]) (fun ⟨m, c, x, l⟩ => c = (m : Nat) ∧ tapeOk zs x ∧ l.length + m ≤ 9 ∧ bytGo zs (modV (rawV zs (rawN zs n)) 9).toNat (rawN zs (rawN zs n)) [] = bytGo zs m x l) (fun ⟨m, _, _, _⟩ => m) ((modV (rawV zs (rawN zs n)) 9).toNat, modV (rawV zs (rawN zs n)) 9, rawN zs (rawN zs n), []) ?_ ⟨by omega, h3, by show 0 + (modV (rawV zs (rawN zs n)) 9).toNat ≤ 9; omega, rfl⟩ ?_
 ·refine Weak.own 5 ?_
  repeat first|exact wN9|refine wD9 ?_|refine wS9 ?_|refine wO9 ?_
 rintro ⟨m, c, x, l⟩ ⟨hc, hx, hl, hgo⟩
 repeat ((conv => whnf); refine ⟨by first | (unfold inI64; omega) | omega | exact ⟨by omega, by omega⟩ | exact rfl | decide +kernel, ?_⟩)
 conv => whnf
 refine cI9 ?_ ?_<;>intro hz
 ·have hz : 0 < c := oT9 hz
  obtain ⟨m, rfl⟩ : ∃ q, m = q + 1 := ⟨m - 1, by omega⟩
  have hx2 := rawN_ok9 hx
  have hcap : l.length + 1 ≤ capBound := Nat.le_trans (m := 1000) (by omega) (by decide)
  have hc1 : inI64 (c - 1) := by unfold inI64; omega
  have hll : l.length + 1 = (l ++ [bytV zs x]).length := by rw [zP9]; rfl
  have q8 : tapeOk zs x ∧ (256 : Int) ≤ 4611686018427387904 := ⟨hx, by decide⟩
  have q9 : tapeOk zs (rawN zs x) ∧ 1 ≤ 5 ∧ 5 ≤ 1000 := ⟨hx2, by decide, by decide⟩
  repeat ((conv => whnf); refine ⟨by first | exact q8 | exact q9 | exact hcap | exact hc1 | (unfold inI64; omega) | omega | exact ⟨by omega, by omega⟩ | exact rfl | decide +kernel, ?_⟩)
  conv => whnf
  refine kI9 (m, c - 1, rawN zs (rawN zs x), l ++ [bytV zs x]) [0, 1] rfl id2' ?_ ?_ ⟨by omega, rawN_ok9 hx2, by rw [← hll]; omega, hgo⟩ (nS9 m)
  ·show some [AO.row _, AO.tok _ _ (l.length + 1) true] = some [AO.row _, AO.tok _ _ (l ++ [bytV zs x]).length true]
   rw [hll]
  ·repeat first|exact kN9|refine kD9 ?_|refine kR9 rfl ?_
 have hz : ¬ 0 < c := oF9 hz
 obtain rfl : m = 0 := by omega
 have hgo : bytGo zs (modV (rawV zs (rawN zs n)) 9).toNat (rawN zs (rawN zs n)) [] = (l, x) := hgo
 rw [hgo] at hV2
 repeat ((conv => whnf); refine ⟨by first | (unfold inI64; omega) | omega | exact ⟨by omega, by omega⟩ | exact rfl | decide +kernel, ?_⟩)
 conv => whnf
 subst hV2
 exact eR9
end Go.Ab
