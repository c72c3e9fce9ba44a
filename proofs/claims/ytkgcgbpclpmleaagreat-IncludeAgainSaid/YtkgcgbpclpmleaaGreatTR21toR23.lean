/- The reference of package token: one token. -/
import Derived.Test.YtkgcgbpclpmleaaGreatTR20
namespace Go.Ab
open Go.Proofs
set_option linter.unusedSectionVars false
set_option maxRecDepth 100000
variable [Glob]
def nameR (l : List UInt8) : TokV × Int × Int :=
 if (dw nameB l).head? = some 58 then (if (tw wordB l).length < (tw nameB l).length then ({ kind := 5, text := B (tw nameB l) }, 0, 6) else ({ kind := 5, text := B (tw nameB l) }, ((tw nameB l).length : Int) + 1, 0))
 else ({ kind := 1, text := B (tw nameB l) }, ((tw nameB l).length : Int), 0)
def nextR (b : UInt8) (r : List UInt8) : TokV × Int × Int :=
 if (letterB (bi b) || decide (bi b = 95) || decide (bi b = 35)) = true then nameR (b :: r)
 else if digitB (bi b) = true then ({ kind := 2, value := (numR (tw wordB (b :: r))).1 }, ((tw wordB (b :: r)).length : Int), (numR (tw wordB (b :: r))).2)
 else if bi b = 34 then ({ kind := 3, text := (strL (r.length + 1) r [] 1).1.text }, ((strL (r.length + 1) r [] 1).2.1 : Int), (strL (r.length + 1) r [] 1).2.2)
 else if refH b r = true then ({ kind := 6, text := B (tw wordB r) }, ((tw wordB r).length : Int) + 1, 0)
 else if bi b = 47 ∧ 0 < slashR r then ({ kind := 7, text := B (tw slashB r) }, (slashR r : Int), 0)
 else if twoH b r = true then ({ kind := 4, text := B ((b :: r).take 2) }, 2, 0)
 else if oneP b = true then ({ kind := 4, text := B [b] }, 1, 0)
 else ({}, 0, 20)
def nextRl (l : List UInt8) : TokV × Int × Int := match l with | [] => ({}, 0, 0) | b :: r => nextR b r
def T70 : Table := ext T69 31 (saysRv fun r => (some (r.rest.size ≤ 1000000000 ∧ 0 ≤ r.file ∧ r.file < r.rest.size), cutSV (nextRl (r.rest.data.toList.drop r.file.toNat))))
theorem tw_word_name (l : List UInt8) : tw wordB (tw nameB l) = tw wordB l := by
 induction l with
 | nil => rfl
 | cons a l ih =>
  cases hn : nameB (bi a) with
  | true =>
   rw [tw_cons_pos hn]
   cases hw : wordB (bi a) with
   | true => rw [tw_cons_pos hw, tw_cons_pos hw, ih]
   | false => rw [tw_cons_neg hw, tw_cons_neg hw]
  | false =>
   rw [tw_cons_neg hn]
   have hw : wordB (bi a) = false := by
    unfold nameB at hn
    rw [Bool.or_eq_false_iff] at hn
    exact hn.1
   rw [tw_cons_neg hw]; rfl
theorem words_eq (l : List UInt8) : allB rwordB (B (tw nameB l)) = !decide ((tw wordB l).length < (tw nameB l).length) := by
 rw [allB_congr word_same, ← lead_all, leadN_B, B_size, tw_word_name]
 have h := tw_len wordB (tw nameB l)
 rw [tw_word_name] at h
 rw [← decide_not, decide_eq_decide]
 omega
theorem drop_take_tw (p : Int → Bool) (l : List UInt8) (a : Nat) : (l.take (a + (tw p (l.drop a)).length)).drop a = tw p (l.drop a) := by
 rw [List.drop_take, Nat.add_sub_cancel_left, take_tw]
theorem head58 (p : Int → Bool) (l : List UInt8) (a : Nat) (c : UInt8) : (decide ((a : Int) + ((tw p (l.drop a)).length : Int) < ((B l).size : Nat)) && decide (byteAt (B l) ((a : Int) + ((tw p (l.drop a)).length : Int)) = bi c)) = decide ((dw p (l.drop a)).head? = some c) := by
 rw [twd_head]
 generalize (tw p (l.drop a)).length = n
 have hB : (B l).size = l.length := rfl
 by_cases h : a + n < l.length
 ·rw [dT9 (by omega : (a : Int) + (n : Int) < ((B l).size : Nat)), Bool.true_and, if_pos h]
  have : byteAt (B l) ((a : Int) + (n : Int)) = bi (l.getD (a + n) 0) := rfl
  rw [this]
  have h2 := byte_dec (l.getD (a + n) 0) c
  rw [h2, decide_eq_decide, Option.some_inj]
 ·rw [dF9 (by omega : ¬ (a : Int) + (n : Int) < ((B l).size : Nat)), Bool.false_and, if_neg h]
  rfl
def seqK (M : Mach) (n : Nat) (ks : List Nat) (y : Code) (K : Exit → Env → List AO → Prop) : Exit → Env → List AO → Prop := fun ex e' H' => match ex with
 | .normal => runC M n ks y e' H' K
 | ex => K ex e' H'
theorem seq_opaque {M : Mach} {n : Nat} {ks : List Nat} {x y : Code} {e : Env} {H : List AO} {K : Exit → Env → List AO → Prop} (h : ∀ KK, KK = seqK M n ks y K → runC M n ks x e H KK) : runC M n ks (.seq x y) e H K := h _ rfl
def endK (P : Program) (rs : List ResultVar) (L : List Nat) (K : SV → List AO → Prop) : Exit → Env → List AO → Prop := fun ex e H' => match ex with
 | .normal => endA P rs L e H' K
 | .ret => endA P rs L e H' K
 | _ => False
theorem runF_opaque {M : Mach} {fn : Func} {ks L : List Nat} {args : List AV} {H : List AO} {K : SV → List AO → Prop} {c : Code} (hb : fn.body = some c) (h : ∀ KK, KK = endK M.P fn.results.toList L K → runC M fn.ntmps ks c (argEnv 0 args) H KK) : runF M fn ks L args H K := by
 unfold runF
 rw [hb]
 exact h _ rfl
def pairL : List (UInt8 × UInt8) := [(60, 60), (62, 62), (60, 61), (62, 61), (61, 61), (33, 61), (38, 38), (124, 124)]
theorem two_pair (j : Nat) (h : j < 8) : ∃ p ∈ pairL, twoL.getD j ByteArray.empty = ⟨#[p.1, p.2]⟩ := by
 have : j = 0 ∨ j = 1 ∨ j = 2 ∨ j = 3 ∨ j = 4 ∨ j = 5 ∨ j = 6 ∨ j = 7 := by omega
 rcases this with rfl | rfl | rfl | rfl | rfl | rfl | rfl | rfl
 ·exact ⟨(60, 60), by decide, rfl⟩
 ·exact ⟨(62, 62), by decide, rfl⟩
 ·exact ⟨(60, 61), by decide, rfl⟩
 ·exact ⟨(62, 61), by decide, rfl⟩
 ·exact ⟨(61, 61), by decide, rfl⟩
 ·exact ⟨(33, 61), by decide, rfl⟩
 ·exact ⟨(38, 38), by decide, rfl⟩
 ·exact ⟨(124, 124), by decide, rfl⟩
theorem pair_two {p : UInt8 × UInt8} (h : p ∈ pairL) : ∃ j, j < 8 ∧ twoL.getD j ByteArray.empty = ⟨#[p.1, p.2]⟩ := by
 simp only [pairL, List.mem_cons, List.not_mem_nil, or_false] at h
 rcases h with rfl | rfl | rfl | rfl | rfl | rfl | rfl | rfl
 ·exact ⟨0, by decide, rfl⟩
 ·exact ⟨1, by decide, rfl⟩
 ·exact ⟨2, by decide, rfl⟩
 ·exact ⟨3, by decide, rfl⟩
 ·exact ⟨4, by decide, rfl⟩
 ·exact ⟨5, by decide, rfl⟩
 ·exact ⟨6, by decide, rfl⟩
 ·exact ⟨7, by decide, rfl⟩
theorem twoP_mem (x y : UInt8) : twoP x y = true ↔ (x, y) ∈ pairL := by
 unfold twoP pairL
 exact List.contains_iff_mem
theorem amb_one (u : UInt8) : amongB (bi u) ⟨#[123, 125, 40, 41, 60, 62, 91, 93, 59, 61, 44, 43, 45, 42, 47, 37, 38, 124, 94, 126, 33, 63, 58]⟩ = oneP u := by
 have h : ∀ n : Fin 256, amongB ((n.val : Nat) : Int) ⟨#[123, 125, 40, 41, 60, 62, 91, 93, 59, 61, 44, 43, 45, 42, 47, 37, 38, 124, 94, 126, 33, 63, 58]⟩ = oneP (UInt8.ofNat n.val) := by decide +kernel
 have h2 := h ⟨u.toNat, u.toNat_lt⟩
 rw [show UInt8.ofNat (⟨u.toNat, u.toNat_lt⟩ : Fin 256).val = u from UInt8.ofNat_toNat] at h2
 exact h2
set_option maxHeartbeats 2000000 in
theorem t70 : TS9 T70 := by
 refine extRv t69 31 (fn := Tryz.f31) rfl rfl (by decide) _ [0, 1, 2, 3, 4, 5, 6, 7, 8, 9, 10, 11, 12, 13, 14, 15, 16, 17, 19, 27, 61, 66, 72, 96, 110, 149, 171, 172, 173, 174, 178, 183] fun s f li co hs => ?_
 obtain ⟨h1, h2, h3⟩ : s.size ≤ 1000000000 ∧ 0 ≤ f ∧ f < s.size := hs
 obtain ⟨a, rfl⟩ : ∃ a : Nat, f = a := ⟨f.toNat, by omega⟩
 obtain ⟨l, rfl⟩ : ∃ l, s = B l := ⟨s.data.toList, rfl⟩
 have hB : (B l).size = l.length := rfl
 have hlt : a < l.length := by omega
 have hd := drop_get hlt
 have hR : nextRl ((B l).data.toList.drop (((a : Nat) : Int)).toNat) = nextR (l.getD a 0) (l.drop (a + 1)) := by
  show nextRl (l.drop a) = _
  rw [hd]
  rfl
 show runF _ _ _ _ _ _ fun r' H'' => Ends r' H'' (cutSV (nextRl ((B l).data.toList.drop (((a : Nat) : Int)).toNat))) []
 rw [hR]
 have hb : byteAt (B l) (a : Int) = bi (l.getD a 0) := rfl
 have hrn : runV (B l) (a : Int) true = ((tw nameB (l.drop a)).length : Int) := rfl
 have hrw : runV (B l) (a : Int) false = ((tw wordB (l.drop a)).length : Int) := rfl
 have hln := twd_le nameB l a
 have hlw := twd_le wordB l a
 generalize hbe : l.getD a 0 = b at hb hd
 generalize hre : l.drop (a + 1) = q at hd
 have hql : q.length + a + 1 = l.length := by rw [← hre, List.length_drop]; omega
 rw [hd] at hrn hrw hln hlw
 have e58 : (decide ((a : Int) + runV (B l) (a : Int) true < ((B l).size : Nat)) && decide (byteAt (B l) ((a : Int) + runV (B l) (a : Int) true) = 58)) = decide ((dw nameB (b :: q)).head? = some 58) := by
  rw [hrn, ← hd]
  exact head58 nameB l a 58
 have eT : (B l).extract (((a : Nat) : Int)).toNat ((a : Int) + runV (B l) (a : Int) true).toNat = B (tw nameB (b :: q)) := by
  rw [hrn, B_extract, ← hd]
  show B ((l.take (((a : Int) + (((tw nameB (l.drop a)).length : Nat) : Int)).toNat)).drop a) = _
  rw [show ((a : Int) + (((tw nameB (l.drop a)).length : Nat) : Int)).toNat = a + (tw nameB (l.drop a)).length by omega, drop_take_tw]
 have eN : (B l).extract (((a : Nat) : Int)).toNat ((a : Int) + runV (B l) (a : Int) false).toNat = B (tw wordB (b :: q)) := by
  rw [hrw, B_extract, ← hd]
  show B ((l.take (((a : Int) + (((tw wordB (l.drop a)).length : Nat) : Int)).toNat)).drop a) = _
  rw [show ((a : Int) + (((tw wordB (l.drop a)).length : Nat) : Int)).toNat = a + (tw wordB (l.drop a)).length by omega, drop_take_tw]
 have e38 : (decide (bi b = 38) && decide ((a : Int) + 1 < ((B l).size : Nat)) && (letterB (byteAt (B l) ((a : Int) + 1)) || decide (byteAt (B l) ((a : Int) + 1) = 95))) = refH b q := by
  unfold refH
  have hb1 : byteAt (B l) ((a : Int) + 1) = bi (l.getD (a + 1) 0) := rfl
  have hbd : decide (bi b = 38) = decide (b = 38) := byte_dec b 38
  rw [hb1, hbd]
  cases q with
  | nil =>
   simp only [zN9] at hql
   rw [dF9 (by omega : ¬ (a : Int) + 1 < ((B l).size : Nat))]
   simp
  | cons c r =>
   simp only [zC9] at hql
   rw [dT9 (by omega : (a : Int) + 1 < ((B l).size : Nat)), Bool.and_true]
   have hc : l.getD (a + 1) 0 = c := by
    have := drop_get (l := l) (i := a + 1) (by omega)
    rw [hre] at this
    exact (List.cons.inj this).1.symm
   rw [hc]
   rfl
 have hrq : runV (B l) ((a : Int) + 1) false = ((tw wordB q).length : Int) := by rw [← hre]; rfl
 have hlq : (tw wordB q).length ≤ q.length := by have := tw_len wordB q; omega
 have eQ : (B l).extract ((a : Int) + 1).toNat ((a : Int) + 1 + runV (B l) ((a : Int) + 1) false).toNat = B (tw wordB q) := by
  rw [hrq, B_extract, ← hre]
  show B ((l.take (((a : Int) + 1 + (((tw wordB (l.drop (a + 1))).length : Nat) : Int)).toNat)).drop ((a : Int) + 1).toNat) = _
  rw [show ((a : Int) + 1 + (((tw wordB (l.drop (a + 1))).length : Nat) : Int)).toNat = (a + 1) + (tw wordB (l.drop (a + 1))).length by omega, show ((a : Int) + 1).toNat = a + 1 by omega, drop_take_tw]
 have hslash : ((slashR ((B l).data.toList.drop ((((a : Nat) : Int)).toNat + 1)) : Nat) : Int) = (slashR q : Int) := by rw [← hre]; rfl
 refine runF_opaque rfl fun K0 hK0 => ?_
 refine seq_opaque fun K1 hK1 => ?_
 conv => whnf
 rw [hK1]
 show runC _ _ _ (.seq _ _) _ _ _
 refine seq_opaque fun K2 hK2 => ?_
 repeat ((conv => whnf); refine ⟨rfl, ?_⟩)
 conv => whnf
 rw [hK2]
 show runC _ _ _ (.seq _ _) _ _ _
 refine seq_opaque fun K3 hK3 => ?_
 repeat ((conv => whnf); refine ⟨by omega, ?_⟩)
 conv => whnf
 rw [hb, hK3]
 show runC _ _ _ (.seq _ _) _ _ _
 refine seq_opaque fun KB hKB => ?_
 conv => whnf
 refine cI9 ?_ ?_<;>intro g1
 ·have hX : nextR b q = nameR (b :: q) := by rw [nextR, if_pos g1]
  rw [hX] at hK0
  repeat ((conv => whnf); refine ⟨by first | exact ⟨h1, h2, by omega⟩ | (unfold inI64; omega) | omega | (intro hg; first | (unfold inI64; omega) | omega | exact ⟨by omega, by omega⟩ | (simp [lit] at hg; unfold inI64; omega) | (simp [lit] at hg; omega) | (simp [lit] at hg; exact ⟨by omega, by omega⟩)), ?_⟩)
  conv => whnf
  refine cI9 ?_ ?_<;>intro g2
  ·have g2' : (dw nameB (b :: q)).head? = some 58 := oT9 (e58.symm.trans g2)
   rw [eT]
   generalize hw : B (tw nameB (b :: q)) = X
   have hwe : allB rwordB X = !decide ((tw wordB (b :: q)).length < (tw nameB (b :: q)).length) := by rw [← hw]; exact words_eq (b :: q)
   have hfit : X.size ≤ 1000000000 := by rw [← hw, B_size]; omega
   generalize hn : runV (B l) (a : Int) true = n at hrn
   repeat ((conv => whnf); refine ⟨hfit, ?_⟩)
   conv => whnf
   refine cI9 ?_ ?_<;>intro g3
   ·have g3' : (tw wordB (b :: q)).length < (tw nameB (b :: q)).length := by rw [hwe] at g3; simpa using g3
    conv => whnf
    rw [hKB]
    conv => whnf
    rw [hK0]
    conv => whnf
    refine eT9 ?_
    rw [nameR, if_pos g2', if_pos g3', hw]
    rfl
   ·have g3' : ¬ (tw wordB (b :: q)).length < (tw nameB (b :: q)).length := by rw [hwe] at g3; simpa using g3
    repeat ((conv => whnf); refine ⟨by (unfold inI64; omega), ?_⟩)
    conv => whnf
    rw [hKB]
    conv => whnf
    rw [hK0]
    conv => whnf
    refine eT9 ?_
    rw [nameR, if_pos g2', if_neg g3', hw, ← hrn]
    rfl
  ·have g2' : ¬ (dw nameB (b :: q)).head? = some 58 := oF9 (e58.symm.trans g2)
   rw [eT]
   conv => whnf
   rw [hKB]
   conv => whnf
   rw [hK0]
   conv => whnf
   refine eT9 ?_
   rw [nameR, if_neg g2', hrn]
   rfl
 have n1 : ¬ (letterB (bi b) || decide (bi b = 95) || decide (bi b = 35)) = true := by rw [g1]; decide
 conv => whnf
 refine cI9 ?_ ?_<;>intro g2
 ·have g2' : digitB (bi b) = true := g2
  have hX : nextR b q = ({ kind := 2, value := (numR (tw wordB (b :: q))).1 }, ((tw wordB (b :: q)).length : Int), (numR (tw wordB (b :: q))).2) := by rw [nextR, if_neg n1, if_pos g2']
  rw [hX] at hK0
  repeat ((conv => whnf); refine ⟨by first | exact ⟨h1, h2, by omega⟩ | exact Nat.le_trans (by rw [eN, B_size]; omega) h1 | (unfold inI64; omega) | omega, ?_⟩)
  conv => whnf
  rw [hKB]
  conv => whnf
  rw [hK0]
  conv => whnf
  refine eT9 ?_
  rw [eN, hrw]
  rfl
 have n2 : ¬ digitB (bi b) = true := by have : digitB (bi b) = false := g2
                                        rw [this]; decide
 conv => whnf
 refine cI9 ?_ ?_<;>intro g3
 ·have g3' : bi b = 34 := oT9 g3
  have hX : nextR b q = ({ kind := 3, text := (strL (q.length + 1) q [] 1).1.text }, ((strL (q.length + 1) q [] 1).2.1 : Int), (strL (q.length + 1) q [] 1).2.2) := by rw [nextR, if_neg n1, if_neg n2, if_pos g3']
  rw [hX] at hK0
  have hT : textR (B l).data.toList (((a : Nat) : Int)).toNat = strL (q.length + 1) q [] 1 := by
   show textR l a = _
   rw [textR, hre]
  repeat ((conv => whnf); refine ⟨⟨h1, h2, h3⟩, ?_⟩)
  conv => whnf
  rw [hKB]
  conv => whnf
  rw [hK0]
  conv => whnf
  refine eT9 ?_
  rw [hT]
  rfl
 have n3 : ¬ bi b = 34 := oF9 g3
 repeat ((conv => whnf); refine ⟨by first | (unfold inI64; omega) | (intro hg; first | (unfold inI64; omega) | omega | exact ⟨by omega, by omega⟩ | (simp [lit] at hg; unfold inI64; omega) | (simp [lit] at hg; omega) | (simp [lit] at hg; exact ⟨by omega, by omega⟩)), ?_⟩)
 conv => whnf
 refine cI9 ?_ ?_<;>intro g4
 ·have g4' : refH b q = true := e38.symm.trans g4
  have hX : nextR b q = ({ kind := 6, text := B (tw wordB q) }, ((tw wordB q).length : Int) + 1, 0) := by rw [nextR, if_neg n1, if_neg n2, if_neg n3, if_pos g4']
  rw [hX] at hK0
  repeat ((conv => whnf); refine ⟨by first | exact ⟨h1, by omega, by omega⟩ | (unfold inI64; omega) | omega, ?_⟩)
  conv => whnf
  rw [hKB]
  conv => whnf
  rw [hK0]
  conv => whnf
  refine eT9 ?_
  rw [eQ, hrq]
  rfl
 have n4 : ¬ refH b q = true := by rw [← e38, g4]; decide
 repeat ((conv => whnf); refine ⟨by (intro hg; exact ⟨h1, h2, h3⟩), ?_⟩)
 conv => whnf
 refine cI9 ?_ ?_<;>intro g5
 ·have g5' : bi b = 47 ∧ 0 < slashR q := by
   rw [Bool.and_eq_true, decide_eq_true_eq, decide_eq_true_eq] at g5
   have g6 : (0 : Int) < (slashR q : Int) := by rw [← hslash]; exact g5.2
   exact ⟨g5.1, by omega⟩
  have hX : nextR b q = ({ kind := 7, text := B (tw slashB q) }, (slashR q : Int), 0) := by rw [nextR, if_neg n1, if_neg n2, if_neg n3, if_neg n4, if_pos g5']
  rw [hX] at hK0
  have hsl : slashR q = (tw slashB q).length + 2 ∧ (tw slashB q).length + 1 ≤ q.length := by
   have h6 := g5'.2
   have h7 := tw_len slashB q
   unfold slashR at h6 ⊢
   split at h6
   ·rename_i h8
    refine ⟨by rw [if_pos h8], ?_⟩
    cases hdw : dw slashB q with
    | nil => rw [hdw] at h8; cases h8.2
    | cons x y => rw [hdw, zC9] at h7; omega
   ·omega
  have eS : (B l).extract ((a : Int) + 1).toNat ((a : Int) + ((slashR ((B l).data.toList.drop ((((a : Nat) : Int)).toNat + 1)) : Nat) : Int) - 1).toNat = B (tw slashB q) := by
   rw [hslash, hsl.1, B_extract, ← hre]
   rw [show ((a : Int) + (((tw slashB (l.drop (a + 1))).length + 2 : Nat) : Int) - 1).toNat = (a + 1) + (tw slashB (l.drop (a + 1))).length by omega, show ((a : Int) + 1).toNat = a + 1 by omega, drop_take_tw]
  repeat ((conv => whnf); refine ⟨by first | exact ⟨h1, h2, h3⟩ | (unfold inI64; omega) | omega, ?_⟩)
  conv => whnf
  rw [hKB]
  conv => whnf
  rw [hK0]
  conv => whnf
  refine eT9 ?_
  rw [eS, hslash]
  rfl
 ·have n5 : ¬ (bi b = 47 ∧ 0 < slashR q) := by
   rintro ⟨g6, g7⟩
   rw [hslash, dT9 g6, dT9 (by omega : (0 : Int) < (slashR q : Int))] at g5
   cases g5
  conv => whnf
  rw [hKB]
  conv => whnf
  have hst : ∀ p : UInt8 × UInt8, startV ⟨B l, (a : Int), li, co⟩ ⟨#[p.1, p.2]⟩ = decide (b = p.1 ∧ q.head? = some p.2) := fun p => by
   rw [start2 l a li co p.1 p.2 (by omega), hd, decide_eq_decide, List.head?_cons, Option.some_inj]
   rfl
  refine lI9 (σ := Nat) (fun j => [(0, nX9), (1, XV.s (.a (.c (.ptr 0 0)))), (2, XV.s (.a (.c (.ptr 1 0)))), (3, nX9), (4, nX9), (5, XV.s (SV.str (B l))), (6, XV.s (.int .i64 a)), (7, XV.s (.int .u8 (bi b))), (8, nX9), (9, nX9), (10, nX9), (11, nX9), (12, nX9), (13, nX9), (14, nX9), (15, nX9), (16, nX9), (17, nX9), (19, nX9), (27, nX9), (61, nX9), (66, nX9), (72, nX9), (96, nX9), (110, nX9), (149, nX9), (171, XV.s (.a (.c (.own 2 .str twoL)))), (172, XV.s (.int .i64 8)), (173, XV.s (.int .i64 j)), (174, nX9), (178, nX9), (183, nX9)])
   (fun _ => [.row [.str (B l), .int .i64 a, .int .i64 li, .int .i64 co], .row [.int .i64 0, .str ⟨#[]⟩, .int .i64 0, .int .i64 0, .int .i64 0, .int .i64 0], .tok 9 .str 8 false])
   (fun j => j ≤ 8 ∧ ∀ k, k < j → startV ⟨B l, (a : Int), li, co⟩ (twoL.getD k ByteArray.empty) = false) (fun j => 8 - j) 0 ?_ rfl ⟨nZ9 _, nK9⟩ fun j hI => ?_
  ·repeat first|exact lN9|refine lD9 ?_|refine lS9 ?_
  obtain ⟨hj, hno⟩ := hI
  have hl8 : twoL.length = 8 := rfl
  conv => whnf
  refine cI9 ?_ ?_<;>intro g6
  ·have hlt8 : j < 8 := by have : (j : Int) < 8 := oT9 g6
                           omega
   obtain ⟨p, hp, hpt⟩ := two_pair j hlt8
   have h3' : (a : Int) ≤ ((B l).size : Nat) := by omega
   have hsz2 : (twoL.getD ((j : Int)).toNat CT.str.dflt).size ≤ 1000 := by rw [show twoL.getD ((j : Int)).toNat CT.str.dflt = ⟨#[p.1, p.2]⟩ from hpt]; show (2 : Nat) ≤ 1000; decide
   have hpt' : twoL.getD ((j : Int)).toNat CT.str.dflt = ⟨#[p.1, p.2]⟩ := hpt
   repeat ((conv => whnf); refine ⟨by first | exact ⟨by omega, by omega⟩ | exact ⟨h1, h2, h3', hsz2⟩, ?_⟩)
   conv => whnf
   rw [hpt', hst p]
   refine cI9 ?_ ?_<;>intro g7
   ·have g7' : b = p.1 ∧ q.head? = some p.2 := oT9 g7
    obtain ⟨c, r, hq⟩ : ∃ c r, q = c :: r := by
     cases q with
     | nil => cases g7'.2
     | cons c r => exact ⟨c, r, rfl⟩
    have hc : c = p.2 := by rw [hq] at g7'; simpa using g7'.2
    have n6 : twoH b q = true := by
     rw [hq]
     show twoP b c = true
     rw [twoP_mem, g7'.1, hc]
     exact hp
    have hX : nextR b q = ({ kind := 4, text := B ((b :: q).take 2) }, 2, 0) := by rw [nextR, if_neg n1, if_neg n2, if_neg n3, if_neg n4, if_neg n5, if_pos n6]
    rw [hX] at hK0
    conv => whnf
    rw [hK0]
    conv => whnf
    refine eT9 ?_
    rw [hq, g7'.1, hc]
    rfl
   ·repeat ((conv => whnf); refine ⟨by (unfold inI64; omega), ?_⟩)
    conv => whnf
    refine hI9 (j + 1) ?_ rfl ⟨by omega, fun k hk => ?_⟩ ?_
    ·repeat first|exact lN9|refine lD9 ?_|refine lS9 ?_
    ·rcases Nat.lt_succ_iff_lt_or_eq.1 hk with h4 | rfl
     ·exact hno k h4
     ·rw [hpt, hst p]; exact g7
    ·show 8 - (j + 1) < 8 - j
     omega
  ·have hj8 : j = 8 := by have : ¬ (j : Int) < 8 := oF9 g6
                          omega
   subst hj8
   have n6 : ¬ twoH b q = true := fun h6 => by
    cases q with
    | nil => cases h6
    | cons c r =>
     obtain ⟨k, hk, hkt⟩ := pair_two ((twoP_mem b c).1 h6)
     have h7 := hno k hk
     rw [hkt, hst (b, c)] at h7
     exact oF9 h7 ⟨rfl, rfl⟩
   repeat ((conv => whnf); refine ⟨Nat.le_trans (show (23 : Nat) ≤ 1000000000 by decide) (nR9 _), ?_⟩)
   conv => whnf
   rw [amb_one b]
   refine cI9 ?_ ?_<;>intro g8
   ·have hX : nextR b q = ({ kind := 4, text := B [b] }, 1, 0) := by rw [nextR, if_neg n1, if_neg n2, if_neg n3, if_neg n4, if_neg n5, if_neg n6, if_pos g8]
    rw [hX] at hK0
    have eO : (B l).extract (((a : Nat) : Int)).toNat ((a : Int) + 1).toNat = B [b] := by
     rw [B_extract]
     rw [show ((a : Int) + 1).toNat = a + 1 by omega, Int.toNat_natCast, List.drop_take, hd, Nat.add_sub_cancel_left]
     rfl
    repeat ((conv => whnf); refine ⟨by first | (unfold inI64; omega) | omega, ?_⟩)
    conv => whnf
    rw [hK0]
    conv => whnf
    refine eT9 ?_
    rw [eO]
    rfl
   ·have hX : nextR b q = ({}, 0, 20) := by rw [nextR, if_neg n1, if_neg n2, if_neg n3, if_neg n4, if_neg n5, if_neg n6, if_neg (by rw [g8]; decide)]
    rw [hX] at hK0
    conv => whnf
    rw [hK0]
    conv => whnf
    exact eR9
theorem skipL_suffix : ∀ (k : Nat) (l : List UInt8) (p : Int × Int), ∃ m, m ≤ l.length ∧ (skipL k l p).2.1 = l.drop m ∧ (skipL k l p).2.2 = posL (l.take m) p
 | 0, l, p => ⟨0, nZ9 _, rfl, rfl⟩
 | k + 1, l, p => by
  simp only [skipL]
  split
  ·exact ⟨0, nZ9 _, rfl, rfl⟩
  ·obtain ⟨m, h1, h2, h3⟩ := skipL_suffix k (l.drop (sepL l).1) (posL (l.take (sepL l).1) p)
   have hle := sepL_le l
   rw [List.length_drop] at h1
   refine ⟨(sepL l).1 + m, by omega, ?_, ?_⟩
   ·rw [h2, List.drop_drop]
   ·rw [h3, List.take_add, posL_append]
theorem skipA_suffix (l : List UInt8) (p : Int × Int) : ∃ m, m ≤ l.length ∧ (skipA l p).2.1 = l.drop m ∧ (skipA l p).2.2 = posL (l.take m) p := skipL_suffix _ l p
theorem skipR_eq (l : List UInt8) (i : Nat) (x y : Int) (hi : i ≤ l.length) : ∃ m, i + m ≤ l.length ∧ (skipA (l.drop i) (x, y)).2.1 = l.drop (i + m) ∧ (skipA (l.drop i) (x, y)).2.2 = posL ((l.drop i).take m) (x, y) ∧
  skipR ⟨B l, (i : Int), x, y⟩ = ((skipA (l.drop i) (x, y)).1, ⟨B l, ((i + m : Nat) : Int), (posL ((l.drop i).take m) (x, y)).1, (posL ((l.drop i).take m) (x, y)).2⟩) := by
 obtain ⟨m, h1, h2, h3⟩ := skipA_suffix (l.drop i) (x, y)
 rw [List.length_drop] at h1
 rw [List.drop_drop] at h2
 refine ⟨m, by omega, h2, h3, ?_⟩
 show ((skipA (l.drop i) (x, y)).1, RdV.mk (B l) (((B l).size : Int) - ((skipA (l.drop i) (x, y)).2.1.length : Nat)) (skipA (l.drop i) (x, y)).2.2.1 (skipA (l.drop i) (x, y)).2.2.2) = _
 rw [h2, h3, List.length_drop, B_size, show ((l.length : Nat) : Int) - ((l.length - (i + m) : Nat) : Int) = ((i + m : Nat) : Int) by omega]
theorem first_or (b : UInt8) : (letterB (bi b) || decide (bi b = 95) || decide (bi b = 35)) = (firstB (bi b) || decide (b = 35)) := by
 have h : decide (bi b = 35) = decide (b = 35) := byte_dec b 35
 rw [h]; rfl
theorem slash_word (b : UInt8) (q : List UInt8) (hb : b = 47) : wordL (b :: q) = slashR q := by
 unfold wordL slashR
 subst hb
 simp
theorem strL_shape : ∀ (k : Nat) (l : List UInt8) (out : List Int) (n : Nat), (strL k l out n).2.2 = 0 → ({ kind := 3, text := (strL k l out n).1.text } : TokV) = (strL k l out n).1
 | 0, l, out, n, h => absurd h (by simp only [strL]; decide)
 | k + 1, l, out, n, h => by
  simp only [strL] at h ⊢
  split at h
  ·exact absurd h (by decide)
  ·rename_i a r
   split at h
   ·exact absurd h (by decide)
   ·rename_i h1
    rw [if_neg h1]
    split at h
    ·rename_i h2; rw [if_pos h2]
    ·rename_i h2
     rw [if_neg h2]
     split at h
     ·rename_i h3
      rw [if_pos h3]
      split at h
      ·rename_i h4; rw [if_pos h4]; exact strL_shape k _ _ _ h
      ·rename_i h4; exact absurd h h4
     ·rename_i h3; rw [if_neg h3]; exact strL_shape k _ _ _ h
theorem next_cut (b : UInt8) (q : List UInt8) : (nextR b q).2.2 = (cutC b q).2.2 ∧ ((cutC b q).2.2 = 0 → nextR b q = ((cutC b q).1, ((cutC b q).2.1 : Int), 0)) := by
 unfold nextR cutC
 rw [first_or]
 by_cases h1 : (firstB (bi b) || decide (b = 35)) = true
 ·rw [if_pos h1, if_pos h1]
  unfold nameR nameLx
  split
  ·split
   ·exact ⟨rfl, fun h => absurd h (by decide)⟩
   ·exact ⟨rfl, fun _ => by simp only [Int.natCast_add]; rfl⟩
  ·exact ⟨rfl, fun _ => rfl⟩
 rw [if_neg h1, if_neg h1]
 by_cases h2 : digitB (bi b) = true
 ·rw [if_pos h2, if_pos h2]
  unfold numLx numR
  split
  ·rename_i h3
   exact ⟨h3, fun _ => by rw [h3]⟩
  ·rename_i h3
   exact ⟨rfl, fun h => absurd h h3⟩
 rw [if_neg h2, if_neg h2]
 have e34 : (bi b = 34) = (b = 34) := byte_iff b 34
 by_cases h3 : b = 34
 ·rw [if_pos (e34 ▸ h3), if_pos h3]
  refine ⟨rfl, fun h => ?_⟩
  have hs := strL_shape (q.length + 1) q [] 1 h
  rw [h]
  generalize strL (q.length + 1) q [] 1 = z at hs
  rw [← hs]
 rw [if_neg (fun h => h3 (e34 ▸ h)), if_neg h3]
 by_cases h4 : refH b q = true
 ·rw [if_pos h4, if_pos h4]
  exact ⟨rfl, fun _ => by simp only [Int.natCast_add]; rfl⟩
 rw [if_neg h4, if_neg h4]
 have e47 : (bi b = 47) = (b = 47) := byte_iff b 47
 by_cases h5 : 0 < wordL (b :: q)
 ·have hb : b = 47 := by
   unfold wordL at h5
   split at h5
   ·rename_i h6; simpa using h6.1
   ·omega
  have hw := slash_word b q hb
  rw [if_pos ⟨e47 ▸ hb, by omega⟩, if_pos h5, hw]
  exact ⟨rfl, fun _ => rfl⟩
 rw [if_neg (fun h => h5 (by rw [slash_word b q (e47 ▸ h.1)]; exact h.2)), if_neg h5]
 unfold signL
 by_cases h6 : twoH b q = true
 ·rw [if_pos h6, if_pos h6, if_pos (by decide)]
  exact ⟨rfl, fun _ => rfl⟩
 rw [if_neg h6, if_neg h6]
 by_cases h7 : oneP b = true
 ·rw [if_pos h7, if_pos h7, if_pos (by decide)]
  exact ⟨rfl, fun _ => rfl⟩
 rw [if_neg h7, if_neg h7, if_neg (by decide)]
 exact ⟨rfl, fun h => absurd h (by decide)⟩
theorem readL_err (f : Int) (k : Nat) (l : List UInt8) (p : Int × Int) (zs : List tokC.den) (h : ¬ (skipA l p).1 = 0) : readL f k l p zs = ⟨[], f, (skipA l p).2.2.1, (skipA l p).2.2.2, (skipA l p).1⟩ := by
 cases k with
 | zero => simp only [readL]; rw [if_neg h]
 | succ k => simp only [readL]; rw [if_neg h]
theorem readL_many (f : Int) (l : List UInt8) (p : Int × Int) (zs : List tokC.den) (h : (skipA l p).1 = 0) : readL f 0 l p zs = ⟨[], f, (skipA l p).2.2.1, (skipA l p).2.2.2, 3⟩ := by
 simp only [readL]; rw [if_pos h]
theorem readL_next (f : Int) (k : Nat) (l : List UInt8) (p : Int × Int) (zs : List tokC.den) (h : (skipA l p).1 = 0) : readL f (k + 1) l p zs = if (cutL (skipA l p).2.1).2.2 = 0 then
        if (cutL (skipA l p).2.1).1.kind = 8 then ⟨zs ++ [tokD (cutL (skipA l p).2.1).1 f (skipA l p).2.2], 0, 0, 0, 0⟩
        else readL f k ((skipA l p).2.1.drop (cutL (skipA l p).2.1).2.1) (posL ((skipA l p).2.1.take (cutL (skipA l p).2.1).2.1) (skipA l p).2.2) (zs ++ [tokD (cutL (skipA l p).2.1).1 f (skipA l p).2.2])
   else ⟨[], f, (skipA l p).2.2.1, (skipA l p).2.2.2, (cutL (skipA l p).2.1).2.2⟩ := by
 simp only [readL]; rw [if_pos h]
theorem opaqueC {M : Mach} {n : Nat} {ks : List Nat} {c : Code} {e : Env} {H : List AO} {K : Exit → Env → List AO → Prop} (h : ∀ KK, KK = K → runC M n ks c e H KK) : runC M n ks c e H K := h K rfl
def T71 : Table := ext T70 23 (saysSI fun s f => (none, (readV s f).sv))
set_option maxHeartbeats 2000000 in
theorem t71 : TS9 T71 := by
 refine extSI t70 23 (fn := Tryz.f23) rfl rfl (by decide) _ [0, 1, 4, 5, 6, 7, 8, 9, 10, 11, 12, 15, 27, 32, 39, 53] fun s f _ => ?_
 obtain ⟨l, rfl⟩ : ∃ l, s = B l := ⟨s.data.toList, rfl⟩
 have hB : (B l).size = l.length := rfl
 refine runF_opaque rfl fun K0 hK0 => ?_
 conv => whnf
 refine cI9 ?_ ?_<;>intro h
 ·have h' : 16000 < ((B l).size : Int) := oT9 h
  conv => whnf
  rw [hK0]
  conv => whnf
  refine eO9 (fun G v hv => ?_) rfl
  have := nil_sle tokC G v hv
  show RepS G (readV (B l) f).sv v
  rw [readV, if_pos h']
  exact this
 have h' : ¬ 16000 < ((B l).size : Int) := oF9 h
 have hV : readV (B l) f = readL f 6000 l (1, 1) [] := readV_L l f (by omega)
 conv => whnf
 refine loop_weak (σ := Nat × Nat × Int × Int × List tokC.den) (fun ⟨_, _, _, _, zs⟩ => [(0, XV.s (SV.str (B l))), (1, XV.s (.int .i64 f)), (4, nX9), (5, XV.s (.a (.c (.ptr 0 0)))), (6, nX9), (7, XV.s (.a (.c (.ptr 1 0)))), (8, XV.s (.a (.c (.own 2 tokC zs)))), (9, nX9), (10, nX9), (11, nX9), (12, nX9), (15, nX9), (27, nX9), (32, nX9), (39, nX9), (53, nX9)])
  (fun ⟨_, i, x, y, zs⟩ => [.row [.int .i64 0, .int .i64 0, .int .i64 0], .row [.str (B l), .int .i64 (i : Int), .int .i64 x, .int .i64 y], .tok 69 tokC zs.length true])
  (fun ⟨k, i, x, y, zs⟩ => RrOk ⟨B l, (i : Int), x, y⟩ ∧ zs.length + k = 6000 ∧ readL f k (l.drop i) (x, y) zs = readL f 6000 l (1, 1) []) (fun ⟨k, _, _, _, _⟩ => k) (6000, 0, 1, 1, []) ?_ ?_ fun ⟨k, i, x, y, zs⟩ hI => ?_
 ·refine Weak.own 69 ?_
  repeat first|exact wN9|refine wD9 ?_|refine wS9 ?_|refine wO9 ?_
 ·exact ⟨⟨by show (B l).size ≤ _; omega, Int.le_refl _, by show (0 : Int) ≤ ((B l).size : Nat); omega, by show (0 : Int) ≤ 1; decide, by show (1 : Int) + ((B l).size : Nat) ≤ 1000000000000 + 0; omega, by show (0 : Int) ≤ 1; decide, by show (1 : Int) + ((B l).size : Nat) ≤ 1000000000000 + 0; omega⟩, rfl, rfl⟩
 obtain ⟨hq, hk, hgo⟩ := hI
 have hil : i ≤ l.length := by have := hq.2.2.1; simp only at this; omega
 obtain ⟨m, hm1, hm2, hm3, hsk⟩ := skipR_eq l i x y hil
 have hqm := stepR_ok m hq hm1
 generalize hpx : (posL ((l.drop i).take m) (x, y)).1 = px at hsk hqm
 generalize hpy : (posL ((l.drop i).take m) (x, y)).2 = py at hsk hqm
 have hm3' : (skipA (l.drop i) (x, y)).2.2 = (px, py) := by rw [hm3, ← hpx, ← hpy]
 generalize hse : (skipA (l.drop i) (x, y)).1 = se at hsk
 generalize hj : i + m = j at hm1 hm2 hsk hqm
 show runC _ _ _ _ _ _ _
 refine opaqueC fun KL hKL => ?_
 repeat ((conv => whnf); refine ⟨hq, ?_⟩)
 conv => whnf
 dsimp only
 rw [hsk]
 refine cI9 ?_ ?_<;>intro g1
 ·have g1' : ¬ se = 0 := by simpa using g1
  rw [readL_err f k _ _ zs (by rw [hse]; exact g1'), hm3', hse] at hgo
  repeat ((conv => whnf); refine ⟨rfl, ?_⟩)
  conv => whnf
  rw [hKL]
  conv => whnf
  rw [hK0]
  conv => whnf
  refine eO9 (fun G v hv => ?_) rfl
  have := nil_sle tokC G v hv
  show RepS G (readV (B l) f).sv v
  rw [hV, ← hgo]
  exact this
 have g1' : se = 0 := by simpa using g1
 subst g1'
 conv => whnf
 refine cI9 ?_ ?_<;>intro g2
 ·have g2' : zs.length = 6000 := by have : (zs.length : Int) = 6000 := oT9 g2
                                    omega
  have hk0 : k = 0 := by omega
  subst hk0
  rw [readL_many f _ _ zs hse, hm3'] at hgo
  repeat ((conv => whnf); refine ⟨rfl, ?_⟩)
  conv => whnf
  rw [hKL]
  conv => whnf
  rw [hK0]
  conv => whnf
  refine eO9 (fun G v hv => ?_) rfl
  have := nil_sle tokC G v hv
  show RepS G (readV (B l) f).sv v
  rw [hV, ← hgo]
  exact this
 have g2' : ¬ zs.length = 6000 := fun h => oF9 g2 (by rw [h]; rfl)
 obtain ⟨k, rfl⟩ : ∃ k', k = k' + 1 := ⟨k - 1, by omega⟩
 rw [readL_next f k _ _ zs hse, hm2, hm3'] at hgo
 conv => whnf
 refine cI9 ?_ ?_<;>intro g3
 ·have g3' : j = l.length := by have : (j : Int) = ((B l).size : Nat) := oT9 g3
                                omega
  have hnil : l.drop j = [] := List.drop_eq_nil_of_le (by omega)
  rw [hnil] at hgo
  rw [if_pos (show (cutL []).2.2 = 0 from rfl), if_pos (show (cutL []).1.kind = 8 from rfl)] at hgo
  repeat ((conv => whnf); refine ⟨by first | (show zs.length + 1 ≤ 1000000000000; omega) | omega, ?_⟩)
  conv => whnf
  rw [hKL]
  conv => whnf
  rw [hK0]
  conv => whnf
  refine eT9 ?_
  show _ = (readV (B l) f).sv
  rw [hV, ← hgo]
  rfl
 have g3' : ¬ j = l.length := fun h => oF9 g3 (by rw [h]; rfl)
 have hjl : j < l.length := by omega
 have hdj := drop_get hjl
 generalize hbe : l.getD j 0 = b at hdj
 generalize hre : l.drop (j + 1) = q at hdj
 rw [hdj] at hgo
 obtain ⟨hn1, hn2⟩ := next_cut b q
 have hcl : cutL (b :: q) = cutC b q := rfl
 rw [hcl] at hgo
 have hnx : nextRl ((B l).data.toList.drop (((j : Nat) : Int)).toNat) = nextR b q := by
  show nextRl (l.drop j) = _
  rw [hdj]; rfl
 repeat ((conv => whnf); refine ⟨by (dsimp only; omega), ?_⟩)
 conv => whnf
 dsimp only
 rw [hnx]
 refine cI9 ?_ ?_<;>intro g4
 ·have g4' : ¬ (cutC b q).2.2 = 0 := by
   rw [← hn1]
   have : (!decide ((nextR b q).2.2 = 0)) = true := g4
   simpa using this
  rw [if_neg g4', ← hn1] at hgo
  repeat ((conv => whnf); refine ⟨rfl, ?_⟩)
  conv => whnf
  rw [hKL]
  conv => whnf
  rw [hK0]
  conv => whnf
  refine eO9 (fun G v hv => ?_) rfl
  have := nil_sle tokC G v hv
  show RepS G (readV (B l) f).sv v
  rw [hV, ← hgo]
  exact this
 have g4' : (cutC b q).2.2 = 0 := by
  rw [← hn1]
  have : (!decide ((nextR b q).2.2 = 0)) = false := g4
  simpa using this
 have hcp := cutC_pos b q g4'
 rw [if_pos g4', if_neg hcp.2] at hgo
 have hle : (cutC b q).2.1 ≤ (b :: q).length := cutL_le (b :: q) g4'
 have hbq : (b :: q).length = l.length - j := by rw [← hdj, List.length_drop]
 rw [hn2 g4']
 generalize hcc : cutC b q = c at hgo hle
 obtain ⟨c1, c2, c3⟩ := c
 dsimp only
 have hle' : c2 ≤ (b :: q).length := hle
 have hjc : j + c2 ≤ l.length := by omega
 repeat ((conv => whnf); refine ⟨by first | exact ⟨hqm, by show (0 : Int) ≤ (c2 : Int); omega, by show (j : Int) + (c2 : Int) ≤ ((B l).size : Nat); omega⟩ | (show zs.length + 1 ≤ 1000000000000; omega) | omega, ?_⟩)
 conv => whnf
 rw [hKL]
 refine kI9 (k, j + c2, (posL ((l.drop j).take c2) (px, py)).1, (posL ((l.drop j).take c2) (px, py)).2, zs ++ [tokD c1 f (px, py)]) [0, 1, 2] rfl (fun k hk => ?_) ?_ ?_ ⟨?_, ?_, ?_⟩ ?_
 ·have hk' : k < 2 := hk
  have : k = 0 ∨ k = 1 := by omega
  rcases this with rfl | rfl <;> rfl
 ·show _ = some [AO.row _, rdO ⟨B l, ((j + c2 : Nat) : Int), (posL ((l.drop j).take c2) (px, py)).1, (posL ((l.drop j).take c2) (px, py)).2⟩, AO.tok 69 tokC (zs ++ [tokD c1 f (px, py)]).length true]
  rw [← stepR_eq, zP9]
  rfl
 ·repeat first|exact kN9|refine kD9 ?_|refine kR9 rfl ?_
 ·exact stepR_ok c2 hqm hjc
 ·rw [zP9, List.length_singleton]; omega
 ·rw [← hgo, hdj]
  rw [← hdj, ← List.drop_drop]
 ·exact nS9 k
end Go.Ab
