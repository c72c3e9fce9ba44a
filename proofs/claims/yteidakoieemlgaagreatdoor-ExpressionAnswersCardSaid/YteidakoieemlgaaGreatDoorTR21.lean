/- The reference of package token: one token. -/
import Derived.Test.YteidakoieemlgaaGreatDoorTR20
namespace Go.Ab
open Go.Proofs
set_option linter.unusedSectionVars false
set_option maxRecDepth 100000
variable [Glob]

def nameR (l : List UInt8) : TokV × Int × Int :=
  if (dw nameB l).head? = some 58 then (if (tw wordB l).length < (tw nameB l).length then ({ kind := 5, text := B (tw nameB l) }, 0, 6) else ({ kind := 5, text := B (tw nameB l) }, ((tw nameB l).length : Int) + 1, 0))
  else ({ kind := 1, text := B (tw nameB l) }, ((tw nameB l).length : Int), 0)

/-- The token of the reference: where there is no error, it is that of 'cutC'. -/
def nextR (b : UInt8) (r : List UInt8) : TokV × Int × Int :=
  if (letterB (bi b) || decide (bi b = 95) || decide (bi b = 35)) = true then nameR (b :: r)
  else if digitB (bi b) = true then ({ kind := 2, value := (numR (tw wordB (b :: r))).1 }, ((tw wordB (b :: r)).length : Int), (numR (tw wordB (b :: r))).2)
  else if bi b = 34 then ({ kind := 3, text := (strL (r.length + 1) r [] 1).1.text }, ((strL (r.length + 1) r [] 1).2.1 : Int), (strL (r.length + 1) r [] 1).2.2)
  else if refH b r = true then ({ kind := 6, text := B (tw wordB r) }, ((tw wordB r).length : Int) + 1, 0)
  else if bi b = 47 ∧ 0 < slashR r then ({ kind := 7, text := B (tw slashB r) }, (slashR r : Int), 0)
  else if twoH b r = true then ({ kind := 4, text := B ((b :: r).take 2) }, 2, 0)
  else if oneP b = true then ({ kind := 4, text := B [b] }, 1, 0)
  else ({}, 0, 20)

def nextRl (l : List UInt8) : TokV × Int × Int := match l with | [] => ({}, 0, 0) | b :: r => nextR b r

def T70 : Table := ext T69 28 (saysRv fun r => (some (r.rest.size ≤ 1000000000 ∧ 0 ≤ r.file ∧ r.file < r.rest.size), cutSV (nextRl (r.rest.data.toList.drop r.file.toNat))))

theorem tw_word_name (l : List UInt8) : tw wordB (tw nameB l) = tw wordB l := by
  induction l with
  | nil => rfl
  | cons a l ih =>
    cases hn : nameB (bi a) with
    | true =>
      rw [tw_cons_pos hn]
      cases hw : wordB (bi a) with
      | true => rw [tw_cons_pos hw, tw_cons_pos hw, ih]
      | false => rw [tw_cons_neg hw, tw_cons_neg hw]
    | false =>
      rw [tw_cons_neg hn]
      have hw : wordB (bi a) = false := by
        unfold nameB at hn
        rw [Bool.or_eq_false_iff] at hn
        exact hn.1
      rw [tw_cons_neg hw]; rfl

theorem words_eq (l : List UInt8) : allB rwordB (B (tw nameB l)) = !decide ((tw wordB l).length < (tw nameB l).length) := by
  rw [allB_congr word_same, ← lead_all, leadN_B, B_size, tw_word_name]
  have h := tw_len wordB (tw nameB l)
  rw [tw_word_name] at h
  rw [← decide_not, decide_eq_decide]
  omega

theorem drop_take_tw (p : Int → Bool) (l : List UInt8) (a : Nat) : (l.take (a + (tw p (l.drop a)).length)).drop a = tw p (l.drop a) := by
  rw [List.drop_take, Nat.add_sub_cancel_left, take_tw]

theorem head58 (p : Int → Bool) (l : List UInt8) (a : Nat) (c : UInt8) : (decide ((a : Int) + ((tw p (l.drop a)).length : Int) < ((B l).size : Nat)) && decide (byteAt (B l) ((a : Int) + ((tw p (l.drop a)).length : Int)) = bi c)) = decide ((dw p (l.drop a)).head? = some c) := by
  rw [twd_head]
  generalize (tw p (l.drop a)).length = n
  have hB : (B l).size = l.length := rfl
  by_cases h : a + n < l.length
  · rw [decide_eq_true (by omega : (a : Int) + (n : Int) < ((B l).size : Nat)), Bool.true_and, if_pos h]
    have : byteAt (B l) ((a : Int) + (n : Int)) = bi (l.getD (a + n) 0) := rfl
    rw [this]
    have h2 := byte_dec (l.getD (a + n) 0) c
    rw [h2, decide_eq_decide, Option.some_inj]
  · rw [decide_eq_false (by omega : ¬ (a : Int) + (n : Int) < ((B l).size : Nat)), Bool.false_and, if_neg h]
    rfl

/-! What comes behind a part, kept closed: for functions with much code. -/
def seqK (M : Mach) (n : Nat) (ks : List Nat) (y : Code) (K : Exit → Env → List AO → Prop) : Exit → Env → List AO → Prop := fun ex e' H' => match ex with
  | .normal => runC M n ks y e' H' K
  | ex => K ex e' H'
theorem seq_opaque {M : Mach} {n : Nat} {ks : List Nat} {x y : Code} {e : Env} {H : List AO} {K : Exit → Env → List AO → Prop} (h : ∀ KK, KK = seqK M n ks y K → runC M n ks x e H KK) : runC M n ks (.seq x y) e H K := h _ rfl
def endK (P : Program) (rs : List ResultVar) (L : List Nat) (K : SV → List AO → Prop) : Exit → Env → List AO → Prop := fun ex e H' => match ex with
  | .normal => endA P rs L e H' K
  | .ret => endA P rs L e H' K
  | _ => False
theorem runF_opaque {M : Mach} {fn : Func} {ks L : List Nat} {args : List AV} {H : List AO} {K : SV → List AO → Prop} {c : Code} (hb : fn.body = some c) (h : ∀ KK, KK = endK M.P fn.results.toList L K → runC M fn.ntmps ks c (argEnv 0 args) H KK) : runF M fn ks L args H K := by
  unfold runF
  rw [hb]
  exact h _ rfl

def pairL : List (UInt8 × UInt8) := [(60, 60), (62, 62), (60, 61), (62, 61), (61, 61), (33, 61), (38, 38), (124, 124)]
theorem two_pair (j : Nat) (h : j < 8) : ∃ p ∈ pairL, twoL.getD j ByteArray.empty = ⟨#[p.1, p.2]⟩ := by
  have : j = 0 ∨ j = 1 ∨ j = 2 ∨ j = 3 ∨ j = 4 ∨ j = 5 ∨ j = 6 ∨ j = 7 := by omega
  rcases this with rfl | rfl | rfl | rfl | rfl | rfl | rfl | rfl
  · exact ⟨(60, 60), by decide, rfl⟩
  · exact ⟨(62, 62), by decide, rfl⟩
  · exact ⟨(60, 61), by decide, rfl⟩
  · exact ⟨(62, 61), by decide, rfl⟩
  · exact ⟨(61, 61), by decide, rfl⟩
  · exact ⟨(33, 61), by decide, rfl⟩
  · exact ⟨(38, 38), by decide, rfl⟩
  · exact ⟨(124, 124), by decide, rfl⟩
theorem pair_two {p : UInt8 × UInt8} (h : p ∈ pairL) : ∃ j, j < 8 ∧ twoL.getD j ByteArray.empty = ⟨#[p.1, p.2]⟩ := by
  simp only [pairL, List.mem_cons, List.not_mem_nil, or_false] at h
  rcases h with rfl | rfl | rfl | rfl | rfl | rfl | rfl | rfl
  · exact ⟨0, by decide, rfl⟩
  · exact ⟨1, by decide, rfl⟩
  · exact ⟨2, by decide, rfl⟩
  · exact ⟨3, by decide, rfl⟩
  · exact ⟨4, by decide, rfl⟩
  · exact ⟨5, by decide, rfl⟩
  · exact ⟨6, by decide, rfl⟩
  · exact ⟨7, by decide, rfl⟩
theorem twoP_mem (x y : UInt8) : twoP x y = true ↔ (x, y) ∈ pairL := by
  unfold twoP pairL
  exact List.contains_iff_mem

theorem amb_one (u : UInt8) : amongB (bi u) ⟨#[123, 125, 40, 41, 60, 62, 91, 93, 59, 61, 44, 43, 45, 42, 47, 37, 38, 124, 94, 126, 33, 63, 58]⟩ = oneP u := by
  have h : ∀ n : Fin 256, amongB ((n.val : Nat) : Int) ⟨#[123, 125, 40, 41, 60, 62, 91, 93, 59, 61, 44, 43, 45, 42, 47, 37, 38, 124, 94, 126, 33, 63, 58]⟩ = oneP (UInt8.ofNat n.val) := by decide +kernel
  have h2 := h ⟨u.toNat, u.toNat_lt⟩
  rw [show UInt8.ofNat (⟨u.toNat, u.toNat_lt⟩ : Fin 256).val = u from UInt8.ofNat_toNat] at h2
  exact h2

set_option maxHeartbeats 2000000 in
theorem t70 : TSound Tryz.prog T70 := by
  refine extRv t69 28 (fn := Tryz.f28) rfl rfl (by decide) _ [0, 1, 2, 3, 4, 5, 6, 7, 8, 9, 10, 11, 12, 13, 14, 15, 16, 17, 19, 27, 61, 66, 72, 96, 110, 149, 171, 172, 173, 174, 178, 183] fun s f li co hs => ?_
  obtain ⟨h1, h2, h3⟩ : s.size ≤ 1000000000 ∧ 0 ≤ f ∧ f < s.size := hs
  obtain ⟨a, rfl⟩ : ∃ a : Nat, f = a := ⟨f.toNat, by omega⟩
  obtain ⟨l, rfl⟩ : ∃ l, s = B l := ⟨s.data.toList, rfl⟩
  have hB : (B l).size = l.length := rfl
  have hlt : a < l.length := by omega
  have hd := drop_get hlt
  have hR : nextRl ((B l).data.toList.drop (((a : Nat) : Int)).toNat) = nextR (l.getD a 0) (l.drop (a + 1)) := by
    show nextRl (l.drop a) = _
    rw [hd]
    rfl
  show runF _ _ _ _ _ _ fun r' H'' => Ends r' H'' (cutSV (nextRl ((B l).data.toList.drop (((a : Nat) : Int)).toNat))) []
  rw [hR]
  have hb : byteAt (B l) (a : Int) = bi (l.getD a 0) := rfl
  have hrn : runV (B l) (a : Int) true = ((tw nameB (l.drop a)).length : Int) := rfl
  have hrw : runV (B l) (a : Int) false = ((tw wordB (l.drop a)).length : Int) := rfl
  have hln := twd_le nameB l a
  have hlw := twd_le wordB l a
  generalize hbe : l.getD a 0 = b at hb hd
  generalize hre : l.drop (a + 1) = q at hd
  have hql : q.length + a + 1 = l.length := by rw [← hre, List.length_drop]; omega
  rw [hd] at hrn hrw hln hlw
  have e58 : (decide ((a : Int) + runV (B l) (a : Int) true < ((B l).size : Nat)) && decide (byteAt (B l) ((a : Int) + runV (B l) (a : Int) true) = 58)) = decide ((dw nameB (b :: q)).head? = some 58) := by
    rw [hrn, ← hd]
    exact head58 nameB l a 58
  have eT : (B l).extract (((a : Nat) : Int)).toNat ((a : Int) + runV (B l) (a : Int) true).toNat = B (tw nameB (b :: q)) := by
    rw [hrn, B_extract, ← hd]
    show B ((l.take (((a : Int) + (((tw nameB (l.drop a)).length : Nat) : Int)).toNat)).drop a) = _
    rw [show ((a : Int) + (((tw nameB (l.drop a)).length : Nat) : Int)).toNat = a + (tw nameB (l.drop a)).length by omega, drop_take_tw]
  have eN : (B l).extract (((a : Nat) : Int)).toNat ((a : Int) + runV (B l) (a : Int) false).toNat = B (tw wordB (b :: q)) := by
    rw [hrw, B_extract, ← hd]
    show B ((l.take (((a : Int) + (((tw wordB (l.drop a)).length : Nat) : Int)).toNat)).drop a) = _
    rw [show ((a : Int) + (((tw wordB (l.drop a)).length : Nat) : Int)).toNat = a + (tw wordB (l.drop a)).length by omega, drop_take_tw]
  have e38 : (decide (bi b = 38) && decide ((a : Int) + 1 < ((B l).size : Nat)) && (letterB (byteAt (B l) ((a : Int) + 1)) || decide (byteAt (B l) ((a : Int) + 1) = 95))) = refH b q := by
    unfold refH
    have hb1 : byteAt (B l) ((a : Int) + 1) = bi (l.getD (a + 1) 0) := rfl
    have hbd : decide (bi b = 38) = decide (b = 38) := byte_dec b 38
    rw [hb1, hbd]
    cases q with
    | nil =>
      simp only [List.length_nil] at hql
      rw [decide_eq_false (by omega : ¬ (a : Int) + 1 < ((B l).size : Nat))]
      simp
    | cons c r =>
      simp only [List.length_cons] at hql
      rw [decide_eq_true (by omega : (a : Int) + 1 < ((B l).size : Nat)), Bool.and_true]
      have hc : l.getD (a + 1) 0 = c := by
        have := drop_get (l := l) (i := a + 1) (by omega)
        rw [hre] at this
        exact (List.cons.inj this).1.symm
      rw [hc]
      rfl
  have hrq : runV (B l) ((a : Int) + 1) false = ((tw wordB q).length : Int) := by rw [← hre]; rfl
  have hlq : (tw wordB q).length ≤ q.length := by have := tw_len wordB q; omega
  have eQ : (B l).extract ((a : Int) + 1).toNat ((a : Int) + 1 + runV (B l) ((a : Int) + 1) false).toNat = B (tw wordB q) := by
    rw [hrq, B_extract, ← hre]
    show B ((l.take (((a : Int) + 1 + (((tw wordB (l.drop (a + 1))).length : Nat) : Int)).toNat)).drop ((a : Int) + 1).toNat) = _
    rw [show ((a : Int) + 1 + (((tw wordB (l.drop (a + 1))).length : Nat) : Int)).toNat = (a + 1) + (tw wordB (l.drop (a + 1))).length by omega, show ((a : Int) + 1).toNat = a + 1 by omega, drop_take_tw]
  have hslash : ((slashR ((B l).data.toList.drop ((((a : Nat) : Int)).toNat + 1)) : Nat) : Int) = (slashR q : Int) := by rw [← hre]; rfl
  refine runF_opaque rfl fun K0 hK0 => ?_
  refine seq_opaque fun K1 hK1 => ?_
  repeat ((conv => whnf); refine ⟨by first | (unfold inI64; omega) | omega | exact ⟨by omega, by omega⟩ | (intro hg; first | (unfold inI64; omega) | omega | exact ⟨by omega, by omega⟩ | (simp [lit] at hg; unfold inI64; omega) | (simp [lit] at hg; omega) | (simp [lit] at hg; exact ⟨by omega, by omega⟩)) | (show (_ : Nat) + 1 ≤ 1000000000000; omega) | exact rfl | (unfold inI64; dsimp only; omega) | (dsimp only; omega) | (intro hg; simp [lit] at hg; first | (unfold inI64; dsimp only; omega) | (dsimp only; omega)) | decide +kernel, ?_⟩)
  conv => whnf
  rw [hK1]
  show runC _ _ _ (.seq _ _) _ _ _
  refine seq_opaque fun K2 hK2 => ?_
  repeat ((conv => whnf); refine ⟨by first | (unfold inI64; omega) | omega | exact ⟨by omega, by omega⟩ | (intro hg; first | (unfold inI64; omega) | omega | exact ⟨by omega, by omega⟩ | (simp [lit] at hg; unfold inI64; omega) | (simp [lit] at hg; omega) | (simp [lit] at hg; exact ⟨by omega, by omega⟩)) | (show (_ : Nat) + 1 ≤ 1000000000000; omega) | exact rfl | (unfold inI64; dsimp only; omega) | (dsimp only; omega) | (intro hg; simp [lit] at hg; first | (unfold inI64; dsimp only; omega) | (dsimp only; omega)) | decide +kernel, ?_⟩)
  conv => whnf
  rw [hK2]
  show runC _ _ _ (.seq _ _) _ _ _
  refine seq_opaque fun K3 hK3 => ?_
  repeat ((conv => whnf); refine ⟨by first | (unfold inI64; omega) | omega | exact ⟨by omega, by omega⟩ | (intro hg; first | (unfold inI64; omega) | omega | exact ⟨by omega, by omega⟩ | (simp [lit] at hg; unfold inI64; omega) | (simp [lit] at hg; omega) | (simp [lit] at hg; exact ⟨by omega, by omega⟩)) | (show (_ : Nat) + 1 ≤ 1000000000000; omega) | exact rfl | (unfold inI64; dsimp only; omega) | (dsimp only; omega) | (intro hg; simp [lit] at hg; first | (unfold inI64; dsimp only; omega) | (dsimp only; omega)) | decide +kernel, ?_⟩)
  conv => whnf
  rw [hb, hK3]
  show runC _ _ _ (.seq _ _) _ _ _
  refine seq_opaque fun KB hKB => ?_
  repeat ((conv => whnf); refine ⟨by first | (unfold inI64; omega) | omega | exact ⟨by omega, by omega⟩ | (intro hg; first | (unfold inI64; omega) | omega | exact ⟨by omega, by omega⟩ | (simp [lit] at hg; unfold inI64; omega) | (simp [lit] at hg; omega) | (simp [lit] at hg; exact ⟨by omega, by omega⟩)) | (show (_ : Nat) + 1 ≤ 1000000000000; omega) | exact rfl | (unfold inI64; dsimp only; omega) | (dsimp only; omega) | (intro hg; simp [lit] at hg; first | (unfold inI64; dsimp only; omega) | (dsimp only; omega)) | decide +kernel, ?_⟩)
  conv => whnf
  refine cond_intro (fun g1 => ?_) (fun g1 => ?_)
  · have hX : nextR b q = nameR (b :: q) := by rw [nextR, if_pos g1]
    rw [hX] at hK0
    repeat ((conv => whnf); refine ⟨by first | exact ⟨h1, h2, by omega⟩ | (unfold inI64; omega) | omega | exact ⟨by omega, by omega⟩ | (intro hg; first | (unfold inI64; omega) | omega | exact ⟨by omega, by omega⟩ | (simp [lit] at hg; unfold inI64; omega) | (simp [lit] at hg; omega) | (simp [lit] at hg; exact ⟨by omega, by omega⟩)) | (show (_ : Nat) + 1 ≤ 1000000000000; omega) | exact rfl | (unfold inI64; dsimp only; omega) | (dsimp only; omega) | (intro hg; simp [lit] at hg; first | (unfold inI64; dsimp only; omega) | (dsimp only; omega)) | decide +kernel, ?_⟩)
    conv => whnf
    refine cond_intro (fun g2 => ?_) (fun g2 => ?_)
    · have g2' : (dw nameB (b :: q)).head? = some 58 := of_decide_eq_true (e58.symm.trans g2)
      rw [eT]
      generalize hw : B (tw nameB (b :: q)) = X
      have hwe : allB rwordB X = !decide ((tw wordB (b :: q)).length < (tw nameB (b :: q)).length) := by rw [← hw]; exact words_eq (b :: q)
      have hfit : X.size ≤ 1000000000 := by rw [← hw, B_size]; omega
      generalize hn : runV (B l) (a : Int) true = n at hrn
      repeat ((conv => whnf); refine ⟨by first | exact hfit | (unfold inI64; omega) | omega | exact ⟨by omega, by omega⟩ | (intro hg; first | (unfold inI64; omega) | omega | exact ⟨by omega, by omega⟩ | (simp [lit] at hg; unfold inI64; omega) | (simp [lit] at hg; omega) | (simp [lit] at hg; exact ⟨by omega, by omega⟩)) | (show (_ : Nat) + 1 ≤ 1000000000000; omega) | exact rfl | (unfold inI64; dsimp only; omega) | (dsimp only; omega) | (intro hg; simp [lit] at hg; first | (unfold inI64; dsimp only; omega) | (dsimp only; omega)) | decide +kernel, ?_⟩)
      conv => whnf
      refine cond_intro (fun g3 => ?_) (fun g3 => ?_)
      · have g3' : (tw wordB (b :: q)).length < (tw nameB (b :: q)).length := by rw [hwe] at g3; simpa using g3
        repeat ((conv => whnf); refine ⟨by first | (unfold inI64; omega) | omega | exact ⟨by omega, by omega⟩ | (intro hg; first | (unfold inI64; omega) | omega | exact ⟨by omega, by omega⟩ | (simp [lit] at hg; unfold inI64; omega) | (simp [lit] at hg; omega) | (simp [lit] at hg; exact ⟨by omega, by omega⟩)) | (show (_ : Nat) + 1 ≤ 1000000000000; omega) | exact rfl | (unfold inI64; dsimp only; omega) | (dsimp only; omega) | (intro hg; simp [lit] at hg; first | (unfold inI64; dsimp only; omega) | (dsimp only; omega)) | decide +kernel, ?_⟩)
        conv => whnf
        rw [hKB]
        conv => whnf
        rw [hK0]
        conv => whnf
        refine ends_eq ⟨?_, rfl⟩
        rw [nameR, if_pos g2', if_pos g3', hw]
        rfl
      · have g3' : ¬ (tw wordB (b :: q)).length < (tw nameB (b :: q)).length := by rw [hwe] at g3; simpa using g3
        repeat ((conv => whnf); refine ⟨by first | (unfold inI64; omega) | omega | exact ⟨by omega, by omega⟩ | (intro hg; first | (unfold inI64; omega) | omega | exact ⟨by omega, by omega⟩ | (simp [lit] at hg; unfold inI64; omega) | (simp [lit] at hg; omega) | (simp [lit] at hg; exact ⟨by omega, by omega⟩)) | (show (_ : Nat) + 1 ≤ 1000000000000; omega) | exact rfl | (unfold inI64; dsimp only; omega) | (dsimp only; omega) | (intro hg; simp [lit] at hg; first | (unfold inI64; dsimp only; omega) | (dsimp only; omega)) | decide +kernel, ?_⟩)
        conv => whnf
        rw [hKB]
        conv => whnf
        rw [hK0]
        conv => whnf
        refine ends_eq ⟨?_, rfl⟩
        rw [nameR, if_pos g2', if_neg g3', hw, ← hrn]
        rfl
    · have g2' : ¬ (dw nameB (b :: q)).head? = some 58 := of_decide_eq_false (e58.symm.trans g2)
      rw [eT]
      repeat ((conv => whnf); refine ⟨by first | (unfold inI64; omega) | omega | exact ⟨by omega, by omega⟩ | (intro hg; first | (unfold inI64; omega) | omega | exact ⟨by omega, by omega⟩ | (simp [lit] at hg; unfold inI64; omega) | (simp [lit] at hg; omega) | (simp [lit] at hg; exact ⟨by omega, by omega⟩)) | (show (_ : Nat) + 1 ≤ 1000000000000; omega) | exact rfl | (unfold inI64; dsimp only; omega) | (dsimp only; omega) | (intro hg; simp [lit] at hg; first | (unfold inI64; dsimp only; omega) | (dsimp only; omega)) | decide +kernel, ?_⟩)
      conv => whnf
      rw [hKB]
      conv => whnf
      rw [hK0]
      conv => whnf
      refine ends_eq ⟨?_, rfl⟩
      rw [nameR, if_neg g2', hrn]
      rfl
  have n1 : ¬ (letterB (bi b) || decide (bi b = 95) || decide (bi b = 35)) = true := by rw [g1]; decide
  repeat ((conv => whnf); refine ⟨by first | (unfold inI64; omega) | omega | exact ⟨by omega, by omega⟩ | (intro hg; first | (unfold inI64; omega) | omega | exact ⟨by omega, by omega⟩ | (simp [lit] at hg; unfold inI64; omega) | (simp [lit] at hg; omega) | (simp [lit] at hg; exact ⟨by omega, by omega⟩)) | (show (_ : Nat) + 1 ≤ 1000000000000; omega) | exact rfl | (unfold inI64; dsimp only; omega) | (dsimp only; omega) | (intro hg; simp [lit] at hg; first | (unfold inI64; dsimp only; omega) | (dsimp only; omega)) | decide +kernel, ?_⟩)
  conv => whnf
  refine cond_intro (fun g2 => ?_) (fun g2 => ?_)
  · have g2' : digitB (bi b) = true := g2
    have hX : nextR b q = ({ kind := 2, value := (numR (tw wordB (b :: q))).1 }, ((tw wordB (b :: q)).length : Int), (numR (tw wordB (b :: q))).2) := by rw [nextR, if_neg n1, if_pos g2']
    rw [hX] at hK0
    repeat ((conv => whnf); refine ⟨by first | exact ⟨h1, h2, by omega⟩ | exact Nat.le_trans (by rw [eN, B_size]; omega) h1 | (unfold inI64; omega) | omega | exact ⟨by omega, by omega⟩ | (intro hg; first | (unfold inI64; omega) | omega | exact ⟨by omega, by omega⟩ | (simp [lit] at hg; unfold inI64; omega) | (simp [lit] at hg; omega) | (simp [lit] at hg; exact ⟨by omega, by omega⟩)) | (show (_ : Nat) + 1 ≤ 1000000000000; omega) | exact rfl | (unfold inI64; dsimp only; omega) | (dsimp only; omega) | (intro hg; simp [lit] at hg; first | (unfold inI64; dsimp only; omega) | (dsimp only; omega)) | decide +kernel, ?_⟩)
    conv => whnf
    rw [hKB]
    conv => whnf
    rw [hK0]
    conv => whnf
    refine ends_eq ⟨?_, rfl⟩
    rw [eN, hrw]
    rfl
  have n2 : ¬ digitB (bi b) = true := by have : digitB (bi b) = false := g2
                                         rw [this]; decide
  repeat ((conv => whnf); refine ⟨by first | (unfold inI64; omega) | omega | exact ⟨by omega, by omega⟩ | (intro hg; first | (unfold inI64; omega) | omega | exact ⟨by omega, by omega⟩ | (simp [lit] at hg; unfold inI64; omega) | (simp [lit] at hg; omega) | (simp [lit] at hg; exact ⟨by omega, by omega⟩)) | (show (_ : Nat) + 1 ≤ 1000000000000; omega) | exact rfl | (unfold inI64; dsimp only; omega) | (dsimp only; omega) | (intro hg; simp [lit] at hg; first | (unfold inI64; dsimp only; omega) | (dsimp only; omega)) | decide +kernel, ?_⟩)
  conv => whnf
  refine cond_intro (fun g3 => ?_) (fun g3 => ?_)
  · have g3' : bi b = 34 := of_decide_eq_true g3
    have hX : nextR b q = ({ kind := 3, text := (strL (q.length + 1) q [] 1).1.text }, ((strL (q.length + 1) q [] 1).2.1 : Int), (strL (q.length + 1) q [] 1).2.2) := by rw [nextR, if_neg n1, if_neg n2, if_pos g3']
    rw [hX] at hK0
    have hT : textR (B l).data.toList (((a : Nat) : Int)).toNat = strL (q.length + 1) q [] 1 := by
      show textR l a = _
      rw [textR, hre]
    repeat ((conv => whnf); refine ⟨by first | exact ⟨h1, h2, h3⟩ | (unfold inI64; omega) | omega | exact ⟨by omega, by omega⟩ | (intro hg; first | (unfold inI64; omega) | omega | exact ⟨by omega, by omega⟩ | (simp [lit] at hg; unfold inI64; omega) | (simp [lit] at hg; omega) | (simp [lit] at hg; exact ⟨by omega, by omega⟩)) | (show (_ : Nat) + 1 ≤ 1000000000000; omega) | exact rfl | (unfold inI64; dsimp only; omega) | (dsimp only; omega) | (intro hg; simp [lit] at hg; first | (unfold inI64; dsimp only; omega) | (dsimp only; omega)) | decide +kernel, ?_⟩)
    conv => whnf
    rw [hKB]
    conv => whnf
    rw [hK0]
    conv => whnf
    refine ends_eq ⟨?_, rfl⟩
    rw [hT]
    rfl
  have n3 : ¬ bi b = 34 := of_decide_eq_false g3
  repeat ((conv => whnf); refine ⟨by first | (unfold inI64; omega) | omega | exact ⟨by omega, by omega⟩ | (intro hg; first | (unfold inI64; omega) | omega | exact ⟨by omega, by omega⟩ | (simp [lit] at hg; unfold inI64; omega) | (simp [lit] at hg; omega) | (simp [lit] at hg; exact ⟨by omega, by omega⟩)) | (show (_ : Nat) + 1 ≤ 1000000000000; omega) | exact rfl | (unfold inI64; dsimp only; omega) | (dsimp only; omega) | (intro hg; simp [lit] at hg; first | (unfold inI64; dsimp only; omega) | (dsimp only; omega)) | decide +kernel, ?_⟩)
  conv => whnf
  refine cond_intro (fun g4 => ?_) (fun g4 => ?_)
  · have g4' : refH b q = true := e38.symm.trans g4
    have hX : nextR b q = ({ kind := 6, text := B (tw wordB q) }, ((tw wordB q).length : Int) + 1, 0) := by rw [nextR, if_neg n1, if_neg n2, if_neg n3, if_pos g4']
    rw [hX] at hK0
    repeat ((conv => whnf); refine ⟨by first | exact ⟨h1, by omega, by omega⟩ | (unfold inI64; omega) | omega | exact ⟨by omega, by omega⟩ | (intro hg; first | (unfold inI64; omega) | omega | exact ⟨by omega, by omega⟩ | (simp [lit] at hg; unfold inI64; omega) | (simp [lit] at hg; omega) | (simp [lit] at hg; exact ⟨by omega, by omega⟩)) | (show (_ : Nat) + 1 ≤ 1000000000000; omega) | exact rfl | (unfold inI64; dsimp only; omega) | (dsimp only; omega) | (intro hg; simp [lit] at hg; first | (unfold inI64; dsimp only; omega) | (dsimp only; omega)) | decide +kernel, ?_⟩)
    conv => whnf
    rw [hKB]
    conv => whnf
    rw [hK0]
    conv => whnf
    refine ends_eq ⟨?_, rfl⟩
    rw [eQ, hrq]
    rfl
  have n4 : ¬ refH b q = true := by rw [← e38, g4]; decide
  repeat ((conv => whnf); refine ⟨by first | exact ⟨h1, h2, h3⟩ | (intro hg; exact ⟨h1, h2, h3⟩) | (unfold inI64; omega) | omega | exact ⟨by omega, by omega⟩ | (intro hg; first | (unfold inI64; omega) | omega | exact ⟨by omega, by omega⟩ | (simp [lit] at hg; unfold inI64; omega) | (simp [lit] at hg; omega) | (simp [lit] at hg; exact ⟨by omega, by omega⟩)) | (show (_ : Nat) + 1 ≤ 1000000000000; omega) | exact rfl | (unfold inI64; dsimp only; omega) | (dsimp only; omega) | (intro hg; simp [lit] at hg; first | (unfold inI64; dsimp only; omega) | (dsimp only; omega)) | decide +kernel, ?_⟩)
  conv => whnf
  refine cond_intro (fun g5 => ?_) (fun g5 => ?_)
  · have g5' : bi b = 47 ∧ 0 < slashR q := by
      rw [Bool.and_eq_true, decide_eq_true_eq, decide_eq_true_eq] at g5
      have g6 : (0 : Int) < (slashR q : Int) := by rw [← hslash]; exact g5.2
      exact ⟨g5.1, by omega⟩
    have hX : nextR b q = ({ kind := 7, text := B (tw slashB q) }, (slashR q : Int), 0) := by rw [nextR, if_neg n1, if_neg n2, if_neg n3, if_neg n4, if_pos g5']
    rw [hX] at hK0
    have hsl : slashR q = (tw slashB q).length + 2 ∧ (tw slashB q).length + 1 ≤ q.length := by
      have h6 := g5'.2
      have h7 := tw_len slashB q
      unfold slashR at h6 ⊢
      split at h6
      · rename_i h8
        refine ⟨by rw [if_pos h8], ?_⟩
        cases hdw : dw slashB q with
        | nil => rw [hdw] at h8; cases h8.2
        | cons x y => rw [hdw, List.length_cons] at h7; omega
      · omega
    have eS : (B l).extract ((a : Int) + 1).toNat ((a : Int) + ((slashR ((B l).data.toList.drop ((((a : Nat) : Int)).toNat + 1)) : Nat) : Int) - 1).toNat = B (tw slashB q) := by
      rw [hslash, hsl.1, B_extract, ← hre]
      rw [show ((a : Int) + (((tw slashB (l.drop (a + 1))).length + 2 : Nat) : Int) - 1).toNat = (a + 1) + (tw slashB (l.drop (a + 1))).length by omega, show ((a : Int) + 1).toNat = a + 1 by omega, drop_take_tw]
    repeat ((conv => whnf); refine ⟨by first | exact ⟨h1, h2, h3⟩ | (unfold inI64; omega) | omega | exact ⟨by omega, by omega⟩ | (intro hg; first | (unfold inI64; omega) | omega | exact ⟨by omega, by omega⟩ | (simp [lit] at hg; unfold inI64; omega) | (simp [lit] at hg; omega) | (simp [lit] at hg; exact ⟨by omega, by omega⟩)) | (show (_ : Nat) + 1 ≤ 1000000000000; omega) | exact rfl | (unfold inI64; dsimp only; omega) | (dsimp only; omega) | (intro hg; simp [lit] at hg; first | (unfold inI64; dsimp only; omega) | (dsimp only; omega)) | decide +kernel, ?_⟩)
    conv => whnf
    rw [hKB]
    conv => whnf
    rw [hK0]
    conv => whnf
    refine ends_eq ⟨?_, rfl⟩
    rw [eS, hslash]
    rfl
  · have n5 : ¬ (bi b = 47 ∧ 0 < slashR q) := by
      rintro ⟨g6, g7⟩
      rw [hslash, decide_eq_true g6, decide_eq_true (by omega : (0 : Int) < (slashR q : Int))] at g5
      cases g5
    repeat ((conv => whnf); refine ⟨by first | (unfold inI64; omega) | omega | exact ⟨by omega, by omega⟩ | (intro hg; first | (unfold inI64; omega) | omega | exact ⟨by omega, by omega⟩ | (simp [lit] at hg; unfold inI64; omega) | (simp [lit] at hg; omega) | (simp [lit] at hg; exact ⟨by omega, by omega⟩)) | (show (_ : Nat) + 1 ≤ 1000000000000; omega) | exact rfl | (unfold inI64; dsimp only; omega) | (dsimp only; omega) | (intro hg; simp [lit] at hg; first | (unfold inI64; dsimp only; omega) | (dsimp only; omega)) | decide +kernel, ?_⟩)
    conv => whnf
    rw [hKB]
    repeat ((conv => whnf); refine ⟨by first | (unfold inI64; omega) | omega | exact ⟨by omega, by omega⟩ | (intro hg; first | (unfold inI64; omega) | omega | exact ⟨by omega, by omega⟩ | (simp [lit] at hg; unfold inI64; omega) | (simp [lit] at hg; omega) | (simp [lit] at hg; exact ⟨by omega, by omega⟩)) | (show (_ : Nat) + 1 ≤ 1000000000000; omega) | exact rfl | (unfold inI64; dsimp only; omega) | (dsimp only; omega) | (intro hg; simp [lit] at hg; first | (unfold inI64; dsimp only; omega) | (dsimp only; omega)) | decide +kernel, ?_⟩)
    conv => whnf
    have hst : ∀ p : UInt8 × UInt8, startV ⟨B l, (a : Int), li, co⟩ ⟨#[p.1, p.2]⟩ = decide (b = p.1 ∧ q.head? = some p.2) := fun p => by
      rw [start2 l a li co p.1 p.2 (by omega), hd, decide_eq_decide, List.head?_cons, Option.some_inj]
      rfl
    refine loop_intro (σ := Nat) (fun j => [(0, XV.s .none), (1, XV.s (.a (.c (.ptr 0 0)))), (2, XV.s (.a (.c (.ptr 1 0)))), (3, XV.s .none), (4, XV.s .none), (5, XV.s (SV.str (B l))), (6, XV.s (.int .i64 a)), (7, XV.s (.int .u8 (bi b))), (8, XV.s .none), (9, XV.s .none), (10, XV.s .none), (11, XV.s .none), (12, XV.s .none), (13, XV.s .none), (14, XV.s .none), (15, XV.s .none), (16, XV.s .none), (17, XV.s .none), (19, XV.s .none), (27, XV.s .none), (61, XV.s .none), (66, XV.s .none), (72, XV.s .none), (96, XV.s .none), (110, XV.s .none), (149, XV.s .none), (171, XV.s (.a (.c (.own 2 .str twoL)))), (172, XV.s (.int .i64 8)), (173, XV.s (.int .i64 j)), (174, XV.s .none), (178, XV.s .none), (183, XV.s .none)])
      (fun _ => [.row [.str (B l), .int .i64 a, .int .i64 li, .int .i64 co], .row [.int .i64 0, .str ⟨#[]⟩, .int .i64 0, .int .i64 0, .int .i64 0, .int .i64 0], .tok 9 .str 8 false])
      (fun j => j ≤ 8 ∧ ∀ k, k < j → startV ⟨B l, (a : Int), li, co⟩ (twoL.getD k ByteArray.empty) = false) (fun j => 8 - j) 0 ?_ rfl ⟨Nat.zero_le _, fun k hk => absurd hk (Nat.not_lt_zero k)⟩ fun j hI => ?_
    · repeat (first | exact LeL.nil | refine LeL.drop ?_ | refine LeL.same ?_)
    obtain ⟨hj, hno⟩ := hI
    have hl8 : twoL.length = 8 := rfl
    repeat ((conv => whnf); refine ⟨by first | (unfold inI64; omega) | omega | exact ⟨by omega, by omega⟩ | (intro hg; first | (unfold inI64; omega) | omega | exact ⟨by omega, by omega⟩ | (simp [lit] at hg; unfold inI64; omega) | (simp [lit] at hg; omega) | (simp [lit] at hg; exact ⟨by omega, by omega⟩)) | (show (_ : Nat) + 1 ≤ 1000000000000; omega) | exact rfl | (unfold inI64; dsimp only; omega) | (dsimp only; omega) | (intro hg; simp [lit] at hg; first | (unfold inI64; dsimp only; omega) | (dsimp only; omega)) | decide +kernel, ?_⟩)
    conv => whnf
    refine cond_intro (fun g6 => ?_) (fun g6 => ?_)
    · have hlt8 : j < 8 := by have : (j : Int) < 8 := of_decide_eq_true g6
                              omega
      obtain ⟨p, hp, hpt⟩ := two_pair j hlt8
      have h3' : (a : Int) ≤ ((B l).size : Nat) := by omega
      have hsz2 : (twoL.getD ((j : Int)).toNat CT.str.dflt).size ≤ 1000 := by rw [show twoL.getD ((j : Int)).toNat CT.str.dflt = ⟨#[p.1, p.2]⟩ from hpt]; show (2 : Nat) ≤ 1000; decide
      have hpt' : twoL.getD ((j : Int)).toNat CT.str.dflt = ⟨#[p.1, p.2]⟩ := hpt
      repeat ((conv => whnf); refine ⟨by first | exact ⟨by omega, by omega⟩ | exact ⟨h1, h2, h3', hsz2⟩ | (unfold inI64; omega) | omega | exact ⟨by omega, by omega⟩ | (intro hg; first | (unfold inI64; omega) | omega | exact ⟨by omega, by omega⟩ | (simp [lit] at hg; unfold inI64; omega) | (simp [lit] at hg; omega) | (simp [lit] at hg; exact ⟨by omega, by omega⟩)) | (show (_ : Nat) + 1 ≤ 1000000000000; omega) | exact rfl | (unfold inI64; dsimp only; omega) | (dsimp only; omega) | (intro hg; simp [lit] at hg; first | (unfold inI64; dsimp only; omega) | (dsimp only; omega)) | decide +kernel, ?_⟩)
      conv => whnf
      rw [hpt', hst p]
      refine cond_intro (fun g7 => ?_) (fun g7 => ?_)
      · have g7' : b = p.1 ∧ q.head? = some p.2 := of_decide_eq_true g7
        obtain ⟨c, r, hq⟩ : ∃ c r, q = c :: r := by
          cases q with
          | nil => cases g7'.2
          | cons c r => exact ⟨c, r, rfl⟩
        have hc : c = p.2 := by rw [hq] at g7'; simpa using g7'.2
        have n6 : twoH b q = true := by
          rw [hq]
          show twoP b c = true
          rw [twoP_mem, g7'.1, hc]
          exact hp
        have hX : nextR b q = ({ kind := 4, text := B ((b :: q).take 2) }, 2, 0) := by rw [nextR, if_neg n1, if_neg n2, if_neg n3, if_neg n4, if_neg n5, if_pos n6]
        rw [hX] at hK0
        repeat ((conv => whnf); refine ⟨by first | (unfold inI64; omega) | omega | exact ⟨by omega, by omega⟩ | (intro hg; first | (unfold inI64; omega) | omega | exact ⟨by omega, by omega⟩ | (simp [lit] at hg; unfold inI64; omega) | (simp [lit] at hg; omega) | (simp [lit] at hg; exact ⟨by omega, by omega⟩)) | (show (_ : Nat) + 1 ≤ 1000000000000; omega) | exact rfl | (unfold inI64; dsimp only; omega) | (dsimp only; omega) | (intro hg; simp [lit] at hg; first | (unfold inI64; dsimp only; omega) | (dsimp only; omega)) | decide +kernel, ?_⟩)
        conv => whnf
        rw [hK0]
        conv => whnf
        refine ends_eq ⟨?_, rfl⟩
        rw [hq, g7'.1, hc]
        rfl
      · repeat ((conv => whnf); refine ⟨by first | (unfold inI64; omega) | omega | exact ⟨by omega, by omega⟩ | (intro hg; first | (unfold inI64; omega) | omega | exact ⟨by omega, by omega⟩ | (simp [lit] at hg; unfold inI64; omega) | (simp [lit] at hg; omega) | (simp [lit] at hg; exact ⟨by omega, by omega⟩)) | (show (_ : Nat) + 1 ≤ 1000000000000; omega) | exact rfl | (unfold inI64; dsimp only; omega) | (dsimp only; omega) | (intro hg; simp [lit] at hg; first | (unfold inI64; dsimp only; omega) | (dsimp only; omega)) | decide +kernel, ?_⟩)
        conv => whnf
        refine head_intro (j + 1) ?_ rfl ⟨by omega, fun k hk => ?_⟩ ?_
        · repeat (first | exact LeL.nil | refine LeL.drop ?_ | refine LeL.same ?_)
        · rcases Nat.lt_succ_iff_lt_or_eq.1 hk with h4 | rfl
          · exact hno k h4
          · rw [hpt, hst p]; exact g7
        · show 8 - (j + 1) < 8 - j
          omega
    · have hj8 : j = 8 := by have : ¬ (j : Int) < 8 := of_decide_eq_false g6
                             omega
      subst hj8
      have n6 : ¬ twoH b q = true := fun h6 => by
        cases q with
        | nil => cases h6
        | cons c r =>
          obtain ⟨k, hk, hkt⟩ := pair_two ((twoP_mem b c).1 h6)
          have h7 := hno k hk
          rw [hkt, hst (b, c)] at h7
          exact of_decide_eq_false h7 ⟨rfl, rfl⟩
      repeat ((conv => whnf); refine ⟨by first | exact Nat.le_trans (show (23 : Nat) ≤ 1000000000 by decide) (Nat.le_refl _) | (unfold inI64; omega) | omega | exact ⟨by omega, by omega⟩ | (intro hg; first | (unfold inI64; omega) | omega | exact ⟨by omega, by omega⟩ | (simp [lit] at hg; unfold inI64; omega) | (simp [lit] at hg; omega) | (simp [lit] at hg; exact ⟨by omega, by omega⟩)) | (show (_ : Nat) + 1 ≤ 1000000000000; omega) | exact rfl | (unfold inI64; dsimp only; omega) | (dsimp only; omega) | (intro hg; simp [lit] at hg; first | (unfold inI64; dsimp only; omega) | (dsimp only; omega)) | decide +kernel, ?_⟩)
      conv => whnf
      rw [amb_one b]
      refine cond_intro (fun g8 => ?_) (fun g8 => ?_)
      · have hX : nextR b q = ({ kind := 4, text := B [b] }, 1, 0) := by rw [nextR, if_neg n1, if_neg n2, if_neg n3, if_neg n4, if_neg n5, if_neg n6, if_pos g8]
        rw [hX] at hK0
        have eO : (B l).extract (((a : Nat) : Int)).toNat ((a : Int) + 1).toNat = B [b] := by
          rw [B_extract]
          rw [show ((a : Int) + 1).toNat = a + 1 by omega, Int.toNat_natCast, List.drop_take, hd, Nat.add_sub_cancel_left]
          rfl
        repeat ((conv => whnf); refine ⟨by first | (unfold inI64; omega) | omega | exact ⟨by omega, by omega⟩ | (intro hg; first | (unfold inI64; omega) | omega | exact ⟨by omega, by omega⟩ | (simp [lit] at hg; unfold inI64; omega) | (simp [lit] at hg; omega) | (simp [lit] at hg; exact ⟨by omega, by omega⟩)) | (show (_ : Nat) + 1 ≤ 1000000000000; omega) | exact rfl | (unfold inI64; dsimp only; omega) | (dsimp only; omega) | (intro hg; simp [lit] at hg; first | (unfold inI64; dsimp only; omega) | (dsimp only; omega)) | decide +kernel, ?_⟩)
        conv => whnf
        rw [hK0]
        conv => whnf
        refine ends_eq ⟨?_, rfl⟩
        rw [eO]
        rfl
      · have hX : nextR b q = ({}, 0, 20) := by rw [nextR, if_neg n1, if_neg n2, if_neg n3, if_neg n4, if_neg n5, if_neg n6, if_neg (by rw [g8]; decide)]
        rw [hX] at hK0
        repeat ((conv => whnf); refine ⟨by first | (unfold inI64; omega) | omega | exact ⟨by omega, by omega⟩ | (intro hg; first | (unfold inI64; omega) | omega | exact ⟨by omega, by omega⟩ | (simp [lit] at hg; unfold inI64; omega) | (simp [lit] at hg; omega) | (simp [lit] at hg; exact ⟨by omega, by omega⟩)) | (show (_ : Nat) + 1 ≤ 1000000000000; omega) | exact rfl | (unfold inI64; dsimp only; omega) | (dsimp only; omega) | (intro hg; simp [lit] at hg; first | (unfold inI64; dsimp only; omega) | (dsimp only; omega)) | decide +kernel, ?_⟩)
        conv => whnf
        rw [hK0]
        conv => whnf
        exact ends_eq ⟨rfl, rfl⟩
end Go.Ab
