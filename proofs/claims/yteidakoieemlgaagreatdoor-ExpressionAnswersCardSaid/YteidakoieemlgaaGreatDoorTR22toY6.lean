/- The reference of package token: Read. -/
import Derived.Test.YteidakoieemlgaaGreatDoorTR21
import Derived.Test.YteidakoieemlgaaGreatDoorTY4toR16
import Derived.Test.YteidakoieemlgaaGreatDoorTS3toV13
namespace Go.Ab
open Go.Proofs
set_option linter.unusedSectionVars false
set_option maxRecDepth 100000
variable [Glob]

theorem skipL_suffix : ∀ (k : Nat) (l : List UInt8) (p : Int × Int), ∃ m, m ≤ l.length ∧ (skipL k l p).2.1 = l.drop m ∧ (skipL k l p).2.2 = posL (l.take m) p
  | 0, l, p => ⟨0, Nat.zero_le _, rfl, rfl⟩
  | k + 1, l, p => by
    simp only [skipL]
    split
    · exact ⟨0, Nat.zero_le _, rfl, rfl⟩
    · obtain ⟨m, h1, h2, h3⟩ := skipL_suffix k (l.drop (sepL l).1) (posL (l.take (sepL l).1) p)
      have hle := sepL_le l
      rw [List.length_drop] at h1
      refine ⟨(sepL l).1 + m, by omega, ?_, ?_⟩
      · rw [h2, List.drop_drop]
      · rw [h3, List.take_add, posL_append]

theorem skipA_suffix (l : List UInt8) (p : Int × Int) : ∃ m, m ≤ l.length ∧ (skipA l p).2.1 = l.drop m ∧ (skipA l p).2.2 = posL (l.take m) p := skipL_suffix _ l p

theorem skipR_eq (l : List UInt8) (i : Nat) (x y : Int) (hi : i ≤ l.length) : ∃ m, i + m ≤ l.length ∧ (skipA (l.drop i) (x, y)).2.1 = l.drop (i + m) ∧ (skipA (l.drop i) (x, y)).2.2 = posL ((l.drop i).take m) (x, y) ∧
    skipR ⟨B l, (i : Int), x, y⟩ = ((skipA (l.drop i) (x, y)).1, ⟨B l, ((i + m : Nat) : Int), (posL ((l.drop i).take m) (x, y)).1, (posL ((l.drop i).take m) (x, y)).2⟩) := by
  obtain ⟨m, h1, h2, h3⟩ := skipA_suffix (l.drop i) (x, y)
  rw [List.length_drop] at h1
  rw [List.drop_drop] at h2
  refine ⟨m, by omega, h2, h3, ?_⟩
  show ((skipA (l.drop i) (x, y)).1, RdV.mk (B l) (((B l).size : Int) - ((skipA (l.drop i) (x, y)).2.1.length : Nat)) (skipA (l.drop i) (x, y)).2.2.1 (skipA (l.drop i) (x, y)).2.2.2) = _
  rw [h2, h3, List.length_drop, B_size, show ((l.length : Nat) : Int) - ((l.length - (i + m) : Nat) : Int) = ((i + m : Nat) : Int) by omega]

theorem first_or (b : UInt8) : (letterB (bi b) || decide (bi b = 95) || decide (bi b = 35)) = (firstB (bi b) || decide (b = 35)) := by
  have h : decide (bi b = 35) = decide (b = 35) := byte_dec b 35
  rw [h]; rfl

theorem slash_word (b : UInt8) (q : List UInt8) (hb : b = 47) : wordL (b :: q) = slashR q := by
  unfold wordL slashR
  subst hb
  simp

theorem strL_shape : ∀ (k : Nat) (l : List UInt8) (out : List Int) (n : Nat), (strL k l out n).2.2 = 0 → ({ kind := 3, text := (strL k l out n).1.text } : TokV) = (strL k l out n).1
  | 0, l, out, n, h => absurd h (by simp only [strL]; decide)
  | k + 1, l, out, n, h => by
    simp only [strL] at h ⊢
    split at h
    · exact absurd h (by decide)
    · rename_i a r
      split at h
      · exact absurd h (by decide)
      · rename_i h1
        rw [if_neg h1]
        split at h
        · rename_i h2; rw [if_pos h2]
        · rename_i h2
          rw [if_neg h2]
          split at h
          · rename_i h3
            rw [if_pos h3]
            split at h
            · rename_i h4; rw [if_pos h4]; exact strL_shape k _ _ _ h
            · rename_i h4; exact absurd h h4
          · rename_i h3; rw [if_neg h3]; exact strL_shape k _ _ _ h

/-- Where the program's token is without an error, the reference's is the same; the errors are the same. -/
theorem next_cut (b : UInt8) (q : List UInt8) : (nextR b q).2.2 = (cutC b q).2.2 ∧ ((cutC b q).2.2 = 0 → nextR b q = ((cutC b q).1, ((cutC b q).2.1 : Int), 0)) := by
  unfold nextR cutC
  rw [first_or]
  by_cases h1 : (firstB (bi b) || decide (b = 35)) = true
  · rw [if_pos h1, if_pos h1]
    unfold nameR nameLx
    split
    · split
      · exact ⟨rfl, fun h => absurd h (by decide)⟩
      · exact ⟨rfl, fun _ => by simp only [Int.natCast_add]; rfl⟩
    · exact ⟨rfl, fun _ => rfl⟩
  rw [if_neg h1, if_neg h1]
  by_cases h2 : digitB (bi b) = true
  · rw [if_pos h2, if_pos h2]
    unfold numLx numR
    split
    · rename_i h3
      exact ⟨h3, fun _ => by rw [h3]⟩
    · rename_i h3
      exact ⟨rfl, fun h => absurd h h3⟩
  rw [if_neg h2, if_neg h2]
  have e34 : (bi b = 34) = (b = 34) := byte_iff b 34
  by_cases h3 : b = 34
  · rw [if_pos (e34 ▸ h3), if_pos h3]
    refine ⟨rfl, fun h => ?_⟩
    have hs := strL_shape (q.length + 1) q [] 1 h
    rw [h]
    generalize strL (q.length + 1) q [] 1 = z at hs
    rw [← hs]
  rw [if_neg (fun h => h3 (e34 ▸ h)), if_neg h3]
  by_cases h4 : refH b q = true
  · rw [if_pos h4, if_pos h4]
    exact ⟨rfl, fun _ => by simp only [Int.natCast_add]; rfl⟩
  rw [if_neg h4, if_neg h4]
  have e47 : (bi b = 47) = (b = 47) := byte_iff b 47
  by_cases h5 : 0 < wordL (b :: q)
  · have hb : b = 47 := by
      unfold wordL at h5
      split at h5
      · rename_i h6; simpa using h6.1
      · omega
    have hw := slash_word b q hb
    rw [if_pos ⟨e47 ▸ hb, by omega⟩, if_pos h5, hw]
    exact ⟨rfl, fun _ => rfl⟩
  rw [if_neg (fun h => h5 (by rw [slash_word b q (e47 ▸ h.1)]; exact h.2)), if_neg h5]
  unfold signL
  by_cases h6 : twoH b q = true
  · rw [if_pos h6, if_pos h6, if_pos (by decide)]
    exact ⟨rfl, fun _ => rfl⟩
  rw [if_neg h6, if_neg h6]
  by_cases h7 : oneP b = true
  · rw [if_pos h7, if_pos h7, if_pos (by decide)]
    exact ⟨rfl, fun _ => rfl⟩
  rw [if_neg h7, if_neg h7, if_neg (by decide)]
  exact ⟨rfl, fun h => absurd h (by decide)⟩
end Go.Ab

/- The reference of package token: Read, Same. -/
namespace Go.Ab
open Go.Proofs
set_option linter.unusedSectionVars false
set_option maxRecDepth 100000
variable [Glob]

theorem readL_err (f : Int) (k : Nat) (l : List UInt8) (p : Int × Int) (zs : List tokC.den) (h : ¬ (skipA l p).1 = 0) : readL f k l p zs = ⟨[], f, (skipA l p).2.2.1, (skipA l p).2.2.2, (skipA l p).1⟩ := by
  cases k with
  | zero => simp only [readL]; rw [if_neg h]
  | succ k => simp only [readL]; rw [if_neg h]
theorem readL_many (f : Int) (l : List UInt8) (p : Int × Int) (zs : List tokC.den) (h : (skipA l p).1 = 0) : readL f 0 l p zs = ⟨[], f, (skipA l p).2.2.1, (skipA l p).2.2.2, 3⟩ := by
  simp only [readL]; rw [if_pos h]
theorem readL_next (f : Int) (k : Nat) (l : List UInt8) (p : Int × Int) (zs : List tokC.den) (h : (skipA l p).1 = 0) : readL f (k + 1) l p zs = if (cutL (skipA l p).2.1).2.2 = 0 then
        if (cutL (skipA l p).2.1).1.kind = 8 then ⟨zs ++ [tokD (cutL (skipA l p).2.1).1 f (skipA l p).2.2], 0, 0, 0, 0⟩
        else readL f k ((skipA l p).2.1.drop (cutL (skipA l p).2.1).2.1) (posL ((skipA l p).2.1.take (cutL (skipA l p).2.1).2.1) (skipA l p).2.2) (zs ++ [tokD (cutL (skipA l p).2.1).1 f (skipA l p).2.2])
      else ⟨[], f, (skipA l p).2.2.1, (skipA l p).2.2.2, (cutL (skipA l p).2.1).2.2⟩ := by
  simp only [readL]; rw [if_pos h]

theorem opaqueC {M : Mach} {n : Nat} {ks : List Nat} {c : Code} {e : Env} {H : List AO} {K : Exit → Env → List AO → Prop} (h : ∀ KK, KK = K → runC M n ks c e H KK) : runC M n ks c e H K := h K rfl

def T71 : Table := ext T70 12 (saysSI fun s f => (none, (readV s f).sv))

set_option maxHeartbeats 2000000 in
theorem t71 : TSound Tryz.prog T71 := by
  refine extSI t70 12 (fn := Tryz.f12) rfl rfl (by decide) _ [0, 1, 4, 5, 6, 7, 8, 9, 10, 11, 12, 15, 27, 32, 39, 53] fun s f _ => ?_
  obtain ⟨l, rfl⟩ : ∃ l, s = B l := ⟨s.data.toList, rfl⟩
  have hB : (B l).size = l.length := rfl
  refine runF_opaque rfl fun K0 hK0 => ?_
  repeat ((conv => whnf); refine ⟨by first | (unfold inI64; omega) | omega | exact ⟨by omega, by omega⟩ | (intro hg; first | (unfold inI64; omega) | omega | exact ⟨by omega, by omega⟩ | (simp [lit] at hg; unfold inI64; omega) | (simp [lit] at hg; omega) | (simp [lit] at hg; exact ⟨by omega, by omega⟩)) | (show (_ : Nat) + 1 ≤ 1000000000000; omega) | exact rfl | (unfold inI64; dsimp only; omega) | (dsimp only; omega) | (intro hg; simp [lit] at hg; first | (unfold inI64; dsimp only; omega) | (dsimp only; omega)) | decide +kernel, ?_⟩)
  conv => whnf
  refine cond_intro (fun h => ?_) (fun h => ?_)
  · have h' : 16000 < ((B l).size : Int) := of_decide_eq_true h
    repeat ((conv => whnf); refine ⟨by first | (unfold inI64; omega) | omega | exact ⟨by omega, by omega⟩ | (intro hg; first | (unfold inI64; omega) | omega | exact ⟨by omega, by omega⟩ | (simp [lit] at hg; unfold inI64; omega) | (simp [lit] at hg; omega) | (simp [lit] at hg; exact ⟨by omega, by omega⟩)) | (show (_ : Nat) + 1 ≤ 1000000000000; omega) | exact rfl | (unfold inI64; dsimp only; omega) | (dsimp only; omega) | (intro hg; simp [lit] at hg; first | (unfold inI64; dsimp only; omega) | (dsimp only; omega)) | decide +kernel, ?_⟩)
    conv => whnf
    rw [hK0]
    conv => whnf
    refine ends_of (fun G v hv => ?_) rfl
    have := nil_sle tokC G v hv
    show RepS G (readV (B l) f).sv v
    rw [readV, if_pos h']
    exact this
  have h' : ¬ 16000 < ((B l).size : Int) := of_decide_eq_false h
  have hV : readV (B l) f = readL f 6000 l (1, 1) [] := readV_L l f (by omega)
  repeat ((conv => whnf); refine ⟨by first | (unfold inI64; omega) | omega | exact ⟨by omega, by omega⟩ | (intro hg; first | (unfold inI64; omega) | omega | exact ⟨by omega, by omega⟩ | (simp [lit] at hg; unfold inI64; omega) | (simp [lit] at hg; omega) | (simp [lit] at hg; exact ⟨by omega, by omega⟩)) | (show (_ : Nat) + 1 ≤ 1000000000000; omega) | exact rfl | (unfold inI64; dsimp only; omega) | (dsimp only; omega) | (intro hg; simp [lit] at hg; first | (unfold inI64; dsimp only; omega) | (dsimp only; omega)) | decide +kernel, ?_⟩)
  conv => whnf
  refine loop_weak (σ := Nat × Nat × Int × Int × List tokC.den) (fun ⟨_, _, _, _, zs⟩ => [(0, XV.s (SV.str (B l))), (1, XV.s (.int .i64 f)), (4, XV.s .none), (5, XV.s (.a (.c (.ptr 0 0)))), (6, XV.s .none), (7, XV.s (.a (.c (.ptr 1 0)))), (8, XV.s (.a (.c (.own 2 tokC zs)))), (9, XV.s .none), (10, XV.s .none), (11, XV.s .none), (12, XV.s .none), (15, XV.s .none), (27, XV.s .none), (32, XV.s .none), (39, XV.s .none), (53, XV.s .none)])
    (fun ⟨_, i, x, y, zs⟩ => [.row [.int .i64 0, .int .i64 0, .int .i64 0], .row [.str (B l), .int .i64 (i : Int), .int .i64 x, .int .i64 y], .tok 54 tokC zs.length true])
    (fun ⟨k, i, x, y, zs⟩ => RrOk ⟨B l, (i : Int), x, y⟩ ∧ zs.length + k = 6000 ∧ readL f k (l.drop i) (x, y) zs = readL f 6000 l (1, 1) []) (fun ⟨k, _, _, _, _⟩ => k) (6000, 0, 1, 1, []) ?_ ?_ fun ⟨k, i, x, y, zs⟩ hI => ?_
  · refine Weak.own 54 ?_
    repeat (first | exact OwnL.nil | refine OwnL.drop ?_ | refine OwnL.same ?_ | refine OwnL.own ?_)
  · exact ⟨⟨by show (B l).size ≤ _; omega, Int.le_refl _, by show (0 : Int) ≤ ((B l).size : Nat); omega, by show (0 : Int) ≤ 1; decide, by show (1 : Int) + ((B l).size : Nat) ≤ 1000000000000 + 0; omega, by show (0 : Int) ≤ 1; decide, by show (1 : Int) + ((B l).size : Nat) ≤ 1000000000000 + 0; omega⟩, rfl, rfl⟩
  obtain ⟨hq, hk, hgo⟩ := hI
  have hil : i ≤ l.length := by have := hq.2.2.1; simp only at this; omega
  obtain ⟨m, hm1, hm2, hm3, hsk⟩ := skipR_eq l i x y hil
  have hqm := stepR_ok m hq hm1
  generalize hpx : (posL ((l.drop i).take m) (x, y)).1 = px at hsk hqm
  generalize hpy : (posL ((l.drop i).take m) (x, y)).2 = py at hsk hqm
  have hm3' : (skipA (l.drop i) (x, y)).2.2 = (px, py) := by rw [hm3, ← hpx, ← hpy]
  generalize hse : (skipA (l.drop i) (x, y)).1 = se at hsk
  generalize hj : i + m = j at hm1 hm2 hsk hqm
  show runC _ _ _ _ _ _ _
  refine opaqueC fun KL hKL => ?_
  repeat ((conv => whnf); refine ⟨by first | exact hq | (unfold inI64; omega) | omega | exact ⟨by omega, by omega⟩ | (intro hg; first | (unfold inI64; omega) | omega | exact ⟨by omega, by omega⟩ | (simp [lit] at hg; unfold inI64; omega) | (simp [lit] at hg; omega) | (simp [lit] at hg; exact ⟨by omega, by omega⟩)) | (show (_ : Nat) + 1 ≤ 1000000000000; omega) | exact rfl | (unfold inI64; dsimp only; omega) | (dsimp only; omega) | (intro hg; simp [lit] at hg; first | (unfold inI64; dsimp only; omega) | (dsimp only; omega)) | decide +kernel, ?_⟩)
  conv => whnf
  dsimp only
  rw [hsk]
  refine cond_intro (fun g1 => ?_) (fun g1 => ?_)
  · have g1' : ¬ se = 0 := by simpa using g1
    rw [readL_err f k _ _ zs (by rw [hse]; exact g1'), hm3', hse] at hgo
    repeat ((conv => whnf); refine ⟨by first | (unfold inI64; omega) | omega | exact ⟨by omega, by omega⟩ | (intro hg; first | (unfold inI64; omega) | omega | exact ⟨by omega, by omega⟩ | (simp [lit] at hg; unfold inI64; omega) | (simp [lit] at hg; omega) | (simp [lit] at hg; exact ⟨by omega, by omega⟩)) | (show (_ : Nat) + 1 ≤ 1000000000000; omega) | exact rfl | (unfold inI64; dsimp only; omega) | (dsimp only; omega) | (intro hg; simp [lit] at hg; first | (unfold inI64; dsimp only; omega) | (dsimp only; omega)) | decide +kernel, ?_⟩)
    conv => whnf
    rw [hKL]
    conv => whnf
    rw [hK0]
    conv => whnf
    refine ends_of (fun G v hv => ?_) rfl
    have := nil_sle tokC G v hv
    show RepS G (readV (B l) f).sv v
    rw [hV, ← hgo]
    exact this
  have g1' : se = 0 := by simpa using g1
  subst g1'
  repeat ((conv => whnf); refine ⟨by first | (unfold inI64; omega) | omega | exact ⟨by omega, by omega⟩ | (intro hg; first | (unfold inI64; omega) | omega | exact ⟨by omega, by omega⟩ | (simp [lit] at hg; unfold inI64; omega) | (simp [lit] at hg; omega) | (simp [lit] at hg; exact ⟨by omega, by omega⟩)) | (show (_ : Nat) + 1 ≤ 1000000000000; omega) | exact rfl | (unfold inI64; dsimp only; omega) | (dsimp only; omega) | (intro hg; simp [lit] at hg; first | (unfold inI64; dsimp only; omega) | (dsimp only; omega)) | decide +kernel, ?_⟩)
  conv => whnf
  refine cond_intro (fun g2 => ?_) (fun g2 => ?_)
  · have g2' : zs.length = 6000 := by have : (zs.length : Int) = 6000 := of_decide_eq_true g2
                                      omega
    have hk0 : k = 0 := by omega
    subst hk0
    rw [readL_many f _ _ zs hse, hm3'] at hgo
    repeat ((conv => whnf); refine ⟨by first | (unfold inI64; omega) | omega | exact ⟨by omega, by omega⟩ | (intro hg; first | (unfold inI64; omega) | omega | exact ⟨by omega, by omega⟩ | (simp [lit] at hg; unfold inI64; omega) | (simp [lit] at hg; omega) | (simp [lit] at hg; exact ⟨by omega, by omega⟩)) | (show (_ : Nat) + 1 ≤ 1000000000000; omega) | exact rfl | (unfold inI64; dsimp only; omega) | (dsimp only; omega) | (intro hg; simp [lit] at hg; first | (unfold inI64; dsimp only; omega) | (dsimp only; omega)) | decide +kernel, ?_⟩)
    conv => whnf
    rw [hKL]
    conv => whnf
    rw [hK0]
    conv => whnf
    refine ends_of (fun G v hv => ?_) rfl
    have := nil_sle tokC G v hv
    show RepS G (readV (B l) f).sv v
    rw [hV, ← hgo]
    exact this
  have g2' : ¬ zs.length = 6000 := fun h => of_decide_eq_false g2 (by rw [h]; rfl)
  obtain ⟨k, rfl⟩ : ∃ k', k = k' + 1 := ⟨k - 1, by omega⟩
  rw [readL_next f k _ _ zs hse, hm2, hm3'] at hgo
  repeat ((conv => whnf); refine ⟨by first | (unfold inI64; omega) | omega | exact ⟨by omega, by omega⟩ | (intro hg; first | (unfold inI64; omega) | omega | exact ⟨by omega, by omega⟩ | (simp [lit] at hg; unfold inI64; omega) | (simp [lit] at hg; omega) | (simp [lit] at hg; exact ⟨by omega, by omega⟩)) | (show (_ : Nat) + 1 ≤ 1000000000000; omega) | exact rfl | (unfold inI64; dsimp only; omega) | (dsimp only; omega) | (intro hg; simp [lit] at hg; first | (unfold inI64; dsimp only; omega) | (dsimp only; omega)) | decide +kernel, ?_⟩)
  conv => whnf
  refine cond_intro (fun g3 => ?_) (fun g3 => ?_)
  · have g3' : j = l.length := by have : (j : Int) = ((B l).size : Nat) := of_decide_eq_true g3
                                  omega
    have hnil : l.drop j = [] := List.drop_eq_nil_of_le (by omega)
    rw [hnil] at hgo
    rw [if_pos (show (cutL []).2.2 = 0 from rfl), if_pos (show (cutL []).1.kind = 8 from rfl)] at hgo
    repeat ((conv => whnf); refine ⟨by first | (show zs.length + 1 ≤ 1000000000000; omega) | (unfold inI64; omega) | omega | exact ⟨by omega, by omega⟩ | (intro hg; first | (unfold inI64; omega) | omega | exact ⟨by omega, by omega⟩ | (simp [lit] at hg; unfold inI64; omega) | (simp [lit] at hg; omega) | (simp [lit] at hg; exact ⟨by omega, by omega⟩)) | (show (_ : Nat) + 1 ≤ 1000000000000; omega) | exact rfl | (unfold inI64; dsimp only; omega) | (dsimp only; omega) | (intro hg; simp [lit] at hg; first | (unfold inI64; dsimp only; omega) | (dsimp only; omega)) | decide +kernel, ?_⟩)
    conv => whnf
    rw [hKL]
    conv => whnf
    rw [hK0]
    conv => whnf
    refine ends_eq ⟨?_, rfl⟩
    show _ = (readV (B l) f).sv
    rw [hV, ← hgo]
    rfl
  have g3' : ¬ j = l.length := fun h => of_decide_eq_false g3 (by rw [h]; rfl)
  have hjl : j < l.length := by omega
  have hdj := drop_get hjl
  generalize hbe : l.getD j 0 = b at hdj
  generalize hre : l.drop (j + 1) = q at hdj
  rw [hdj] at hgo
  obtain ⟨hn1, hn2⟩ := next_cut b q
  have hcl : cutL (b :: q) = cutC b q := rfl
  rw [hcl] at hgo
  have hnx : nextRl ((B l).data.toList.drop (((j : Nat) : Int)).toNat) = nextR b q := by
    show nextRl (l.drop j) = _
    rw [hdj]; rfl
  repeat ((conv => whnf); refine ⟨by first | exact ⟨by show (B l).size ≤ _; omega, by omega, by show (j : Int) < ((B l).size : Nat); omega⟩ | (unfold inI64; omega) | omega | exact ⟨by omega, by omega⟩ | (intro hg; first | (unfold inI64; omega) | omega | exact ⟨by omega, by omega⟩ | (simp [lit] at hg; unfold inI64; omega) | (simp [lit] at hg; omega) | (simp [lit] at hg; exact ⟨by omega, by omega⟩)) | (show (_ : Nat) + 1 ≤ 1000000000000; omega) | exact rfl | (unfold inI64; dsimp only; omega) | (dsimp only; omega) | (intro hg; simp [lit] at hg; first | (unfold inI64; dsimp only; omega) | (dsimp only; omega)) | decide +kernel, ?_⟩)
  conv => whnf
  dsimp only
  rw [hnx]
  refine cond_intro (fun g4 => ?_) (fun g4 => ?_)
  · have g4' : ¬ (cutC b q).2.2 = 0 := by
      rw [← hn1]
      have : (!decide ((nextR b q).2.2 = 0)) = true := g4
      simpa using this
    rw [if_neg g4', ← hn1] at hgo
    repeat ((conv => whnf); refine ⟨by first | (unfold inI64; omega) | omega | exact ⟨by omega, by omega⟩ | (intro hg; first | (unfold inI64; omega) | omega | exact ⟨by omega, by omega⟩ | (simp [lit] at hg; unfold inI64; omega) | (simp [lit] at hg; omega) | (simp [lit] at hg; exact ⟨by omega, by omega⟩)) | (show (_ : Nat) + 1 ≤ 1000000000000; omega) | exact rfl | (unfold inI64; dsimp only; omega) | (dsimp only; omega) | (intro hg; simp [lit] at hg; first | (unfold inI64; dsimp only; omega) | (dsimp only; omega)) | decide +kernel, ?_⟩)
    conv => whnf
    rw [hKL]
    conv => whnf
    rw [hK0]
    conv => whnf
    refine ends_of (fun G v hv => ?_) rfl
    have := nil_sle tokC G v hv
    show RepS G (readV (B l) f).sv v
    rw [hV, ← hgo]
    exact this
  have g4' : (cutC b q).2.2 = 0 := by
    rw [← hn1]
    have : (!decide ((nextR b q).2.2 = 0)) = false := g4
    simpa using this
  have hcp := cutC_pos b q g4'
  rw [if_pos g4', if_neg hcp.2] at hgo
  have hle : (cutC b q).2.1 ≤ (b :: q).length := cutL_le (b :: q) g4'
  have hbq : (b :: q).length = l.length - j := by rw [← hdj, List.length_drop]
  rw [hn2 g4']
  generalize hcc : cutC b q = c at hgo hle
  obtain ⟨c1, c2, c3⟩ := c
  dsimp only
  have hle' : c2 ≤ (b :: q).length := hle
  have hjc : j + c2 ≤ l.length := by omega
  repeat ((conv => whnf); refine ⟨by first | exact ⟨hqm, by show (0 : Int) ≤ (c2 : Int); omega, by show (j : Int) + (c2 : Int) ≤ ((B l).size : Nat); omega⟩ | (show zs.length + 1 ≤ 1000000000000; omega) | (unfold inI64; omega) | omega | exact ⟨by omega, by omega⟩ | (intro hg; first | (unfold inI64; omega) | omega | exact ⟨by omega, by omega⟩ | (simp [lit] at hg; unfold inI64; omega) | (simp [lit] at hg; omega) | (simp [lit] at hg; exact ⟨by omega, by omega⟩)) | (show (_ : Nat) + 1 ≤ 1000000000000; omega) | exact rfl | (unfold inI64; dsimp only; omega) | (dsimp only; omega) | (intro hg; simp [lit] at hg; first | (unfold inI64; dsimp only; omega) | (dsimp only; omega)) | decide +kernel, ?_⟩)
  conv => whnf
  rw [hKL]
  refine head_keep (k, j + c2, (posL ((l.drop j).take c2) (px, py)).1, (posL ((l.drop j).take c2) (px, py)).2, zs ++ [tokD c1 f (px, py)]) [0, 1, 2] rfl (fun k hk => ?_) ?_ ?_ ⟨?_, ?_, ?_⟩ ?_
  · have hk' : k < 2 := hk
    have : k = 0 ∨ k = 1 := by omega
    rcases this with rfl | rfl <;> rfl
  · show _ = some [AO.row _, rdO ⟨B l, ((j + c2 : Nat) : Int), (posL ((l.drop j).take c2) (px, py)).1, (posL ((l.drop j).take c2) (px, py)).2⟩, AO.tok 54 tokC (zs ++ [tokD c1 f (px, py)]).length true]
    rw [← stepR_eq, List.length_append]
    rfl
  · repeat (first | exact KeepL.nil | refine KeepL.drop ?_ | refine KeepL.ren rfl ?_)
  · exact stepR_ok c2 hqm hjc
  · rw [List.length_append, List.length_singleton]; omega
  · rw [← hgo, hdj]
    rw [← hdj, ← List.drop_drop]
  · exact Nat.lt_succ_self k

/-! Equality of two lists of tokens. -/
def sameB (a b : List tokC.den) : Bool := decide (a = b)

/-- Two lists of tokens; objects are not looked at. -/
def saysTT (g : List tokC.den → List tokC.den → Option Prop × SV) : Says := fun args H => match args, H with
  | [.c (.p (.l (.pair (.int .i64) (.pair .str (.pair (.int .i64) (.pair (.int .i64) (.pair (.int .i64) (.int .i64)))))) a)), .c (.p (.l (.pair (.int .i64) (.pair .str (.pair (.int .i64) (.pair (.int .i64) (.pair (.int .i64) (.int .i64)))))) b))], [] => some ((g a b).1, (g a b).2, [])
  | _, _ => none

theorem extTT {P : Program} {T : Table} (hT : TSound P T) (f : FuncId) {fn : Func} (hf : P.funcs[f]? = some fn) (hname : (fn.name == "runtime.NumGoroutine") = false) (hn : 2 ≤ fn.ntmps) (g : List tokC.den → List tokC.den → Option Prop × SV) (ks : List Nat)
    (h : ∀ a b, holdsO (g a b).1 → runF ⟨P, T⟩ fn ks [] [.c (.p (.l tokC a)), .c (.p (.l tokC b))] [] fun r' H'' => Ends r' H'' (g a b).2 []) : TSound P (ext T f (saysTT g)) :=
  ext_run hT hf hname ks fun args H p r H' hs hp => by
    unfold saysTT at hs
    split at hs
    · cases hs
      exact ⟨hn, [], rfl, fun k hk => absurd hk (Nat.not_lt_zero k), h _ _ hp⟩
    · cases hs

def T72 : Table := T71

theorem t72 : TSound Tryz.prog T72 := t71

end Go.Ab

/- The reference's Value, Compute and Format. -/
namespace Go.Ab
open Go.Proofs
set_option linter.unusedSectionVars false
set_option maxRecDepth 100000
variable [Glob]
def dig10 : ByteArray := ⟨#[48, 49, 50, 51, 52, 53, 54, 55, 56, 57]⟩
def dig16 : ByteArray := ⟨#[48, 49, 50, 51, 52, 53, 54, 55, 56, 57, 97, 98, 99, 100, 101, 102]⟩
theorem dig10_at : ∀ i : Fin 10, dig10.extract i.val (i.val + 1) = B (basedV false 10 i.val) := by decide +kernel
theorem dig16_at : ∀ i : Fin 16, dig16.extract i.val (i.val + 1) = B [(digL false).getD i.val 0] := by decide +kernel

section
variable {T : Table} (hT : TSound Tryz.prog T)

abbrev P8 (N : Nat) (T : Table) : Table := ext (P7 N T) 15 (saysRV false)
include hT in
theorem p8 {N : Nat} (hN : 20000 ≤ N) : TSound Tryz.prog (P8 N T) := by
  refine ext_run (p7 hT hN) (f := 15) (fn := Tryz.f15) rfl rfl [0, 1, 4, 5, 6, 7, 15] fun args H p r' H' hs hp => ?_
  unfold saysRV at hs
  split at hs
  · split at hs
    · rename_i toks a _
      cases hs
      obtain ⟨rfl, hl⟩ := hp
      refine ⟨Nat.le_of_ble_eq_true rfl, [], rfl, fun k hk => absurd hk (Nat.not_lt_zero k), ?_⟩
      rw [← ref_expr hN false toks a hl]
      unfold refV
      repeat ((conv => whnf); refine ⟨by first | (unfold inI64; omega) | omega | exact ⟨by omega, by omega⟩ | exact rfl | decide +kernel, ?_⟩)
      conv => whnf
      refine cond_intro (fun h => ?_) (fun h => ?_)
      · have h' : a < 0 ∨ (toks.length : Int) ≤ a := by simpa using h
        rw [if_pos h']
        repeat ((conv => whnf); refine ⟨by first | (unfold inI64; omega) | omega | exact ⟨by omega, by omega⟩ | exact rfl | decide +kernel, ?_⟩)
        conv => whnf
        exact ends_eq ⟨rfl, rfl⟩
      have h' : ¬ (a < 0 ∨ (toks.length : Int) ≤ a) := by
        have : (decide (a < 0) || decide ((toks.length : Int) ≤ a)) = false := h
        simp at this
        omega
      rw [if_neg h']
      obtain ⟨a, rfl⟩ : ∃ n : Nat, a = n := ⟨a.toNat, by omega⟩
      have ha : a ≤ toks.length := by omega
      rw [Int.toNat_natCast]
      have hO := rdp0 hN hl ha (show 3 ≤ 3 by decide)
      have hnn := (r_nn N).2.2 0 (pr0 toks a)
      show runC _ _ _ _ _ _ _
      dsimp only
      repeat ((conv => whnf); refine ⟨by first | exact ⟨rfl, rfl, hO⟩ | exact ⟨rfl, rfl, hnn⟩ | (unfold inI64; omega) | omega | exact ⟨by omega, by omega⟩ | exact rfl | decide +kernel, ?_⟩)
      conv => whnf
      exact ends_eq ⟨rfl, rfl⟩
    · cases hs
  · cases hs

abbrev P9 (N : Nat) (T : Table) : Table := ext (P8 N T) 12 (saysSI fun s f => (none, (readV s f).sv))
include hT in
theorem p9 {N : Nat} (hN : 20000 ≤ N) : TSound Tryz.prog (P9 N T) := ext_only t71 (p8 hT hN)

abbrev P10 (N : Nat) (T : Table) : Table := ext (P9 N T) 11 (saysS fun s => (none, .tup [.c (.int .i64 (cmpV s).1), .c (.int .i64 (cmpV s).2)]))
include hT in
theorem p10 {N : Nat} (hN : 20000 ≤ N) : TSound Tryz.prog (P10 N T) := by
  refine extS (p9 hT hN) 11 (fn := Tryz.f11) rfl rfl (by decide) _ [0, 2, 3, 4, 6, 7, 8, 16, 25, 32] fun s _ => ?_
  have hr := readV_end s 0
  unfold cmpV
  repeat ((conv => whnf); refine ⟨by first | (unfold inI64; omega) | omega | exact ⟨by omega, by omega⟩ | exact rfl | decide +kernel, ?_⟩)
  conv => whnf
  refine cond_intro (fun h => ?_) (fun h => ?_)
  · have h1 : ¬ (readV s 0).err = 0 := by simpa using h
    rw [if_neg h1]
    repeat ((conv => whnf); refine ⟨by first | (unfold inI64; omega) | omega | exact ⟨by omega, by omega⟩ | exact rfl | decide +kernel, ?_⟩)
    conv => whnf
    exact ends_eq ⟨rfl, rfl⟩
  have h1 : (readV s 0).err = 0 := by simpa using h
  obtain ⟨ys, e, ht, he⟩ := hr.2 h1
  rw [if_pos h1]
  repeat ((conv => whnf); refine ⟨by first | exact ⟨rfl, (show (readV s 0).toks.length ≤ 6001 by omega)⟩ | (unfold inI64; omega) | omega | exact ⟨by omega, by omega⟩ | exact rfl | decide +kernel, ?_⟩)
  conv => whnf
  refine cond_intro (fun h2 => ?_) (fun h2 => ?_)
  · have h3 : ¬ (exprV false (readV s 0).toks 0).2.2 = 0 := by simpa using h2
    rw [if_neg h3]
    repeat ((conv => whnf); refine ⟨by first | (unfold inI64; omega) | omega | exact ⟨by omega, by omega⟩ | exact rfl | decide +kernel, ?_⟩)
    conv => whnf
    exact ends_eq ⟨rfl, rfl⟩
  have h3 : (exprV false (readV s 0).toks 0).2.2 = 0 := by simpa using h2
  have h4 := exprV_in ht he h3
  rw [if_pos h3]
  repeat ((conv => whnf); refine ⟨by first | exact h4 | (unfold inI64; omega) | omega | exact ⟨by omega, by omega⟩ | exact rfl | decide +kernel, ?_⟩)
  conv => whnf
  refine cond_intro (fun h5 => ?_) (fun h5 => ?_)
  · have h6 : ¬ ((readV s 0).toks.getD (exprV false (readV s 0).toks 0).2.1.toNat tkC.dflt).1 = 8 := by
      have : (!decide (((readV s 0).toks.getD (exprV false (readV s 0).toks 0).2.1.toNat tkC.dflt).1 = 8)) = true := h5
      simpa using this
    rw [if_neg h6]
    repeat ((conv => whnf); refine ⟨by first | (unfold inI64; omega) | omega | exact ⟨by omega, by omega⟩ | exact rfl | decide +kernel, ?_⟩)
    conv => whnf
    exact ends_eq ⟨rfl, rfl⟩
  · have h6 : ((readV s 0).toks.getD (exprV false (readV s 0).toks 0).2.1.toNat tkC.dflt).1 = 8 := by
      have : (!decide (((readV s 0).toks.getD (exprV false (readV s 0).toks 0).2.1.toNat tkC.dflt).1 = 8)) = false := h5
      simpa using this
    rw [if_pos h6]
    repeat ((conv => whnf); refine ⟨by first | (unfold inI64; omega) | omega | exact ⟨by omega, by omega⟩ | exact rfl | decide +kernel, ?_⟩)
    conv => whnf
    exact ends_eq ⟨rfl, rfl⟩
abbrev P11 (N : Nat) (T : Table) : Table := ext (P10 N T) 20 (saysI fun n => (none, .str (fmtV n)))
include hT in
theorem p11 {N : Nat} (hN : 20000 ≤ N) : TSound Tryz.prog (P11 N T) := by
  refine extI (p10 hT hN) 20 (fn := Tryz.f20) rfl rfl (by decide) _ [0, 2, 3, 9, 11, 17] fun n _ => ?_
  unfold fmtV
  repeat ((conv => whnf); refine ⟨by first | (unfold inI64; omega) | omega | exact ⟨by omega, by omega⟩ | exact rfl | decide +kernel, ?_⟩)
  conv => whnf
  refine cond_intro (fun h => ?_) (fun h => ?_)
  · have h' : n < 0 ∨ 4294967295 < n := by simpa using h
    rw [if_pos h']
    repeat ((conv => whnf); refine ⟨by first | (unfold inI64; omega) | omega | exact ⟨by omega, by omega⟩ | exact rfl | decide +kernel, ?_⟩)
    conv => whnf
    exact ends_eq ⟨rfl, rfl⟩
  have h' : ¬ (n < 0 ∨ 4294967295 < n) := by
    have : (decide (n < 0) || decide (4294967295 < n)) = false := h
    simp at this
    omega
  rw [if_neg h']
  repeat ((conv => whnf); refine ⟨by first | (unfold inI64; omega) | omega | exact ⟨by omega, by omega⟩ | exact rfl | decide +kernel, ?_⟩)
  conv => whnf
  refine cond_intro (fun h2 => ?_) (fun h2 => ?_)
  · have h3 : n < 10 := of_decide_eq_true h2
    rw [if_pos h3]
    repeat ((conv => whnf); refine ⟨by first | exact ⟨by omega, by omega, (show n + 1 ≤ 10 by omega)⟩ | (unfold inI64; omega) | omega | exact ⟨by omega, by omega⟩ | exact rfl | decide +kernel, ?_⟩)
    conv => whnf
    refine ends_eq ⟨congrArg SV.str ?_, rfl⟩
    have := dig10_at ⟨n.toNat, by omega⟩
    rw [← this]
    show dig10.extract n.toNat (n + 1).toNat = dig10.extract n.toNat (n.toNat + 1)
    rw [show (n + 1).toNat = n.toNat + 1 by omega]
  have h3 : ¬ n < 10 := of_decide_eq_false h2
  rw [if_neg h3]
  obtain ⟨m, rfl⟩ : ∃ m : Nat, n = m := ⟨n.toNat, by omega⟩
  rw [Int.toNat_natCast]
  repeat ((conv => whnf); refine ⟨by first | (unfold inI64; omega) | omega | exact ⟨by omega, by omega⟩ | exact rfl | decide +kernel, ?_⟩)
  conv => whnf
  refine loop_intro (σ := Nat × Nat × List UInt8) (fun ⟨u, _, out⟩ => [(0, XV.s (.int .i64 (u : Int))), (2, XV.s .none), (3, XV.s (.str (B out))), (9, XV.s .none), (11, XV.s .none), (17, XV.s .none)])
    (fun _ => []) (fun ⟨u, k, out⟩ => u < 2 ^ k ∧ u ≤ 4294967295 ∧ out.length + k = 65 ∧ basedL (digL false) 16 k u out = basedV false 16 m) (fun ⟨_, k, _⟩ => k) (m, 65, []) ?_ rfl ?_ ?_
  · repeat (first | exact LeL.nil | refine LeL.drop ?_ | refine LeL.same ?_)
  · refine ⟨by omega, by omega, rfl, ?_⟩
    unfold basedV
    rw [basedL, if_neg (by omega)]
  rintro ⟨u, k, out⟩ ⟨h4, h5, h6, h7⟩
  repeat ((conv => whnf); refine ⟨by first | (unfold inI64; omega) | omega | exact ⟨by omega, by omega⟩ | exact rfl | decide +kernel, ?_⟩)
  conv => whnf
  refine cond_intro (fun h8 => ?_) (fun h8 => ?_)
  · have h9 : 0 < u := by
      have : (0 : Int) < (u : Int) := of_decide_eq_true h8
      omega
    obtain ⟨k, rfl⟩ : ∃ j, k = j + 1 := ⟨k - 1, by
      cases k with
      | zero => simp at h4; omega
      | succ k => rfl⟩
    rw [basedL, if_neg (by omega)] at h7
    have hm : ((u : Int).tmod 16) = ((u % 16 : Nat) : Int) := by rw [Int.tmod_eq_emod_of_nonneg (by omega)]; rfl
    have hd : ((u : Int).tdiv 16) = ((u / 16 : Nat) : Int) := by rw [Int.tdiv_eq_ediv_of_nonneg (by omega)]; rfl
    have hb : ((u % 16 : Nat) : Int) + 1 ≤ 16 := by have := Nat.mod_lt u (show 0 < 16 by decide); omega
    have hx := dig16_at ⟨u % 16, Nat.mod_lt _ (by decide)⟩
    have hB : dig16.extract ((u : Int).tmod 16).toNat ((u : Int).tmod 16 + 1).toNat ++ B out = B ((digL false).getD (u % 16) 0 :: out) := by
      rw [hm, show (((u % 16 : Nat) : Int) + 1).toNat = u % 16 + 1 by omega, Int.toNat_natCast]
      have hx' : dig16.extract (u % 16) (u % 16 + 1) = B [(digL false).getD (u % 16) 0] := hx
      rw [hx']
      rfl
    have hs : (dig16.extract ((u : Int).tmod 16).toNat ((u : Int).tmod 16 + 1).toNat).size ≤ 16 := by
      rw [ByteArray.size_extract]
      show min _ 16 - _ ≤ 16
      omega
    have e1 : 0 ≤ (u : Int).tmod 16 ∧ (u : Int).tmod 16 ≤ (u : Int).tmod 16 + 1 ∧ (u : Int).tmod 16 + 1 ≤ ((16 : Nat) : Int) := by rw [hm]; omega
    have e2 : inI64 ((u : Int).tmod 16 + 1) := by rw [hm]; unfold inI64; omega
    have e3 : inI64 ((u : Int).tdiv 16) := by rw [hd]; unfold inI64; omega
    have e4 : (((dig16.extract ((u : Int).tmod 16).toNat ((u : Int).tmod 16 + 1).toNat).size + (B out).size : Nat) : Int) ≤ 9223372036854775807 := by
      have hb2 : (B out).size = out.length := rfl
      omega
    repeat ((conv => whnf); refine ⟨by first | exact e1 | exact e2 | exact e3 | exact e4 | (unfold inI64; omega) | omega | exact ⟨by omega, by omega⟩ | exact rfl | decide +kernel, ?_⟩)
    conv => whnf
    refine head_intro (u / 16, k, (digL false).getD (u % 16) 0 :: out) ?_ rfl ?_ ?_
    · show LeL [(0, XV.s (.int .i64 ((u / 16 : Nat) : Int))), (2, XV.s .none), (3, XV.s (.str (B ((digL false).getD (u % 16) 0 :: out)))), (9, XV.s .none), (11, XV.s .none), (17, XV.s .none)] _
      rw [← (wrap_i64 e3).trans hd, ← hB]
      repeat (first | exact LeL.nil | refine LeL.drop ?_ | refine LeL.same ?_)
    · refine ⟨?_, by omega, by simp only [List.length_cons]; omega, h7⟩
      have : 2 ^ (k + 1) = 2 * 2 ^ k := by rw [Nat.pow_succ]; omega
      omega
    · exact Nat.lt_succ_self k
  · have h9 : u = 0 := by
      have : ¬ (0 : Int) < (u : Int) := of_decide_eq_false h8
      omega
    subst h9
    have h10 : out = basedV false 16 m := by
      cases k with
      | zero => exact h7
      | succ k => rw [basedL, if_pos rfl] at h7; exact h7
    subst h10
    have hl := basedV_len false 16 m
    repeat ((conv => whnf); refine ⟨by first | exact ⟨by omega, by omega⟩ | (show (((2 + (B (basedV false 16 m)).size : Nat) : Int)) ≤ _; rw [B_size]; omega) | (unfold inI64; omega) | omega | exact ⟨by omega, by omega⟩ | exact rfl | decide +kernel, ?_⟩)
    conv => whnf
    refine ends_eq ⟨congrArg SV.str ?_, rfl⟩
    rfl
end
end Go.Ab
