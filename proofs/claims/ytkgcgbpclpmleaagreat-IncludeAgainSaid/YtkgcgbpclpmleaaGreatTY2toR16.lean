/- The reference's parser of expressions: signs between two operands. -/
import Derived.Test.YtkgcgbpclpmleaaGreatTU1toY1
import Derived.Test.YtkgcgbpclpmleaaGreatTX3toS1
import Derived.Test.YtkgcgbpclpmleaaGreatTS2toX1
namespace Go.Ab
open Go.Proofs
set_option linter.unusedSectionVars false
set_option maxRecDepth 100000
variable [Glob]
def daSUU : List AV → Option (ByteArray × Int × Int)
 | [.c (.p (.v (.string s))), .c (.p (.v (.int .u32 a))), .c (.p (.v (.int .u32 b)))] => some (s, a, b)
 | _ => none
def eaSUU (x : ByteArray × Int × Int) : List AV := [.c (.str x.1), .c (.int .u32 x.2.1), .c (.int .u32 x.2.2)]
section
variable {T : Table} (hT : TS9 T)
abbrev P4 (T : Table) : Table := ext (P3 T) 142 (saysP daSUU eaSUU (fun _ x => rankV x.1 ≠ 0 ∧ u32r x.2.1 ∧ u32r x.2.2) fun r x => (.int .u32 (applyV x.1 x.2.1 x.2.2), r.dv x.1 x.2.2))
theorem dv_nd {r : Pr} {s : ByteArray} (h : divs s = false) (b : Int) : r.dv s b = r := by
 unfold Pr.dv Fl.dv by0
 rw [h, Bool.and_false, Bool.or_false]
theorem pr_shl {a b : Int} (_ha : 0 ≤ a) (_ha2 : a < 4294967296) (hb : 32 ≤ b) : calcV (betw ⟨#[60, 60]⟩) ⟨#[60, 60]⟩ a b = 0 := by
 show w32 (a * 2 ^ min b.toNat 32) = 0
 rw [show min b.toNat 32 = 32 by omega]
 unfold w32 IntKind.wrap
 simp only [IntKind.signed, IntKind.bits]
 exact Int.emod_eq_zero_of_dvd ⟨a, Int.mul_comm _ _⟩
theorem pr_shr {a b : Int} (ha : 0 ≤ a) (ha2 : a < 4294967296) (hb : 32 ≤ b) : calcV (betw ⟨#[62, 62]⟩) ⟨#[62, 62]⟩ a b = 0 := by
 show a.fdiv (2 ^ min b.toNat 32) = 0
 rw [show min b.toNat 32 = 32 by omega]
 rw [Int.fdiv_eq_ediv_of_nonneg _ (by decide)]
 exact Int.ediv_eq_zero_of_lt ha ha2
set_option maxHeartbeats 1000000 in
include hT in
theorem p4 : TS9 (P4 T) := by
 refine extP (p3 hT) 142 (fn := Tryz.f142) rfl rfl daSUU eaSUU _ _ (fun _ => nB9 rfl) [0, 1, 2, 3, 8, 9, 10, 19, 28, 33, 38, 43, 49, 55, 61, 67, 73, 79, 82, 86, 89, 93, 98, 103, 109, 114] fun r x hs => ?_
 obtain ⟨s, a, b⟩ := x
 obtain ⟨hk, ha, hb⟩ := hs
 have hk : rankV s ≠ 0 := hk
 have ha : u32r a := ha
 have hb : u32r b := hb
 show runF _ _ _ _ _ _ fun r' H'' => Ends r' H'' (.int .u32 (applyV s a b)) (prH (r.dv s b))
 unfold u32r at ha hb
 conv => whnf
 refine cI9 ?_ ?_<;>intro h
 ·have e : s = ⟨#[124, 124]⟩ := oT9 h
  subst e
  rw [dv_nd (by decide), apply_nd (by decide)]
  conv => whnf
  exact eR9
 have h1 : s ≠ ⟨#[124, 124]⟩ := oF9 h
 clear h
 conv => whnf
 refine cI9 ?_ ?_<;>intro h
 ·have e : s = ⟨#[38, 38]⟩ := oT9 h
  subst e
  rw [dv_nd (by decide), apply_nd (by decide)]
  conv => whnf
  exact eR9
 have h2 : s ≠ ⟨#[38, 38]⟩ := oF9 h
 clear h
 conv => whnf
 refine cI9 ?_ ?_<;>intro h
 ·have e : s = ⟨#[124]⟩ := oT9 h
  subst e
  rw [dv_nd (by decide), apply_nd (by decide)]
  conv => whnf
  exact eR9
 have h3 : s ≠ ⟨#[124]⟩ := oF9 h
 clear h
 conv => whnf
 refine cI9 ?_ ?_<;>intro h
 ·have e : s = ⟨#[94]⟩ := oT9 h
  subst e
  rw [dv_nd (by decide), apply_nd (by decide)]
  conv => whnf
  exact eR9
 have h4 : s ≠ ⟨#[94]⟩ := oF9 h
 clear h
 conv => whnf
 refine cI9 ?_ ?_<;>intro h
 ·have e : s = ⟨#[38]⟩ := oT9 h
  subst e
  rw [dv_nd (by decide), apply_nd (by decide)]
  conv => whnf
  exact eR9
 have h5 : s ≠ ⟨#[38]⟩ := oF9 h
 clear h
 conv => whnf
 refine cI9 ?_ ?_<;>intro h
 ·have e : s = ⟨#[61, 61]⟩ := oT9 h
  subst e
  rw [dv_nd (by decide), apply_nd (by decide)]
  conv => whnf
  exact eR9
 have h6 : s ≠ ⟨#[61, 61]⟩ := oF9 h
 clear h
 conv => whnf
 refine cI9 ?_ ?_<;>intro h
 ·have e : s = ⟨#[33, 61]⟩ := oT9 h
  subst e
  rw [dv_nd (by decide), apply_nd (by decide)]
  conv => whnf
  exact eR9
 have h7 : s ≠ ⟨#[33, 61]⟩ := oF9 h
 clear h
 conv => whnf
 refine cI9 ?_ ?_<;>intro h
 ·have e : s = ⟨#[60]⟩ := oT9 h
  subst e
  rw [dv_nd (by decide), apply_nd (by decide)]
  conv => whnf
  exact eR9
 have h8 : s ≠ ⟨#[60]⟩ := oF9 h
 clear h
 conv => whnf
 refine cI9 ?_ ?_<;>intro h
 ·have e : s = ⟨#[62]⟩ := oT9 h
  subst e
  rw [dv_nd (by decide), apply_nd (by decide)]
  conv => whnf
  exact eR9
 have h9 : s ≠ ⟨#[62]⟩ := oF9 h
 clear h
 conv => whnf
 refine cI9 ?_ ?_<;>intro h
 ·have e : s = ⟨#[60, 61]⟩ := oT9 h
  subst e
  rw [dv_nd (by decide), apply_nd (by decide)]
  conv => whnf
  exact eR9
 have h10 : s ≠ ⟨#[60, 61]⟩ := oF9 h
 clear h
 conv => whnf
 refine cI9 ?_ ?_<;>intro h
 ·have e : s = ⟨#[62, 61]⟩ := oT9 h
  subst e
  rw [dv_nd (by decide), apply_nd (by decide)]
  conv => whnf
  exact eR9
 have h11 : s ≠ ⟨#[62, 61]⟩ := oF9 h
 clear h
 conv => whnf
 refine cI9 ?_ ?_<;>intro h
 ·have e : s = ⟨#[60, 60]⟩ := oT9 h
  subst e
  rw [dv_nd (by decide), apply_nd (by decide)]
  conv => whnf
  refine cI9 ?_ ?_<;>intro h
  ·have h2 : 32 ≤ b := oT9 h
   conv => whnf
   refine eE9 ⟨congrArg (SV.int .u32) ?_, rfl⟩
   exact (pr_shl ha.1 ha.2 h2).symm
  ·have h2 : ¬ 32 ≤ b := oF9 h
   repeat ((conv => whnf); refine ⟨hb.1, ?_⟩)
   conv => whnf
   refine eE9 ⟨rfl, rfl⟩
 have h12 : s ≠ ⟨#[60, 60]⟩ := oF9 h
 clear h
 conv => whnf
 refine cI9 ?_ ?_<;>intro h
 ·have e : s = ⟨#[62, 62]⟩ := oT9 h
  subst e
  rw [dv_nd (by decide), apply_nd (by decide)]
  conv => whnf
  refine cI9 ?_ ?_<;>intro h
  ·have h2 : 32 ≤ b := oT9 h
   conv => whnf
   refine eE9 ⟨congrArg (SV.int .u32) ?_, rfl⟩
   exact (pr_shr ha.1 ha.2 h2).symm
  ·have h2 : ¬ 32 ≤ b := oF9 h
   repeat ((conv => whnf); refine ⟨hb.1, ?_⟩)
   conv => whnf
   refine eE9 ⟨rfl, rfl⟩
 have h13 : s ≠ ⟨#[62, 62]⟩ := oF9 h
 clear h
 conv => whnf
 refine cI9 ?_ ?_<;>intro h
 ·have e : s = ⟨#[43]⟩ := oT9 h
  subst e
  rw [dv_nd (by decide), apply_nd (by decide)]
  conv => whnf
  exact eR9
 have h14 : s ≠ ⟨#[43]⟩ := oF9 h
 clear h
 conv => whnf
 refine cI9 ?_ ?_<;>intro h
 ·have e : s = ⟨#[45]⟩ := oT9 h
  subst e
  rw [dv_nd (by decide), apply_nd (by decide)]
  conv => whnf
  exact eR9
 have h15 : s ≠ ⟨#[45]⟩ := oF9 h
 clear h
 conv => whnf
 refine cI9 ?_ ?_<;>intro h
 ·have e : s = ⟨#[42]⟩ := oT9 h
  subst e
  rw [dv_nd (by decide), apply_nd (by decide)]
  conv => whnf
  exact eR9
 have h16 : s ≠ ⟨#[42]⟩ := oF9 h
 clear h
 conv => whnf
 have hd : divs s = true := by
  rcases rank_last hk h1 h2 h3 h4 h5 h6 h7 h8 h9 h10 h11 h12 h13 h14 h15 h16 with rfl | rfl <;> decide
 have hdv : r.dv s b = { r with f := { r.f with div := r.f.div || decide (b = 0) } } := by
  unfold Pr.dv Fl.dv by0
  rw [hd, Bool.and_true]
 have hap : applyV s a b = if b = 0 then 0 else calcV (betw s) s a b := by
  unfold applyV by0
  rw [hd, Bool.and_true]
  by_cases h0 : b = 0 <;> simp [h0]
 rw [hdv, hap]
 refine cI9 ?_ ?_<;>intro h
 ·have h0 : b = 0 := oT9 h
  rw [if_pos h0, dT9 h0, Bool.or_true]
  conv => whnf
  exact eR9
 have h0 : ¬ b = 0 := oF9 h
 rw [if_neg h0, dF9 h0, Bool.or_false]
 conv => whnf
 refine cI9 ?_ ?_<;>intro h
 ·have e : s = ⟨#[47]⟩ := oT9 h
  subst e
  repeat ((conv => whnf); refine ⟨h0, ?_⟩)
  conv => whnf
  exact eR9
 ·have e : s = ⟨#[37]⟩ := by
   rcases rank_last hk h1 h2 h3 h4 h5 h6 h7 h8 h9 h10 h11 h12 h13 h14 h15 h16 with e | e
   ·exact absurd e (oF9 h)
   ·exact e
  subst e
  repeat ((conv => whnf); refine ⟨h0, ?_⟩)
  conv => whnf
  exact eR9
end
section
variable {T : Table} (hT : TS9 T)
theorem in_drop {s : ByteArray} {r : List ByteArray} {j : Nat} (h : j < r.length) : inRow s (r.drop j) = if r.getD j ⟨#[]⟩ = s then true else inRow s (r.drop (j + 1)) := by
 rw [List.drop_eq_getElem_cons h]
 simp [inRow, h]
theorem rk_drop {s : ByteArray} {i : Nat} (h : i < 10) : rkGo s (rowsR.drop i) i = if inRow s (rowsR.getD i []) = true then i + 1 else rkGo s (rowsR.drop (i + 1)) (i + 1) := by
 have h' : i < rowsR.length := h
 rw [List.drop_eq_getElem_cons h']
 simp [rkGo, h']
abbrev rkH : List AO := [.tok 9 .str 1 false, .tok 9 .str 1 false, .tok 9 .str 1 false, .tok 9 .str 1 false, .tok 9 .str 1 false, .tok 9 .str 2 false, .tok 9 .str 4 false, .tok 9 .str 2 false, .tok 9 .str 2 false, .tok 9 .str 3 false, .tok 44 (.list .str) 10 false]
abbrev P5 (T : Table) : Table := ext (P4 T) 141 (saysS fun s => (none, .int .i64 (rankV s : Int)))
include hT in
theorem p5 : TS9 (P5 T) := by
 refine extS (p4 hT) 141 (fn := Tryz.f141) rfl rfl (by decide) _ [0, 2, 3, 4, 6, 17, 18, 19, 20, 24, 25, 26, 27, 32] fun s _ => ?_
 conv => whnf
 refine lI9 (σ := Nat) (fun i => [(0, XV.s (.str s)), (2, nX9), (3, nX9), (4, nX9), (6, nX9), (17, XV.s (.a (.c (.own 10 (.list .str) rowsR)))), (18, XV.s (.int .i64 10)), (19, XV.s (.int .i64 i)), (20, nX9), (24, nX9), (25, nX9), (26, nX9), (27, nX9), (32, nX9)])
  (fun _ => rkH) (fun i => i ≤ 10 ∧ rkGo s (rowsR.drop i) i = rankV s) (fun i => 10 - i) 0 ?_ rfl ?_ fun i hI => ?_
 ·repeat first|exact lN9|refine lD9 ?_|refine lS9 ?_
 ·exact ⟨by decide, rank_go s⟩
 obtain ⟨h1, h2⟩ := hI
 conv => whnf
 refine cI9 ?_ ?_<;>intro h
 ·have h3 : i < 10 := by
   have : (i : Int) < 10 := oT9 h
   omega
  rw [rk_drop h3] at h2
  generalize hR : rowsR.getD i [] = R at h2
  have hb : R.length ≤ 4 := by
   rw [← hR]
   have : i = 0 ∨ i = 1 ∨ i = 2 ∨ i = 3 ∨ i = 4 ∨ i = 5 ∨ i = 6 ∨ i = 7 ∨ i = 8 ∨ i = 9 := by omega
   rcases this with rfl | rfl | rfl | rfl | rfl | rfl | rfl | rfl | rfl | rfl <;> decide
  have hin : 0 ≤ (i : Int) ∧ (i : Int) < 10 := by omega
  repeat ((conv => whnf); refine ⟨hin, ?_⟩)
  conv => whnf
  refine lI9 (σ := Nat) (fun j => [(0, XV.s (.str s)), (2, nX9), (3, XV.s (.int .i64 i)), (4, nX9), (6, nX9), (17, XV.s (.a (.c (.own 10 (.list .str) rowsR)))), (18, XV.s (.int .i64 10)), (19, XV.s (.int .i64 i)), (20, nX9), (24, XV.s (.list .str (rowsR.getD i []))), (25, XV.s (.int .i64 ((rowsR.getD i []).length : Nat))), (26, XV.s (.int .i64 j)), (27, nX9), (32, nX9)])
   (fun _ => rkH) (fun j => j ≤ R.length ∧ inRow s (R.drop j) = inRow s R) (fun j => R.length - j) 0 ?_ rfl ?_ fun j hJ => ?_
  ·repeat first|exact lN9|refine lD9 ?_|refine lS9 ?_
  ·exact ⟨nZ9 _, rfl⟩
  obtain ⟨h4, h5⟩ := hJ
  rw [hR]
  conv => whnf
  refine cI9 ?_ ?_<;>intro h6
  ·have h7 : j < R.length := by
    have : (j : Int) < (R.length : Nat) := oT9 h6
    omega
   rw [in_drop h7] at h5
   have hjn : 0 ≤ (j : Int) ∧ (j : Int) < (R.length : Nat) := by omega
   repeat ((conv => whnf); refine ⟨hjn, ?_⟩)
   conv => whnf
   refine cI9 ?_ ?_<;>intro h8
   ·have h9 : R.getD j ⟨#[]⟩ = s := oT9 h8
    rw [if_pos h9] at h5
    rw [← h5, if_pos rfl] at h2
    repeat ((conv => whnf); refine ⟨by (unfold inI64; omega), ?_⟩)
    conv => whnf
    refine eT9 ?_
    rw [← h2]
    rfl
   ·have h9 : ¬ R.getD j ⟨#[]⟩ = s := oF9 h8
    rw [if_neg h9] at h5
    repeat ((conv => whnf); refine ⟨by (unfold inI64; omega), ?_⟩)
    conv => whnf
    refine hI9 (j + 1) ?_ rfl ?_ ?_
    ·repeat first|exact lN9|refine lD9 ?_|refine lS9 ?_
    ·exact ⟨h7, h5⟩
    ·omega
  ·have h7 : ¬ j < R.length := by
    have : ¬ (j : Int) < (R.length : Nat) := oF9 h6
    omega
   rw [List.drop_eq_nil_of_le (by omega)] at h5
   rw [← h5] at h2
   have h2 : rkGo s (rowsR.drop (i + 1)) (i + 1) = rankV s := h2
   repeat ((conv => whnf); refine ⟨by (unfold inI64; omega), ?_⟩)
   conv => whnf
   refine hI9 (i + 1) ?_ rfl ?_ ?_
   ·repeat first|exact lN9|refine lD9 ?_|refine lS9 ?_
   ·exact ⟨h3, h2⟩
   ·omega
 ·have h3 : ¬ i < 10 := by
   have : ¬ (i : Int) < 10 := oF9 h
   omega
  have h4 : i = 10 := by omega
  subst h4
  conv => whnf
  refine eT9 ?_
  rw [← h2]
  rfl
end
def daN : List AV → Option Nat
 | [.c (.p (.v (.int .i64 n)))] => some n.toNat
 | _ => none
def eaN (n : Nat) : List AV := [.c (.int .i64 (n : Int))]
def daNN : List AV → Option (Nat × Nat)
 | [.c (.p (.v (.int .i64 n))), .c (.p (.v (.int .i64 k)))] => some (n.toNat, k.toNat)
 | _ => none
def eaNN (x : Nat × Nat) : List AV := [.c (.int .i64 (x.1 : Int)), .c (.int .i64 (x.2 : Int))]
structure RdP (k d c : Nat) (p : Pr) : Prop where
 sy : p.sy = false
 le : p.at_ ≤ p.toks.length
 len : p.toks.length ≤ 6001
 dep : d + p.toks.length ≤ 20000 + p.at_
 fuel : 3 * (p.toks.length - p.at_) + c ≤ k
def sO (k : Nat) : Says := saysP daN eaN (fun r d => RdP k d 1 r) fun r d => (.int .u32 (prO k d r).1, (prO k d r).2)
def sR (k : Nat) : Says := saysP daNN eaNN (fun r x => RdP k x.2 2 r ∧ 1 ≤ x.1 ∧ x.1 ≤ 11) fun r x => (.int .u32 (prR k x.1 x.2 r).1, (prR k x.1 x.2 r).2)
def sW (k : Nat) : Says := saysP daN eaN (fun r d => RdP k d 3 r) fun r d => (.int .u32 (prW k d r).1, (prW k d r).2)
section
variable {T : Table} (hT : TS9 T)
abbrev tO (T : Table) (k : Nat) : Table := ext (P5 T) 96 (sO k)
abbrev tR (T : Table) (k : Nat) : Table := ext (tO T k) 130 (sR k)
abbrev tW (T : Table) (k : Nat) : Table := ext (tR T k) 115 (sW k)
theorem oO (k : Nat) (hk : TS9 (tW T k)) : TS9 (ext (tW T k) 96 (sO (k + 1))) := by
 refine extP hk 96 (fn := Tryz.f96) rfl rfl daN eaN _ _ (fun _ => nB9 rfl) [0, 1, 4, 5, 6, 7, 8, 11, 12, 27, 31, 37, 76] fun r d hs => ?_
 have hp : RdP (k + 1) d 1 r := hs
 obtain ⟨h1, h2, h3, h4, h5⟩ := hp
 have nn := r_nn k
 show runF _ _ _ _ _ _ fun r' H'' => Ends r' H'' (.int .u32 (prO (k + 1) d r).1) (prH (prO (k + 1) d r).2)
 rw [prO_succ]
 unfold rOF
 repeat ((conv => whnf); refine ⟨⟨rfl, rfl, trivial⟩, ?_⟩)
 conv => whnf
 have hadv : ∀ c e, c ≤ 3 → r.at_ < r.toks.length → e ≤ d + 1 → RdP k e c r.adv := fun c e hc hl he => ⟨h1, hl, h3, by show e + r.toks.length ≤ 20000 + (r.at_ + 1); omega, by show 3 * (r.toks.length - (r.at_ + 1)) + c ≤ k; omega⟩
 refine cI9 ?_ ?_<;>intro h
 ·have e : r.sg = ⟨#[45]⟩ := oT9 h
  have hlt := psg_lt (p := r) (by rw [e]; decide)
  rw [if_pos (by rw [e]; decide), e]
  repeat ((conv => whnf); refine ⟨by first | exact ⟨rfl, rfl, hadv 1 d (by omega) hlt (by omega)⟩ | (unfold inI64; omega), ?_⟩)
  conv => whnf
  refine cI9 (fun g => ?_) (fun g => absurd e (oF9 g))
  conv => whnf
  refine eE9 ⟨congrArg (SV.int .u32) ?_, rfl⟩
  show w32 (0 - (prO k d r.adv).1) = w32 (0 - (prO k d r.adv).1)
  rfl
 have n1 : ¬ r.sg = ⟨#[45]⟩ := oF9 h
 conv => whnf
 refine cI9 ?_ ?_<;>intro h
 ·have e : r.sg = ⟨#[126]⟩ := oT9 h
  have hlt := psg_lt (p := r) (by rw [e]; decide)
  rw [if_pos (by rw [e]; decide), e]
  repeat ((conv => whnf); refine ⟨by first | exact ⟨rfl, rfl, hadv 1 d (by omega) hlt (by omega)⟩ | (unfold inI64; omega), ?_⟩)
  conv => whnf
  refine cI9 (fun g => absurd (oT9 g) n1) (fun g => ?_)
  conv => whnf
  refine cI9 (fun g => ?_) (fun g => absurd e (oF9 g))
  conv => whnf
  exact eR9
 have n2 : ¬ r.sg = ⟨#[126]⟩ := oF9 h
 conv => whnf
 refine cI9 ?_ ?_<;>intro h
 ·have e : r.sg = ⟨#[33]⟩ := oT9 h
  have hlt := psg_lt (p := r) (by rw [e]; decide)
  rw [if_pos (by rw [e]; decide), e]
  repeat ((conv => whnf); refine ⟨by first | exact ⟨rfl, rfl, hadv 1 d (by omega) hlt (by omega)⟩ | (unfold inI64; omega), ?_⟩)
  conv => whnf
  refine cI9 (fun g => absurd (oT9 g) n1) (fun g => ?_)
  conv => whnf
  refine cI9 (fun g => absurd (oT9 g) n2) (fun g => ?_)
  conv => whnf
  refine eE9 ⟨congrArg (SV.int .u32) ?_, rfl⟩
  show tr (decide ((prO k d r.adv).1 = 0)) = tr (decide ((0 : Int) = (prO k d r.adv).1))
  rw [decide_eq_decide.2 (eq_comm (a := (prO k d r.adv).1) (b := 0))]
 have n3 : ¬ r.sg = ⟨#[33]⟩ := oF9 h
 clear h
 have nf : ¬ frontV r.sg = true := by
  intro hf
  have : r.sg ∈ [sMin, sTil, sBang] := ba_has _ _ hf
  simp only [List.mem_cons, List.not_mem_nil, or_false] at this
  rcases this with e | e | e
  ·exact n1 e
  ·exact n2 e
  ·exact n3 e
 rw [if_neg nf]
 conv => whnf
 refine cI9 ?_ ?_<;>intro h
 ·have e : r.sg = sLp := oT9 h
  have hlt := psg_lt (p := r) (by rw [e]; decide)
  rw [if_pos e]
  have ha := hadv 3 (d + 1) (by omega) hlt (by omega)
  have hd : inI64 ((d : Int) + 1) := by unfold inI64; omega
  have hq := ((rok k).w1 (d + 1) r.adv ha.sy ha.le ha.fuel).lt
  have hq2 : (prW k (d + 1) r.adv).2.at_ ≤ 1000000 := by
   have : (prW k (d + 1) r.adv).2.at_ ≤ r.toks.length := hq
   omega
  repeat ((conv => whnf); refine ⟨by first | exact ⟨rfl, rfl, ha⟩ | exact hd | exact ⟨rfl, rfl, hq2⟩ | (unfold inI64; omega), ?_⟩)
  conv => whnf
  exact eR9
 have np : ¬ r.sg = sLp := oF9 h
 clear h
 rw [if_neg np]
 repeat ((conv => whnf); refine ⟨by first | (intro hg; first | (unfold inI64; omega) | omega | exact ⟨by omega, by omega⟩ | (simp [lit] at hg; unfold inI64; omega) | (simp [lit] at hg; omega) | (simp [lit] at hg; exact ⟨by omega, by omega⟩)) | exact rfl, ?_⟩)
 conv => whnf
 refine cI9 ?_ ?_<;>intro h
 ·have h6 : ¬ (r.at_ < r.toks.length ∧ r.tok.1 = 2) := by
   have h7 : (decide ((r.toks.length : Int) ≤ (r.at_ : Int)) || !decide (r.tok.1 = 2)) = true := h
   rintro ⟨a1, a2⟩
   rw [dF9 (show ¬ (r.toks.length : Int) ≤ (r.at_ : Int) by omega), dT9 a2] at h7
   cases h7
  rw [if_neg h6]
  conv => whnf
  exact eR9
 ·have h6 : r.at_ < r.toks.length ∧ r.tok.1 = 2 := by
   have h7 : (decide ((r.toks.length : Int) ≤ (r.at_ : Int)) || !decide (r.tok.1 = 2)) = false := h
   obtain ⟨a1, a2⟩ := Bool.or_eq_false_iff.1 h7
   exact ⟨by have := oF9 a1; omega, by simpa using a2⟩
  rw [if_pos h6]
  have h8 : 0 ≤ (r.at_ : Int) ∧ (r.at_ : Int) < (r.toks.length : Nat) := by omega
  repeat ((conv => whnf); refine ⟨by first | exact h8 | (unfold inI64; omega) | exact rfl, ?_⟩)
  conv => whnf
  refine eE9 ⟨rfl, ?_⟩
  show [AO.row [.p (.l tkC r.toks), .int .i64 ((r.at_ : Int) + 1), .bool r.sy, .bool (r.f.deep || decide (8 < (d : Int))), .bool (r.f.oor || decide (r.tok.2.2.1 < 0) || decide (4294967295 < r.tok.2.2.1)), .bool r.f.div]] =
   [AO.row [.p (.l tkC r.toks), .int .i64 ((r.at_ + 1 : Nat) : Int), .bool r.sy, .bool (r.f.deep || decide (8 < d)), .bool (r.f.oor || (decide (r.tok.2.2.1 < 0) || decide (4294967295 < r.tok.2.2.1))), .bool r.f.div]]
  rw [Bool.or_assoc, show decide (8 < (d : Int)) = decide (8 < d) from decide_eq_decide.2 (by omega)]
  rfl
theorem rLoop_succ (row : Nat → Pr → Int × Pr) (least m : Nat) (x : Int) (p : Pr) : rLoopF row least (m + 1) x p = if p.sy = true then (x, p) else if rankV p.sg = 0 ∨ rankV p.sg < least then (x, p) else
   rLoopF row least m (applyV p.sg x (row (rankV p.sg + 1) p.adv).1) ((row (rankV p.sg + 1) p.adv).2.dv p.sg (row (rankV p.sg + 1) p.adv).1) := rfl
set_option maxHeartbeats 1000000 in
theorem oR (k : Nat) (hk : TS9 (tW T k)) : TS9 (ext (tW T k) 130 (sR (k + 1))) := by
 refine extP hk 130 (fn := Tryz.f130) rfl rfl daNN eaNN _ _ (fun _ => nB9 rfl) [0, 1, 2, 6, 7, 8, 9, 17, 28] fun r x hs => ?_
 obtain ⟨l, d⟩ := x
 have hp : RdP (k + 1) d 2 r ∧ 1 ≤ l ∧ l ≤ 11 := hs
 obtain ⟨⟨h1, h2, h3, h4, h5⟩, hl, hl2⟩ := hp
 have nn := r_nn k
 have hO : RdP k d 1 r := ⟨h1, h2, h3, h4, by omega⟩
 obtain ⟨po, pa⟩ := (rok k).o1 d r h1 h2 hO.fuel
 have hRow := (rok k).r d r.toks.length
 show runF _ _ _ _ _ _ fun r' H'' => Ends r' H'' (.int .u32 (prR (k + 1) l d r).1) (prH (prR (k + 1) l d r).2)
 rw [prR_succ]
 repeat ((conv => whnf); refine ⟨⟨rfl, rfl, hO⟩, ?_⟩)
 conv => whnf
 refine lI9 (σ := Int × Pr × Nat) (fun ⟨x, _, _⟩ => [(0, XV.s (.a (.c (.ptr 0 0)))), (1, XV.s (.int .i64 (l : Int))), (2, XV.s (.int .i64 (d : Int))), (6, nX9), (7, XV.s (.int .u32 x)), (8, nX9), (9, nX9), (17, nX9), (28, nX9)])
  (fun ⟨_, q, _⟩ => prH q) (fun ⟨x, q, m⟩ => u32r x ∧ Pres r q ∧ (q.sy = false → 3 * (r.toks.length - q.at_) ≤ k) ∧ r.toks.length ≤ m + q.at_ ∧ rLoopF (fun j q => prR k j d q) l m x q = rLoopF (fun j q => prR k j d q) l r.toks.length (prO k d r).1 (prO k d r).2) (fun ⟨_, _, m⟩ => m)
  ((prO k d r).1, (prO k d r).2, r.toks.length) ?_ ?_ ?_ ?_
 ·repeat first|exact lN9|refine lD9 ?_|refine lS9 ?_
 ·rfl
 ·refine ⟨nn.1 _ _, po, fun h => ?_, Nat.le_add_right _ _, rfl⟩
  have := pa h
  omega
 rintro ⟨x, q, m⟩ ⟨hx, hq, hf, hm, hgo⟩
 have hqt := hq.toks
 have hqn : q.toks.length = r.toks.length := by rw [hqt]
 have hql := hq.lt
 conv => whnf
 refine cI9 ?_ ?_<;>intro h
 ·have hs0 : q.sy = false := by
   have h6 : (!q.sy) = true := h
   simpa using h6
  have hf := hf hs0
  repeat ((conv => whnf); refine ⟨⟨rfl, rfl, trivial⟩, ?_⟩)
  conv => whnf
  have hstop : rankV q.sg = 0 ∨ rankV q.sg < l → rLoopF (fun j q => prR k j d q) l m x q = (x, q) := fun h7 => by
   cases m with
   | zero => rfl
   | succ m =>
    unfold rLoopF
    rw [if_neg (by rw [hs0]; decide), if_pos h7]
  refine cI9 ?_ ?_<;>intro h6
  ·have h7 : rankV q.sg = 0 ∨ rankV q.sg < l := by
    have h8 : (decide ((rankV q.sg : Int) = 0) || decide ((rankV q.sg : Int) < (l : Int))) = true := h6
    simp at h8
    omega
   rw [hstop h7] at hgo
   rw [← hgo]
   conv => whnf
   exact eR9
  ·have h7 : ¬ (rankV q.sg = 0 ∨ rankV q.sg < l) := by
    have h8 : (decide ((rankV q.sg : Int) = 0) || decide ((rankV q.sg : Int) < (l : Int))) = false := h6
    simp at h8
    omega
   have hk0 : rankV q.sg ≠ 0 := fun h => h7 (.inl h)
   obtain ⟨_, k10, kr⟩ := rank_ne hk0
   have hlt := psg_lt (betw_ne (rank_ne hk0).1)
   have hle := hq.le
   rw [hqt] at hlt
   obtain ⟨m, rfl⟩ : ∃ j, m = j + 1 := ⟨m - 1, by omega⟩
   rw [rLoop_succ, if_neg (by rw [hs0]; decide), if_neg h7] at hgo
   have ha : RdP k d 2 q.adv := ⟨hs0, by show q.at_ + 1 ≤ q.toks.length; omega, by show q.toks.length ≤ 6001; omega, by show d + q.toks.length ≤ 20000 + (q.at_ + 1); rw [hqt]; omega, by show 3 * (q.toks.length - (q.at_ + 1)) + 2 ≤ k; rw [hqt]; omega⟩
   have hr2 := hRow.pres (rankV q.sg + 1) q.adv (by omega) (by show q.toks.length = _; rw [hqt]) hs0 (by show q.at_ + 1 ≤ _; omega) (by show 3 * (r.toks.length - (q.at_ + 1)) + 2 ≤ k; omega)
   have hr2 : Pres q.adv (prR k (rankV q.sg + 1) d q.adv).2 := hr2
   have hnn := nn.2.1 (rankV q.sg + 1) d q.adv
   have hri : inI64 ((rankV q.sg : Int) + 1) := by unfold inI64; omega
   repeat ((conv => whnf); refine ⟨by first | exact hri | exact ⟨rfl, rfl, ha, (by show 1 ≤ rankV q.sg + 1; omega), (by show rankV q.sg + 1 ≤ 11; omega)⟩ | exact ⟨rfl, rfl, hk0, hx, hnn⟩ | (unfold inI64; omega), ?_⟩)
   conv => whnf
   refine hI9 (applyV q.sg x (prR k (rankV q.sg + 1) d q.adv).1, (prR k (rankV q.sg + 1) d q.adv).2.dv q.sg (prR k (rankV q.sg + 1) d q.adv).1, m) ?_ ?_ ?_ ?_
   ·repeat first|exact lN9|refine lD9 ?_|refine lS9 ?_
   ·rfl
   ·have hq1 : Pres q q.adv := ⟨rfl, Nat.le_succ _, by show q.at_ + 1 ≤ q.toks.length; omega, id⟩
    have hat : q.at_ + 1 ≤ (prR k (rankV q.sg + 1) d q.adv).2.at_ := hr2.le
    have hle2 : (prR k (rankV q.sg + 1) d q.adv).2.at_ ≤ q.toks.length := hr2.lt
    have htk : (prR k (rankV q.sg + 1) d q.adv).2.toks = q.toks := hr2.toks
    refine ⟨apply_nn _ hx hnn, hq.trans (hq1.trans (hr2.trans ⟨rfl, nR9 _, ?_, fun h => ?_⟩)), fun _ => ?_, ?_, hgo⟩
    ·show (prR k (rankV q.sg + 1) d q.adv).2.at_ ≤ (prR k (rankV q.sg + 1) d q.adv).2.toks.length
     rw [htk]; exact hle2
    ·show ((prR k (rankV q.sg + 1) d q.adv).2.f.dv _ _).div = true
     rw [dv_div, h]; rfl
    ·show 3 * (r.toks.length - (prR k (rankV q.sg + 1) d q.adv).2.at_) ≤ k
     omega
    ·show r.toks.length ≤ m + (prR k (rankV q.sg + 1) d q.adv).2.at_
     omega
   ·exact nS9 m
 ·have hs0 : q.sy = true := by
   have h6 : (!q.sy) = false := h
   simpa using h6
  have e : rLoopF (fun j q => prR k j d q) l m x q = (x, q) := by
   cases m with
   | zero => rfl
   | succ m =>
    unfold rLoopF
    rw [if_pos hs0]
  rw [e] at hgo
  rw [← hgo]
  conv => whnf
  exact eR9
set_option maxHeartbeats 1000000 in
theorem oW (k : Nat) (hk : TS9 (tW T k)) : TS9 (ext (tW T k) 115 (sW (k + 1))) := by
 refine extP hk 115 (fn := Tryz.f115) rfl rfl daN eaN _ _ (fun _ => nB9 rfl) [0, 1, 4, 5, 6, 7, 19, 34, 40, 45] fun r d hs => ?_
 have hp : RdP (k + 1) d 3 r := hs
 obtain ⟨h1, h2, h3, h4, h5⟩ := hp
 have hR : RdP k d 2 r := ⟨h1, h2, h3, h4, by omega⟩
 have p1 : Pres r (prR k 1 d r).2 := ((rok k).r d r.toks.length).pres 1 r (nR9 _) rfl h1 h2 hR.fuel
 have p1t : (prR k 1 d r).2.toks.length = r.toks.length := by rw [p1.toks]
 have p1l := p1.lt
 have p1g := p1.le
 show runF _ _ _ _ _ _ fun r' H'' => Ends r' H'' (.int .u32 (prW (k + 1) d r).1) (prH (prW (k + 1) d r).2)
 rw [prW_succ]
 repeat ((conv => whnf); refine ⟨⟨rfl, rfl, hR, nR9 1, (by decide : 1 ≤ 11)⟩, ?_⟩)
 conv => whnf
 refine cI9 ?_ ?_<;>intro h0
 rotate_left
 ·have hs0 : (prR k 1 d r).2.sy = true := by
   have h7 : lit false (prR k 1 d r).2.sy = false := h0
   simpa [lit] using h7
  rw [rWF_stop (row := fun q => prR k 1 d q) (.inl hs0)]
  conv => whnf
  refine cI9 (fun g => by rw [h0] at g; cases g) (fun g => ?_)
  conv => whnf
  refine cI9 ?_ ?_<;>intro h
  rotate_left
  ·have h7 : ((prR k 1 d r).2.sy || false) = false := h
   rw [hs0] at h7
   cases h7
  conv => whnf
  exact eR9
 have hs0 : (prR k 1 d r).2.sy = false := by
  have h7 : lit false (prR k 1 d r).2.sy = true := h0
  simpa [lit] using h7
 repeat ((conv => whnf); refine ⟨⟨rfl, rfl, trivial⟩, ?_⟩)
 conv => whnf
 refine cI9 ?_ ?_<;>intro h
 ·have h6 : (prR k 1 d r).2.sg ≠ sQ := by
   have h7 : ((prR k 1 d r).2.sy || !decide ((prR k 1 d r).2.sg = sQ)) = true := h
   rw [hs0] at h7
   simpa using h7
  rw [rWF_stop (row := fun q => prR k 1 d q) (.inr h6)]
  conv => whnf
  exact eR9
 have hq : (prR k 1 d r).2.sg = sQ := by
  have h7 : ((prR k 1 d r).2.sy || !decide ((prR k 1 d r).2.sg = sQ)) = false := h
  rw [hs0] at h7
  simpa using h7
 have hlt := psg_lt (p := (prR k 1 d r).2) (by rw [hq]; decide)
 have ha : RdP k d 3 (prR k 1 d r).2.adv := ⟨hs0, by show (prR k 1 d r).2.at_ + 1 ≤ (prR k 1 d r).2.toks.length; omega, by show (prR k 1 d r).2.toks.length ≤ 6001; omega, by show d + (prR k 1 d r).2.toks.length ≤ 20000 + ((prR k 1 d r).2.at_ + 1); omega, by show 3 * ((prR k 1 d r).2.toks.length - ((prR k 1 d r).2.at_ + 1)) + 3 ≤ k; omega⟩
 have p2 := (rok k).w1 d (prR k 1 d r).2.adv ha.sy ha.le ha.fuel
 have hi : inI64 (((prR k 1 d r).2.at_ : Int) + 1) := by unfold inI64; omega
 obtain ⟨A, hA⟩ : ∃ A, prW k d (prR k 1 d r).2.adv = A := ⟨_, rfl⟩
 rw [hA] at p2
 have p2t : A.2.toks.length = r.toks.length := by rw [p2.toks]; exact p1t
 have p2l : A.2.at_ ≤ (prR k 1 d r).2.toks.length := p2.lt
 have p2g : (prR k 1 d r).2.at_ + 1 ≤ A.2.at_ := p2.le
 repeat ((conv => whnf); refine ⟨by first | exact hi | exact ⟨rfl, rfl, ha⟩, ?_⟩)
 conv => whnf
 refine cI9 ?_ ?_<;>intro h8
 ·have h9 : A.2.sy = true := by rw [← hA]; exact h8
  rw [rWF_a (row := fun q => prR k 1 d q) (w := fun q => prW k d q) hs0 hq hA h9]
  conv => whnf
  refine eE9 ⟨rfl, ?_⟩
  rw [← hA]
  rfl
 have h9 : A.2.sy = false := by rw [← hA]; exact h8
 obtain ⟨B, hB⟩ : ∃ B, takeP sCol A.2 = B := ⟨_, rfl⟩
 have p3 := take_pres (p := A.2) (s := sCol) (by omega) (by decide)
 rw [hB] at p3
 have p3t : B.toks.length = r.toks.length := by rw [p3.toks]; exact p2t
 have p3l := p3.lt
 have p3g := p3.le
 have hB' : takeP sCol (prW k d (prR k 1 d r).2.adv).2 = B := by rw [hA]; exact hB
 have hAt : (prW k d (prR k 1 d r).2.adv).2.at_ ≤ 1000000 := by rw [hA]; omega
 repeat ((conv => whnf); refine ⟨⟨rfl, rfl, hAt⟩, ?_⟩)
 conv => whnf
 refine cI9 ?_ ?_<;>intro h10
 ·have h11 : B.sy = true := by rw [← hB']; exact h10
  rw [rWF_c (row := fun q => prR k 1 d q) (w := fun q => prW k d q) hs0 hq hA h9 hB h11]
  conv => whnf
  refine eE9 ⟨rfl, ?_⟩
  rw [← hB']
  rfl
 have h11 : B.sy = false := by rw [← hB']; exact h10
 have hb : RdP k d 3 (takeP sCol (prW k d (prR k 1 d r).2.adv).2) := by
  rw [hB']
  exact ⟨h11, by omega, by omega, by omega, by omega⟩
 repeat ((conv => whnf); refine ⟨⟨rfl, rfl, hb⟩, ?_⟩)
 conv => whnf
 rw [rWF_ok (row := fun q => prR k 1 d q) (w := fun q => prW k d q) hs0 hq hA h9 hB h11, ← hA, ← hB']
 refine cI9 ?_ ?_<;>intro h12
 ·have h13 : (prR k 1 d r).1 ≠ 0 := by
   have h14 : (!decide ((prR k 1 d r).1 = 0)) = true := h12
   simpa using h14
  rw [if_pos h13]
  conv => whnf
  exact eR9
 ·have h13 : ¬ (prR k 1 d r).1 ≠ 0 := by
   have h14 : (!decide ((prR k 1 d r).1 = 0)) = false := h12
   simpa using h14
  rw [if_neg h13]
  conv => whnf
  exact eR9
include hT in
theorem tWk : ∀ k, TS9 (tW T k) := by
 intro k
 induction k with
 | zero =>
  refine extP (extP (extP (p5 hT) 96 (fn := Tryz.f96) rfl rfl daN eaN _ _ (fun _ => nB9 rfl) [] fun r d hs => ?_) 130 (fn := Tryz.f130) rfl rfl daNN eaNN _ _ (fun _ => nB9 rfl) [] fun r d hs => ?_) 115 (fn := Tryz.f115) rfl rfl daN eaN _ _ (fun _ => nB9 rfl) [] fun r d hs => ?_
  ·have h : RdP 0 d 1 r := hs
   exact absurd h.fuel (by omega)
  ·have h : RdP 0 d.2 2 r := hs.1
   exact absurd h.fuel (by omega)
  ·have h : RdP 0 d 3 r := hs
   exact absurd h.fuel (by omega)
 | succ k ih => exact ext_only (oW k ih) (ext_only (oR k ih) (ext_only (oO k ih) (p5 hT)))
end
def daU : List AV → Option Int
 | [.c (.p (.v (.int .u32 n)))] => some n
 | _ => none
def eaU (n : Int) : List AV := [.c (.int .u32 n)]
def saysRV (pm : Bool) : Says := fun args H => match H with
 | [] => match daVal args with
  | some (toks, a) => some (some (args = [.c (.p (.l tkC toks)), .c (.int .i64 a)] ∧ toks.length ≤ 6001), resSV (exprV pm toks a), [])
  | none => none
 | _ => none
section
variable {T : Table} (hT : TS9 T)
abbrev P6 (N : Nat) (T : Table) : Table := ext (tW T N) 95 (looks (looksP daU eaU (fun _ x => u32r x) fun r x => resSV (doneP (x, r))))
include hT in
theorem p6 (N : Nat) : TS9 (P6 N T) := by
 refine extLP (tWk hT N) 95 (fn := Tryz.f95) rfl rfl daU eaU _ _ (fun _ => nB9 rfl) [0, 1, 4, 5, 6, 7, 12, 17, 22] fun r x hs => ?_
 have hx : u32r x := hs
 unfold u32r at hx
 obtain ⟨toks, at_, sy, ⟨d, o, z⟩⟩ := r
 cases sy <;> cases d <;> cases o <;> cases z
 all_goals
  repeat ((conv => whnf); refine ⟨by first | (unfold inI64; omega) | exact rfl, ?_⟩)
  conv => whnf
  exact eR9
theorem rdp0 {N : Nat} (hN : 20000 ≤ N) {toks : List tkC.den} {a : Nat} (hl : toks.length ≤ 6001) (ha : a ≤ toks.length) {c : Nat} (hc : c ≤ 3) : RdP N 0 c (pr0 toks a) :=
 ⟨rfl, ha, hl, by show 0 + toks.length ≤ 20000 + a; omega, by show 3 * (toks.length - a) + c ≤ N; omega⟩
abbrev P7 (N : Nat) (T : Table) : Table := ext (P6 N T) 87 (saysRV true)
include hT in
theorem p7 {N : Nat} (hN : 20000 ≤ N) : TS9 (P7 N T) := by
 refine ext_run (p6 hT N) (f := 87) (fn := Tryz.f87) rfl rfl [0, 1, 4, 5, 6, 7, 15, 28] fun args H p r' H' hs hp => ?_
 unfold saysRV at hs
 split at hs
 ·split at hs
  ·rename_i toks a _
   cases hs
   obtain ⟨rfl, hl⟩ := hp
   refine ⟨nB9 rfl, [], rfl, nK9, ?_⟩
   rw [← ref_expr hN true toks a hl]
   unfold refV
   conv => whnf
   refine cI9 ?_ ?_<;>intro h
   ·have h' : a < 0 ∨ (toks.length : Int) ≤ a := by simpa using h
    rw [if_pos h']
    conv => whnf
    exact eR9
   have h' : ¬ (a < 0 ∨ (toks.length : Int) ≤ a) := by
    have : (decide (a < 0) || decide ((toks.length : Int) ≤ a)) = false := h
    simp at this
    omega
   rw [if_neg h']
   obtain ⟨a, rfl⟩ : ∃ n : Nat, a = n := ⟨a.toNat, by omega⟩
   have ha : a ≤ toks.length := by omega
   have hin : 0 ≤ (a : Int) ∧ (a : Int) < (toks.length : Nat) := by omega
   rw [Int.toNat_natCast]
   have hO := rdp0 hN hl ha (show 1 ≤ 3 by decide)
   have hnn := (r_nn N).1 0 (pr0 toks a)
   show runC _ _ _ _ _ _ _
   dsimp only
   repeat ((conv => whnf); refine ⟨hin, ?_⟩)
   conv => whnf
   refine cI9 ?_ ?_<;>intro h2
   ·have h3 : (pr0 toks a).tok.1 ≠ 2 := by
     have h4 : lit true (!decide ((pr0 toks a).tok.1 = 2)) = true := h2
     simpa [lit] using h4
    repeat ((conv => whnf); refine ⟨⟨rfl, rfl, trivial⟩, ?_⟩)
    conv => whnf
    refine cI9 ?_ ?_<;>intro h5
    ·have h6 : (pr0 toks a).sg ≠ sLp := by
      have h7 : ((!decide ((pr0 toks a).tok.1 = 2)) && !decide ((pr0 toks a).sg = sLp)) = true := h5
      simpa using (bA9.1 h7).2
     rw [if_pos ⟨h3, h6⟩]
     conv => whnf
     exact eR9
    ·have h6 : ¬ ((pr0 toks a).tok.1 ≠ 2 ∧ (pr0 toks a).sg ≠ sLp) := by
      have h7 : ((!decide ((pr0 toks a).tok.1 = 2)) && !decide ((pr0 toks a).sg = sLp)) = false := h5
      rintro ⟨h8, h9⟩
      rw [dF9 h8, dF9 h9] at h7
      cases h7
     rw [if_neg h6]
     repeat ((conv => whnf); refine ⟨by first | exact ⟨rfl, rfl, hO⟩ | exact ⟨rfl, rfl, hnn⟩, ?_⟩)
     conv => whnf
     exact eR9
   ·have h3 : (pr0 toks a).tok.1 = 2 := by
     have h4 : lit true (!decide ((pr0 toks a).tok.1 = 2)) = false := h2
     simpa [lit] using h4
    rw [if_neg (fun h => h.1 h3)]
    conv => whnf
    refine cI9 (fun g => by rw [h2] at g; cases g) (fun g => ?_)
    conv => whnf
    refine cI9 ?_ ?_<;>intro h5
    ·have h7 : ((!decide ((pr0 toks a).tok.1 = 2)) && false) = true := h5
     rw [h3] at h7
     cases h7
    ·repeat ((conv => whnf); refine ⟨by first | exact ⟨rfl, rfl, hO⟩ | exact ⟨rfl, rfl, hnn⟩, ?_⟩)
     conv => whnf
     exact eR9
  ·cases hs
 ·cases hs
end
def T57 : Table := T52
theorem t57 : TS9 T57 := t52
end Go.Ab
