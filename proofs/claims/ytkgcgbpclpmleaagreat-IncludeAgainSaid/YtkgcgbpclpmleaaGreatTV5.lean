/- Package expression: what binds how tightly, and what is computed. -/
import Derived.Test.YtkgcgbpclpmleaaGreatTV4
namespace Go.Ab
open Go.Proofs
set_option linter.unusedSectionVars false
set_option maxRecDepth 100000
variable [Glob]
theorem rows_signs : ∀ i : Fin 10, ((rowsM.getD (i.val + 1) []).map (·.1) : List ByteArray) = rowL.getD i.val [] := by decide +kernel
theorem row_has (s : ByteArray) (i : Nat) (h : 1 ≤ i) (h2 : i ≤ 10) : (findE (k := .str) (v := .fn) (rowsM.getD ((i : Int).toNat) []) s).isSome = (rowL.getD (i - 1) []).contains s := by
 rw [find_has]
 have := rows_signs ⟨i - 1, by omega⟩
 rw [show ((i : Int).toNat) = (i - 1) + 1 from by omega]
 exact congrArg (fun l : List ByteArray => l.contains s) this
theorem rowGo_step (s : ByteArray) (i : Nat) (h : 1 ≤ i) (h2 : i ≤ 10) : rowGo s (rowL.drop (i - 1)) i = if (rowL.getD (i - 1) []).contains s = true then i else rowGo s (rowL.drop i) (i + 1) := by
 have hlt : i - 1 < rowL.length := by show i - 1 < 10; omega
 rw [List.drop_eq_getElem_cons hlt]
 simp only [rowGo]
 rw [show i - 1 + 1 = i from by omega, List.getD_eq_getElem?_getD, List.getElem?_eq_getElem hlt]
 rfl
def X30 : Table := ext X29 161 (looks (looksX daS eaS (fun _ _ => True) fun _ s => .int .i64 (betw s : Nat)))
theorem x30 : TS9 X30 := by
 refine extLX x29 161 (fn := Tryz.f161) rfl rfl daS eaS _ _ (fun _ => nB9 rfl) [0, 1, 4, 5, 7, 8, 9, 11, 14, 25] fun r s hs => ?_
 conv => whnf
 refine cI9 ?_ ?_<;>intro h
 ·skip
  conv => whnf
  refine eT9 ?_
  rw [oT9 h]
  rfl
 have h' : ¬ s = ⟨#[]⟩ := oF9 h
 conv => whnf
 refine cI9 ?_ ?_<;>intro h2
 ·skip
  conv => whnf
  refine eT9 ?_
  rw [oT9 h2]
  rfl
 have h2' : ¬ s = sQ := oF9 h2
 have hb : betw s = rowGo s rowL 1 := by
  unfold betw
  rw [if_neg h', if_neg h2']
 conv => whnf
 refine lI9 (σ := Nat) (fun i => [(0, XV.s (.a (.c (.ptr 0 0)))), (1, XV.s (SV.str s)), (4, nX9), (5, XV.s (.int .i64 i)), (7, nX9), (8, nX9), (9, nX9), (11, nX9), (14, nX9), (25, nX9)])
  (fun _ => xrH r) (fun i => 1 ≤ i ∧ i ≤ 11 ∧ rowGo s (rowL.drop (i - 1)) i = betw s) (fun i => 11 - i) 1 ?_ rfl ?_ fun i hI => ?_
 ·repeat first|exact lN9|refine lD9 ?_|refine lS9 ?_
 ·exact ⟨by omega, by omega, hb.symm⟩
 obtain ⟨h3, h4, h5⟩ := hI
 conv => whnf
 refine cI9 ?_ ?_<;>intro h6
 ·have h7 : i ≤ 10 := by have : (i : Int) < 11 := oT9 h6
                         omega
  rw [rowGo_step s i h3 h7] at h5
  repeat ((conv => whnf); refine ⟨⟨rfl, rfl, by omega, by omega⟩, ?_⟩)
  conv => whnf
  refine cI9 ?_ ?_<;>intro h8
  ·have h9 : (rowL.getD (i - 1) []).contains s = true := (row_has s i h3 h7).symm.trans h8
   rw [if_pos h9] at h5
   conv => whnf
   refine eT9 ?_
   rw [← h5]
  ·have h9 : ¬ (rowL.getD (i - 1) []).contains s = true := by rw [← row_has s i h3 h7]; exact Bool.eq_false_iff.1 h8
   rw [if_neg h9] at h5
   repeat ((conv => whnf); refine ⟨by (unfold inI64; omega), ?_⟩)
   conv => whnf
   refine hI9 (i + 1) ?_ rfl ?_ ?_
   ·repeat first|exact lN9|refine lD9 ?_|refine lS9 ?_
   ·exact ⟨by omega, by omega, by rw [show i + 1 - 1 = i from by omega]; exact h5⟩
   ·show 11 - (i + 1) < 11 - i
    omega
 ·have h7 : i = 11 := by have : ¬ (i : Int) < 11 := oF9 h6
                         omega
  subst h7
  conv => whnf
  refine eT9 ?_
  rw [← h5]
  rfl
def compPre (r : Xr) (p : Frm) : Prop := 2 ≤ r.vl ∧ r.vl ≤ 1000000 ∧ r.vl ≤ r.vz.length ∧ NN r ∧ p ∈ ops22
def X31 : Table := ext X30 167 (saysX daF eaF compPre fun r p => (.tup [], compX r p))
set_option maxHeartbeats 4000000 in
theorem x31 : TS9 X31 := by
 refine extX x30 167 (fn := Tryz.f167) rfl rfl daF eaF _ _ (fun _ => nB9 rfl) [0, 1, 3, 4, 5, 6, 34] fun r p hs => ?_
 obtain ⟨h1, h2, h3, h4, h5⟩ := hs
 have e1 : ((r.vl : Int) - 2).toNat = r.vl - 2 := by omega
 have e2 : ((r.vl : Int) - 2 + 1).toNat = r.vl - 1 := by omega
 have hb0 : 0 ≤ r.vz.getD (r.vl - 1) 0 := (h4.get _).1
 have e3 : r.vz.getD ((r.vl : Int) - 2 + 1).toNat 0 = r.vz.getD (r.vl - 1) 0 := by rw [e2]
 repeat ((conv => whnf); refine ⟨by first | exact ⟨rfl, by omega, by omega⟩ | (unfold inI64; omega) | omega | exact rfl, ?_⟩)
 conv => whnf
 refine cI9 ?_ ?_<;>intro h
 ·have hb : by0 p.1 (r.vz.getD (r.vl - 1) 0) = true := by rw [← e2]; exact h
  simp only [ops22, List.mem_cons, List.not_mem_nil, or_false] at h5
  rcases h5 with rfl | rfl | rfl | rfl | rfl | rfl | rfl | rfl | rfl | rfl | rfl | rfl | rfl | rfl | rfl | rfl | rfl | rfl | rfl | rfl | rfl
  all_goals first
   | exact absurd (bA9.1 hb).2 (by decide)
   | (
    repeat ((conv => whnf); refine ⟨by first | exact Nat.zero_lt_one | exact ⟨rfl, by omega, by omega⟩ | exact ⟨⟨rfl, rfl, by decide, by decide⟩, rfl⟩ | omega | (show (_ : Nat) + 1 ≤ 1000000000000; omega) | exact rfl, ?_⟩)
    conv => whnf
    refine eE9 ⟨rfl, ?_⟩
    unfold compX calcD
    rw [e1, hb, Bool.or_true]
    rfl)
 ·have hb : by0 p.1 (r.vz.getD (r.vl - 1) 0) = false := by rw [← e2]; exact h
  simp only [ops22, List.mem_cons, List.not_mem_nil, or_false] at h5
  rcases h5 with rfl | rfl | rfl | rfl | rfl | rfl | rfl | rfl | rfl | rfl | rfl | rfl | rfl | rfl | rfl | rfl | rfl | rfl | rfl | rfl | rfl
  all_goals
   (
   repeat ((conv => whnf); refine ⟨by first | exact Nat.zero_lt_one | exact ⟨rfl, by omega, by omega⟩ | exact ⟨⟨rfl, rfl, by decide, by decide⟩, rfl⟩ | (rw [e2]; exact hb0) | (intro e; have e' : r.vz.getD (r.vl - 1) 0 = 0 := e3.symm.trans e; rw [e'] at hb; exact absurd hb (by decide)) | omega | (show (_ : Nat) + 1 ≤ 1000000000000; omega) | exact rfl, ?_⟩)
   conv => whnf
   refine eE9 ⟨rfl, ?_⟩
   unfold compX calcD
   rw [e1, e2, hb, Bool.or_false]
   rfl)
end Go.Ab
