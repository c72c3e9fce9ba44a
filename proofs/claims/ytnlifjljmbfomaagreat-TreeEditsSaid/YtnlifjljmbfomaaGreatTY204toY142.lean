/- bringupgrow.Bent where two properties of a node change places. -/
import Derived.Test.YtnlifjljmbfomaaGreatTY200toY201
import Derived.Test.YtnlifjljmbfomaaGreatTY129toU12
namespace Go.Ab
open Go.Proofs
set_option linter.unusedSectionVars false
set_option maxRecDepth 100000
variable [Base]
def bsG (k : Nat) (l : List Nd) (m ver : Nat) (ps : List Pt) : List AO := if m = k then [.gvec ndT ndC (bnP l m []) m 2 (.sl 5 ptC 0 ps.length) ver, .arr ptT ptC ps 0] else bhG l m ver ps
def saysBnS : Says := fun args H => match args, H with
 | [.c (.ptr 0 0), .agg [.p (.l (.pair (.int .i64) (.pair .str (.list (.pair .str .str)))) ns)]], [.row [.p (.l (.int .i64) zs), .p (.v (.int .i64 n))]] =>
  some (some (tapeOk zs n ∧ LenN ns ∧ 0 < ns.length ∧ ns.length ≤ 1000 ∧ (bnC zs n = 7 ∧ 1 < (ndAt ns (bnK zs n ns)).2.2.length)), .a (.agg [.gs 1 (ns.length - 1) ns.length]), [tapeO zs (bnN zs n), .gvec ndT ndC (bnP ns (bnK zs n ns) []) (bnK zs n ns) 2 (.sl 2 ptC 0 (ndAt ns (bnK zs n ns)).2.2.length) (ns.length - 1), .arr ptT ptC (prSw (ndAt ns (bnK zs n ns)).2.2) 0])
 | _, _ => none
set_option maxHeartbeats 2000000 in
theorem bn_s : TS9 (ext N6 12 saysBnS) := by
 refine ext_run n6 (f := 12) (fn := Tryz.f12) rfl rfl [0, 1, 3, 4, 5, 7, 8, 9, 10, 12, 13, 14, 15, 33, 45, 51, 62, 72, 86, 103, 115, 124, 142, 149] fun args H p r' H' hs hp => ?_
 unfold saysBnS at hs
 split at hs
 ·rename_i ns zs n
  cases hs
  obtain ⟨ht, hl, hpos, hle, hc⟩ := hp
  have hlen := hl.len
  refine ⟨nB9 rfl, [0, 4, 5], rfl, fun k hk => by obtain rfl : k = 0 := Nat.lt_one_iff.1 hk; rfl, ?_⟩
  have hk0 := mN9 (rawV zs n) ns.length
  have hk1 := modV_lt (rawV zs n) ns.length (by omega)
  obtain ⟨k, hk⟩ : ∃ k : Nat, modV (rawV zs n) ns.length = k := ⟨(modV (rawV zs n) ns.length).toNat, by omega⟩
  have hbk : bnK zs n ns = k := by unfold bnK; rw [hk, Int.toNat_natCast]
  have hkl : k < ns.length := by omega
  rw [hbk] at hc ⊢
  obtain ⟨hc7, hps⟩ := hc
  repeat ((conv => whnf); refine ⟨by first | (unfold inI64; omega) | omega | exact ⟨by omega, by omega⟩ | exact rfl | decide +kernel, ?_⟩)
  conv => whnf
  refine lI9 (fun i : Nat => [(0, XV.s (.a (.c (.ptr 0 0)))), (1, nX9), (3, XV.s (.a (.c (.ptr 1 0)))), (4, XV.s (.a (.c (.ptr 2 0)))), (5, XV.s (.a (.c (.ptr 3 0)))), (7, nX9), (8, nX9), (9, nX9), (10, nX9), (12, XV.s (.a (.c (.p (.l ndC ns))))), (13, XV.s (.int .i64 (ns.length : Nat))), (14, XV.s (.int .i64 (i : Nat))), (15, nX9), (33, nX9), (45, nX9), (51, nX9), (62, nX9), (72, nX9), (86, nX9), (103, nX9), (115, nX9), (124, nX9), (142, nX9), (149, nX9)])
   (fun i => match i with
    | 0 => [tapeO zs n, .row [.p (.l ndC ns)], .row [.p (.v (.slice none 0 0))], .row [.p (.v (.slice none 0 0))]]
    | i + 1 => [tapeO zs n, .row [.p (.l ndC ns)], .row [.p (.v (.slice none 0 0))], .row [.gs 4 i (i + 1)]] ++ bsG k (ns.take (i + 1)) (min i k) i (ndAt ns (min i k)).2.2) (fun i => i ≤ ns.length) (fun i => ns.length - i) 0 ?_ rfl (nZ9 _) fun i hi => ?_
  ·repeat first|exact lN9|refine lD9 ?_|refine lS9 ?_
  have hids : ∀ k, k < 4 → [0, 1, 2, 3, 7, 5][k]? = some k := fun k hk => by
   obtain rfl | rfl | rfl | rfl : k = 0 ∨ k = 1 ∨ k = 2 ∨ k = 3 := by omega
   all_goals rfl
  have hids2 : ∀ k, k < 4 → [0, 1, 2, 3, 4, 7][k]? = some k := fun k hk => by
   obtain rfl | rfl | rfl | rfl : k = 0 ∨ k = 1 ∨ k = 2 ∨ k = 3 := by omega
   all_goals rfl
  have hids3 : ∀ k, k < 4 → [0, 1, 2, 3, 4, 5][k]? = some k := fun k hk => by
   obtain rfl | rfl | rfl | rfl : k = 0 ∨ k = 1 ∨ k = 2 ∨ k = 3 := by omega
   all_goals rfl
  have hcl : ∀ i, (hin : i < ns.length) → 0 + (ns.getD i ndC.dflt).2.2.length ≤ capBound := by
   intro i hin
   have he : ns.getD i ndC.dflt = ns[i] := by simp [hin]
   rw [he, Nat.zero_add]
   exact Nat.le_trans (hl.at hin) (by decide)
  have hcap1 : ∀ j, j < ns.length → (ndAt ns j).2.2.length ≤ capBound := fun j hj => by
   have h5 := hl.ps (ndAt ns j) (by rw [nd_at' hj]; exact List.getElem_mem hj)
   exact Nat.le_trans h5 (by decide)
  cases i with
  | zero =>
   have hob : (0 : Int) ≤ 0 ∧ (0 : Int) < (ns.length : Nat) := by omega
   have hc0 := hcl 0 hpos
   have hmin : min 0 k = 0 := Nat.zero_min k
   have he : ns.take 1 = [ndAt ns 0] := by rw [tk_succ hpos]; rfl
   repeat ((conv => whnf); refine ⟨by first | (unfold inI64; omega) | omega | exact ⟨by omega, by omega⟩ | exact rfl | decide +kernel, ?_⟩)
   conv => whnf
   refine cI9 ?_ ?_<;>intro h
   ·repeat ((conv => whnf); refine ⟨by first | exact hob | (unfold inI64; omega) | omega | exact ⟨by omega, by omega⟩ | exact rfl | decide +kernel, ?_⟩)
    conv => whnf
    by_cases hk2 : 0 = k
    ·have hl0 : ([] : List Pt) = [] ∧ 0 < (ndAt ns 0).2.2.length ∧ (ndAt ns 0).2.2.length ≤ capBound := ⟨rfl, by rw [hk2]; omega, hcap1 0 hpos⟩
     refine Or.inr ?_
     conv => whnf
     refine ⟨_, rfl, ?_⟩
     repeat ((conv => whnf); refine ⟨by first | (unfold inI64; omega) | omega | exact ⟨by omega, by omega⟩ | exact rfl | decide +kernel, ?_⟩)
     conv => whnf
     refine Or.inl (Or.inr ?_)
     conv => whnf
     refine ⟨hl0, ?_⟩
     repeat ((conv => whnf); refine ⟨by first | (unfold inI64; omega) | omega | exact ⟨by omega, by omega⟩ | exact rfl | decide +kernel, ?_⟩)
     conv => whnf
     refine Or.inr ?_
     repeat ((conv => whnf); refine ⟨by first | (unfold inI64; omega) | omega | exact ⟨by omega, by omega⟩ | exact rfl | decide +kernel, ?_⟩)
     conv => whnf
     refine kI9 1 [0, 1, 2, 3, 7, 5] rfl hids ?_ ?_ (by show 1 ≤ _; omega) (by show ns.length - 1 < ns.length - 0; omega)
     ·have hb : bsG k (ns.take 1) (min 0 k) 0 (ndAt ns (min 0 k)).2.2 = [.gvec ndT ndC (bnP (ns.take 1) (min 0 k) []) (min 0 k) 2 (.sl 5 ptC 0 (ndAt ns (min 0 k)).2.2.length) 0, .arr ptT ptC (ndAt ns (min 0 k)).2.2 0] := if_pos (by rw [hmin]; exact hk2)
      show _ = some ([tapeO zs n, AO.row _, AO.row _, AO.row [.gs 4 0 (0 + 1)]] ++ bsG k (ns.take 1) (min 0 k) 0 (ndAt ns (min 0 k)).2.2)
      rw [hb, hmin, he, bnP_one]
      rfl
     ·repeat first|exact kN9|refine kD9 ?_|refine kR9 rfl ?_
    ·refine Or.inl ?_
     repeat ((conv => whnf); refine ⟨by first | exact hc0 | (unfold inI64; omega) | omega | exact ⟨by omega, by omega⟩ | exact rfl | decide +kernel, ?_⟩)
     conv => whnf
     refine Or.inr ?_
     repeat ((conv => whnf); refine ⟨by first | (unfold inI64; omega) | omega | exact ⟨by omega, by omega⟩ | exact rfl | decide +kernel, ?_⟩)
     conv => whnf
     refine kI9 1 [0, 1, 2, 3, 7, 5] rfl hids ?_ ?_ (by show 1 ≤ _; omega) (by show ns.length - 1 < ns.length - 0; omega)
     ·have hb : bsG k (ns.take 1) (min 0 k) 0 (ndAt ns (min 0 k)).2.2 = bhG (ns.take 1) (min 0 k) 0 (ndAt ns (min 0 k)).2.2 := if_neg (by rw [hmin]; exact hk2)
      show _ = some ([tapeO zs n, AO.row _, AO.row _, AO.row [.gs 4 0 (0 + 1)]] ++ bsG k (ns.take 1) (min 0 k) 0 (ndAt ns (min 0 k)).2.2)
      rw [hb]
      show _ = some [tapeO zs n, AO.row _, AO.row _, AO.row [.gs 4 0 (0 + 1)], .gvec ndT ndC (bnP (ns.take 1) (min 0 k) []) (min 0 k) 2 (.own 5 ptC (ndAt ns (min 0 k)).2.2) 0, .tok ptT ptC (ndAt ns (min 0 k)).2.2.length false]
      rw [hmin, he, bnP_one, ← Nat.zero_add (ndAt ns 0).2.2.length]
      rfl
     ·repeat first|exact kN9|refine kD9 ?_|refine kR9 rfl ?_
   ·exfalso
    have := ge_of_dec (i := 0) h
    omega
  | succ i =>
   have hl1 : i + 1 ≤ ns.length → (ns.take (i + 1)).length = i + 1 := fun h => by rw [List.length_take]; omega
   have hl1 := hl1 hi
   have hob : i + 1 < ns.length → (0 : Int) ≤ (i : Int) + 1 ∧ (i : Int) + 1 < (ns.length : Nat) := fun h => by omega
   have hcap : i = i ∧ i + 1 + 1 ≤ capBound := ⟨rfl, Nat.le_trans (m := 1000000001) (by omega) (by decide)⟩
   by_cases hki : k ≤ i
   ·have hm1 : min i k = k := by omega
    have hm2 : min (i + 1) k = k := by omega
    have hb : bsG k (ns.take (i + 1)) (min i k) i (ndAt ns (min i k)).2.2 = [.gvec ndT ndC (bnP (ns.take (i + 1)) (min i k) []) (min i k) 2 (.sl 5 ptC 0 (ndAt ns (min i k)).2.2.length) i, .arr ptT ptC (ndAt ns (min i k)).2.2 0] := if_pos hm1
    dsimp only
    rw [hb]
    repeat ((conv => whnf); refine ⟨by first | (unfold inI64; omega) | omega | exact ⟨by omega, by omega⟩ | exact rfl | decide +kernel, ?_⟩)
    conv => whnf
    refine cI9 ?_ ?_<;>intro h
    ·have hin : i + 1 < ns.length := by
      have h9 : ((i : Int) + 1) < (ns.length : Nat) := oT9 h
      omega
     have hc0 := hcl (i + 1) hin
     repeat ((conv => whnf); refine ⟨by first | exact hob hin | (unfold inI64; omega) | omega | exact ⟨by omega, by omega⟩ | exact rfl | decide +kernel, ?_⟩)
     conv => whnf
     refine Or.inl ?_
     repeat ((conv => whnf); refine ⟨by first | exact hc0 | (unfold inI64; omega) | omega | exact ⟨by omega, by omega⟩ | exact rfl | decide +kernel, ?_⟩)
     conv => whnf
     refine Or.inl ?_
     repeat ((conv => whnf); refine ⟨by first | exact hcap | (unfold inI64; omega) | omega | exact ⟨by omega, by omega⟩ | exact rfl | decide +kernel, ?_⟩)
     conv => whnf
     have he : bnP (ns.take (i + 1)) (min i k) [] ++ [((ndAt ns (i + 1)).1, (ndAt ns (i + 1)).2.1, ([] : List Pt) ++ (ndAt ns (i + 1)).2.2)] = bnP (ns.take (i + 1 + 1)) (min (i + 1) k) [] := by
      have h3 := bnP_app (ns.take (i + 1)) (ndAt ns (i + 1)) (k := k) (by omega) []
      rw [hm1, hm2, tk_succ hin]
      exact h3
     refine kI9 (i + 1 + 1) [0, 1, 2, 3, 4, 5] rfl hids3 ?_ ?_ hin (by show ns.length - (i + 1 + 1) < ns.length - (i + 1); omega)
     ·have hb2 : bsG k (ns.take (i + 1 + 1)) (min (i + 1) k) (i + 1) (ndAt ns (min (i + 1) k)).2.2 = [.gvec ndT ndC (bnP (ns.take (i + 1 + 1)) (min (i + 1) k) []) (min (i + 1) k) 2 (.sl 5 ptC 0 (ndAt ns (min (i + 1) k)).2.2.length) (i + 1), .arr ptT ptC (ndAt ns (min (i + 1) k)).2.2 0] := if_pos hm2
      show _ = some ([tapeO zs n, AO.row _, AO.row _, AO.row [.gs 4 (i + 1) (i + 1 + 1)]] ++ bsG k (ns.take (i + 1 + 1)) (min (i + 1) k) (i + 1) (ndAt ns (min (i + 1) k)).2.2)
      rw [hb2, ← he, hm1, hm2]
      rfl
     ·repeat first|exact kN9|refine kD9 ?_|refine kR9 rfl ?_
    ·have hie : i + 1 = ns.length := by
      have h9 : ¬ ((i : Int) + 1) < (ns.length : Nat) := oF9 h
      omega
     have hie2 : ns.length - 1 = i := by omega
     rw [List.take_of_length_le (by omega), hm1]
     have hk' : modV (rawV zs n) ((i + 1 : Nat) : Int) = k := by rw [hie]; exact hk
     repeat ((conv => whnf); refine ⟨by first | (unfold inI64; omega) | omega | exact ⟨by omega, by omega⟩ | exact rfl | decide +kernel, ?_⟩)
     conv => whnf
     rw [hk']
     have hbi : i = i ∧ (0 : Int) ≤ (k : Int) ∧ (k : Int) < ((i + 1 : Nat) : Int) := ⟨rfl, by omega, by omega⟩
     have ht9 : tapeOk zs (rawN zs n) ∧ (9 : Int) ≤ 4611686018427387904 := ⟨rawN_ok9 ht, by decide⟩
     repeat ((conv => whnf); refine ⟨by first | exact hbi | exact ht9 | (unfold inI64; omega) | omega | exact ⟨by omega, by omega⟩ | exact rfl | decide +kernel, ?_⟩)
     conv => whnf
     have hcc : modV (rawV zs (rawN zs n)) 9 = 7 := hc7
     rw [hcc, hie2, ← hie]
     have hkk : ((k : Int)).toNat = k := Int.toNat_natCast k
     have hge : i = i ∧ ((k : Int)).toNat = k := ⟨rfl, hkk⟩
     obtain ⟨P, hP⟩ : ∃ P : List Pt, (ndAt ns k).2.2 = P := ⟨_, rfl⟩
     rw [hP] at hps ⊢
     match P, hps with
     | x :: y :: r, _ =>
      repeat ((conv => whnf); refine ⟨by first | exact hge | exact rfl | (unfold inI64; omega) | omega | exact ⟨by omega, by omega⟩ | exact rfl | decide +kernel, ?_⟩)
      conv => whnf
      refine cI9 ?_ ?_<;>intro h5
      ·have hx0 : 0 = 0 ∧ (0 : Int) ≤ 0 ∧ (0 : Int) < ((x :: y :: r : List Pt).length : Nat) := ⟨rfl, by decide, by simp; omega⟩
       have hx1 : 0 = 0 ∧ (0 : Int) ≤ 1 ∧ (1 : Int) < ((x :: y :: r : List Pt).length : Nat) := ⟨rfl, by decide, by simp; omega⟩
       repeat ((conv => whnf); refine ⟨by first | exact hge | exact hx0 | exact hx1 | exact rfl | ((conv => whnf); exact ⟨⟨rfl, rfl, rfl⟩, trivial⟩) | exact Early.one (by decide +kernel) (by (conv => whnf); exact ⟨rfl, rfl, rfl⟩) trivial | (unfold inI64; omega) | omega | exact ⟨by omega, by omega⟩ | exact rfl | decide +kernel, ?_⟩)
       conv => whnf
       exact eR9
      ·exfalso
       have h6 : ¬ (1 : Int) < (((x :: y :: r : List Pt).length : Nat) : Int) := oF9 h5
       simp at h6
       omega
   ·have hm1 : min i k = i := by omega
    have hm2 : min (i + 1) k = i + 1 := by omega
    have hb : bsG k (ns.take (i + 1)) (min i k) i (ndAt ns (min i k)).2.2 = [.gvec ndT ndC (bnP (ns.take (i + 1)) (min i k) []) (min i k) 2 (.own 5 ptC (ndAt ns (min i k)).2.2) i, .tok ptT ptC (ndAt ns (min i k)).2.2.length false] := if_neg (by omega)
    have hin : i + 1 < ns.length := by omega
    have hc0 := hcl (i + 1) hin
    have he : bnP (bnP (ns.take (i + 1)) (min i k) []) (min i k) (ndAt ns (min i k)).2.2 ++ [((ndAt ns (i + 1)).1, (ndAt ns (i + 1)).2.1, [])] = bnP (ns.take (i + 1 + 1)) (min (i + 1) k) [] := by
     have h3 := bnP_back (l := ns.take (i + 1)) (k := min i k) (by omega) []
     rw [at_take ns (show min i k < i + 1 by omega)] at h3
     rw [h3, bnP_new, hl1, ← tk_succ hin, hm2]
    dsimp only
    rw [hb]
    repeat ((conv => whnf); refine ⟨by first | (unfold inI64; omega) | omega | exact ⟨by omega, by omega⟩ | exact rfl | decide +kernel, ?_⟩)
    conv => whnf
    refine cI9 ?_ ?_<;>intro h
    ·repeat ((conv => whnf); refine ⟨by first | exact hob hin | (unfold inI64; omega) | omega | exact ⟨by omega, by omega⟩ | exact rfl | decide +kernel, ?_⟩)
     conv => whnf
     by_cases hk2 : i + 1 = k
     ·have hl0 : ([] : List Pt) = [] ∧ 0 < (ndAt ns (i + 1)).2.2.length ∧ (ndAt ns (i + 1)).2.2.length ≤ capBound := ⟨rfl, by rw [hk2]; omega, hcap1 _ hin⟩
      refine Or.inr ?_
      conv => whnf
      refine ⟨_, rfl, ?_⟩
      repeat ((conv => whnf); refine ⟨by first | (unfold inI64; omega) | omega | exact ⟨by omega, by omega⟩ | exact rfl | decide +kernel, ?_⟩)
      conv => whnf
      refine Or.inl (Or.inr ?_)
      conv => whnf
      refine ⟨hl0, ?_⟩
      repeat ((conv => whnf); refine ⟨by first | (unfold inI64; omega) | omega | exact ⟨by omega, by omega⟩ | exact rfl | decide +kernel, ?_⟩)
      conv => whnf
      refine Or.inr ?_
      repeat ((conv => whnf); refine ⟨by first | exact hcap | (unfold inI64; omega) | omega | exact ⟨by omega, by omega⟩ | exact rfl | decide +kernel, ?_⟩)
      conv => whnf
      refine kI9 (i + 1 + 1) [0, 1, 2, 3, 4, 7] rfl hids2 ?_ ?_ hin (by show ns.length - (i + 1 + 1) < ns.length - (i + 1); omega)
      ·have hb2 : bsG k (ns.take (i + 1 + 1)) (min (i + 1) k) (i + 1) (ndAt ns (min (i + 1) k)).2.2 = [.gvec ndT ndC (bnP (ns.take (i + 1 + 1)) (min (i + 1) k) []) (min (i + 1) k) 2 (.sl 5 ptC 0 (ndAt ns (min (i + 1) k)).2.2.length) (i + 1), .arr ptT ptC (ndAt ns (min (i + 1) k)).2.2 0] := if_pos (by omega)
       show _ = some ([tapeO zs n, AO.row _, AO.row _, AO.row [.gs 4 (i + 1) (i + 1 + 1)]] ++ bsG k (ns.take (i + 1 + 1)) (min (i + 1) k) (i + 1) (ndAt ns (min (i + 1) k)).2.2)
       rw [hb2, ← he, hm2]
       rfl
      ·repeat first|exact kN9|refine kD9 ?_|refine kR9 rfl ?_
     ·refine Or.inl ?_
      repeat ((conv => whnf); refine ⟨by first | exact hc0 | (unfold inI64; omega) | omega | exact ⟨by omega, by omega⟩ | exact rfl | decide +kernel, ?_⟩)
      conv => whnf
      refine Or.inr ?_
      repeat ((conv => whnf); refine ⟨by first | exact hcap | (unfold inI64; omega) | omega | exact ⟨by omega, by omega⟩ | exact rfl | decide +kernel, ?_⟩)
      conv => whnf
      refine kI9 (i + 1 + 1) [0, 1, 2, 3, 4, 7] rfl hids2 ?_ ?_ hin (by show ns.length - (i + 1 + 1) < ns.length - (i + 1); omega)
      ·have hb2 : bsG k (ns.take (i + 1 + 1)) (min (i + 1) k) (i + 1) (ndAt ns (min (i + 1) k)).2.2 = [.gvec ndT ndC (bnP (ns.take (i + 1 + 1)) (min (i + 1) k) []) (min (i + 1) k) 2 (.own 5 ptC (ndAt ns (min (i + 1) k)).2.2) (i + 1), .tok ptT ptC (ndAt ns (min (i + 1) k)).2.2.length false] := if_neg (by omega)
       show _ = some ([tapeO zs n, AO.row _, AO.row _, AO.row [.gs 4 (i + 1) (i + 1 + 1)]] ++ bsG k (ns.take (i + 1 + 1)) (min (i + 1) k) (i + 1) (ndAt ns (min (i + 1) k)).2.2)
       rw [hb2, ← he, hm2, ← Nat.zero_add (ndAt ns (i + 1)).2.2.length]
       rfl
      ·repeat first|exact kN9|refine kD9 ?_|refine kR9 rfl ?_
    ·exfalso
     have h9 : ¬ ((i : Int) + 1) < (ns.length : Nat) := oF9 h
     omega
 ·cases hs
structure LenM (ns : List Nd) : Prop where
 len : ns.length ≤ 140737488355328
 ps : ∀ n ∈ ns, n.2.2.length ≤ 140737488355328
def smF : List Nd → Nat → Nat
 | [], n => n
 | x :: r, n => if n < 900 then smF r (n + x.2.2.length) else n
def smB (ns : List Nd) : Bool := decide (smF ns ns.length ≤ 400)
def BT1 : Table := ext N6 8 (saysG daT eaT fun ns => (some (LenM ns), .bool (smB ns)))
theorem bT1 : TS9 BT1 := by
 refine extG n6 8 (fn := Tryz.f8) rfl rfl daT eaT _ (fun _ => nB9 rfl) [0, 1, 2, 3, 4, 16] fun ns hok => ?_
 have hm : LenM ns := hok
 have hl := hm.len
 dsimp only
 unfold smB
 repeat ((conv => whnf); refine ⟨by first | (unfold inI64; omega) | omega | exact ⟨by omega, by omega⟩ | exact rfl | decide +kernel, ?_⟩)
 conv => whnf
 refine lI9 (σ := Nat × Nat) (fun ⟨i, n⟩ => [(0, nX9), (1, XV.s (.a (.c (.ptr 0 0)))), (2, nX9), (3, XV.s (.int .i64 (n : Nat))), (4, XV.s (.int .i64 (i : Nat))), (16, nX9)])
  (fun _ => [.row [.p (.l ndC ns)]]) (fun ⟨i, n⟩ => i ≤ ns.length ∧ n ≤ 281474976710656 ∧ smF (ns.drop i) n = smF ns ns.length) (fun ⟨i, _⟩ => ns.length - i) (0, ns.length) ?_ rfl ⟨nZ9 _, by omega, rfl⟩ ?_
 ·repeat first|exact lN9|refine lD9 ?_|refine lS9 ?_
 rintro ⟨i, n⟩ ⟨hi, hn, hgo⟩
 repeat ((conv => whnf); refine ⟨by first | (unfold inI64; omega) | omega | exact ⟨by omega, by omega⟩ | exact rfl | decide +kernel, ?_⟩)
 conv => whnf
 refine cI9 ?_ ?_<;>intro h
 ·have h2 : (decide ((i : Int) < (ns.length : Nat)) && decide ((n : Int) < 900)) = true := h
  obtain ⟨h3, h4⟩ := bA9.1 h2
  have hlt : i < ns.length := lt_of_dec h3
  have h5 : n < 900 := Int.ofNat_lt.1 (show (n : Int) < ((900 : Nat) : Int) from oT9 h4)
  have hin : 0 ≤ (i : Int) ∧ (i : Int) < (ns.length : Nat) := by omega
  have he : ns.getD i ndC.dflt = ns[i] := by simp [hlt]
  have hp := hm.ps _ (List.getElem_mem hlt)
  have hadd : inI64 ((n : Int) + ((ns.getD i ndC.dflt).2.2.length : Nat)) := by rw [he]; unfold inI64; omega
  rw [List.drop_eq_getElem_cons hlt] at hgo
  have e : smF (ns[i] :: ns.drop (i + 1)) n = smF (ns.drop (i + 1)) (n + ns[i].2.2.length) := if_pos h5
  rw [e] at hgo
  repeat ((conv => whnf); refine ⟨by first | exact hin | exact hadd | (unfold inI64; omega) | omega | exact ⟨by omega, by omega⟩ | exact rfl | decide +kernel, ?_⟩)
  conv => whnf
  refine hI9 (i + 1, n + (ns.getD i ndC.dflt).2.2.length) ?_ rfl ⟨hlt, by rw [he]; omega, by rw [he]; exact hgo⟩ (by show ns.length - (i + 1) < ns.length - i; omega)
  repeat first|exact lN9|refine lD9 ?_|refine lS9 ?_
 ·have h2 : (decide ((i : Int) < (ns.length : Nat)) && decide ((n : Int) < 900)) = false := h
  have hfin : smF (ns.drop i) n = n := by
   rcases Nat.lt_or_ge i ns.length with h3 | h3
   ·rw [dT9 (show (i : Int) < (ns.length : Nat) by omega), Bool.true_and] at h2
    have h4 : ¬ (n : Int) < 900 := oF9 h2
    rw [List.drop_eq_getElem_cons h3]
    exact if_neg (by omega)
   ·rw [List.drop_eq_nil_of_le h3]
    rfl
  rw [hfin] at hgo
  rw [← hgo]
  repeat ((conv => whnf); refine ⟨by first | (unfold inI64; omega) | omega | exact ⟨by omega, by omega⟩ | exact rfl | decide +kernel, ?_⟩)
  conv => whnf
  refine eE9 ⟨congrArg (fun b => SV.bool b) (?_ : _ = _), rfl⟩
  exact decide_eq_decide.2 (by omega)
def daLL : List AV → Option (List Int × List Int)
 | [.c (.p (.l c0 zs)), .c (.p (.l c1 ys))] => match castD (e := .int .i64) (e' := c0) zs, castD (e := .int .i64) (e' := c1) ys with | some zs, some ys => some (zs, ys) | _, _ => none
 | _ => none
def eaLL (a : List Int × List Int) : List AV := [.c (.p (.l (.int .i64) a.1)), .c (.p (.l (.int .i64) a.2))]
def intB (a : List Int × List Int) : Bool := decide (a.1 = a.2)
def BT2 : Table := ext BT1 20 (saysG daLL eaLL fun a => (some (a.1.length ≤ 1000000000), .bool (intB a)))
theorem bT2 : TS9 BT2 := by
 refine extG bT1 20 (fn := Tryz.f20) rfl rfl daLL eaLL _ (fun _ => nB9 rfl) [0, 1, 4, 5, 10, 14, 25] fun a hok => ?_
 obtain ⟨zs, ys⟩ := a
 have hl : zs.length ≤ 1000000000 := hok
 dsimp only
 unfold intB
 dsimp only
 repeat ((conv => whnf); refine ⟨by first | (unfold inI64; omega) | omega | exact ⟨by omega, by omega⟩ | exact rfl | decide +kernel, ?_⟩)
 conv => whnf
 refine cI9 ?_ ?_<;>intro h
 ·have h1 : ¬ zs = ys := fun h2 => by
   rw [h2] at h
   simp at h
  rw [dF9 h1]
  repeat ((conv => whnf); refine ⟨by first | (unfold inI64; omega) | omega | exact ⟨by omega, by omega⟩ | exact rfl | decide +kernel, ?_⟩)
  conv => whnf
  exact eR9
 have hlen : zs.length = ys.length := by
  have h1 : (!decide (((zs.length : Nat) : Int) = (ys.length : Nat))) = false := h
  simp at h1
  omega
 repeat ((conv => whnf); refine ⟨by first | (unfold inI64; omega) | omega | exact ⟨by omega, by omega⟩ | exact rfl | decide +kernel, ?_⟩)
 conv => whnf
 refine lI9 (σ := Nat) (fun i => [(0, XV.s (.a (.c (.p (.l (.int .i64) zs))))), (1, XV.s (.a (.c (.p (.l (.int .i64) ys))))), (4, nX9), (5, XV.s (.int .i64 (i : Nat))), (10, nX9), (14, nX9), (25, nX9)])
  (fun _ => []) (fun i => i ≤ zs.length ∧ zs.take i = ys.take i) (fun i => zs.length - i) 0 ?_ rfl ⟨nZ9 _, rfl⟩ ?_
 ·repeat first|exact lN9|refine lD9 ?_|refine lS9 ?_
 rintro i ⟨hi, hpre⟩
 repeat ((conv => whnf); refine ⟨by first | (unfold inI64; omega) | omega | exact ⟨by omega, by omega⟩ | exact rfl | decide +kernel, ?_⟩)
 conv => whnf
 refine cI9 ?_ ?_<;>intro h2
 ·have hlt : i < zs.length := lt_of_dec h2
  have b1 : 0 ≤ (i : Int) ∧ (i : Int) < (zs.length : Nat) := by omega
  have b2 : 0 ≤ (i : Int) ∧ (i : Int) < (ys.length : Nat) := by omega
  repeat ((conv => whnf); refine ⟨by first | exact b1 | exact b2 | ((conv => whnf); exact ⟨⟨rfl, rfl, rfl⟩, trivial⟩) | exact Early.one (by decide +kernel) (by (conv => whnf); exact ⟨rfl, rfl, rfl⟩) trivial | (unfold inI64; omega) | omega | exact ⟨by omega, by omega⟩ | exact rfl | decide +kernel, ?_⟩)
  conv => whnf
  have ez : zs.getD i 0 = zs[i] := by simp [hlt]
  have ey : ys.getD i 0 = ys[i]'(by omega) := by simp [show i < ys.length by omega]
  refine cI9 ?_ ?_<;>intro h3
  ·have h4 : (!decide (zs.getD i 0 = ys.getD i 0)) = true := h3
   have h1 : ¬ zs = ys := fun h5 => by
    rw [h5] at h4
    simp at h4
   rw [dF9 h1]
   repeat ((conv => whnf); refine ⟨by first | (unfold inI64; omega) | omega | exact ⟨by omega, by omega⟩ | exact rfl | decide +kernel, ?_⟩)
   conv => whnf
   exact eR9
  have h4 : (!decide (zs.getD i 0 = ys.getD i 0)) = false := h3
  have h5 : zs.getD i 0 = ys.getD i 0 := by simpa using h4
  have hs : inI64 ((i : Int) + 1) := by unfold inI64; omega
  have hnext : zs.take (i + 1) = ys.take (i + 1) := by
   rw [List.take_succ_eq_append_getElem hlt, List.take_succ_eq_append_getElem (show i < ys.length by omega), hpre, ← ez, ← ey, h5]
  repeat ((conv => whnf); refine ⟨by first | exact hs | (unfold inI64; omega) | omega | exact ⟨by omega, by omega⟩ | exact rfl | decide +kernel, ?_⟩)
  conv => whnf
  refine hI9 (i + 1) ?_ rfl ⟨hlt, hnext⟩ (by show zs.length - (i + 1) < zs.length - i; omega)
  repeat first|exact lN9|refine lD9 ?_|refine lS9 ?_
 ·obtain rfl : i = zs.length := by have := ge_of_dec h2; omega
  have h1 : zs = ys := by
   rw [List.take_length, hlen, List.take_length] at hpre
   exact hpre
  rw [dT9 h1]
  repeat ((conv => whnf); refine ⟨by first | (unfold inI64; omega) | omega | exact ⟨by omega, by omega⟩ | exact rfl | decide +kernel, ?_⟩)
  conv => whnf
  exact eR9
def daNS3 : List AV → Option (Nd × ByteArray)
 | [.agg [.p (.v (.int .i64 p)), .p (.v (.string s)), .p (.l c0 ps)], .c (.p (.v (.string q)))] => match castD (e := ptC) (e' := c0) ps with | some ps => some ((p, s, ps), q) | none => none
 | _ => none
def eaNS3 (a : Nd × ByteArray) : List AV := [.agg [.int .i64 a.1.1, .str a.1.2.1, .p (.l ptC a.1.2.2)], .c (.str a.2)]
def ofV : List Pt → ByteArray → ByteArray × Bool
 | [], _ => (⟨#[]⟩, false)
 | p :: r, s => if p.1 = s then (p.2, true) else ofV r s
def BT3 : Table := ext BT2 73 (saysG daNS3 eaNS3 fun a => (some (a.1.2.2.length ≤ 1000000000), valR (ofV a.1.2.2 a.2)))
theorem bT3 : TS9 BT3 := by
 refine extG bT2 73 (fn := Tryz.f73) rfl rfl daNS3 eaNS3 _ (fun _ => nB9 rfl) [0, 1, 2, 4, 5, 7, 9, 10, 11, 12, 18] fun a hok => ?_
 obtain ⟨⟨p, nm, ps⟩, s⟩ := a
 have hl : ps.length ≤ 1000000000 := hok
 dsimp only
 obtain ⟨R, hR⟩ : ∃ R, ofV ps s = R := ⟨_, rfl⟩
 rw [hR]
 repeat ((conv => whnf); refine ⟨by first | (unfold inI64; omega) | omega | exact ⟨by omega, by omega⟩ | exact rfl | decide +kernel, ?_⟩)
 conv => whnf
 refine lI9 (σ := Nat) (fun i => [(0, nX9), (1, XV.s (.str s)), (2, nX9), (4, nX9), (5, nX9), (7, nX9), (9, XV.s (.a (.c (.p (.l ptC ps))))), (10, XV.s (.int .i64 (ps.length : Nat))), (11, XV.s (.int .i64 (i : Nat))), (12, nX9), (18, nX9)])
  (fun _ => [.row [.int .i64 p, .str nm, .p (.l ptC ps)]]) (fun i => i ≤ ps.length ∧ ofV (ps.drop i) s = R) (fun i => ps.length - i) 0 ?_ rfl ⟨nZ9 _, hR⟩ ?_
 ·repeat first|exact lN9|refine lD9 ?_|refine lS9 ?_
 rintro i ⟨hi, hgo⟩
 repeat ((conv => whnf); refine ⟨by first | (unfold inI64; omega) | omega | exact ⟨by omega, by omega⟩ | exact rfl | decide +kernel, ?_⟩)
 conv => whnf
 refine cI9 ?_ ?_<;>intro h
 ·have hlt : i < ps.length := lt_of_dec h
  have b1 : 0 ≤ (i : Int) ∧ (i : Int) < (ps.length : Nat) := by omega
  have he : ps.getD i ptC.dflt = ps[i] := by simp [hlt]
  rw [List.drop_eq_getElem_cons hlt] at hgo
  repeat ((conv => whnf); refine ⟨by first | exact b1 | (unfold inI64; omega) | omega | exact ⟨by omega, by omega⟩ | exact rfl | decide +kernel, ?_⟩)
  conv => whnf
  refine cI9 ?_ ?_<;>intro h2
  ·have h3 : (ps.getD i ptC.dflt).1 = s := oT9 h2
   rw [he] at h3
   have e : ofV (ps[i] :: ps.drop (i + 1)) s = (ps[i].2, true) := if_pos h3
   rw [e, ← he] at hgo
   subst hgo
   repeat ((conv => whnf); refine ⟨by first | (unfold inI64; omega) | omega | exact ⟨by omega, by omega⟩ | exact rfl | decide +kernel, ?_⟩)
   conv => whnf
   exact eR9
  have h3 : ¬ (ps.getD i ptC.dflt).1 = s := oF9 h2
  rw [he] at h3
  have e : ofV (ps[i] :: ps.drop (i + 1)) s = ofV (ps.drop (i + 1)) s := if_neg h3
  rw [e] at hgo
  have hs : inI64 ((i : Int) + 1) := by unfold inI64; omega
  repeat ((conv => whnf); refine ⟨by first | exact hs | (unfold inI64; omega) | omega | exact ⟨by omega, by omega⟩ | exact rfl | decide +kernel, ?_⟩)
  conv => whnf
  refine kI9 (i + 1) [0] rfl id0 rfl ?_ ⟨hlt, hgo⟩ (by show ps.length - (i + 1) < ps.length - i; omega)
  repeat first|exact kN9|refine kD9 ?_|refine kR9 rfl ?_
 ·rw [List.drop_eq_nil_of_le (by have := ge_of_dec h; omega)] at hgo
  have hgo : (⟨#[]⟩, false) = R := hgo
  subst hgo
  repeat ((conv => whnf); refine ⟨by first | (unfold inI64; omega) | omega | exact ⟨by omega, by omega⟩ | exact rfl | decide +kernel, ?_⟩)
  conv => whnf
  exact eR9
theorem ky_refl (p : kyC.den) : keyEq kyC p p = true := by
 obtain ⟨a, b⟩ := p
 simp [keyEq]
theorem find_set : ∀ (es : twE) (p : kyC.den), findE (k := kyC) (v := .bool) (setE (k := kyC) (v := .bool) p true es) p = some true := by
 intro es
 induction es with
 | nil =>
  intro p
  show (match keyEq kyC p p with | true => some true | false => _) = some true
  rw [ky_refl]
 | cons e es ih =>
  intro p
  obtain ⟨a, y⟩ := e
  unfold setE
  cases h : keyEq kyC p a with
  | true =>
   show (match keyEq kyC p p with | true => some true | false => _) = some true
   rw [ky_refl]
  | false =>
   show (match keyEq kyC p a with | true => some y | false => _) = some true
   rw [h]
   exact ih p
theorem find_keep : ∀ (es : twE) (p q : kyC.den), findE (k := kyC) (v := .bool) es q = some true → findE (k := kyC) (v := .bool) (setE (k := kyC) (v := .bool) p true es) q = some true := by
 intro es
 induction es with
 | nil => intro p q h; cases h
 | cons e es ih =>
  intro p q h
  obtain ⟨a, y⟩ := e
  unfold setE
  have h : (match keyEq kyC q a with | true => some y | false => findE (k := kyC) (v := .bool) es q) = some true := h
  cases hp : keyEq kyC p a with
  | true =>
   show (match keyEq kyC q p with | true => some true | false => findE (k := kyC) (v := .bool) es q) = some true
   have hpa := ky_eq hp
   subst hpa
   cases hq : keyEq kyC q p with
   | true => rfl
   | false => rw [hq] at h; exact h
  | false =>
   show (match keyEq kyC q a with | true => some y | false => findE (k := kyC) (v := .bool) (setE (k := kyC) (v := .bool) p true es) q) = some true
   cases hq : keyEq kyC q a with
   | true => rw [hq] at h; exact h
   | false => rw [hq] at h; exact ih p q h
theorem tw_inv : ∀ (l : List Nd) (es : twE), twGo es l = false → ((l.map fun n : Nd => ((n.1, n.2.1) : kyC.den)).Pairwise (· ≠ ·)) ∧ ∀ n ∈ l, ¬ findE (k := kyC) (v := .bool) es (n.1, n.2.1) = some true := by
 intro l
 induction l with
 | nil => intro es _; exact ⟨List.Pairwise.nil, fun n h => by cases h⟩
 | cons n l ih =>
  intro es h
  unfold twGo at h
  split at h
  ·cases h
  ·rename_i hn
   obtain ⟨h1, h2⟩ := ih _ h
   refine ⟨List.pairwise_cons.2 ⟨fun k hk he => ?_, h1⟩, fun m hm hf => ?_⟩
   ·obtain ⟨m, hm, hmk⟩ := List.mem_map.1 hk
    refine h2 m hm ?_
    have e : ((m.1, m.2.1) : kyC.den) = (n.1, n.2.1) := hmk.trans he.symm
    rw [e]
    exact find_set _ _
   ·rcases List.mem_cons.1 hm with h3 | h3
    ·rw [h3] at hf
     rw [hf] at hn
     exact hn rfl
    ·exact h2 m h3 (find_keep _ _ _ hf)
theorem ord_flw {ns : List Nd} (h : ordV ns = true) {i : Nat} (h0 : 0 < i) (hi : i < ns.length) : flwV ns i = true := by
 have key : ∀ m j, ordGo ns m j = true → ∀ i, j ≤ i → i < j + m → ordAt ns i = true := by
  intro m
  induction m with
  | zero => intro j _ i h1 h2; omega
  | succ m ih =>
   intro j h i h1 h2
   obtain ⟨h3, h4⟩ := bA9.1 (show (ordAt ns j && ordGo ns m (j + 1)) = true from h)
   by_cases hij : i = j
   ·rw [hij]; exact h3
   ·exact ih (j + 1) h4 i (by omega) (by omega)
 have h1 := key _ _ h i (nZ9 _) (by omega)
 unfold ordAt at h1
 cases hx : flwV ns i with
 | true => rfl
 | false =>
  rw [hx, dT9 (show (0 : Int) < (i : Int) by omega)] at h1
  simp at h1
theorem vld_vl {ns : List Nd} (h : VldT ns) : Vl ns := by
 have hf : FrmT ns := ⟨h.lim, h.frm⟩
 refine ⟨hf, ?_, fun i hi => ord_asc h.ord hi, fun i hi => ?_, fun i h0 hi => ord_flw h.ord h0 hi⟩
 ·intro a b a0 ha b0 hb hp hn
  have h1 := (tw_inv ns [] h.tw).1
  rw [List.pairwise_map, List.pairwise_iff_getElem] at h1
  have e1 : (ndAt ns a).1 = (ndAt ns b).1 := by rw [← (par_lt hf.par a0 ha).2, ← (par_lt hf.par b0 hb).2, hp]
  rcases Nat.lt_trichotomy a b with h2 | h2 | h2
  ·refine absurd ?_ (h1 a b ha hb h2)
   rw [← nd_at' ha, ← nd_at' hb, e1, hn]
  ·exact h2
  ·refine absurd ?_ (h1 b a hb ha h2)
   rw [← nd_at' ha, ← nd_at' hb, e1, hn]
 ·have h1 := h.dp
  unfold deepV at h1
  have h2 : ¬ ((skV (deepB ns) ns.length : Nat) : Int) < (ns.length : Nat) := oF9 h1
  have h3 : skV (deepB ns) ns.length = skGo (deepB ns) ns.length 0 := rfl
  have h4 := (skGo_spec (deepB ns) ns.length 0).1 i (nZ9 _) (by omega)
  unfold deepB at h4
  have h5 : ¬ (8 : Int) < (dpV ns i : Nat) := oF9 h4
  omega
theorem rl_iff {ns : List Nd} : ∀ m i, rlGo ns m i = true ↔ ∃ j, i ≤ j ∧ j < i + m ∧ 8 < dpV ns j := by
 intro m
 induction m with
 | zero =>
  intro i
  constructor
  ·intro h
   cases h
  ·rintro ⟨j, h1, h2, _⟩
   omega
 | succ m ih =>
  intro i
  show (decide ((8 : Int) < (dpV ns i : Nat)) || rlGo ns m (i + 1)) = true ↔ _
  rw [Bool.or_eq_true, ih, decide_eq_true_eq]
  constructor
  ·rintro (h | ⟨j, h1, h2, h3⟩)
   ·exact ⟨i, nR9 _, by omega, by omega⟩
   ·exact ⟨j, by omega, by omega, h3⟩
  ·rintro ⟨j, h1, h2, h3⟩
   by_cases hj : j = i
   ·exact .inl (by rw [← hj]; omega)
   ·exact .inr ⟨j, by omega, by omega, h3⟩
theorem deep_rl (ns : List Nd) : deepV ns = rlGo ns ns.length 0 := by
 have h1 := (skGo_spec (deepB ns) ns.length 0)
 have h3 : skV (deepB ns) ns.length = skGo (deepB ns) ns.length 0 := rfl
 have h4 := skV_le (deepB ns) ns.length
 cases h : rlGo ns ns.length 0 with
 | true =>
  obtain ⟨j, _, h5, h6⟩ := (rl_iff ns.length 0).1 h
  unfold deepV
  refine dT9 ?_
  rcases Nat.lt_or_ge (skV (deepB ns) ns.length) ns.length with h7 | h7
  ·omega
  ·exfalso
   have h8 := h1.1 j (nZ9 _) (by omega)
   unfold deepB at h8
   have h9 : ¬ (8 : Int) < (dpV ns j : Nat) := oF9 h8
   omega
 | false =>
  unfold deepV
  refine dF9 fun h5 => ?_
  have h6 := h1.2 (by omega)
  rw [← h3] at h6
  have h7 : (8 : Int) < (dpV ns (skV (deepB ns) ns.length) : Nat) := oT9 h6
  have h8 := (rl_iff (ns := ns) ns.length 0).2 ⟨skV (deepB ns) ns.length, nZ9 _, by omega, by omega⟩
  rw [h] at h8
  cases h8
theorem rtIn_iff {ns : List Nd} {i : Nat} : ∀ m k, rtIn ns i m k = true ↔ ∃ j, k ≤ j ∧ j < k + m ∧ twnB ns i j = true := by
 intro m
 induction m with
 | zero =>
  intro k
  constructor
  ·intro h
   cases h
  ·rintro ⟨j, h1, h2, _⟩
   omega
 | succ m ih =>
  intro k
  show (twnB ns i k || rtIn ns i m (k + 1)) = true ↔ _
  rw [Bool.or_eq_true, ih]
  constructor
  ·rintro (h | ⟨j, h1, h2, h3⟩)
   ·exact ⟨k, nR9 _, by omega, h⟩
   ·exact ⟨j, by omega, by omega, h3⟩
  ·rintro ⟨j, h1, h2, h3⟩
   by_cases hj : j = k
   ·exact .inl (by rw [← hj]; exact h3)
   ·exact .inr ⟨j, by omega, by omega, h3⟩
theorem rtGo_iff {ns : List Nd} : ∀ m i, rtGo ns m i = true ↔ ∃ j, i ≤ j ∧ j < i + m ∧ rtIn ns j (j - 1) 1 = true := by
 intro m
 induction m with
 | zero =>
  intro i
  constructor
  ·intro h
   cases h
  ·rintro ⟨j, h1, h2, _⟩
   omega
 | succ m ih =>
  intro i
  show (rtIn ns i (i - 1) 1 || rtGo ns m (i + 1)) = true ↔ _
  rw [Bool.or_eq_true, ih]
  constructor
  ·rintro (h | ⟨j, h1, h2, h3⟩)
   ·exact ⟨i, nR9 _, by omega, h⟩
   ·exact ⟨j, by omega, by omega, h3⟩
  ·rintro ⟨j, h1, h2, h3⟩
   by_cases hj : j = i
   ·exact .inl (by rw [← hj]; exact h3)
   ·exact .inr ⟨j, by omega, by omega, h3⟩
theorem tw_rt {ns : List Nd} (hf : FrmT ns) : twV ns = rtGo ns ns.length 0 := by
 have key : ∀ i j, i < j → j < ns.length → (ndAt ns i).1 = (ndAt ns j).1 → (ndAt ns i).2.1 = (ndAt ns j).2.1 → 0 < i := by
  intro i j h1 h2 h3 _
  rcases Nat.eq_zero_or_pos i with h | h
  ·exfalso
   rw [h] at h3
   have h4 := frm_nd hf.frm hf.len.1
   unfold ndFrm at h4
   obtain ⟨h5, _⟩ := bA9.1 h4
   obtain ⟨h6, _⟩ := bA9.1 h5
   simp at h6
   have h7 : (ndAt ns 0).1 = -1 := h6.1
   have h8 : ((paN ns j : Nat) : Int) = -1 := (par_lt hf.par (j := j) (by omega) h2).2.trans (h3.symm.trans h7)
   omega
  ·exact h
 cases h : rtGo ns ns.length 0 with
 | true =>
  obtain ⟨j, _, h1, h2⟩ := (rtGo_iff ns.length 0).1 h
  obtain ⟨i, h3, h4, h5⟩ := (rtIn_iff (j - 1) 1).1 h2
  cases ht : twV ns with
  | true => rfl
  | false =>
   exfalso
   have h6 := (tw_inv ns [] ht).1
   rw [List.pairwise_map, List.pairwise_iff_getElem] at h6
   obtain ⟨h7, h8⟩ := bA9.1 (show (decide ((ndAt ns i).1 = (ndAt ns j).1) && decide ((ndAt ns i).2.1 = (ndAt ns j).2.1)) = true from h5)
   have h7 : (ndAt ns i).1 = (ndAt ns j).1 := oT9 h7
   have h8 : (ndAt ns i).2.1 = (ndAt ns j).2.1 := oT9 h8
   refine h6 i j (by omega) (by omega) (by omega) ?_
   rw [← nd_at', ← nd_at', h7, h8]
 | false =>
  refine twGo_no _ _ ?_ fun n _ h => by cases h
  rw [List.pairwise_map, List.pairwise_iff_getElem]
  intro i j hi hj hij he
  obtain ⟨e1, e2⟩ := Prod.mk.inj he
  rw [← nd_at' hi, ← nd_at' hj] at e1 e2
  have h0 := key i j hij hj e1 e2
  have h1 := (rtGo_iff (ns := ns) ns.length 0).2 ⟨j, nZ9 _, by omega, (rtIn_iff (j - 1) 1).2 ⟨i, h0, by omega, by
   show (decide ((ndAt ns i).1 = (ndAt ns j).1) && decide ((ndAt ns i).2.1 = (ndAt ns j).2.1)) = true
   rw [e1, e2]
   simp⟩⟩
  rw [h] at h1
  cases h1
end Go.Ab
