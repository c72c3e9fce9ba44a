/- bringupgrow.Bent where a property is put behind those of a node. -/
import Derived.Test.YtnlifjljmbfomaaGreatTY133toY200
namespace Go.Ab
open Go.Proofs
set_option linter.unusedSectionVars false
set_option maxRecDepth 100000
variable [Base]
theorem bnP_one (x : Nd) : bnP [x] 0 [] = [(x.1, x.2.1, [])] := rfl
theorem bnP_len (l : List Nd) (k : Nat) (ps : List Pt) : (bnP l k ps).length = l.length := List.length_set
theorem bnP_at {l : List Nd} {k : Nat} (hk : k < l.length) (ps : List Pt) : ndAt (bnP l k ps) k = ((ndAt l k).1, (ndAt l k).2.1, ps) := by
 have h : k < (bnP l k ps).length := by rw [bnP_len]; exact hk
 rw [nd_at' h]
 exact List.getElem_set_self (by rw [List.length_set]; exact hk)
theorem bnP_back {l : List Nd} {k : Nat} (hk : k < l.length) (qs : List Pt) : bnP (bnP l k qs) k (ndAt l k).2.2 = l := by
 have e : ((ndAt (bnP l k qs) k).1, (ndAt (bnP l k qs) k).2.1, (ndAt l k).2.2) = ndAt l k := by rw [bnP_at hk]
 have e2 : bnP (bnP l k qs) k (ndAt l k).2.2 = (bnP l k qs).set k ((ndAt (bnP l k qs) k).1, (ndAt (bnP l k qs) k).2.1, (ndAt l k).2.2) := rfl
 rw [e2, e]
 unfold bnP
 rw [List.set_set, nd_at' hk]
 exact List.set_getElem_self hk
theorem bnP_again {l : List Nd} {k : Nat} (qs ps : List Pt) (hk : k < l.length) : bnP (bnP l k qs) k ps = bnP l k ps := by
 have e2 : bnP (bnP l k qs) k ps = (bnP l k qs).set k ((ndAt (bnP l k qs) k).1, (ndAt (bnP l k qs) k).2.1, ps) := rfl
 rw [e2, bnP_at hk]
 unfold bnP
 rw [List.set_set]
theorem bnP_app (l : List Nd) (x : Nd) {k : Nat} (hk : k < l.length) (ps : List Pt) : bnP l k ps ++ [x] = bnP (l ++ [x]) k ps := by
 unfold bnP
 have : ndAt (l ++ [x]) k = ndAt l k := by
  unfold ndAt
  rw [List.getD_eq_getElem?_getD, List.getElem?_append_left hk, ← List.getD_eq_getElem?_getD]
 rw [this, List.set_append_left _ _ hk]
theorem bnP_new (l : List Nd) (x : Nd) : l ++ [(x.1, x.2.1, [])] = bnP (l ++ [x]) l.length [] := by
 unfold bnP
 have : ndAt (l ++ [x]) l.length = x := by
  unfold ndAt
  rw [List.getD_eq_getElem?_getD, List.getElem?_append_right (nR9 _), Nat.sub_self]
  rfl
 rw [this, List.set_append_right _ _ (nR9 _), Nat.sub_self]
 rfl
theorem at_take (ns : List Nd) {i j : Nat} (h : j < i) : ndAt (ns.take i) j = ndAt ns j := by
 unfold ndAt
 rw [List.getD_eq_getElem?_getD, List.getElem?_take, if_pos h, ← List.getD_eq_getElem?_getD]
theorem tk_succ {ns : List Nd} {i : Nat} (hi : i < ns.length) : ns.take (i + 1) = ns.take i ++ [ndAt ns i] := by
 rw [List.take_succ_eq_append_getElem hi, nd_at' hi]
abbrev bhG (l : List Nd) (m ver : Nat) (ps : List Pt) : List AO := [.gvec ndT ndC (bnP l m []) m 2 (.own 5 ptC ps) ver, .tok ptT ptC ps.length false]
def bnNw (zs : List Int) (n : Int) : Pt := if bnC zs n = 2 then (pickS propL zs (bnN zs n), ByteArray.empty) else if bnC zs n = 3 then (pickS bnL3 zs (bnN zs n), ByteArray.empty) else (zzS, bytesOf (List.replicate (pkI [256, 257] zs (bnN zs n)).toNat 0))
def saysBnH : Says := fun args H => match args, H with
 | [.c (.ptr 0 0), .agg [.p (.l (.pair (.int .i64) (.pair .str (.list (.pair .str .str)))) ns)]], [.row [.p (.l (.int .i64) zs), .p (.v (.int .i64 n))]] =>
  some (some (tapeOk zs n ∧ LenN ns ∧ 0 < ns.length ∧ ns.length ≤ 1000 ∧ (bnC zs n = 2 ∨ bnC zs n = 3 ∨ bnC zs n = 6)), .a (.agg [.gs 1 (ns.length - 1) ns.length]), [tapeO zs (rawN zs (bnN zs n)), .gvec ndT ndC (bnP ns (bnK zs n ns) []) (bnK zs n ns) 2 (.own 2 ptC ((ndAt ns (bnK zs n ns)).2.2 ++ [bnNw zs n])) (ns.length - 1), .tok ptT ptC ((ndAt ns (bnK zs n ns)).2.2.length + 1) false])
 | _, _ => none
set_option maxHeartbeats 2000000 in
theorem bn_h : TS9 (ext N6 12 saysBnH) := by
 refine ext_run n6 (f := 12) (fn := Tryz.f12) rfl rfl [0, 1, 3, 4, 5, 7, 8, 9, 10, 12, 13, 14, 15, 33, 45, 51, 62, 72, 86, 103, 115, 124, 142, 149] fun args H p r' H' hs hp => ?_
 unfold saysBnH at hs
 split at hs
 ·rename_i ns zs n
  cases hs
  obtain ⟨ht, hl, hpos, hle, hc⟩ := hp
  have hlen := hl.len
  refine ⟨nB9 rfl, [0, 4, 5], rfl, fun k hk => by obtain rfl : k = 0 := Nat.lt_one_iff.1 hk; rfl, ?_⟩
  have hk0 := mN9 (rawV zs n) ns.length
  have hk1 := modV_lt (rawV zs n) ns.length (by omega)
  obtain ⟨k, hk⟩ : ∃ k : Nat, modV (rawV zs n) ns.length = k := ⟨(modV (rawV zs n) ns.length).toNat, by omega⟩
  have hbk : bnK zs n ns = k := by unfold bnK; rw [hk, Int.toNat_natCast]
  have hkl : k < ns.length := by omega
  rw [hbk]
  repeat ((conv => whnf); refine ⟨by first | (unfold inI64; omega) | omega | exact ⟨by omega, by omega⟩ | exact rfl | decide +kernel, ?_⟩)
  conv => whnf
  refine lI9 (fun i : Nat => [(0, XV.s (.a (.c (.ptr 0 0)))), (1, nX9), (3, XV.s (.a (.c (.ptr 1 0)))), (4, XV.s (.a (.c (.ptr 2 0)))), (5, XV.s (.a (.c (.ptr 3 0)))), (7, nX9), (8, nX9), (9, nX9), (10, nX9), (12, XV.s (.a (.c (.p (.l ndC ns))))), (13, XV.s (.int .i64 (ns.length : Nat))), (14, XV.s (.int .i64 (i : Nat))), (15, nX9), (33, nX9), (45, nX9), (51, nX9), (62, nX9), (72, nX9), (86, nX9), (103, nX9), (115, nX9), (124, nX9), (142, nX9), (149, nX9)])
   (fun i => match i with
    | 0 => [tapeO zs n, .row [.p (.l ndC ns)], .row [.p (.v (.slice none 0 0))], .row [.p (.v (.slice none 0 0))]]
    | i + 1 => [tapeO zs n, .row [.p (.l ndC ns)], .row [.p (.v (.slice none 0 0))], .row [.gs 4 i (i + 1)]] ++ bhG (ns.take (i + 1)) (min i k) i (ndAt ns (min i k)).2.2) (fun i => i ≤ ns.length) (fun i => ns.length - i) 0 ?_ rfl (nZ9 _) fun i hi => ?_
  ·repeat first|exact lN9|refine lD9 ?_|refine lS9 ?_
  have hids : ∀ k, k < 4 → [0, 1, 2, 3, 7, 5][k]? = some k := fun k hk => by
   obtain rfl | rfl | rfl | rfl : k = 0 ∨ k = 1 ∨ k = 2 ∨ k = 3 := by omega
   all_goals rfl
  have hids2 : ∀ k, k < 4 → [0, 1, 2, 3, 4, 7][k]? = some k := fun k hk => by
   obtain rfl | rfl | rfl | rfl : k = 0 ∨ k = 1 ∨ k = 2 ∨ k = 3 := by omega
   all_goals rfl
  have hids3 : ∀ k, k < 4 → [0, 1, 2, 3, 4, 5][k]? = some k := fun k hk => by
   obtain rfl | rfl | rfl | rfl : k = 0 ∨ k = 1 ∨ k = 2 ∨ k = 3 := by omega
   all_goals rfl
  have hcl : ∀ i, (hin : i < ns.length) → 0 + (ns.getD i ndC.dflt).2.2.length ≤ capBound := by
   intro i hin
   have he : ns.getD i ndC.dflt = ns[i] := by simp [hin]
   rw [he, Nat.zero_add]
   exact Nat.le_trans (hl.at hin) (by decide)
  cases i with
  | zero =>
   have hob : (0 : Int) ≤ 0 ∧ (0 : Int) < (ns.length : Nat) := by omega
   have hc0 := hcl 0 hpos
   repeat ((conv => whnf); refine ⟨by first | (unfold inI64; omega) | omega | exact ⟨by omega, by omega⟩ | exact rfl | decide +kernel, ?_⟩)
   conv => whnf
   refine cI9 ?_ ?_<;>intro h
   ·repeat ((conv => whnf); refine ⟨by first | exact hob | (unfold inI64; omega) | omega | exact ⟨by omega, by omega⟩ | exact rfl | decide +kernel, ?_⟩)
    conv => whnf
    refine Or.inl ?_
    repeat ((conv => whnf); refine ⟨by first | exact hc0 | (unfold inI64; omega) | omega | exact ⟨by omega, by omega⟩ | exact rfl | decide +kernel, ?_⟩)
    conv => whnf
    refine Or.inr ?_
    repeat ((conv => whnf); refine ⟨by first | (unfold inI64; omega) | omega | exact ⟨by omega, by omega⟩ | exact rfl | decide +kernel, ?_⟩)
    conv => whnf
    have hmin : min 0 k = 0 := Nat.zero_min k
    have he : ns.take 1 = [ndAt ns 0] := by rw [tk_succ hpos]; rfl
    refine kI9 1 [0, 1, 2, 3, 7, 5] rfl hids ?_ ?_ (by show 1 ≤ _; omega) (by show ns.length - 1 < ns.length - 0; omega)
    ·show _ = some [tapeO zs n, AO.row _, AO.row _, AO.row [.gs 4 0 (0 + 1)], .gvec ndT ndC (bnP (ns.take 1) (min 0 k) []) (min 0 k) 2 (.own 5 ptC (ndAt ns (min 0 k)).2.2) 0, .tok ptT ptC (ndAt ns (min 0 k)).2.2.length false]
     rw [hmin, he, bnP_one, ← Nat.zero_add (ndAt ns 0).2.2.length]
     rfl
    ·repeat first|exact kN9|refine kD9 ?_|refine kR9 rfl ?_
   ·exfalso
    have := ge_of_dec (i := 0) h
    omega
  | succ i =>
   repeat ((conv => whnf); refine ⟨by first | (unfold inI64; omega) | omega | exact ⟨by omega, by omega⟩ | exact rfl | decide +kernel, ?_⟩)
   conv => whnf
   refine cI9 ?_ ?_<;>intro h
   ·have hin : i + 1 < ns.length := by
     have h9 : ((i : Int) + 1) < (ns.length : Nat) := oT9 h
     omega
    have hob : (0 : Int) ≤ (i : Int) + 1 ∧ (i : Int) + 1 < (ns.length : Nat) := by omega
    have hc0 := hcl (i + 1) hin
    have hcap : i = i ∧ i + 1 + 1 ≤ capBound := ⟨rfl, Nat.le_trans (m := 1000000001) (by omega) (by decide)⟩
    repeat ((conv => whnf); refine ⟨by first | exact hob | (unfold inI64; omega) | omega | exact ⟨by omega, by omega⟩ | exact rfl | decide +kernel, ?_⟩)
    conv => whnf
    refine Or.inl ?_
    repeat ((conv => whnf); refine ⟨by first | exact hc0 | (unfold inI64; omega) | omega | exact ⟨by omega, by omega⟩ | exact rfl | decide +kernel, ?_⟩)
    conv => whnf
    by_cases hik : i + 1 ≤ k
    ·refine Or.inr ?_
     repeat ((conv => whnf); refine ⟨by first | exact hcap | (unfold inI64; omega) | omega | exact ⟨by omega, by omega⟩ | exact rfl | decide +kernel, ?_⟩)
     conv => whnf
     have hm1 : min i k = i := by omega
     have hm2 : min (i + 1) k = i + 1 := by omega
     have hl1 : (ns.take (i + 1)).length = i + 1 := by rw [List.length_take]; omega
     have he : bnP (bnP (ns.take (i + 1)) (min i k) []) (min i k) (ndAt ns (min i k)).2.2 ++ [((ndAt ns (i + 1)).1, (ndAt ns (i + 1)).2.1, [])] = bnP (ns.take (i + 1 + 1)) (min (i + 1) k) [] := by
      have h3 := bnP_back (l := ns.take (i + 1)) (k := min i k) (by omega) []
      rw [at_take ns (show min i k < i + 1 by omega)] at h3
      rw [h3, bnP_new, hl1, ← tk_succ hin, hm2]
     refine kI9 (i + 1 + 1) [0, 1, 2, 3, 4, 7] rfl hids2 ?_ ?_ hin (by show ns.length - (i + 1 + 1) < ns.length - (i + 1); omega)
     ·show _ = some [tapeO zs n, AO.row _, AO.row _, AO.row [.gs 4 (i + 1) (i + 1 + 1)], .gvec ndT ndC (bnP (ns.take (i + 1 + 1)) (min (i + 1) k) []) (min (i + 1) k) 2 (.own 5 ptC (ndAt ns (min (i + 1) k)).2.2) (i + 1), .tok ptT ptC (ndAt ns (min (i + 1) k)).2.2.length false]
      rw [← he, hm2, ← Nat.zero_add (ndAt ns (i + 1)).2.2.length]
      rfl
     ·repeat first|exact kN9|refine kD9 ?_|refine kR9 rfl ?_
    ·refine Or.inl ?_
     repeat ((conv => whnf); refine ⟨by first | exact hcap | (unfold inI64; omega) | omega | exact ⟨by omega, by omega⟩ | exact rfl | decide +kernel, ?_⟩)
     conv => whnf
     have hm1 : min i k = k := by omega
     have hm2 : min (i + 1) k = k := by omega
     have hl1 : (ns.take (i + 1)).length = i + 1 := by rw [List.length_take]; omega
     have he : bnP (ns.take (i + 1)) (min i k) [] ++ [((ndAt ns (i + 1)).1, (ndAt ns (i + 1)).2.1, ([] : List Pt) ++ (ndAt ns (i + 1)).2.2)] = bnP (ns.take (i + 1 + 1)) (min (i + 1) k) [] := by
      have h3 := bnP_app (ns.take (i + 1)) (ndAt ns (i + 1)) (k := k) (by omega) []
      rw [hm1, hm2, tk_succ hin]
      exact h3
     refine kI9 (i + 1 + 1) [0, 1, 2, 3, 4, 5] rfl hids3 ?_ ?_ hin (by show ns.length - (i + 1 + 1) < ns.length - (i + 1); omega)
     ·show _ = some [tapeO zs n, AO.row _, AO.row _, AO.row [.gs 4 (i + 1) (i + 1 + 1)], .gvec ndT ndC (bnP (ns.take (i + 1 + 1)) (min (i + 1) k) []) (min (i + 1) k) 2 (.own 5 ptC (ndAt ns (min (i + 1) k)).2.2) (i + 1), .tok ptT ptC (ndAt ns (min (i + 1) k)).2.2.length false]
      rw [← he, hm1, hm2]
      rfl
     ·repeat first|exact kN9|refine kD9 ?_|refine kR9 rfl ?_
   ·have hie : i + 1 = ns.length := by
     have h9 : ¬ ((i : Int) + 1) < (ns.length : Nat) := oF9 h
     omega
    have hie2 : ns.length - 1 = i := by omega
    have hm1 : min i k = k := by omega
    rw [List.take_of_length_le (by omega), hm1]
    have hk' : modV (rawV zs n) ((i + 1 : Nat) : Int) = k := by rw [hie]; exact hk
    repeat ((conv => whnf); refine ⟨by first | (unfold inI64; omega) | omega | exact ⟨by omega, by omega⟩ | exact rfl | decide +kernel, ?_⟩)
    conv => whnf
    rw [hk']
    have hbi : i = i ∧ (0 : Int) ≤ (k : Int) ∧ (k : Int) < ((i + 1 : Nat) : Int) := ⟨rfl, by omega, by omega⟩
    have ht9 : tapeOk zs (rawN zs n) ∧ (9 : Int) ≤ 4611686018427387904 := ⟨rawN_ok9 ht, by decide⟩
    repeat ((conv => whnf); refine ⟨by first | exact hbi | exact ht9 | (unfold inI64; omega) | omega | exact ⟨by omega, by omega⟩ | exact rfl | decide +kernel, ?_⟩)
    conv => whnf
    have hc0 := mN9 (rawV zs (rawN zs n)) 9
    have hc1 := modV_lt (rawV zs (rawN zs n)) 9 (by decide)
    obtain ⟨c, hcc⟩ : ∃ c, modV (rawV zs (rawN zs n)) 9 = c := ⟨_, rfl⟩
    rw [hcc] at hc0 hc1
    have hbc : bnC zs n = c := hcc
    rw [hbc] at hc
    have ht3 : tapeOk zs (bnN zs n) := rawN_ok9 (rawN_ok9 ht)
    rw [hcc, hie2, ← hie]
    obtain ⟨P, hP⟩ : ∃ P, bnNw zs n = P := ⟨_, rfl⟩
    rw [hP]
    unfold bnNw at hP
    rw [hbc] at hP
    rcases hc with rfl | rfl | rfl
    ·rw [if_pos rfl] at hP
     subst hP
     have o1 : tapeOk zs (bnN zs n) := ht3
     have hkk : ((k : Int)).toNat = k := Int.toNat_natCast k
     have hge : i = i ∧ ((k : Int)).toNat = k := ⟨rfl, hkk⟩
     have o3 : (ndAt ns k).2.2.length + 1 ≤ capBound := by
      have h5 := hl.ps (ndAt ns k) (by rw [nd_at' hkl]; exact List.getElem_mem hkl)
      exact Nat.le_trans (m := 1000000001) (by omega) (by decide)
     repeat ((conv => whnf); refine ⟨by first | exact hge | exact o1 | exact ⟨rfl, o3⟩ | exact o3 | ((conv => whnf); exact ⟨⟨rfl, rfl, rfl⟩, trivial⟩) | exact Early.one (by decide +kernel) (by (conv => whnf); exact ⟨rfl, rfl, rfl⟩) trivial | (unfold inI64; omega) | omega | exact ⟨by omega, by omega⟩ | exact rfl | decide +kernel, ?_⟩)
     conv => whnf
     refine ⟨?_, ?_⟩
     ·repeat ((conv => whnf); first | exact trivial | (refine ⟨?_, ?_⟩; focus ((conv => whnf); first | exact ⟨rfl, rfl, rfl, rfl⟩ | exact ⟨rfl, rfl, rfl⟩ | exact ⟨hge, rfl, rfl, rfl⟩)))
     repeat ((conv => whnf); refine ⟨by first | exact hge | exact o1 | exact ⟨rfl, o3⟩ | exact o3 | ((conv => whnf); exact ⟨⟨rfl, rfl, rfl⟩, trivial⟩) | exact Early.one (by decide +kernel) (by (conv => whnf); exact ⟨rfl, rfl, rfl⟩) trivial | (unfold inI64; omega) | omega | exact ⟨by omega, by omega⟩ | exact rfl | decide +kernel, ?_⟩)
     conv => whnf
     refine Or.inr ⟨⟨hkk, rfl, rfl⟩, ?_⟩
     repeat ((conv => whnf); refine ⟨by first | (unfold inI64; omega) | omega | exact ⟨by omega, by omega⟩ | exact rfl | decide +kernel, ?_⟩)
     conv => whnf
     exact eR9
    ·rw [if_neg (by decide), if_pos rfl] at hP
     subst hP
     have o1 : tapeOk zs (bnN zs n) ∧ (4 : Int) ≤ 4611686018427387904 := ⟨ht3, by decide⟩
     have m0 := mN9 (rawV zs (bnN zs n)) 4
     have m1 := modV_lt (rawV zs (bnN zs n)) 4 (by decide)
     have o2 : 0 ≤ modV (rawV zs (bnN zs n)) 4 ∧ modV (rawV zs (bnN zs n)) 4 < (bnL3.length : Nat) := ⟨m0, m1⟩
     have hkk : ((k : Int)).toNat = k := Int.toNat_natCast k
     have hge : i = i ∧ ((k : Int)).toNat = k := ⟨rfl, hkk⟩
     have o3 : (ndAt ns k).2.2.length + 1 ≤ capBound := by
      have h5 := hl.ps (ndAt ns k) (by rw [nd_at' hkl]; exact List.getElem_mem hkl)
      exact Nat.le_trans (m := 1000000001) (by omega) (by decide)
     repeat ((conv => whnf); refine ⟨by first | exact hge | exact o1 | exact o2 | exact ⟨rfl, o3⟩ | exact o3 | ((conv => whnf); exact ⟨⟨rfl, rfl, rfl⟩, trivial⟩) | exact Early.one (by decide +kernel) (by (conv => whnf); exact ⟨rfl, rfl, rfl⟩) trivial | (unfold inI64; omega) | omega | exact ⟨by omega, by omega⟩ | exact rfl | decide +kernel, ?_⟩)
     conv => whnf
     refine ⟨?_, ?_⟩
     ·repeat ((conv => whnf); first | exact trivial | (refine ⟨?_, ?_⟩; focus ((conv => whnf); first | exact ⟨rfl, rfl, rfl, rfl⟩ | exact ⟨rfl, rfl, rfl⟩ | exact ⟨hge, rfl, rfl, rfl⟩)))
     repeat ((conv => whnf); refine ⟨by first | exact hge | exact o1 | exact o2 | exact ⟨rfl, o3⟩ | exact o3 | ((conv => whnf); exact ⟨⟨rfl, rfl, rfl⟩, trivial⟩) | exact Early.one (by decide +kernel) (by (conv => whnf); exact ⟨rfl, rfl, rfl⟩) trivial | (unfold inI64; omega) | omega | exact ⟨by omega, by omega⟩ | exact rfl | decide +kernel, ?_⟩)
     conv => whnf
     refine Or.inr ⟨⟨hkk, rfl, rfl⟩, ?_⟩
     repeat ((conv => whnf); refine ⟨by first | (unfold inI64; omega) | omega | exact ⟨by omega, by omega⟩ | exact rfl | decide +kernel, ?_⟩)
     conv => whnf
     exact eR9
    ·rw [if_neg (by decide), if_neg (by decide)] at hP
     subst hP
     repeat ((conv => whnf); refine ⟨by first | (unfold inI64; omega) | omega | exact ⟨by omega, by omega⟩ | exact rfl | decide +kernel, ?_⟩)
     conv => whnf
     have o1 : tapeOk zs (bnN zs n) ∧ 1 ≤ ([256, 257] : List Int).length ∧ ([256, 257] : List Int).length ≤ 1000 := ⟨ht3, by decide, by decide⟩
     obtain ⟨w, hw⟩ : ∃ w, pkI [256, 257] zs (bnN zs n) = w := ⟨_, rfl⟩
     have hw2 : w = 256 ∨ w = 257 := by
      rw [← hw]
      unfold pkI
      have m0 := mN9 (rawV zs (bnN zs n)) (([256, 257] : List Int).length : Nat)
      have m1 := modV_lt (rawV zs (bnN zs n)) (([256, 257] : List Int).length : Nat) (by decide)
      have e2 : ((([256, 257] : List Int).length : Nat) : Int) = 2 := rfl
      rw [e2] at m0 m1 ⊢
      obtain h | h : modV (rawV zs (bnN zs n)) 2 = 0 ∨ modV (rawV zs (bnN zs n)) 2 = 1 := by omega
      ·rw [h]; exact .inl rfl
      ·rw [h]; exact .inr rfl
     have hkk : ((k : Int)).toNat = k := Int.toNat_natCast k
     have hge : i = i ∧ ((k : Int)).toNat = k := ⟨rfl, hkk⟩
     have o3 : (ndAt ns k).2.2.length + 1 ≤ capBound := by
      have h5 := hl.ps (ndAt ns k) (by rw [nd_at' hkl]; exact List.getElem_mem hkl)
      exact Nat.le_trans (m := 1000000001) (by omega) (by decide)
     repeat ((conv => whnf); refine ⟨by first | exact o1 | (unfold inI64; omega) | omega | exact ⟨by omega, by omega⟩ | exact rfl | decide +kernel, ?_⟩)
     conv => whnf
     have o2 : pkI [256, 257] zs (bnN zs n) = pkI [256, 257] zs (bnN zs n) ∧ 0 < pkI [256, 257] zs (bnN zs n) ∧ pkI [256, 257] zs (bnN zs n) ≤ 1000000 := by rw [hw]; exact ⟨rfl, by omega, by omega⟩
     have o4 : 0 = 0 ∧ (pkI [256, 257] zs (bnN zs n)).toNat = (List.replicate (pkI [256, 257] zs (bnN zs n)).toNat (0 : Int)).length := ⟨rfl, by rw [List.length_replicate]⟩
     refine ⟨o2, ?_⟩
     repeat ((conv => whnf); refine ⟨by first | exact hge | exact o4 | exact ⟨rfl, o3⟩ | exact o3 | ((conv => whnf); exact ⟨⟨rfl, rfl, rfl⟩, trivial⟩) | exact Early.one (by decide +kernel) (by (conv => whnf); exact ⟨rfl, rfl, rfl⟩) trivial | (unfold inI64; omega) | omega | exact ⟨by omega, by omega⟩ | exact rfl | decide +kernel, ?_⟩)
     conv => whnf
     refine Or.inr ⟨⟨hkk, rfl, rfl⟩, ?_⟩
     repeat ((conv => whnf); refine ⟨by first | (unfold inI64; omega) | omega | exact ⟨by omega, by omega⟩ | exact rfl | decide +kernel, ?_⟩)
     conv => whnf
     exact eR9
 ·cases hs
def bsG (k : Nat) (l : List Nd) (m ver : Nat) (ps : List Pt) : List AO := if m = k then [.gvec ndT ndC (bnP l m []) m 2 (.sl 5 ptC 0 ps.length) ver, .arr ptT ptC ps 0] else bhG l m ver ps
def saysBnS : Says := fun args H => match args, H with
 | [.c (.ptr 0 0), .agg [.p (.l (.pair (.int .i64) (.pair .str (.list (.pair .str .str)))) ns)]], [.row [.p (.l (.int .i64) zs), .p (.v (.int .i64 n))]] =>
  some (some (tapeOk zs n ∧ LenN ns ∧ 0 < ns.length ∧ ns.length ≤ 1000 ∧ (bnC zs n = 7 ∧ 1 < (ndAt ns (bnK zs n ns)).2.2.length)), .a (.agg [.gs 1 (ns.length - 1) ns.length]), [tapeO zs (bnN zs n), .gvec ndT ndC (bnP ns (bnK zs n ns) []) (bnK zs n ns) 2 (.sl 2 ptC 0 (ndAt ns (bnK zs n ns)).2.2.length) (ns.length - 1), .arr ptT ptC (prSw (ndAt ns (bnK zs n ns)).2.2) 0])
 | _, _ => none
set_option maxHeartbeats 2000000 in
theorem bn_s : TS9 (ext N6 12 saysBnS) := by
 refine ext_run n6 (f := 12) (fn := Tryz.f12) rfl rfl [0, 1, 3, 4, 5, 7, 8, 9, 10, 12, 13, 14, 15, 33, 45, 51, 62, 72, 86, 103, 115, 124, 142, 149] fun args H p r' H' hs hp => ?_
 unfold saysBnS at hs
 split at hs
 ·rename_i ns zs n
  cases hs
  obtain ⟨ht, hl, hpos, hle, hc⟩ := hp
  have hlen := hl.len
  refine ⟨nB9 rfl, [0, 4, 5], rfl, fun k hk => by obtain rfl : k = 0 := Nat.lt_one_iff.1 hk; rfl, ?_⟩
  have hk0 := mN9 (rawV zs n) ns.length
  have hk1 := modV_lt (rawV zs n) ns.length (by omega)
  obtain ⟨k, hk⟩ : ∃ k : Nat, modV (rawV zs n) ns.length = k := ⟨(modV (rawV zs n) ns.length).toNat, by omega⟩
  have hbk : bnK zs n ns = k := by unfold bnK; rw [hk, Int.toNat_natCast]
  have hkl : k < ns.length := by omega
  rw [hbk] at hc ⊢
  obtain ⟨hc7, hps⟩ := hc
  repeat ((conv => whnf); refine ⟨by first | (unfold inI64; omega) | omega | exact ⟨by omega, by omega⟩ | exact rfl | decide +kernel, ?_⟩)
  conv => whnf
  refine lI9 (fun i : Nat => [(0, XV.s (.a (.c (.ptr 0 0)))), (1, nX9), (3, XV.s (.a (.c (.ptr 1 0)))), (4, XV.s (.a (.c (.ptr 2 0)))), (5, XV.s (.a (.c (.ptr 3 0)))), (7, nX9), (8, nX9), (9, nX9), (10, nX9), (12, XV.s (.a (.c (.p (.l ndC ns))))), (13, XV.s (.int .i64 (ns.length : Nat))), (14, XV.s (.int .i64 (i : Nat))), (15, nX9), (33, nX9), (45, nX9), (51, nX9), (62, nX9), (72, nX9), (86, nX9), (103, nX9), (115, nX9), (124, nX9), (142, nX9), (149, nX9)])
   (fun i => match i with
    | 0 => [tapeO zs n, .row [.p (.l ndC ns)], .row [.p (.v (.slice none 0 0))], .row [.p (.v (.slice none 0 0))]]
    | i + 1 => [tapeO zs n, .row [.p (.l ndC ns)], .row [.p (.v (.slice none 0 0))], .row [.gs 4 i (i + 1)]] ++ bsG k (ns.take (i + 1)) (min i k) i (ndAt ns (min i k)).2.2) (fun i => i ≤ ns.length) (fun i => ns.length - i) 0 ?_ rfl (nZ9 _) fun i hi => ?_
  ·repeat first|exact lN9|refine lD9 ?_|refine lS9 ?_
  have hids : ∀ k, k < 4 → [0, 1, 2, 3, 7, 5][k]? = some k := fun k hk => by
   obtain rfl | rfl | rfl | rfl : k = 0 ∨ k = 1 ∨ k = 2 ∨ k = 3 := by omega
   all_goals rfl
  have hids2 : ∀ k, k < 4 → [0, 1, 2, 3, 4, 7][k]? = some k := fun k hk => by
   obtain rfl | rfl | rfl | rfl : k = 0 ∨ k = 1 ∨ k = 2 ∨ k = 3 := by omega
   all_goals rfl
  have hids3 : ∀ k, k < 4 → [0, 1, 2, 3, 4, 5][k]? = some k := fun k hk => by
   obtain rfl | rfl | rfl | rfl : k = 0 ∨ k = 1 ∨ k = 2 ∨ k = 3 := by omega
   all_goals rfl
  have hcl : ∀ i, (hin : i < ns.length) → 0 + (ns.getD i ndC.dflt).2.2.length ≤ capBound := by
   intro i hin
   have he : ns.getD i ndC.dflt = ns[i] := by simp [hin]
   rw [he, Nat.zero_add]
   exact Nat.le_trans (hl.at hin) (by decide)
  have hcap1 : ∀ j, j < ns.length → (ndAt ns j).2.2.length ≤ capBound := fun j hj => by
   have h5 := hl.ps (ndAt ns j) (by rw [nd_at' hj]; exact List.getElem_mem hj)
   exact Nat.le_trans h5 (by decide)
  cases i with
  | zero =>
   have hob : (0 : Int) ≤ 0 ∧ (0 : Int) < (ns.length : Nat) := by omega
   have hc0 := hcl 0 hpos
   have hmin : min 0 k = 0 := Nat.zero_min k
   have he : ns.take 1 = [ndAt ns 0] := by rw [tk_succ hpos]; rfl
   repeat ((conv => whnf); refine ⟨by first | (unfold inI64; omega) | omega | exact ⟨by omega, by omega⟩ | exact rfl | decide +kernel, ?_⟩)
   conv => whnf
   refine cI9 ?_ ?_<;>intro h
   ·repeat ((conv => whnf); refine ⟨by first | exact hob | (unfold inI64; omega) | omega | exact ⟨by omega, by omega⟩ | exact rfl | decide +kernel, ?_⟩)
    conv => whnf
    by_cases hk2 : 0 = k
    ·have hl0 : ([] : List Pt) = [] ∧ 0 < (ndAt ns 0).2.2.length ∧ (ndAt ns 0).2.2.length ≤ capBound := ⟨rfl, by rw [hk2]; omega, hcap1 0 hpos⟩
     refine Or.inr ?_
     conv => whnf
     refine ⟨_, rfl, ?_⟩
     repeat ((conv => whnf); refine ⟨by first | (unfold inI64; omega) | omega | exact ⟨by omega, by omega⟩ | exact rfl | decide +kernel, ?_⟩)
     conv => whnf
     refine Or.inl (Or.inr ?_)
     conv => whnf
     refine ⟨hl0, ?_⟩
     repeat ((conv => whnf); refine ⟨by first | (unfold inI64; omega) | omega | exact ⟨by omega, by omega⟩ | exact rfl | decide +kernel, ?_⟩)
     conv => whnf
     refine Or.inr ?_
     repeat ((conv => whnf); refine ⟨by first | (unfold inI64; omega) | omega | exact ⟨by omega, by omega⟩ | exact rfl | decide +kernel, ?_⟩)
     conv => whnf
     refine kI9 1 [0, 1, 2, 3, 7, 5] rfl hids ?_ ?_ (by show 1 ≤ _; omega) (by show ns.length - 1 < ns.length - 0; omega)
     ·have hb : bsG k (ns.take 1) (min 0 k) 0 (ndAt ns (min 0 k)).2.2 = [.gvec ndT ndC (bnP (ns.take 1) (min 0 k) []) (min 0 k) 2 (.sl 5 ptC 0 (ndAt ns (min 0 k)).2.2.length) 0, .arr ptT ptC (ndAt ns (min 0 k)).2.2 0] := if_pos (by rw [hmin]; exact hk2)
      show _ = some ([tapeO zs n, AO.row _, AO.row _, AO.row [.gs 4 0 (0 + 1)]] ++ bsG k (ns.take 1) (min 0 k) 0 (ndAt ns (min 0 k)).2.2)
      rw [hb, hmin, he, bnP_one]
      rfl
     ·repeat first|exact kN9|refine kD9 ?_|refine kR9 rfl ?_
    ·refine Or.inl ?_
     repeat ((conv => whnf); refine ⟨by first | exact hc0 | (unfold inI64; omega) | omega | exact ⟨by omega, by omega⟩ | exact rfl | decide +kernel, ?_⟩)
     conv => whnf
     refine Or.inr ?_
     repeat ((conv => whnf); refine ⟨by first | (unfold inI64; omega) | omega | exact ⟨by omega, by omega⟩ | exact rfl | decide +kernel, ?_⟩)
     conv => whnf
     refine kI9 1 [0, 1, 2, 3, 7, 5] rfl hids ?_ ?_ (by show 1 ≤ _; omega) (by show ns.length - 1 < ns.length - 0; omega)
     ·have hb : bsG k (ns.take 1) (min 0 k) 0 (ndAt ns (min 0 k)).2.2 = bhG (ns.take 1) (min 0 k) 0 (ndAt ns (min 0 k)).2.2 := if_neg (by rw [hmin]; exact hk2)
      show _ = some ([tapeO zs n, AO.row _, AO.row _, AO.row [.gs 4 0 (0 + 1)]] ++ bsG k (ns.take 1) (min 0 k) 0 (ndAt ns (min 0 k)).2.2)
      rw [hb]
      show _ = some [tapeO zs n, AO.row _, AO.row _, AO.row [.gs 4 0 (0 + 1)], .gvec ndT ndC (bnP (ns.take 1) (min 0 k) []) (min 0 k) 2 (.own 5 ptC (ndAt ns (min 0 k)).2.2) 0, .tok ptT ptC (ndAt ns (min 0 k)).2.2.length false]
      rw [hmin, he, bnP_one, ← Nat.zero_add (ndAt ns 0).2.2.length]
      rfl
     ·repeat first|exact kN9|refine kD9 ?_|refine kR9 rfl ?_
   ·exfalso
    have := ge_of_dec (i := 0) h
    omega
  | succ i =>
   have hl1 : i + 1 ≤ ns.length → (ns.take (i + 1)).length = i + 1 := fun h => by rw [List.length_take]; omega
   have hl1 := hl1 hi
   have hob : i + 1 < ns.length → (0 : Int) ≤ (i : Int) + 1 ∧ (i : Int) + 1 < (ns.length : Nat) := fun h => by omega
   have hcap : i = i ∧ i + 1 + 1 ≤ capBound := ⟨rfl, Nat.le_trans (m := 1000000001) (by omega) (by decide)⟩
   by_cases hki : k ≤ i
   ·have hm1 : min i k = k := by omega
    have hm2 : min (i + 1) k = k := by omega
    have hb : bsG k (ns.take (i + 1)) (min i k) i (ndAt ns (min i k)).2.2 = [.gvec ndT ndC (bnP (ns.take (i + 1)) (min i k) []) (min i k) 2 (.sl 5 ptC 0 (ndAt ns (min i k)).2.2.length) i, .arr ptT ptC (ndAt ns (min i k)).2.2 0] := if_pos hm1
    dsimp only
    rw [hb]
    repeat ((conv => whnf); refine ⟨by first | (unfold inI64; omega) | omega | exact ⟨by omega, by omega⟩ | exact rfl | decide +kernel, ?_⟩)
    conv => whnf
    refine cI9 ?_ ?_<;>intro h
    ·have hin : i + 1 < ns.length := by
      have h9 : ((i : Int) + 1) < (ns.length : Nat) := oT9 h
      omega
     have hc0 := hcl (i + 1) hin
     repeat ((conv => whnf); refine ⟨by first | exact hob hin | (unfold inI64; omega) | omega | exact ⟨by omega, by omega⟩ | exact rfl | decide +kernel, ?_⟩)
     conv => whnf
     refine Or.inl ?_
     repeat ((conv => whnf); refine ⟨by first | exact hc0 | (unfold inI64; omega) | omega | exact ⟨by omega, by omega⟩ | exact rfl | decide +kernel, ?_⟩)
     conv => whnf
     refine Or.inl ?_
     repeat ((conv => whnf); refine ⟨by first | exact hcap | (unfold inI64; omega) | omega | exact ⟨by omega, by omega⟩ | exact rfl | decide +kernel, ?_⟩)
     conv => whnf
     have he : bnP (ns.take (i + 1)) (min i k) [] ++ [((ndAt ns (i + 1)).1, (ndAt ns (i + 1)).2.1, ([] : List Pt) ++ (ndAt ns (i + 1)).2.2)] = bnP (ns.take (i + 1 + 1)) (min (i + 1) k) [] := by
      have h3 := bnP_app (ns.take (i + 1)) (ndAt ns (i + 1)) (k := k) (by omega) []
      rw [hm1, hm2, tk_succ hin]
      exact h3
     refine kI9 (i + 1 + 1) [0, 1, 2, 3, 4, 5] rfl hids3 ?_ ?_ hin (by show ns.length - (i + 1 + 1) < ns.length - (i + 1); omega)
     ·have hb2 : bsG k (ns.take (i + 1 + 1)) (min (i + 1) k) (i + 1) (ndAt ns (min (i + 1) k)).2.2 = [.gvec ndT ndC (bnP (ns.take (i + 1 + 1)) (min (i + 1) k) []) (min (i + 1) k) 2 (.sl 5 ptC 0 (ndAt ns (min (i + 1) k)).2.2.length) (i + 1), .arr ptT ptC (ndAt ns (min (i + 1) k)).2.2 0] := if_pos hm2
      show _ = some ([tapeO zs n, AO.row _, AO.row _, AO.row [.gs 4 (i + 1) (i + 1 + 1)]] ++ bsG k (ns.take (i + 1 + 1)) (min (i + 1) k) (i + 1) (ndAt ns (min (i + 1) k)).2.2)
      rw [hb2, ← he, hm1, hm2]
      rfl
     ·repeat first|exact kN9|refine kD9 ?_|refine kR9 rfl ?_
    ·have hie : i + 1 = ns.length := by
      have h9 : ¬ ((i : Int) + 1) < (ns.length : Nat) := oF9 h
      omega
     have hie2 : ns.length - 1 = i := by omega
     rw [List.take_of_length_le (by omega), hm1]
     have hk' : modV (rawV zs n) ((i + 1 : Nat) : Int) = k := by rw [hie]; exact hk
     repeat ((conv => whnf); refine ⟨by first | (unfold inI64; omega) | omega | exact ⟨by omega, by omega⟩ | exact rfl | decide +kernel, ?_⟩)
     conv => whnf
     rw [hk']
     have hbi : i = i ∧ (0 : Int) ≤ (k : Int) ∧ (k : Int) < ((i + 1 : Nat) : Int) := ⟨rfl, by omega, by omega⟩
     have ht9 : tapeOk zs (rawN zs n) ∧ (9 : Int) ≤ 4611686018427387904 := ⟨rawN_ok9 ht, by decide⟩
     repeat ((conv => whnf); refine ⟨by first | exact hbi | exact ht9 | (unfold inI64; omega) | omega | exact ⟨by omega, by omega⟩ | exact rfl | decide +kernel, ?_⟩)
     conv => whnf
     have hcc : modV (rawV zs (rawN zs n)) 9 = 7 := hc7
     rw [hcc, hie2, ← hie]
     have hkk : ((k : Int)).toNat = k := Int.toNat_natCast k
     have hge : i = i ∧ ((k : Int)).toNat = k := ⟨rfl, hkk⟩
     obtain ⟨P, hP⟩ : ∃ P : List Pt, (ndAt ns k).2.2 = P := ⟨_, rfl⟩
     rw [hP] at hps ⊢
     match P, hps with
     | x :: y :: r, _ =>
      repeat ((conv => whnf); refine ⟨by first | exact hge | exact rfl | (unfold inI64; omega) | omega | exact ⟨by omega, by omega⟩ | exact rfl | decide +kernel, ?_⟩)
      conv => whnf
      refine cI9 ?_ ?_<;>intro h5
      ·have hx0 : 0 = 0 ∧ (0 : Int) ≤ 0 ∧ (0 : Int) < ((x :: y :: r : List Pt).length : Nat) := ⟨rfl, by decide, by simp; omega⟩
       have hx1 : 0 = 0 ∧ (0 : Int) ≤ 1 ∧ (1 : Int) < ((x :: y :: r : List Pt).length : Nat) := ⟨rfl, by decide, by simp; omega⟩
       repeat ((conv => whnf); refine ⟨by first | exact hge | exact hx0 | exact hx1 | exact rfl | ((conv => whnf); exact ⟨⟨rfl, rfl, rfl⟩, trivial⟩) | exact Early.one (by decide +kernel) (by (conv => whnf); exact ⟨rfl, rfl, rfl⟩) trivial | (unfold inI64; omega) | omega | exact ⟨by omega, by omega⟩ | exact rfl | decide +kernel, ?_⟩)
       conv => whnf
       exact eR9
      ·exfalso
       have h6 : ¬ (1 : Int) < (((x :: y :: r : List Pt).length : Nat) : Int) := oF9 h5
       simp at h6
       omega
   ·have hm1 : min i k = i := by omega
    have hm2 : min (i + 1) k = i + 1 := by omega
    have hb : bsG k (ns.take (i + 1)) (min i k) i (ndAt ns (min i k)).2.2 = [.gvec ndT ndC (bnP (ns.take (i + 1)) (min i k) []) (min i k) 2 (.own 5 ptC (ndAt ns (min i k)).2.2) i, .tok ptT ptC (ndAt ns (min i k)).2.2.length false] := if_neg (by omega)
    have hin : i + 1 < ns.length := by omega
    have hc0 := hcl (i + 1) hin
    have he : bnP (bnP (ns.take (i + 1)) (min i k) []) (min i k) (ndAt ns (min i k)).2.2 ++ [((ndAt ns (i + 1)).1, (ndAt ns (i + 1)).2.1, [])] = bnP (ns.take (i + 1 + 1)) (min (i + 1) k) [] := by
     have h3 := bnP_back (l := ns.take (i + 1)) (k := min i k) (by omega) []
     rw [at_take ns (show min i k < i + 1 by omega)] at h3
     rw [h3, bnP_new, hl1, ← tk_succ hin, hm2]
    dsimp only
    rw [hb]
    repeat ((conv => whnf); refine ⟨by first | (unfold inI64; omega) | omega | exact ⟨by omega, by omega⟩ | exact rfl | decide +kernel, ?_⟩)
    conv => whnf
    refine cI9 ?_ ?_<;>intro h
    ·repeat ((conv => whnf); refine ⟨by first | exact hob hin | (unfold inI64; omega) | omega | exact ⟨by omega, by omega⟩ | exact rfl | decide +kernel, ?_⟩)
     conv => whnf
     by_cases hk2 : i + 1 = k
     ·have hl0 : ([] : List Pt) = [] ∧ 0 < (ndAt ns (i + 1)).2.2.length ∧ (ndAt ns (i + 1)).2.2.length ≤ capBound := ⟨rfl, by rw [hk2]; omega, hcap1 _ hin⟩
      refine Or.inr ?_
      conv => whnf
      refine ⟨_, rfl, ?_⟩
      repeat ((conv => whnf); refine ⟨by first | (unfold inI64; omega) | omega | exact ⟨by omega, by omega⟩ | exact rfl | decide +kernel, ?_⟩)
      conv => whnf
      refine Or.inl (Or.inr ?_)
      conv => whnf
      refine ⟨hl0, ?_⟩
      repeat ((conv => whnf); refine ⟨by first | (unfold inI64; omega) | omega | exact ⟨by omega, by omega⟩ | exact rfl | decide +kernel, ?_⟩)
      conv => whnf
      refine Or.inr ?_
      repeat ((conv => whnf); refine ⟨by first | exact hcap | (unfold inI64; omega) | omega | exact ⟨by omega, by omega⟩ | exact rfl | decide +kernel, ?_⟩)
      conv => whnf
      refine kI9 (i + 1 + 1) [0, 1, 2, 3, 4, 7] rfl hids2 ?_ ?_ hin (by show ns.length - (i + 1 + 1) < ns.length - (i + 1); omega)
      ·have hb2 : bsG k (ns.take (i + 1 + 1)) (min (i + 1) k) (i + 1) (ndAt ns (min (i + 1) k)).2.2 = [.gvec ndT ndC (bnP (ns.take (i + 1 + 1)) (min (i + 1) k) []) (min (i + 1) k) 2 (.sl 5 ptC 0 (ndAt ns (min (i + 1) k)).2.2.length) (i + 1), .arr ptT ptC (ndAt ns (min (i + 1) k)).2.2 0] := if_pos (by omega)
       show _ = some ([tapeO zs n, AO.row _, AO.row _, AO.row [.gs 4 (i + 1) (i + 1 + 1)]] ++ bsG k (ns.take (i + 1 + 1)) (min (i + 1) k) (i + 1) (ndAt ns (min (i + 1) k)).2.2)
       rw [hb2, ← he, hm2]
       rfl
      ·repeat first|exact kN9|refine kD9 ?_|refine kR9 rfl ?_
     ·refine Or.inl ?_
      repeat ((conv => whnf); refine ⟨by first | exact hc0 | (unfold inI64; omega) | omega | exact ⟨by omega, by omega⟩ | exact rfl | decide +kernel, ?_⟩)
      conv => whnf
      refine Or.inr ?_
      repeat ((conv => whnf); refine ⟨by first | exact hcap | (unfold inI64; omega) | omega | exact ⟨by omega, by omega⟩ | exact rfl | decide +kernel, ?_⟩)
      conv => whnf
      refine kI9 (i + 1 + 1) [0, 1, 2, 3, 4, 7] rfl hids2 ?_ ?_ hin (by show ns.length - (i + 1 + 1) < ns.length - (i + 1); omega)
      ·have hb2 : bsG k (ns.take (i + 1 + 1)) (min (i + 1) k) (i + 1) (ndAt ns (min (i + 1) k)).2.2 = [.gvec ndT ndC (bnP (ns.take (i + 1 + 1)) (min (i + 1) k) []) (min (i + 1) k) 2 (.own 5 ptC (ndAt ns (min (i + 1) k)).2.2) (i + 1), .tok ptT ptC (ndAt ns (min (i + 1) k)).2.2.length false] := if_neg (by omega)
       show _ = some ([tapeO zs n, AO.row _, AO.row _, AO.row [.gs 4 (i + 1) (i + 1 + 1)]] ++ bsG k (ns.take (i + 1 + 1)) (min (i + 1) k) (i + 1) (ndAt ns (min (i + 1) k)).2.2)
       rw [hb2, ← he, hm2, ← Nat.zero_add (ndAt ns (i + 1)).2.2.length]
       rfl
      ·repeat first|exact kN9|refine kD9 ?_|refine kR9 rfl ?_
    ·exfalso
     have h9 : ¬ ((i : Int) + 1) < (ns.length : Nat) := oF9 h
     omega
 ·cases hs
end Go.Ab
