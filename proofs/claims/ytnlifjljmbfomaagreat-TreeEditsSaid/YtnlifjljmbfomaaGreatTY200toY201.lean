/- bringupgrow.Bent: what it makes, and its copy where no list of properties is changed. -/
import Derived.Test.YtnlifjljmbfomaaGreatTY129toU12
namespace Go.Ab
open Go.Proofs
set_option linter.unusedSectionVars false
set_option maxRecDepth 100000
variable [Base]
def zzS : ByteArray := ⟨#[122, 122]⟩
def bnL1 : List ByteArray := [⟨#[]⟩, ⟨#[97]⟩, ⟨#[122]⟩, ⟨#[49]⟩, ⟨#[97, 32, 98]⟩, ⟨#[35, 97]⟩, ⟨#[97, 50, 51, 52, 53, 54, 55, 56, 57, 48, 49, 50, 51, 52, 53, 54, 55, 56, 57, 48, 49, 50, 51, 52, 53, 54, 55, 56, 57, 48, 49]⟩, ⟨#[97, 50, 51, 52, 53, 54, 55, 56, 57, 48, 49, 50, 51, 52, 53, 54, 55, 56, 57, 48, 49, 50, 51, 52, 53, 54, 55, 56, 57, 48, 49, 50]⟩]
def bnL3 : List ByteArray := [⟨#[]⟩, ⟨#[97, 64, 49]⟩, ⟨#[49]⟩, ⟨#[122, 122]⟩]
def pkI (l : List Int) (zs : List Int) (n : Int) : Int := l.getD (modV (rawV zs n) l.length).toNat 0
def bnK (zs : List Int) (n : Int) (ns : List Nd) : Nat := (modV (rawV zs n) ns.length).toNat
def bnC (zs : List Int) (n : Int) : Int := modV (rawV zs (rawN zs n)) 9
def bnN (zs : List Int) (n : Int) : Int := rawN zs (rawN zs n)
def bnP (ns : List Nd) (k : Nat) (ps : List Pt) : List Nd := ns.set k ((ndAt ns k).1, (ndAt ns k).2.1, ps)
def prSw : List Pt → List Pt
 | a :: b :: r => b :: a :: r
 | l => l
def bnV (zs : List Int) (n : Int) (ns : List Nd) : List Nd × Int :=
 if ns.length = 0 then ([], n)
 else if bnC zs n = 0 then (ns.set (bnK zs n ns) (pkI [-1, 0, (bnK zs n ns : Nat), (bnK zs n ns : Nat) - 1, 200] zs (bnN zs n), (ndAt ns (bnK zs n ns)).2), rawN zs (bnN zs n))
 else if bnC zs n = 1 then (ns.set (bnK zs n ns) ((ndAt ns (bnK zs n ns)).1, pickS bnL1 zs (bnN zs n), (ndAt ns (bnK zs n ns)).2.2), rawN zs (bnN zs n))
 else if bnC zs n = 2 then (bnP ns (bnK zs n ns) ((ndAt ns (bnK zs n ns)).2.2 ++ [(pickS propL zs (bnN zs n), ByteArray.empty)]), rawN zs (bnN zs n))
 else if bnC zs n = 3 then (bnP ns (bnK zs n ns) ((ndAt ns (bnK zs n ns)).2.2 ++ [(pickS bnL3 zs (bnN zs n), ByteArray.empty)]), rawN zs (bnN zs n))
 else if bnC zs n = 4 then (ns ++ [ndAt ns (bnK zs n ns)], bnN zs n)
 else if bnC zs n = 5 then (ns ++ [(((bnK zs n ns : Nat) : Int), zzS, ([] : List Pt))], bnN zs n)
 else if bnC zs n = 6 then (bnP ns (bnK zs n ns) ((ndAt ns (bnK zs n ns)).2.2 ++ [(zzS, bytesOf (List.replicate (pkI [256, 257] zs (bnN zs n)).toNat 0))]), rawN zs (bnN zs n))
 else if bnC zs n = 7 then (bnP ns (bnK zs n ns) (prSw (ndAt ns (bnK zs n ns)).2.2), bnN zs n)
 else (ns.take (bnK zs n ns), bnN zs n)
def bnPl (zs : List Int) (n : Int) (ns : List Nd) : Prop := bnC zs n ≠ 2 ∧ bnC zs n ≠ 3 ∧ bnC zs n ≠ 6 ∧ (bnC zs n = 7 → (ndAt ns (bnK zs n ns)).2.2.length ≤ 1)
def saysBnP : Says := fun args H => match args, H with
 | [.c (.ptr 0 0), .agg [.p (.l (.pair (.int .i64) (.pair .str (.list (.pair .str .str)))) ns)]], [.row [.p (.l (.int .i64) zs), .p (.v (.int .i64 n))]] =>
  some (some (tapeOk zs n ∧ LenN ns ∧ 0 < ns.length ∧ ns.length ≤ 1000 ∧ bnPl zs n ns), .a (.agg [.sl 1 ndC (if bnC zs n = 4 ∨ bnC zs n = 5 then ns.length else ns.length - 1) (bnV zs n ns).1.length]), [tapeO zs (bnV zs n ns).2, .arr ndT ndC (if bnC zs n = 8 then ns else (bnV zs n ns).1) (if bnC zs n = 4 ∨ bnC zs n = 5 then ns.length else ns.length - 1)])
 | _, _ => none
theorem bn_p : TS9 (ext N6 12 saysBnP) := by
 refine ext_run n6 (f := 12) (fn := Tryz.f12) rfl rfl [0, 1, 3, 4, 5, 7, 8, 9, 10, 12, 13, 14, 15, 33, 45, 51, 62, 72, 86, 103, 115, 124, 142, 149] fun args H p r' H' hs hp => ?_
 unfold saysBnP at hs
 split at hs
 ·rename_i ns zs n
  cases hs
  obtain ⟨ht, hl, hpos, hle, hc⟩ := hp
  have hlen := hl.len
  refine ⟨nB9 rfl, [0, 4], rfl, fun k hk => by obtain rfl : k = 0 := Nat.lt_one_iff.1 hk; rfl, ?_⟩
  have hk0 := mN9 (rawV zs n) ns.length
  have hk1 := modV_lt (rawV zs n) ns.length (by omega)
  obtain ⟨k, hk⟩ : ∃ k : Nat, modV (rawV zs n) ns.length = k := ⟨(modV (rawV zs n) ns.length).toNat, by omega⟩
  have hbk : bnK zs n ns = k := by unfold bnK; rw [hk, Int.toNat_natCast]
  have hkl : k < ns.length := by omega
  obtain ⟨V, hV⟩ : ∃ V, bnV zs n ns = V := ⟨_, rfl⟩
  obtain ⟨W, hW⟩ : ∃ W, (if bnC zs n = 4 ∨ bnC zs n = 5 then ns.length else ns.length - 1) = W := ⟨_, rfl⟩
  obtain ⟨A, hA⟩ : ∃ A, (if bnC zs n = 8 then ns else (bnV zs n ns).1) = A := ⟨_, rfl⟩
  rw [hV] at hA
  rw [hV, hW, hA]
  repeat ((conv => whnf); refine ⟨by first | (unfold inI64; omega) | omega | exact ⟨by omega, by omega⟩ | exact rfl | decide +kernel, ?_⟩)
  conv => whnf
  refine lI9 (fun i : Nat => [(0, XV.s (.a (.c (.ptr 0 0)))), (1, nX9), (3, XV.s (.a (.c (.ptr 1 0)))), (4, XV.s (.a (.c (.ptr 2 0)))), (5, XV.s (.a (.c (.ptr 3 0)))), (7, nX9), (8, nX9), (9, nX9), (10, nX9), (12, XV.s (.a (.c (.p (.l ndC ns))))), (13, XV.s (.int .i64 (ns.length : Nat))), (14, XV.s (.int .i64 (i : Nat))), (15, nX9), (33, nX9), (45, nX9), (51, nX9), (62, nX9), (72, nX9), (86, nX9), (103, nX9), (115, nX9), (124, nX9), (142, nX9), (149, nX9)])
   (fun i => match i with
    | 0 => [tapeO zs n, .row [.p (.l ndC ns)], .row [.p (.v (.slice none 0 0))], .row [.p (.v (.slice none 0 0))]]
    | i + 1 => [tapeO zs n, .row [.p (.l ndC ns)], .row [.p (.v (.slice none 0 0))], .row [.sl 4 ndC i (i + 1)], hpV (ns.take (i + 1)) i]) (fun i => i ≤ ns.length) (fun i => ns.length - i) 0 ?_ rfl (nZ9 _) fun i hi => ?_
  ·repeat first|exact lN9|refine lD9 ?_|refine lS9 ?_
  have hids : ∀ k, k < 4 → [0, 1, 2, 3, 7][k]? = some k := fun k hk => by
   obtain rfl | rfl | rfl | rfl : k = 0 ∨ k = 1 ∨ k = 2 ∨ k = 3 := by omega
   all_goals rfl
  have hids2 : ∀ k, k < 4 → [0, 1, 2, 3, 4][k]? = some k := fun k hk => by
   obtain rfl | rfl | rfl | rfl : k = 0 ∨ k = 1 ∨ k = 2 ∨ k = 3 := by omega
   all_goals rfl
  have hcl : ∀ i, (hin : i < ns.length) → 0 + (ns.getD i ndC.dflt).2.2.length ≤ capBound := by
   intro i hin
   have he : ns.getD i ndC.dflt = ns[i] := by simp [hin]
   rw [he, Nat.zero_add]
   exact Nat.le_trans (hl.at hin) (by decide)
  cases i with
  | zero =>
   have hob : (0 : Int) ≤ 0 ∧ (0 : Int) < (ns.length : Nat) := by omega
   have hc0 := hcl 0 hpos
   repeat ((conv => whnf); refine ⟨by first | (unfold inI64; omega) | omega | exact ⟨by omega, by omega⟩ | exact rfl | decide +kernel, ?_⟩)
   conv => whnf
   refine cI9 ?_ ?_<;>intro h
   ·repeat ((conv => whnf); refine ⟨by first | exact hob | (unfold inI64; omega) | omega | exact ⟨by omega, by omega⟩ | exact rfl | decide +kernel, ?_⟩)
    conv => whnf
    refine Or.inl ?_
    repeat ((conv => whnf); refine ⟨by first | exact hc0 | (unfold inI64; omega) | omega | exact ⟨by omega, by omega⟩ | exact rfl | decide +kernel, ?_⟩)
    conv => whnf
    refine Or.inl ?_
    repeat ((conv => whnf); refine ⟨by first | (unfold inI64; omega) | omega | exact ⟨by omega, by omega⟩ | exact rfl | decide +kernel, ?_⟩)
    conv => whnf
    refine Or.inr ?_
    have hone : 1 ≤ capBound := by decide
    repeat ((conv => whnf); refine ⟨by first | exact hone | (unfold inI64; omega) | omega | exact ⟨by omega, by omega⟩ | exact rfl | decide +kernel, ?_⟩)
    conv => whnf
    have he : [((ns.getD 0 ndC.dflt).1, (ns.getD 0 ndC.dflt).2.1, ([] : List Pt) ++ (ns.getD 0 ndC.dflt).2.2)] = ns.take 1 := by
     rw [List.nil_append, List.take_succ_eq_append_getElem hpos]
     have he : ns.getD 0 ndC.dflt = ns[0] := by simp [hpos]
     rw [he]
     rfl
    refine kI9 1 [0, 1, 2, 3, 7] rfl hids ?_ ?_ (by show 1 ≤ _; omega) (by show ns.length - 1 < ns.length - 0; omega)
    ·show some [tapeO zs n, AO.row _, AO.row _, AO.row [.sl 4 ndC 0 1], AO.arr ndT ndC [((ns.getD 0 ndC.dflt).1, (ns.getD 0 ndC.dflt).2.1, ([] : List Pt) ++ (ns.getD 0 ndC.dflt).2.2)] 0] = some [tapeO zs n, AO.row _, AO.row _, AO.row [.sl 4 ndC 0 1], AO.arr ndT ndC (ns.take 1) 0]
     rw [he]
    ·repeat first|exact kN9|refine kD9 ?_|refine kR9 rfl ?_
   ·exfalso
    have := ge_of_dec (i := 0) h
    omega
  | succ i =>
   repeat ((conv => whnf); refine ⟨by first | (unfold inI64; omega) | omega | exact ⟨by omega, by omega⟩ | exact rfl | decide +kernel, ?_⟩)
   conv => whnf
   refine cI9 ?_ ?_<;>intro h
   ·have hin : i + 1 < ns.length := by
     have h9 : ((i : Int) + 1) < (ns.length : Nat) := oT9 h
     omega
    have hob : (0 : Int) ≤ (i : Int) + 1 ∧ (i : Int) + 1 < (ns.length : Nat) := by omega
    have hc0 := hcl (i + 1) hin
    have h01 : 0 < 1 := Nat.zero_lt_one
    have hcap : i + 1 + 1 ≤ capBound := Nat.le_trans (m := 1000000001) (by omega) (by decide)
    repeat ((conv => whnf); refine ⟨by first | exact hob | (unfold inI64; omega) | omega | exact ⟨by omega, by omega⟩ | exact rfl | decide +kernel, ?_⟩)
    conv => whnf
    refine Or.inl ?_
    repeat ((conv => whnf); refine ⟨by first | exact hc0 | (unfold inI64; omega) | omega | exact ⟨by omega, by omega⟩ | exact rfl | decide +kernel, ?_⟩)
    conv => whnf
    refine Or.inl ?_
    repeat ((conv => whnf); refine ⟨by first | exact h01 | exact hcap | (unfold inI64; omega) | omega | exact ⟨by omega, by omega⟩ | exact rfl | decide +kernel, ?_⟩)
    conv => whnf
    have he : (ns.take (i + 1)).take (i + 1) ++ [((ns.getD (i + 1) ndC.dflt).1, (ns.getD (i + 1) ndC.dflt).2.1, ([] : List Pt) ++ (ns.getD (i + 1) ndC.dflt).2.2)] = ns.take (i + 1 + 1) := by
     rw [List.nil_append, List.take_succ_eq_append_getElem hin, List.take_take, Nat.min_self]
     have he : ns.getD (i + 1) ndC.dflt = ns[i + 1] := by simp [hin]
     rw [he]
    refine kI9 (i + 1 + 1) [0, 1, 2, 3, 4] rfl hids2 ?_ ?_ hin (by show ns.length - (i + 1 + 1) < ns.length - (i + 1); omega)
    ·show some [tapeO zs n, AO.row _, AO.row _, AO.row [.sl 4 ndC (i + 1) (i + 1 + 1)], AO.arr ndT ndC ((ns.take (i + 1)).take (i + 1) ++ [((ns.getD (i + 1) ndC.dflt).1, (ns.getD (i + 1) ndC.dflt).2.1, ([] : List Pt) ++ (ns.getD (i + 1) ndC.dflt).2.2)]) (i + 1)] = some [tapeO zs n, AO.row _, AO.row _, AO.row [.sl 4 ndC (i + 1) (i + 1 + 1)], AO.arr ndT ndC (ns.take (i + 1 + 1)) (i + 1)]
     rw [he]
    ·repeat first|exact kN9|refine kD9 ?_|refine kR9 rfl ?_
   ·have hie : i + 1 = ns.length := by
     have h9 : ¬ ((i : Int) + 1) < (ns.length : Nat) := oF9 h
     omega
    have hie2 : ns.length - 1 = i := by omega
    rw [List.take_of_length_le (by omega)]
    have hk' : modV (rawV zs n) ((i + 1 : Nat) : Int) = k := by rw [hie]; exact hk
    repeat ((conv => whnf); refine ⟨by first | (unfold inI64; omega) | omega | exact ⟨by omega, by omega⟩ | exact rfl | decide +kernel, ?_⟩)
    conv => whnf
    rw [hk']
    have hbi : i = i ∧ (0 : Int) ≤ (k : Int) ∧ (k : Int) < ((i + 1 : Nat) : Int) := ⟨rfl, by omega, by omega⟩
    have ht9 : tapeOk zs (rawN zs n) ∧ (9 : Int) ≤ 4611686018427387904 := ⟨rawN_ok9 ht, by decide⟩
    repeat ((conv => whnf); refine ⟨by first | exact hbi | exact ht9 | (unfold inI64; omega) | omega | exact ⟨by omega, by omega⟩ | exact rfl | decide +kernel, ?_⟩)
    conv => whnf
    have hc0 := mN9 (rawV zs (rawN zs n)) 9
    have hc1 := modV_lt (rawV zs (rawN zs n)) 9 (by decide)
    obtain ⟨c, hcc⟩ : ∃ c, modV (rawV zs (rawN zs n)) 9 = c := ⟨_, rfl⟩
    rw [hcc] at hc0 hc1
    have hbc : bnC zs n = c := hcc
    rw [hbc] at hA hW
    unfold bnPl at hc
    rw [hbc, hbk] at hc
    have ht3 : tapeOk zs (bnN zs n) := rawN_ok9 (rawN_ok9 ht)
    have hn0 : ¬ ns.length = 0 := by omega
    rw [hcc]
    obtain ⟨q2, q3, q6, q7⟩ := hc
    have hcs : c = 0 ∨ c = 1 ∨ c = 4 ∨ c = 5 ∨ c = 7 ∨ c = 8 := by omega
    rcases hcs with rfl | rfl | rfl | rfl | rfl | rfl
    ·have hV' : V = (ns.set k (pkI [-1, 0, (k : Nat), (k : Nat) - 1, 200] zs (bnN zs n), (ndAt ns k).2), rawN zs (bnN zs n)) := by
      rw [← hV]
      unfold bnV
      rw [if_neg hn0, if_pos hbc, hbk]
     have o1 : tapeOk zs (bnN zs n) ∧ 1 ≤ ([-1, 0, (k : Int), (k : Int) - 1, 200] : List Int).length ∧ ([-1, 0, (k : Int), (k : Int) - 1, 200] : List Int).length ≤ 1000 := ⟨ht3, by show 1 ≤ 5; decide, by show 5 ≤ 1000; decide⟩
     have o2 : inI64 ((k : Int) - 1) := by unfold inI64; omega
     repeat ((conv => whnf); refine ⟨by first | exact o1 | exact o2 | (unfold inI64; omega) | omega | exact ⟨by omega, by omega⟩ | exact rfl | decide +kernel, ?_⟩)
     conv => whnf
     have hW' : W = i := by rw [← hW, if_neg (by omega), hie2]
     have hA' : A = V.1 := by rw [← hA, if_neg (by omega)]
     rw [hA', hW', hV']
     refine eT9 ?_
     show SV.a (.agg [.sl 1 ndC _ _]) = .a (.agg [.sl 1 ndC _ _])
     rw [List.length_set, ← hie]
    ·have hV' : V = (ns.set k ((ndAt ns k).1, pickS bnL1 zs (bnN zs n), (ndAt ns k).2.2), rawN zs (bnN zs n)) := by
      rw [← hV]
      unfold bnV
      rw [if_neg hn0, if_neg (by omega), if_pos hbc, hbk]
     have o1 : tapeOk zs (bnN zs n) ∧ (8 : Int) ≤ 4611686018427387904 := ⟨ht3, by decide⟩
     have m0 := mN9 (rawV zs (bnN zs n)) 8
     have m1 := modV_lt (rawV zs (bnN zs n)) 8 (by decide)
     have o2 : 0 ≤ modV (rawV zs (bnN zs n)) 8 ∧ modV (rawV zs (bnN zs n)) 8 < (bnL1.length : Nat) := ⟨m0, m1⟩
     repeat ((conv => whnf); refine ⟨by first | exact o1 | exact o2 | (unfold inI64; omega) | omega | exact ⟨by omega, by omega⟩ | exact rfl | decide +kernel, ?_⟩)
     conv => whnf
     have hW' : W = i := by rw [← hW, if_neg (by omega), hie2]
     have hA' : A = V.1 := by rw [← hA, if_neg (by omega)]
     rw [hA', hW', hV']
     refine eT9 ?_
     show SV.a (.agg [.sl 1 ndC _ _]) = .a (.agg [.sl 1 ndC _ _])
     rw [List.length_set, ← hie]
    ·have hV' : V = (ns ++ [ndAt ns k], bnN zs n) := by
      rw [← hV]
      unfold bnV
      rw [if_neg hn0, if_neg (by omega), if_neg (by omega), if_neg (by omega), if_neg (by omega), if_pos hbc, hbk]
     have o1 : 0 < 1 := Nat.zero_lt_one
     have o2 : i + 1 + 1 ≤ capBound := by unfold capBound; omega
     repeat ((conv => whnf); refine ⟨by first | exact o1 | exact o2 | ((conv => whnf); exact ⟨⟨rfl, rfl, rfl⟩, trivial⟩) | exact Early.one (by decide +kernel) (by (conv => whnf); exact ⟨rfl, rfl, rfl⟩) trivial | (unfold inI64; omega) | omega | exact ⟨by omega, by omega⟩ | exact rfl | decide +kernel, ?_⟩)
     conv => whnf
     have hW' : W = i + 1 := by rw [← hW, if_pos (by omega), ← hie]
     have hA' : A = V.1 := by rw [← hA, if_neg (by omega)]
     rw [hA', hW', hV']
     have ht5 : ns.take (i + 1) = ns := List.take_of_length_le (by omega)
     refine eE9 ⟨?_, by rw [ht5]; rfl⟩
     show SV.a (.agg [.sl 1 ndC _ _]) = .a (.agg [.sl 1 ndC _ _])
     rw [zP9, ← hie]
     rfl
    ·have hV' : V = (ns ++ [((k : Int), zzS, ([] : List Pt))], bnN zs n) := by
      rw [← hV]
      unfold bnV
      rw [if_neg hn0, if_neg (by omega), if_neg (by omega), if_neg (by omega), if_neg (by omega), if_neg (by omega), if_pos hbc, hbk]
     have o1 : 0 < 1 := Nat.zero_lt_one
     have o2 : i + 1 + 1 ≤ capBound := by unfold capBound; omega
     repeat ((conv => whnf); refine ⟨by first | exact o1 | exact o2 | ((conv => whnf); exact ⟨⟨rfl, rfl, rfl⟩, trivial⟩) | exact Early.one (by decide +kernel) (by (conv => whnf); exact ⟨rfl, rfl, rfl⟩) trivial | (unfold inI64; omega) | omega | exact ⟨by omega, by omega⟩ | exact rfl | decide +kernel, ?_⟩)
     conv => whnf
     have hW' : W = i + 1 := by rw [← hW, if_pos (by omega), ← hie]
     have hA' : A = V.1 := by rw [← hA, if_neg (by omega)]
     rw [hA', hW', hV']
     have ht5 : ns.take (i + 1) = ns := List.take_of_length_le (by omega)
     refine eE9 ⟨?_, by rw [ht5]; rfl⟩
     show SV.a (.agg [.sl 1 ndC _ _]) = .a (.agg [.sl 1 ndC _ _])
     rw [zP9, ← hie]
     rfl
    ·have hV' : V = (ns, bnN zs n) := by
      rw [← hV]
      unfold bnV
      rw [if_neg hn0, if_neg (by omega), if_neg (by omega), if_neg (by omega), if_neg (by omega), if_neg (by omega), if_neg (by omega), if_neg (by omega), if_pos hbc, hbk]
      have h1 := q7 rfl
      have h2 : prSw (ndAt ns k).2.2 = (ndAt ns k).2.2 := by
       cases h3 : (ndAt ns k).2.2 with
       | nil => rfl
       | cons x r =>
        cases r with
        | nil => rfl
        | cons y r => rw [h3] at h1; simp at h1
      have h3 : bnP ns k (ndAt ns k).2.2 = ns := by
       unfold bnP
       rw [nd_at' hkl]
       exact List.set_getElem_self hkl
      rw [h2, h3]
     repeat ((conv => whnf); refine ⟨by first | (unfold inI64; omega) | omega | exact ⟨by omega, by omega⟩ | exact rfl | decide +kernel, ?_⟩)
     conv => whnf
     refine cI9 ?_ ?_<;>intro h5
     ·exfalso
      have h6 : (1 : Int) < (((ndAt ns k).2.2.length : Nat) : Int) := oT9 h5
      have := q7 rfl
      omega
     repeat ((conv => whnf); refine ⟨by first | (unfold inI64; omega) | omega | exact ⟨by omega, by omega⟩ | exact rfl | decide +kernel, ?_⟩)
     conv => whnf
     have hW' : W = i := by rw [← hW, if_neg (by omega), hie2]
     have hA' : A = V.1 := by rw [← hA, if_neg (by omega)]
     rw [hA', hW', hV']
     refine eT9 ?_
     show SV.a (.agg [.sl 1 ndC _ _]) = .a (.agg [.sl 1 ndC _ _])
     rw [← hie]
    ·have hV' : V = (ns.take k, bnN zs n) := by
      rw [← hV]
      unfold bnV
      rw [if_neg hn0, if_neg (by omega), if_neg (by omega), if_neg (by omega), if_neg (by omega), if_neg (by omega), if_neg (by omega), if_neg (by omega), if_neg (by omega), hbk]
     repeat ((conv => whnf); refine ⟨by first | (unfold inI64; omega) | omega | exact ⟨by omega, by omega⟩ | exact rfl | decide +kernel, ?_⟩)
     conv => whnf
     have hW' : W = i := by rw [← hW, if_neg (by omega), hie2]
     have hA' : A = ns := by rw [← hA, if_pos rfl]
     rw [hA', hW', hV']
     refine eT9 ?_
     show SV.a (.agg [.sl 1 ndC _ _]) = .a (.agg [.sl 1 ndC _ _])
     rw [List.length_take, Nat.min_eq_left (by omega), Int.toNat_natCast]
 ·cases hs
theorem bnP_one (x : Nd) : bnP [x] 0 [] = [(x.1, x.2.1, [])] := rfl
theorem bnP_len (l : List Nd) (k : Nat) (ps : List Pt) : (bnP l k ps).length = l.length := List.length_set
theorem bnP_at {l : List Nd} {k : Nat} (hk : k < l.length) (ps : List Pt) : ndAt (bnP l k ps) k = ((ndAt l k).1, (ndAt l k).2.1, ps) := by
 have h : k < (bnP l k ps).length := by rw [bnP_len]; exact hk
 rw [nd_at' h]
 exact List.getElem_set_self (by rw [List.length_set]; exact hk)
theorem bnP_back {l : List Nd} {k : Nat} (hk : k < l.length) (qs : List Pt) : bnP (bnP l k qs) k (ndAt l k).2.2 = l := by
 have e : ((ndAt (bnP l k qs) k).1, (ndAt (bnP l k qs) k).2.1, (ndAt l k).2.2) = ndAt l k := by rw [bnP_at hk]
 have e2 : bnP (bnP l k qs) k (ndAt l k).2.2 = (bnP l k qs).set k ((ndAt (bnP l k qs) k).1, (ndAt (bnP l k qs) k).2.1, (ndAt l k).2.2) := rfl
 rw [e2, e]
 unfold bnP
 rw [List.set_set, nd_at' hk]
 exact List.set_getElem_self hk
theorem bnP_again {l : List Nd} {k : Nat} (qs ps : List Pt) (hk : k < l.length) : bnP (bnP l k qs) k ps = bnP l k ps := by
 have e2 : bnP (bnP l k qs) k ps = (bnP l k qs).set k ((ndAt (bnP l k qs) k).1, (ndAt (bnP l k qs) k).2.1, ps) := rfl
 rw [e2, bnP_at hk]
 unfold bnP
 rw [List.set_set]
theorem bnP_app (l : List Nd) (x : Nd) {k : Nat} (hk : k < l.length) (ps : List Pt) : bnP l k ps ++ [x] = bnP (l ++ [x]) k ps := by
 unfold bnP
 have : ndAt (l ++ [x]) k = ndAt l k := by
  unfold ndAt
  rw [List.getD_eq_getElem?_getD, List.getElem?_append_left hk, ← List.getD_eq_getElem?_getD]
 rw [this, List.set_append_left _ _ hk]
theorem bnP_new (l : List Nd) (x : Nd) : l ++ [(x.1, x.2.1, [])] = bnP (l ++ [x]) l.length [] := by
 unfold bnP
 have : ndAt (l ++ [x]) l.length = x := by
  unfold ndAt
  rw [List.getD_eq_getElem?_getD, List.getElem?_append_right (nR9 _), Nat.sub_self]
  rfl
 rw [this, List.set_append_right _ _ (nR9 _), Nat.sub_self]
 rfl
theorem at_take (ns : List Nd) {i j : Nat} (h : j < i) : ndAt (ns.take i) j = ndAt ns j := by
 unfold ndAt
 rw [List.getD_eq_getElem?_getD, List.getElem?_take, if_pos h, ← List.getD_eq_getElem?_getD]
theorem tk_succ {ns : List Nd} {i : Nat} (hi : i < ns.length) : ns.take (i + 1) = ns.take i ++ [ndAt ns i] := by
 rw [List.take_succ_eq_append_getElem hi, nd_at' hi]
abbrev bhG (l : List Nd) (m ver : Nat) (ps : List Pt) : List AO := [.gvec ndT ndC (bnP l m []) m 2 (.own 5 ptC ps) ver, .tok ptT ptC ps.length false]
def bnNw (zs : List Int) (n : Int) : Pt := if bnC zs n = 2 then (pickS propL zs (bnN zs n), ByteArray.empty) else if bnC zs n = 3 then (pickS bnL3 zs (bnN zs n), ByteArray.empty) else (zzS, bytesOf (List.replicate (pkI [256, 257] zs (bnN zs n)).toNat 0))
def saysBnH : Says := fun args H => match args, H with
 | [.c (.ptr 0 0), .agg [.p (.l (.pair (.int .i64) (.pair .str (.list (.pair .str .str)))) ns)]], [.row [.p (.l (.int .i64) zs), .p (.v (.int .i64 n))]] =>
  some (some (tapeOk zs n ∧ LenN ns ∧ 0 < ns.length ∧ ns.length ≤ 1000 ∧ (bnC zs n = 2 ∨ bnC zs n = 3 ∨ bnC zs n = 6)), .a (.agg [.gs 1 (ns.length - 1) ns.length]), [tapeO zs (rawN zs (bnN zs n)), .gvec ndT ndC (bnP ns (bnK zs n ns) []) (bnK zs n ns) 2 (.own 2 ptC ((ndAt ns (bnK zs n ns)).2.2 ++ [bnNw zs n])) (ns.length - 1), .tok ptT ptC ((ndAt ns (bnK zs n ns)).2.2.length + 1) false])
 | _, _ => none
set_option maxHeartbeats 2000000 in
theorem bn_h : TS9 (ext N6 12 saysBnH) := by
 refine ext_run n6 (f := 12) (fn := Tryz.f12) rfl rfl [0, 1, 3, 4, 5, 7, 8, 9, 10, 12, 13, 14, 15, 33, 45, 51, 62, 72, 86, 103, 115, 124, 142, 149] fun args H p r' H' hs hp => ?_
 unfold saysBnH at hs
 split at hs
 ·rename_i ns zs n
  cases hs
  obtain ⟨ht, hl, hpos, hle, hc⟩ := hp
  have hlen := hl.len
  refine ⟨nB9 rfl, [0, 4, 5], rfl, fun k hk => by obtain rfl : k = 0 := Nat.lt_one_iff.1 hk; rfl, ?_⟩
  have hk0 := mN9 (rawV zs n) ns.length
  have hk1 := modV_lt (rawV zs n) ns.length (by omega)
  obtain ⟨k, hk⟩ : ∃ k : Nat, modV (rawV zs n) ns.length = k := ⟨(modV (rawV zs n) ns.length).toNat, by omega⟩
  have hbk : bnK zs n ns = k := by unfold bnK; rw [hk, Int.toNat_natCast]
  have hkl : k < ns.length := by omega
  rw [hbk]
  repeat ((conv => whnf); refine ⟨by first | (unfold inI64; omega) | omega | exact ⟨by omega, by omega⟩ | exact rfl | decide +kernel, ?_⟩)
  conv => whnf
  refine lI9 (fun i : Nat => [(0, XV.s (.a (.c (.ptr 0 0)))), (1, nX9), (3, XV.s (.a (.c (.ptr 1 0)))), (4, XV.s (.a (.c (.ptr 2 0)))), (5, XV.s (.a (.c (.ptr 3 0)))), (7, nX9), (8, nX9), (9, nX9), (10, nX9), (12, XV.s (.a (.c (.p (.l ndC ns))))), (13, XV.s (.int .i64 (ns.length : Nat))), (14, XV.s (.int .i64 (i : Nat))), (15, nX9), (33, nX9), (45, nX9), (51, nX9), (62, nX9), (72, nX9), (86, nX9), (103, nX9), (115, nX9), (124, nX9), (142, nX9), (149, nX9)])
   (fun i => match i with
    | 0 => [tapeO zs n, .row [.p (.l ndC ns)], .row [.p (.v (.slice none 0 0))], .row [.p (.v (.slice none 0 0))]]
    | i + 1 => [tapeO zs n, .row [.p (.l ndC ns)], .row [.p (.v (.slice none 0 0))], .row [.gs 4 i (i + 1)]] ++ bhG (ns.take (i + 1)) (min i k) i (ndAt ns (min i k)).2.2) (fun i => i ≤ ns.length) (fun i => ns.length - i) 0 ?_ rfl (nZ9 _) fun i hi => ?_
  ·repeat first|exact lN9|refine lD9 ?_|refine lS9 ?_
  have hids : ∀ k, k < 4 → [0, 1, 2, 3, 7, 5][k]? = some k := fun k hk => by
   obtain rfl | rfl | rfl | rfl : k = 0 ∨ k = 1 ∨ k = 2 ∨ k = 3 := by omega
   all_goals rfl
  have hids2 : ∀ k, k < 4 → [0, 1, 2, 3, 4, 7][k]? = some k := fun k hk => by
   obtain rfl | rfl | rfl | rfl : k = 0 ∨ k = 1 ∨ k = 2 ∨ k = 3 := by omega
   all_goals rfl
  have hids3 : ∀ k, k < 4 → [0, 1, 2, 3, 4, 5][k]? = some k := fun k hk => by
   obtain rfl | rfl | rfl | rfl : k = 0 ∨ k = 1 ∨ k = 2 ∨ k = 3 := by omega
   all_goals rfl
  have hcl : ∀ i, (hin : i < ns.length) → 0 + (ns.getD i ndC.dflt).2.2.length ≤ capBound := by
   intro i hin
   have he : ns.getD i ndC.dflt = ns[i] := by simp [hin]
   rw [he, Nat.zero_add]
   exact Nat.le_trans (hl.at hin) (by decide)
  cases i with
  | zero =>
   have hob : (0 : Int) ≤ 0 ∧ (0 : Int) < (ns.length : Nat) := by omega
   have hc0 := hcl 0 hpos
   repeat ((conv => whnf); refine ⟨by first | (unfold inI64; omega) | omega | exact ⟨by omega, by omega⟩ | exact rfl | decide +kernel, ?_⟩)
   conv => whnf
   refine cI9 ?_ ?_<;>intro h
   ·repeat ((conv => whnf); refine ⟨by first | exact hob | (unfold inI64; omega) | omega | exact ⟨by omega, by omega⟩ | exact rfl | decide +kernel, ?_⟩)
    conv => whnf
    refine Or.inl ?_
    repeat ((conv => whnf); refine ⟨by first | exact hc0 | (unfold inI64; omega) | omega | exact ⟨by omega, by omega⟩ | exact rfl | decide +kernel, ?_⟩)
    conv => whnf
    refine Or.inr ?_
    repeat ((conv => whnf); refine ⟨by first | (unfold inI64; omega) | omega | exact ⟨by omega, by omega⟩ | exact rfl | decide +kernel, ?_⟩)
    conv => whnf
    have hmin : min 0 k = 0 := Nat.zero_min k
    have he : ns.take 1 = [ndAt ns 0] := by rw [tk_succ hpos]; rfl
    refine kI9 1 [0, 1, 2, 3, 7, 5] rfl hids ?_ ?_ (by show 1 ≤ _; omega) (by show ns.length - 1 < ns.length - 0; omega)
    ·show _ = some [tapeO zs n, AO.row _, AO.row _, AO.row [.gs 4 0 (0 + 1)], .gvec ndT ndC (bnP (ns.take 1) (min 0 k) []) (min 0 k) 2 (.own 5 ptC (ndAt ns (min 0 k)).2.2) 0, .tok ptT ptC (ndAt ns (min 0 k)).2.2.length false]
     rw [hmin, he, bnP_one, ← Nat.zero_add (ndAt ns 0).2.2.length]
     rfl
    ·repeat first|exact kN9|refine kD9 ?_|refine kR9 rfl ?_
   ·exfalso
    have := ge_of_dec (i := 0) h
    omega
  | succ i =>
   repeat ((conv => whnf); refine ⟨by first | (unfold inI64; omega) | omega | exact ⟨by omega, by omega⟩ | exact rfl | decide +kernel, ?_⟩)
   conv => whnf
   refine cI9 ?_ ?_<;>intro h
   ·have hin : i + 1 < ns.length := by
     have h9 : ((i : Int) + 1) < (ns.length : Nat) := oT9 h
     omega
    have hob : (0 : Int) ≤ (i : Int) + 1 ∧ (i : Int) + 1 < (ns.length : Nat) := by omega
    have hc0 := hcl (i + 1) hin
    have hcap : i = i ∧ i + 1 + 1 ≤ capBound := ⟨rfl, Nat.le_trans (m := 1000000001) (by omega) (by decide)⟩
    repeat ((conv => whnf); refine ⟨by first | exact hob | (unfold inI64; omega) | omega | exact ⟨by omega, by omega⟩ | exact rfl | decide +kernel, ?_⟩)
    conv => whnf
    refine Or.inl ?_
    repeat ((conv => whnf); refine ⟨by first | exact hc0 | (unfold inI64; omega) | omega | exact ⟨by omega, by omega⟩ | exact rfl | decide +kernel, ?_⟩)
    conv => whnf
    by_cases hik : i + 1 ≤ k
    ·refine Or.inr ?_
     repeat ((conv => whnf); refine ⟨by first | exact hcap | (unfold inI64; omega) | omega | exact ⟨by omega, by omega⟩ | exact rfl | decide +kernel, ?_⟩)
     conv => whnf
     have hm1 : min i k = i := by omega
     have hm2 : min (i + 1) k = i + 1 := by omega
     have hl1 : (ns.take (i + 1)).length = i + 1 := by rw [List.length_take]; omega
     have he : bnP (bnP (ns.take (i + 1)) (min i k) []) (min i k) (ndAt ns (min i k)).2.2 ++ [((ndAt ns (i + 1)).1, (ndAt ns (i + 1)).2.1, [])] = bnP (ns.take (i + 1 + 1)) (min (i + 1) k) [] := by
      have h3 := bnP_back (l := ns.take (i + 1)) (k := min i k) (by omega) []
      rw [at_take ns (show min i k < i + 1 by omega)] at h3
      rw [h3, bnP_new, hl1, ← tk_succ hin, hm2]
     refine kI9 (i + 1 + 1) [0, 1, 2, 3, 4, 7] rfl hids2 ?_ ?_ hin (by show ns.length - (i + 1 + 1) < ns.length - (i + 1); omega)
     ·show _ = some [tapeO zs n, AO.row _, AO.row _, AO.row [.gs 4 (i + 1) (i + 1 + 1)], .gvec ndT ndC (bnP (ns.take (i + 1 + 1)) (min (i + 1) k) []) (min (i + 1) k) 2 (.own 5 ptC (ndAt ns (min (i + 1) k)).2.2) (i + 1), .tok ptT ptC (ndAt ns (min (i + 1) k)).2.2.length false]
      rw [← he, hm2, ← Nat.zero_add (ndAt ns (i + 1)).2.2.length]
      rfl
     ·repeat first|exact kN9|refine kD9 ?_|refine kR9 rfl ?_
    ·refine Or.inl ?_
     repeat ((conv => whnf); refine ⟨by first | exact hcap | (unfold inI64; omega) | omega | exact ⟨by omega, by omega⟩ | exact rfl | decide +kernel, ?_⟩)
     conv => whnf
     have hm1 : min i k = k := by omega
     have hm2 : min (i + 1) k = k := by omega
     have hl1 : (ns.take (i + 1)).length = i + 1 := by rw [List.length_take]; omega
     have he : bnP (ns.take (i + 1)) (min i k) [] ++ [((ndAt ns (i + 1)).1, (ndAt ns (i + 1)).2.1, ([] : List Pt) ++ (ndAt ns (i + 1)).2.2)] = bnP (ns.take (i + 1 + 1)) (min (i + 1) k) [] := by
      have h3 := bnP_app (ns.take (i + 1)) (ndAt ns (i + 1)) (k := k) (by omega) []
      rw [hm1, hm2, tk_succ hin]
      exact h3
     refine kI9 (i + 1 + 1) [0, 1, 2, 3, 4, 5] rfl hids3 ?_ ?_ hin (by show ns.length - (i + 1 + 1) < ns.length - (i + 1); omega)
     ·show _ = some [tapeO zs n, AO.row _, AO.row _, AO.row [.gs 4 (i + 1) (i + 1 + 1)], .gvec ndT ndC (bnP (ns.take (i + 1 + 1)) (min (i + 1) k) []) (min (i + 1) k) 2 (.own 5 ptC (ndAt ns (min (i + 1) k)).2.2) (i + 1), .tok ptT ptC (ndAt ns (min (i + 1) k)).2.2.length false]
      rw [← he, hm1, hm2]
      rfl
     ·repeat first|exact kN9|refine kD9 ?_|refine kR9 rfl ?_
   ·have hie : i + 1 = ns.length := by
     have h9 : ¬ ((i : Int) + 1) < (ns.length : Nat) := oF9 h
     omega
    have hie2 : ns.length - 1 = i := by omega
    have hm1 : min i k = k := by omega
    rw [List.take_of_length_le (by omega), hm1]
    have hk' : modV (rawV zs n) ((i + 1 : Nat) : Int) = k := by rw [hie]; exact hk
    repeat ((conv => whnf); refine ⟨by first | (unfold inI64; omega) | omega | exact ⟨by omega, by omega⟩ | exact rfl | decide +kernel, ?_⟩)
    conv => whnf
    rw [hk']
    have hbi : i = i ∧ (0 : Int) ≤ (k : Int) ∧ (k : Int) < ((i + 1 : Nat) : Int) := ⟨rfl, by omega, by omega⟩
    have ht9 : tapeOk zs (rawN zs n) ∧ (9 : Int) ≤ 4611686018427387904 := ⟨rawN_ok9 ht, by decide⟩
    repeat ((conv => whnf); refine ⟨by first | exact hbi | exact ht9 | (unfold inI64; omega) | omega | exact ⟨by omega, by omega⟩ | exact rfl | decide +kernel, ?_⟩)
    conv => whnf
    have hc0 := mN9 (rawV zs (rawN zs n)) 9
    have hc1 := modV_lt (rawV zs (rawN zs n)) 9 (by decide)
    obtain ⟨c, hcc⟩ : ∃ c, modV (rawV zs (rawN zs n)) 9 = c := ⟨_, rfl⟩
    rw [hcc] at hc0 hc1
    have hbc : bnC zs n = c := hcc
    rw [hbc] at hc
    have ht3 : tapeOk zs (bnN zs n) := rawN_ok9 (rawN_ok9 ht)
    rw [hcc, hie2, ← hie]
    obtain ⟨P, hP⟩ : ∃ P, bnNw zs n = P := ⟨_, rfl⟩
    rw [hP]
    unfold bnNw at hP
    rw [hbc] at hP
    rcases hc with rfl | rfl | rfl
    ·rw [if_pos rfl] at hP
     subst hP
     have o1 : tapeOk zs (bnN zs n) := ht3
     have hkk : ((k : Int)).toNat = k := Int.toNat_natCast k
     have hge : i = i ∧ ((k : Int)).toNat = k := ⟨rfl, hkk⟩
     have o3 : (ndAt ns k).2.2.length + 1 ≤ capBound := by
      have h5 := hl.ps (ndAt ns k) (by rw [nd_at' hkl]; exact List.getElem_mem hkl)
      exact Nat.le_trans (m := 1000000001) (by omega) (by decide)
     repeat ((conv => whnf); refine ⟨by first | exact hge | exact o1 | exact ⟨rfl, o3⟩ | exact o3 | ((conv => whnf); exact ⟨⟨rfl, rfl, rfl⟩, trivial⟩) | exact Early.one (by decide +kernel) (by (conv => whnf); exact ⟨rfl, rfl, rfl⟩) trivial | (unfold inI64; omega) | omega | exact ⟨by omega, by omega⟩ | exact rfl | decide +kernel, ?_⟩)
     conv => whnf
     refine ⟨?_, ?_⟩
     ·repeat ((conv => whnf); first | exact trivial | (refine ⟨?_, ?_⟩; focus ((conv => whnf); first | exact ⟨rfl, rfl, rfl, rfl⟩ | exact ⟨rfl, rfl, rfl⟩ | exact ⟨hge, rfl, rfl, rfl⟩)))
     repeat ((conv => whnf); refine ⟨by first | exact hge | exact o1 | exact ⟨rfl, o3⟩ | exact o3 | ((conv => whnf); exact ⟨⟨rfl, rfl, rfl⟩, trivial⟩) | exact Early.one (by decide +kernel) (by (conv => whnf); exact ⟨rfl, rfl, rfl⟩) trivial | (unfold inI64; omega) | omega | exact ⟨by omega, by omega⟩ | exact rfl | decide +kernel, ?_⟩)
     conv => whnf
     refine Or.inr ⟨⟨hkk, rfl, rfl⟩, ?_⟩
     repeat ((conv => whnf); refine ⟨by first | (unfold inI64; omega) | omega | exact ⟨by omega, by omega⟩ | exact rfl | decide +kernel, ?_⟩)
     conv => whnf
     exact eR9
    ·rw [if_neg (by decide), if_pos rfl] at hP
     subst hP
     have o1 : tapeOk zs (bnN zs n) ∧ (4 : Int) ≤ 4611686018427387904 := ⟨ht3, by decide⟩
     have m0 := mN9 (rawV zs (bnN zs n)) 4
     have m1 := modV_lt (rawV zs (bnN zs n)) 4 (by decide)
     have o2 : 0 ≤ modV (rawV zs (bnN zs n)) 4 ∧ modV (rawV zs (bnN zs n)) 4 < (bnL3.length : Nat) := ⟨m0, m1⟩
     have hkk : ((k : Int)).toNat = k := Int.toNat_natCast k
     have hge : i = i ∧ ((k : Int)).toNat = k := ⟨rfl, hkk⟩
     have o3 : (ndAt ns k).2.2.length + 1 ≤ capBound := by
      have h5 := hl.ps (ndAt ns k) (by rw [nd_at' hkl]; exact List.getElem_mem hkl)
      exact Nat.le_trans (m := 1000000001) (by omega) (by decide)
     repeat ((conv => whnf); refine ⟨by first | exact hge | exact o1 | exact o2 | exact ⟨rfl, o3⟩ | exact o3 | ((conv => whnf); exact ⟨⟨rfl, rfl, rfl⟩, trivial⟩) | exact Early.one (by decide +kernel) (by (conv => whnf); exact ⟨rfl, rfl, rfl⟩) trivial | (unfold inI64; omega) | omega | exact ⟨by omega, by omega⟩ | exact rfl | decide +kernel, ?_⟩)
     conv => whnf
     refine ⟨?_, ?_⟩
     ·repeat ((conv => whnf); first | exact trivial | (refine ⟨?_, ?_⟩; focus ((conv => whnf); first | exact ⟨rfl, rfl, rfl, rfl⟩ | exact ⟨rfl, rfl, rfl⟩ | exact ⟨hge, rfl, rfl, rfl⟩)))
     repeat ((conv => whnf); refine ⟨by first | exact hge | exact o1 | exact o2 | exact ⟨rfl, o3⟩ | exact o3 | ((conv => whnf); exact ⟨⟨rfl, rfl, rfl⟩, trivial⟩) | exact Early.one (by decide +kernel) (by (conv => whnf); exact ⟨rfl, rfl, rfl⟩) trivial | (unfold inI64; omega) | omega | exact ⟨by omega, by omega⟩ | exact rfl | decide +kernel, ?_⟩)
     conv => whnf
     refine Or.inr ⟨⟨hkk, rfl, rfl⟩, ?_⟩
     repeat ((conv => whnf); refine ⟨by first | (unfold inI64; omega) | omega | exact ⟨by omega, by omega⟩ | exact rfl | decide +kernel, ?_⟩)
     conv => whnf
     exact eR9
    ·rw [if_neg (by decide), if_neg (by decide)] at hP
     subst hP
     repeat ((conv => whnf); refine ⟨by first | (unfold inI64; omega) | omega | exact ⟨by omega, by omega⟩ | exact rfl | decide +kernel, ?_⟩)
     conv => whnf
     have o1 : tapeOk zs (bnN zs n) ∧ 1 ≤ ([256, 257] : List Int).length ∧ ([256, 257] : List Int).length ≤ 1000 := ⟨ht3, by decide, by decide⟩
     obtain ⟨w, hw⟩ : ∃ w, pkI [256, 257] zs (bnN zs n) = w := ⟨_, rfl⟩
     have hw2 : w = 256 ∨ w = 257 := by
      rw [← hw]
      unfold pkI
      have m0 := mN9 (rawV zs (bnN zs n)) (([256, 257] : List Int).length : Nat)
      have m1 := modV_lt (rawV zs (bnN zs n)) (([256, 257] : List Int).length : Nat) (by decide)
      have e2 : ((([256, 257] : List Int).length : Nat) : Int) = 2 := rfl
      rw [e2] at m0 m1 ⊢
      obtain h | h : modV (rawV zs (bnN zs n)) 2 = 0 ∨ modV (rawV zs (bnN zs n)) 2 = 1 := by omega
      ·rw [h]; exact .inl rfl
      ·rw [h]; exact .inr rfl
     have hkk : ((k : Int)).toNat = k := Int.toNat_natCast k
     have hge : i = i ∧ ((k : Int)).toNat = k := ⟨rfl, hkk⟩
     have o3 : (ndAt ns k).2.2.length + 1 ≤ capBound := by
      have h5 := hl.ps (ndAt ns k) (by rw [nd_at' hkl]; exact List.getElem_mem hkl)
      exact Nat.le_trans (m := 1000000001) (by omega) (by decide)
     repeat ((conv => whnf); refine ⟨by first | exact o1 | (unfold inI64; omega) | omega | exact ⟨by omega, by omega⟩ | exact rfl | decide +kernel, ?_⟩)
     conv => whnf
     have o2 : pkI [256, 257] zs (bnN zs n) = pkI [256, 257] zs (bnN zs n) ∧ 0 < pkI [256, 257] zs (bnN zs n) ∧ pkI [256, 257] zs (bnN zs n) ≤ 1000000 := by rw [hw]; exact ⟨rfl, by omega, by omega⟩
     have o4 : 0 = 0 ∧ (pkI [256, 257] zs (bnN zs n)).toNat = (List.replicate (pkI [256, 257] zs (bnN zs n)).toNat (0 : Int)).length := ⟨rfl, by rw [List.length_replicate]⟩
     refine ⟨o2, ?_⟩
     repeat ((conv => whnf); refine ⟨by first | exact hge | exact o4 | exact ⟨rfl, o3⟩ | exact o3 | ((conv => whnf); exact ⟨⟨rfl, rfl, rfl⟩, trivial⟩) | exact Early.one (by decide +kernel) (by (conv => whnf); exact ⟨rfl, rfl, rfl⟩) trivial | (unfold inI64; omega) | omega | exact ⟨by omega, by omega⟩ | exact rfl | decide +kernel, ?_⟩)
     conv => whnf
     refine Or.inr ⟨⟨hkk, rfl, rfl⟩, ?_⟩
     repeat ((conv => whnf); refine ⟨by first | (unfold inI64; omega) | omega | exact ⟨by omega, by omega⟩ | exact rfl | decide +kernel, ?_⟩)
     conv => whnf
     exact eR9
 ·cases hs
end Go.Ab
