/- Package tree: what Add needs. -/
import Derived.Test.YtnlifjljmbfomaaGreatTY64toU6
namespace Go.Ab
open Go.Proofs
set_option linter.unusedSectionVars false
set_option maxRecDepth 100000
variable [Base]
theorem id3 : ∀ k, k < 3 → [0, 1, 2][k]? = some k := fun k hk => by
 obtain rfl | rfl | rfl : k = 0 ∨ k = 1 ∨ k = 2 := by omega
 all_goals rfl
abbrev hpR3 (ns : List Nd) (k : Int) (s : ByteArray) : List AO := [.row [.p (.l ndC ns)], .row [.int .i64 k], .row [.str s]]
def daR3 : List AO → Option (List Nd × Int × ByteArray)
 | [.row [.p (.l c0 ns)], .row [.p (.v (.int .i64 k))], .row [.p (.v (.string s))]] => match castD (e := ndC) (e' := c0) ns with | some ns => some (ns, k, s) | none => none
 | _ => none
def samB (ns : List Nd) (k : Int) (s : ByteArray) (i : Nat) : Bool := decide ((ndAt ns i).1 = k) && decide ((ndAt ns i).2.1 = s)
def saysSam1 : Says := fun args H => match args, daR3 H with
 | [.c (.p (.v (.int .i64 i))), .c (.ptr 0 0), .c (.ptr 1 0), .c (.ptr 2 0)], some (ns, k, s) => some (some (H = hpR3 ns k s ∧ 0 ≤ i ∧ i < (ns.length : Nat)), .bool (samB ns k s i.toNat), hpR3 ns k s)
 | _, _ => none
def A24 : Table := ext A23 156 saysSam1
theorem a24 : TS9 A24 := by
 refine ext_run a23 (f := 156) (fn := Tryz.f156) rfl rfl [0, 1, 2, 3, 5] fun args H p r' H' hs hp => ?_
 unfold saysSam1 at hs
 split at hs
 ·rename_i i ns k s _
  cases hs
  obtain ⟨rfl, h1, h2⟩ := hp
  refine ⟨nB9 rfl, [0, 1, 2], rfl, id3, ?_⟩
  repeat ((conv => whnf); refine ⟨by first | exact fun _ => ⟨h1, h2⟩ | ((conv => whnf); exact ⟨⟨rfl, rfl, rfl⟩, trivial⟩) | exact Early.one (by decide +kernel) (by (conv => whnf); exact ⟨rfl, rfl, rfl⟩) trivial | (unfold inI64; omega) | omega | exact ⟨by omega, by omega⟩ | exact rfl | decide +kernel, ?_⟩)
  conv => whnf
  exact eR9
 ·cases hs
def saysSkA : Says := fun args H => match args, daR3 H with
 | [.c (.p (.l c0 ns)), .c (.clo _ _ _)], some (_, k, s) => match castD (e := ndC) (e' := c0) ns with
  | some ns => some (some (args = [.c (.p (.l ndC ns)), .c (.clo false 156 [0, 1, 2])] ∧ H = hpR3 ns k s ∧ ns.length ≤ 1000000000), .int .i64 (skV (samB ns k s) ns.length : Nat), hpR3 ns k s)
  | none => none
 | _, _ => none
def A25 : Table := ext A24 112 saysSkA
theorem a25 : TS9 A25 := by
 refine ext_run a24 (f := 112) (fn := Tryz.f112) rfl rfl [0, 1, 4, 5, 7, 8, 9, 13] fun args H p r' H' hs hp => ?_
 unfold saysSkA at hs
 split at hs
 ·split at hs
  ·rename_i _ _ _ _ _ _ _ k s _ _ ns _
   cases hs
   obtain ⟨ha, hH, h1⟩ := hp
   rw [ha, hH]
   refine ⟨nB9 rfl, [0, 1, 2], rfl, id3, ?_⟩
   repeat ((conv => whnf); refine ⟨by first | (unfold inI64; omega) | omega | exact ⟨by omega, by omega⟩ | exact rfl | decide +kernel, ?_⟩)
   conv => whnf
   refine lI9 (σ := Nat × Nat) (fun ⟨_, i⟩ => [(0, XV.s (.a (.c (.p (.l ndC ns))))), (1, XV.s (.a (.c (.clo false 156 [0, 1, 2])))), (4, nX9), (5, nX9), (7, XV.s (.int .i64 (ns.length : Nat))), (8, XV.s (.int .i64 (i : Nat))), (9, nX9), (13, nX9)])
    (fun _ => hpR3 ns k s) (fun ⟨m, i⟩ => i + m = ns.length ∧ skV (samB ns k s) ns.length = skGo (samB ns k s) m i) (fun ⟨m, _⟩ => m) (ns.length, 0) ?_ rfl ⟨Nat.zero_add _, rfl⟩ ?_
   ·repeat first|exact lN9|refine lD9 ?_|refine lS9 ?_
   rintro ⟨m, i⟩ ⟨him, hgo⟩
   repeat ((conv => whnf); refine ⟨by first | (unfold inI64; omega) | omega | exact ⟨by omega, by omega⟩ | exact rfl | decide +kernel, ?_⟩)
   conv => whnf
   refine cI9 ?_ ?_<;>intro h3
   ·have hlt := lt_of_dec h3
    obtain ⟨m, rfl⟩ : ∃ q, m = q + 1 := ⟨m - 1, by omega⟩
    have hin : 0 ≤ (i : Int) ∧ (i : Int) < (ns.length : Nat) := by omega
    have e : skGo (samB ns k s) (m + 1) i = if samB ns k s i = true then i else skGo (samB ns k s) m (i + 1) := rfl
    rw [e] at hgo
    repeat ((conv => whnf); refine ⟨by first | exact ⟨rfl, hin.1, hin.2⟩ | (unfold inI64; omega) | omega | exact ⟨by omega, by omega⟩ | exact rfl | decide +kernel, ?_⟩)
    conv => whnf
    refine cI9 ?_ ?_<;>intro h4
    ·have h5 : samB ns k s i = true := h4
     rw [if_pos h5] at hgo
     repeat ((conv => whnf); refine ⟨by first | (unfold inI64; omega) | omega | exact ⟨by omega, by omega⟩ | exact rfl | decide +kernel, ?_⟩)
     conv => whnf
     rw [hgo]
     exact eR9
    have h5 : ¬ samB ns k s i = true := ne_t h4
    rw [if_neg h5] at hgo
    repeat ((conv => whnf); refine ⟨by first | (unfold inI64; omega) | omega | exact ⟨by omega, by omega⟩ | exact rfl | decide +kernel, ?_⟩)
    conv => whnf
    refine hI9 (m, i + 1) ?_ rfl ⟨by omega, hgo⟩ (nS9 m)
    repeat first|exact lN9|refine lD9 ?_|refine lS9 ?_
   ·have hge := ge_of_dec h3
    obtain rfl : m = 0 := by omega
    obtain rfl : i = ns.length := by omega
    repeat ((conv => whnf); refine ⟨by first | (unfold inI64; omega) | omega | exact ⟨by omega, by omega⟩ | exact rfl | decide +kernel, ?_⟩)
    conv => whnf
    rw [hgo]
    exact eR9
  ·cases hs
 ·cases hs
def daNIS : List AV → Option (List Nd × Int × ByteArray)
 | [.c (.p (.l c0 ns)), .c (.p (.v (.int .i64 n))), .c (.p (.v (.string s)))] => match castD (e := ndC) (e' := c0) ns with | some ns => some (ns, n, s) | none => none
 | _ => none
def eaNIS (a : List Nd × Int × ByteArray) : List AV := [.c (.p (.l ndC a.1)), .c (.int .i64 a.2.1), .c (.str a.2.2)]
def adbV (a : List Nd × Int × ByteArray) : Int :=
 if namB a.2.2 = false then 1 else if skV (samB a.1 a.2.1 a.2.2) a.1.length < a.1.length then 5 else if 8 ≤ dpV a.1 a.2.1.toNat then 2 else if 120 ≤ a.1.length then 3 else 0
def A26 : Table := ext A25 127 (saysG daNIS eaNIS fun a => (some (a.1.length ≤ 1000000000 ∧ ParOk a.1 ∧ 0 ≤ a.2.1 ∧ a.2.1 < (a.1.length : Nat)), .int .i64 (adbV a)))
theorem a26 : TS9 A26 := by
 refine extG a25 127 (fn := Tryz.f127) rfl rfl daNIS eaNIS _ (fun _ => nB9 rfl) [0, 1, 2, 3, 4, 5, 6, 7, 9, 13, 20, 25] fun a hok => ?_
 obtain ⟨ns, k, s⟩ := a
 obtain ⟨h1, h2, h3, h4⟩ : ns.length ≤ 1000000000 ∧ ParOk ns ∧ 0 ≤ k ∧ k < (ns.length : Nat) := hok
 dsimp only
 unfold adbV
 dsimp only
 repeat ((conv => whnf); refine ⟨by first | exact ⟨rfl, trivial⟩ | ((conv => whnf); exact ⟨⟨rfl, rfl, rfl⟩, trivial⟩) | exact Early.one (by decide +kernel) (by (conv => whnf); exact ⟨rfl, rfl, rfl⟩) trivial | (unfold inI64; omega) | omega | exact ⟨by omega, by omega⟩ | exact rfl | decide +kernel, ?_⟩)
 conv => whnf
 refine cI9 ?_ ?_<;>intro h5
 ·rw [if_pos (not_b h5)]
  repeat ((conv => whnf); refine ⟨by first | (unfold inI64; omega) | omega | exact ⟨by omega, by omega⟩ | exact rfl | decide +kernel, ?_⟩)
  conv => whnf
  exact eR9
 rw [if_neg (ne_f (not_f h5))]
 repeat ((conv => whnf); refine ⟨by first | exact ⟨rfl, rfl, h1⟩ | ((conv => whnf); exact ⟨⟨rfl, rfl, rfl⟩, trivial⟩) | exact Early.one (by decide +kernel) (by (conv => whnf); exact ⟨rfl, rfl, rfl⟩) trivial | (unfold inI64; omega) | omega | exact ⟨by omega, by omega⟩ | exact rfl | decide +kernel, ?_⟩)
 conv => whnf
 refine cI9 ?_ ?_<;>intro h6
 ·have h7 : skV (samB ns k s) ns.length < ns.length := lt_of_dec h6
  rw [if_pos h7]
  repeat ((conv => whnf); refine ⟨by first | (unfold inI64; omega) | omega | exact ⟨by omega, by omega⟩ | exact rfl | decide +kernel, ?_⟩)
  conv => whnf
  exact eR9
 have h7 : ¬ skV (samB ns k s) ns.length < ns.length := by
  have h8 : ¬ ((skV (samB ns k s) ns.length : Nat) : Int) < (ns.length : Nat) := oF9 h6
  omega
 rw [if_neg h7]
 repeat ((conv => whnf); refine ⟨by first | exact ⟨rfl, h1, h2, h3, h4⟩ | (unfold inI64; omega) | omega | exact ⟨by omega, by omega⟩ | exact rfl | decide +kernel, ?_⟩)
 conv => whnf
 refine cI9 ?_ ?_<;>intro h8
 ·have h9 : 8 ≤ dpV ns k.toNat := by
   have h10 : (8 : Int) ≤ (dpV ns k.toNat : Nat) := oT9 h8
   omega
  rw [if_pos h9]
  repeat ((conv => whnf); refine ⟨by first | (unfold inI64; omega) | omega | exact ⟨by omega, by omega⟩ | exact rfl | decide +kernel, ?_⟩)
  conv => whnf
  exact eR9
 have h9 : ¬ 8 ≤ dpV ns k.toNat := by
  have h10 : ¬ (8 : Int) ≤ (dpV ns k.toNat : Nat) := oF9 h8
  omega
 rw [if_neg h9]
 repeat ((conv => whnf); refine ⟨by first | (unfold inI64; omega) | omega | exact ⟨by omega, by omega⟩ | exact rfl | decide +kernel, ?_⟩)
 conv => whnf
 refine cI9 ?_ ?_<;>intro h10
 ·have h11 : 120 ≤ ns.length := by
   have h12 : (120 : Int) ≤ (ns.length : Nat) := oT9 h10
   omega
  rw [if_pos h11]
  repeat ((conv => whnf); refine ⟨by first | (unfold inI64; omega) | omega | exact ⟨by omega, by omega⟩ | exact rfl | decide +kernel, ?_⟩)
  conv => whnf
  exact eR9
 have h11 : ¬ 120 ≤ ns.length := by
  have h12 : ¬ (120 : Int) ≤ (ns.length : Nat) := oF9 h10
  omega
 rw [if_neg h11]
 repeat ((conv => whnf); refine ⟨by first | (unfold inI64; omega) | omega | exact ⟨by omega, by omega⟩ | exact rfl | decide +kernel, ?_⟩)
 conv => whnf
 exact eR9
abbrev hpE (ns : List Nd) (k : Int) : List AO := [.row [.int .i64 k], .row [.p (.l ndC ns)]]
def daE : List AO → Option (List Nd × Int)
 | [.row [.p (.v (.int .i64 k))], .row [.p (.l c0 ns)]] => match castD (e := ndC) (e' := c0) ns with | some ns => some (ns, k) | none => none
 | _ => none
def behB (ns : List Nd) (k : Int) (i : Nat) : Bool := decide (k < (i : Int)) && decide ((ndAt ns i).1 < k)
def saysEnd1 : Says := fun args H => match args, daE H with
 | [.c (.p (.v (.int .i64 i))), .c (.ptr 0 0), .c (.ptr 1 0)], some (ns, k) => some (some (H = hpE ns k ∧ 0 ≤ i ∧ i < (ns.length : Nat)), .bool (decide (k < i) && decide ((ndAt ns i.toNat).1 < k)), hpE ns k)
 | _, _ => none
def A27 : Table := ext A26 157 saysEnd1
theorem a27 : TS9 A27 := by
 refine ext_run a26 (f := 157) (fn := Tryz.f157) rfl rfl [0, 1, 2, 4] fun args H p r' H' hs hp => ?_
 unfold saysEnd1 at hs
 split at hs
 ·rename_i i ns k _
  cases hs
  obtain ⟨rfl, h1, h2⟩ := hp
  refine ⟨nB9 rfl, [0, 1], rfl, id2, ?_⟩
  repeat ((conv => whnf); refine ⟨by first | exact fun _ => ⟨h1, h2⟩ | ((conv => whnf); exact ⟨⟨rfl, rfl, rfl⟩, trivial⟩) | exact Early.one (by decide +kernel) (by (conv => whnf); exact ⟨rfl, rfl, rfl⟩) trivial | (unfold inI64; omega) | omega | exact ⟨by omega, by omega⟩ | exact rfl | decide +kernel, ?_⟩)
  conv => whnf
  exact eR9
 ·cases hs
def saysSkE : Says := fun args H => match args, daE H with
 | [.c (.p (.l c0 ns)), .c (.clo _ _ _)], some (_, k) => match castD (e := ndC) (e' := c0) ns with
  | some ns => some (some (args = [.c (.p (.l ndC ns)), .c (.clo false 157 [0, 1])] ∧ H = hpE ns k ∧ ns.length ≤ 1000000000), .int .i64 (skV (behB ns k) ns.length : Nat), hpE ns k)
  | none => none
 | _, _ => none
def A28 : Table := ext A27 112 saysSkE
theorem a28 : TS9 A28 := by
 refine ext_run a27 (f := 112) (fn := Tryz.f112) rfl rfl [0, 1, 4, 5, 7, 8, 9, 13] fun args H p r' H' hs hp => ?_
 unfold saysSkE at hs
 split at hs
 ·split at hs
  ·rename_i _ _ _ _ _ _ _ k _ _ ns _
   cases hs
   obtain ⟨ha, hH, h1⟩ := hp
   rw [ha, hH]
   refine ⟨nB9 rfl, [0, 1], rfl, id2, ?_⟩
   repeat ((conv => whnf); refine ⟨by first | (unfold inI64; omega) | omega | exact ⟨by omega, by omega⟩ | exact rfl | decide +kernel, ?_⟩)
   conv => whnf
   refine lI9 (σ := Nat × Nat) (fun ⟨_, i⟩ => [(0, XV.s (.a (.c (.p (.l ndC ns))))), (1, XV.s (.a (.c (.clo false 157 [0, 1])))), (4, nX9), (5, nX9), (7, XV.s (.int .i64 (ns.length : Nat))), (8, XV.s (.int .i64 (i : Nat))), (9, nX9), (13, nX9)])
    (fun _ => hpE ns k) (fun ⟨m, i⟩ => i + m = ns.length ∧ skV (behB ns k) ns.length = skGo (behB ns k) m i) (fun ⟨m, _⟩ => m) (ns.length, 0) ?_ rfl ⟨Nat.zero_add _, rfl⟩ ?_
   ·repeat first|exact lN9|refine lD9 ?_|refine lS9 ?_
   rintro ⟨m, i⟩ ⟨him, hgo⟩
   repeat ((conv => whnf); refine ⟨by first | (unfold inI64; omega) | omega | exact ⟨by omega, by omega⟩ | exact rfl | decide +kernel, ?_⟩)
   conv => whnf
   refine cI9 ?_ ?_<;>intro h3
   ·have hlt := lt_of_dec h3
    obtain ⟨m, rfl⟩ : ∃ q, m = q + 1 := ⟨m - 1, by omega⟩
    have hin : 0 ≤ (i : Int) ∧ (i : Int) < (ns.length : Nat) := by omega
    have e : skGo (behB ns k) (m + 1) i = if behB ns k i = true then i else skGo (behB ns k) m (i + 1) := rfl
    rw [e] at hgo
    repeat ((conv => whnf); refine ⟨by first | exact ⟨rfl, hin.1, hin.2⟩ | (unfold inI64; omega) | omega | exact ⟨by omega, by omega⟩ | exact rfl | decide +kernel, ?_⟩)
    conv => whnf
    refine cI9 ?_ ?_<;>intro h4
    ·have h5 : behB ns k i = true := h4
     rw [if_pos h5] at hgo
     repeat ((conv => whnf); refine ⟨by first | (unfold inI64; omega) | omega | exact ⟨by omega, by omega⟩ | exact rfl | decide +kernel, ?_⟩)
     conv => whnf
     rw [hgo]
     exact eR9
    have h5 : ¬ behB ns k i = true := ne_t h4
    rw [if_neg h5] at hgo
    repeat ((conv => whnf); refine ⟨by first | (unfold inI64; omega) | omega | exact ⟨by omega, by omega⟩ | exact rfl | decide +kernel, ?_⟩)
    conv => whnf
    refine hI9 (m, i + 1) ?_ rfl ⟨by omega, hgo⟩ (nS9 m)
    repeat first|exact lN9|refine lD9 ?_|refine lS9 ?_
   ·have hge := ge_of_dec h3
    obtain rfl : m = 0 := by omega
    obtain rfl : i = ns.length := by omega
    repeat ((conv => whnf); refine ⟨by first | (unfold inI64; omega) | omega | exact ⟨by omega, by omega⟩ | exact rfl | decide +kernel, ?_⟩)
    conv => whnf
    rw [hgo]
    exact eR9
  ·cases hs
 ·cases hs
def A29 : Table := ext A28 128 (saysG daNI eaNI fun a => (some (a.1.length ≤ 1000000000), .int .i64 (skV (behB a.1 a.2) a.1.length : Nat)))
theorem a29 : TS9 A29 := by
 refine extG a28 128 (fn := Tryz.f128) rfl rfl daNI eaNI _ (fun _ => nB9 rfl) [0, 1, 2, 3, 4] fun a hok => ?_
 obtain ⟨ns, k⟩ := a
 have h1 : ns.length ≤ 1000000000 := hok
 dsimp only
 repeat ((conv => whnf); refine ⟨by first | exact ⟨rfl, rfl, h1⟩ | (unfold inI64; omega) | omega | exact ⟨by omega, by omega⟩ | exact rfl | decide +kernel, ?_⟩)
 conv => whnf
 exact eR9
abbrev ndT : TypeId := 69
abbrev hpN (ns : List Nd) : List AO := [.arr ndT ndC ns 0]
theorem nd_set {ns : List Nd} {i : Nat} (h : i < ns.length) : ns.set i (ns.getD i ndC.dflt) = ns := by
 have he : ns.getD i ndC.dflt = ns[i] := by simp [h]
 rw [he]
 exact List.set_getElem_self h
def saysCpN : Says := fun args H => match H with
 | [] => match daN args with
  | some ns => some (some (args = eaN ns ∧ LenN ns ∧ 0 < ns.length), .a (.c (.sl 0 ndC 0 ns.length)), hpN ns)
  | none => none
 | _ => none
def A30 : Table := ext A29 126 saysCpN
theorem a30 : TS9 A30 := by
 refine ext_run a29 (f := 126) (fn := Tryz.f126) rfl rfl [0, 2, 3, 4, 8, 9, 10] fun args H p r' H' hs hp => ?_
 unfold saysCpN at hs
 split at hs
 ·split at hs
  ·rename_i ns _
   cases hs
   obtain ⟨rfl, hl, hpos⟩ := hp
   have hlen := hl.1
   refine ⟨nB9 rfl, [0], rfl, nK9, ?_⟩
   conv => whnf
   refine Or.inr ?_
   repeat ((conv => whnf); refine ⟨by first | exact Nat.le_trans hlen (by decide) | (unfold inI64; omega) | omega | exact ⟨by omega, by omega⟩ | exact rfl | decide +kernel, ?_⟩)
   conv => whnf
   refine lI9 (fun i : Nat => [(0, nX9), (2, nX9), (3, XV.s (.a (.c (.sl 0 ndC 0 ns.length)))), (4, nX9), (8, XV.s (.int .i64 (ns.length : Nat))), (9, XV.s (.int .i64 (i : Nat))), (10, nX9)])
    (fun _ => hpN ns) (fun i => i ≤ ns.length) (fun i => ns.length - i) 0 ?_ rfl (nZ9 _) (fun i hi => ?_)
   ·repeat first|exact lN9|refine lD9 ?_|refine lS9 ?_
   repeat ((conv => whnf); refine ⟨by first | (unfold inI64; omega) | omega | exact ⟨by omega, by omega⟩ | exact rfl | decide +kernel, ?_⟩)
   conv => whnf
   refine cI9 ?_ ?_<;>intro h
   ·have hin : i < ns.length := lt_of_dec h
    have hob : 0 = 0 ∧ (0 : Int) ≤ (i : Nat) ∧ (i : Int) < (ns.length : Nat) := ⟨rfl, by omega, by omega⟩
    have hcl : (ns.getD i ndC.dflt).2.2.length ≤ capBound := by
     have he : ns.getD i ndC.dflt = ns[i] := by simp [hin]
     rw [he]
     exact Nat.le_trans (hl.at hin) (by decide)
    repeat ((conv => whnf); refine ⟨by first | exact hob | exact hcl | (unfold inI64; omega) | omega | exact ⟨by omega, by omega⟩ | exact rfl | decide +kernel, ?_⟩)
    conv => whnf
    refine kI9 (i + 1) [0] rfl (fun k hk => ?_) ?_ ?_ (by show i + 1 ≤ _; omega) (by show _ - (i + 1) < _ - i; omega)
    ·have hk : k < 1 := hk
     obtain rfl : k = 0 := by omega
     rfl
    ·show some [AO.arr _ ndC (ns.set i (ns.getD i ndC.dflt)) 0] = _
     rw [nd_set hin]
    ·repeat first|exact kN9|refine kD9 ?_|refine kR9 rfl ?_
   ·repeat ((conv => whnf); refine ⟨by first | (unfold inI64; omega) | omega | exact ⟨by omega, by omega⟩ | exact rfl | decide +kernel, ?_⟩)
    conv => whnf
    exact eR9
  ·cases hs
 ·cases hs
abbrev hpA1 (b : Int) (ns : List Nd) (k : Int) (s : ByteArray) : List AO := [.row [.int .i64 b], .row [.sl 4 ndC 0 ns.length], .row [.int .i64 k], .row [.str s], .arr ndT ndC ns 0]
def daA1 : List AO → Option (Int × List Nd × Int × ByteArray)
 | [.row [.p (.v (.int .i64 b))], .row [.sl _ _ _ _], .row [.p (.v (.int .i64 k))], .row [.p (.v (.string s))], .arr _ c0 ns _] => match castD (e := ndC) (e' := c0) ns with | some ns => some (b, ns, k, s) | none => none
 | _ => none
def addB (b : Int) (ns : List Nd) (k : Int) (s : ByteArray) (i : Nat) : Bool := decide ((i : Int) = b) || (decide ((ndAt ns i).1 = k) && !bLe (ndAt ns i).2.1 s)
def saysAdd1 : Says := fun args H => match args, daA1 H with
 | [.c (.p (.v (.int .i64 i))), .c (.ptr 0 0), .c (.ptr 1 0), .c (.ptr 2 0), .c (.ptr 3 0)], some (b, ns, k, s) => some (some (H = hpA1 b ns k s ∧ 0 ≤ i ∧ i < (ns.length : Nat)), .bool (decide (i = b) || (decide ((ndAt ns i.toNat).1 = k) && !bLe (ndAt ns i.toNat).2.1 s)), hpA1 b ns k s)
 | _, _ => none
theorem id5 : ∀ k, k < 5 → [0, 1, 2, 3, 4][k]? = some k := fun k hk => by
 obtain rfl | rfl | rfl | rfl | rfl : k = 0 ∨ k = 1 ∨ k = 2 ∨ k = 3 ∨ k = 4 := by omega
 all_goals rfl
def A31 : Table := ext A30 129 saysAdd1
theorem a31 : TS9 A31 := by
 refine ext_run a30 (f := 129) (fn := Tryz.f129) rfl rfl [0, 1, 2, 3, 4, 6] fun args H p r' H' hs hp => ?_
 unfold saysAdd1 at hs
 split at hs
 ·rename_i i b ns k s _
  cases hs
  obtain ⟨rfl, h1, h2⟩ := hp
  refine ⟨nB9 rfl, [0, 1, 2, 3, 4], rfl, id5, ?_⟩
  repeat ((conv => whnf); refine ⟨by first | exact fun _ => ⟨h1, h2⟩ | ((conv => whnf); exact ⟨⟨rfl, rfl, rfl⟩, trivial⟩) | exact Early.one (by decide +kernel) (by (conv => whnf); exact ⟨rfl, rfl, rfl⟩) trivial | exact fun _ => ⟨rfl, h1, h2⟩ | (unfold inI64; omega) | omega | exact ⟨by omega, by omega⟩ | exact rfl | decide +kernel, ?_⟩)
  conv => whnf
  exact eR9
 ·cases hs
abbrev hpA2 (b : Int) (ns : List Nd) (k : Int) (s : ByteArray) : List AO := [.arr ndT ndC ns 0, .row [.int .i64 b], .row [.sl 0 ndC 0 ns.length], .row [.int .i64 k], .row [.str s]]
def daA2 : List AO → Option (Int × List Nd × Int × ByteArray)
 | [.arr _ c0 ns _, .row [.p (.v (.int .i64 b))], .row [.sl _ _ _ _], .row [.p (.v (.int .i64 k))], .row [.p (.v (.string s))]] => match castD (e := ndC) (e' := c0) ns with | some ns => some (b, ns, k, s) | none => none
 | _ => none
def saysSkB : Says := fun args H => match args, daA2 H with
 | [.c (.sl _ _ _ _), .c (.clo _ _ _)], some (b, ns, k, s) => some (some (args = [.c (.sl 0 ndC 0 ns.length), .c (.clo false 129 [1, 2, 3, 4])] ∧ H = hpA2 b ns k s ∧ ns.length ≤ 1000000000), .int .i64 (skV (addB b ns k s) ns.length : Nat), hpA2 b ns k s)
 | _, _ => none
def A32 : Table := ext A31 112 saysSkB
theorem a32 : TS9 A32 := by
 refine ext_run a31 (f := 112) (fn := Tryz.f112) rfl rfl [0, 1, 4, 5, 7, 8, 9, 13] fun args H p r' H' hs hp => ?_
 unfold saysSkB at hs
 split at hs
 ·rename_i _ _ _ _ _ _ _ _ b ns k s _
  cases hs
  obtain ⟨ha, hH, h1⟩ := hp
  rw [ha, hH]
  refine ⟨nB9 rfl, [0, 1, 2, 3, 4], rfl, id5, ?_⟩
  repeat ((conv => whnf); refine ⟨by first | (unfold inI64; omega) | omega | exact ⟨by omega, by omega⟩ | exact rfl | decide +kernel, ?_⟩)
  conv => whnf
  refine lI9 (σ := Nat × Nat) (fun ⟨_, i⟩ => [(0, XV.s (.a (.c (.sl 0 ndC 0 ns.length)))), (1, XV.s (.a (.c (.clo false 129 [1, 2, 3, 4])))), (4, nX9), (5, nX9), (7, XV.s (.int .i64 (ns.length : Nat))), (8, XV.s (.int .i64 (i : Nat))), (9, nX9), (13, nX9)])
   (fun _ => hpA2 b ns k s) (fun ⟨m, i⟩ => i + m = ns.length ∧ skV (addB b ns k s) ns.length = skGo (addB b ns k s) m i) (fun ⟨m, _⟩ => m) (ns.length, 0) ?_ rfl ⟨Nat.zero_add _, rfl⟩ ?_
  ·repeat first|exact lN9|refine lD9 ?_|refine lS9 ?_
  rintro ⟨m, i⟩ ⟨him, hgo⟩
  repeat ((conv => whnf); refine ⟨by first | (unfold inI64; omega) | omega | exact ⟨by omega, by omega⟩ | exact rfl | decide +kernel, ?_⟩)
  conv => whnf
  refine cI9 ?_ ?_<;>intro h3
  ·have hlt := lt_of_dec h3
   obtain ⟨m, rfl⟩ : ∃ q, m = q + 1 := ⟨m - 1, by omega⟩
   have hin : 0 ≤ (i : Int) ∧ (i : Int) < (ns.length : Nat) := by omega
   have e : skGo (addB b ns k s) (m + 1) i = if addB b ns k s i = true then i else skGo (addB b ns k s) m (i + 1) := rfl
   rw [e] at hgo
   repeat ((conv => whnf); refine ⟨by first | exact ⟨rfl, hin.1, hin.2⟩ | (unfold inI64; omega) | omega | exact ⟨by omega, by omega⟩ | exact rfl | decide +kernel, ?_⟩)
   conv => whnf
   refine cI9 ?_ ?_<;>intro h4
   ·have h5 : addB b ns k s i = true := h4
    rw [if_pos h5] at hgo
    repeat ((conv => whnf); refine ⟨by first | (unfold inI64; omega) | omega | exact ⟨by omega, by omega⟩ | exact rfl | decide +kernel, ?_⟩)
    conv => whnf
    rw [hgo]
    exact eR9
   have h5 : ¬ addB b ns k s i = true := ne_t h4
   rw [if_neg h5] at hgo
   repeat ((conv => whnf); refine ⟨by first | (unfold inI64; omega) | omega | exact ⟨by omega, by omega⟩ | exact rfl | decide +kernel, ?_⟩)
   conv => whnf
   refine hI9 (m, i + 1) ?_ rfl ⟨by omega, hgo⟩ (nS9 m)
   repeat first|exact lN9|refine lD9 ?_|refine lS9 ?_
  ·have hge := ge_of_dec h3
   obtain rfl : m = 0 := by omega
   obtain rfl : i = ns.length := by omega
   repeat ((conv => whnf); refine ⟨by first | (unfold inI64; omega) | omega | exact ⟨by omega, by omega⟩ | exact rfl | decide +kernel, ?_⟩)
   conv => whnf
   rw [hgo]
   exact eR9
 ·cases hs
def mvGo (fr by' : Int) (n : Nd) : Nd := if fr ≤ n.1 then (n.1 + by', n.2.1, n.2.2) else n
def mvP (g : Nd → Nd) (ns : List Nd) (i : Nat) : List Nd := (ns.take i).map g ++ ns.drop i
theorem mvP_length (g : Nd → Nd) (ns : List Nd) (i : Nat) : (mvP g ns i).length = ns.length := by
 unfold mvP
 rw [zP9, List.length_map, List.length_take, List.length_drop]
 omega
theorem mvP_at (g : Nd → Nd) {ns : List Nd} {i : Nat} (h : i < ns.length) : (mvP g ns i).getD i ndC.dflt = ndAt ns i := by
 unfold mvP ndAt
 have h1 : ((ns.take i).map g).length = i := by rw [List.length_map, List.length_take]; omega
 rw [List.getD_eq_getElem?_getD, List.getElem?_append_right (by omega), h1, Nat.sub_self, List.drop_eq_getElem_cons h]
 simp [h]
theorem mvP_set (g : Nd → Nd) {ns : List Nd} {i : Nat} (h : i < ns.length) : (mvP g ns i).set i (g (ndAt ns i)) = mvP g ns (i + 1) := by
 unfold mvP
 have h1 : ((ns.take i).map g).length = i := by rw [List.length_map, List.length_take]; omega
 rw [List.set_append_right _ _ (by omega), h1, Nat.sub_self, List.drop_eq_getElem_cons h, List.set_cons_zero, List.take_succ_eq_append_getElem h, List.map_append, List.map_cons, List.map_nil, List.append_assoc]
 have e : ndAt ns i = ns[i] := by unfold ndAt; simp [h]
 rw [e]
 rfl
theorem mvP_end (g : Nd → Nd) (ns : List Nd) : mvP g ns ns.length = ns.map g := by
 unfold mvP
 rw [List.take_length, List.drop_length, List.append_nil]
def ParM (ns : List Nd) : Prop := ∀ n ∈ ns, @LE.le Int _ (-1000) n.1 ∧ @LE.le Int _ n.1 1000000000
def saysMv : Says := fun args H => match args, H with
 | [.c (.sl _ _ _ _), .c (.p (.v (.int .i64 fr))), .c (.p (.v (.int .i64 d)))], [.arr _ c0 ns _] => match castD (e := ndC) (e' := c0) ns with
  | some ns => some (some (args = [.c (.sl 0 ndC 0 ns.length), .c (.int .i64 fr), .c (.int .i64 d)] ∧ H = hpN ns ∧ ns.length ≤ 1000000000 ∧ (-1000 ≤ d ∧ d ≤ 1000) ∧ ParM ns), .tup [], hpN (ns.map (mvGo fr d)))
  | none => none
 | _, _ => none
def A33 : Table := ext A32 130 saysMv
theorem a33 : TS9 A33 := by
 refine ext_run a32 (f := 130) (fn := Tryz.f130) rfl rfl [0, 1, 2, 6, 8, 9, 10, 18] fun args H p r' H' hs hp => ?_
 unfold saysMv at hs
 split at hs
 ·split at hs
  ·rename_i fr d _ _ _ _ _ ns _
   cases hs
   obtain ⟨ha, hH, h1, h2, hpar⟩ := hp
   rw [ha, hH]
   refine ⟨nB9 rfl, [0], rfl, id0, ?_⟩
   repeat ((conv => whnf); refine ⟨by first | (unfold inI64; omega) | omega | exact ⟨by omega, by omega⟩ | exact rfl | decide +kernel, ?_⟩)
   conv => whnf
   refine lI9 (fun i : Nat => [(0, XV.s (.a (.c (.sl 0 ndC 0 ns.length)))), (1, XV.s (.int .i64 fr)), (2, XV.s (.int .i64 d)), (6, nX9), (8, XV.s (.int .i64 (ns.length : Nat))), (9, XV.s (.int .i64 (i : Nat))), (10, nX9), (18, nX9)])
    (fun i => hpN (mvP (mvGo fr d) ns i)) (fun i => i ≤ ns.length) (fun i => ns.length - i) 0 ?_ rfl (nZ9 _) (fun i hi => ?_)
   ·repeat first|exact lN9|refine lD9 ?_|refine lS9 ?_
   have hml := mvP_length (mvGo fr d) ns i
   repeat ((conv => whnf); refine ⟨by first | (unfold inI64; omega) | omega | exact ⟨by omega, by omega⟩ | exact rfl | decide +kernel, ?_⟩)
   conv => whnf
   refine cI9 ?_ ?_<;>intro h
   ·have hin : i < ns.length := lt_of_dec h
    have hob : 0 = 0 ∧ (0 : Int) ≤ (i : Nat) ∧ (i : Int) < (ns.length : Nat) := ⟨rfl, by omega, by omega⟩
    have hob2 : 0 = 0 ∧ (0 : Int) ≤ (i : Nat) ∧ (i : Int) < ((mvP (mvGo fr d) ns i).length : Nat) := ⟨rfl, by omega, by omega⟩
    have hat := mvP_at (mvGo fr d) hin
    have hse := mvP_set (mvGo fr d) hin
    have hb : @LE.le Int _ (-1000) (ndAt ns i).1 ∧ @LE.le Int _ (ndAt ns i).1 1000000000 := hpar _ (show ndAt ns i ∈ ns by
     have e : ndAt ns i = ns[i] := by unfold ndAt; simp [hin]
     rw [e]
     exact List.getElem_mem hin)
    repeat ((conv => whnf); refine ⟨by first | exact hob | exact hob2 | (unfold inI64; omega) | omega | exact ⟨by omega, by omega⟩ | exact rfl | decide +kernel, ?_⟩)
    conv => whnf
    refine cI9 ?_ ?_<;>intro h5
    ·have h6 : fr ≤ (ndAt ns i).1 := by
      rw [← hat]
      exact oT9 h5
     have hov : inI64 (((mvP (mvGo fr d) ns i).getD i ndC.dflt).1 + d) := by
      have hk9 : inI64 ((ndAt ns i).1 + d) := by
       obtain ⟨hb1, hb2⟩ := hb
       unfold inI64
       generalize ((ndAt ns i).1 : Int) = x at hb1 hb2 ⊢
       omega
      rw [hat]
      exact hk9
     have hg : mvGo fr d (ndAt ns i) = ((ndAt ns i).1 + d, (ndAt ns i).2.1, (ndAt ns i).2.2) := by
      unfold mvGo
      rw [if_pos h6]
     rw [hg] at hse
     repeat ((conv => whnf); refine ⟨by first | exact hob2 | exact hov | (unfold inI64; omega) | omega | exact ⟨by omega, by omega⟩ | exact rfl | decide +kernel, ?_⟩)
     conv => whnf
     refine kI9 (i + 1) [0] rfl (fun k hk => ?_) ?_ ?_ (by show i + 1 ≤ _; omega) (by show _ - (i + 1) < _ - i; omega)
     ·have hk : k < 1 := hk
      obtain rfl : k = 0 := by omega
      rfl
     ·show some [AO.arr _ ndC ((mvP (mvGo fr d) ns i).set i (((mvP (mvGo fr d) ns i).getD i ndC.dflt).1 + d, ((mvP (mvGo fr d) ns i).getD i ndC.dflt).2.1, ((mvP (mvGo fr d) ns i).getD i ndC.dflt).2.2)) 0] = _
      rw [hat, hse]
     ·repeat first|exact kN9|refine kD9 ?_|refine kR9 rfl ?_
    have h6 : ¬ fr ≤ (ndAt ns i).1 := by
     rw [← hat]
     exact oF9 h5
    have hg : mvGo fr d (ndAt ns i) = ndAt ns i := by
     unfold mvGo
     rw [if_neg h6]
    have hse2 : mvP (mvGo fr d) ns (i + 1) = mvP (mvGo fr d) ns i := by
     rw [← hse, hg, ← hat]
     exact nd_set (by omega)
    repeat ((conv => whnf); refine ⟨by first | (unfold inI64; omega) | omega | exact ⟨by omega, by omega⟩ | exact rfl | decide +kernel, ?_⟩)
    conv => whnf
    refine kI9 (i + 1) [0] rfl (fun k hk => ?_) ?_ ?_ (by show i + 1 ≤ _; omega) (by show _ - (i + 1) < _ - i; omega)
    ·have hk : k < 1 := hk
     obtain rfl : k = 0 := by omega
     rfl
    ·show some [AO.arr _ ndC (mvP (mvGo fr d) ns i) 0] = some [AO.arr _ ndC (mvP (mvGo fr d) ns (i + 1)) 0]
     rw [hse2]
    ·repeat first|exact kN9|refine kD9 ?_|refine kR9 rfl ?_
   ·repeat ((conv => whnf); refine ⟨by first | (unfold inI64; omega) | omega | exact ⟨by omega, by omega⟩ | exact rfl | decide +kernel, ?_⟩)
    conv => whnf
    obtain rfl : i = ns.length := by
     have := ge_of_dec h
     omega
    rw [mvP_end]
    exact eR9
  ·cases hs
 ·cases hs
def wiV (a : List Nd × Int × Int × ByteArray) : List Nd := a.1.take a.2.1.toNat ++ (a.2.2.1, a.2.2.2, []) :: a.1.drop a.2.1.toNat
abbrev ndA (n : Int × ByteArray) : AV := .agg [.int .i64 n.1, .str n.2, .p (.v (.slice none 0 0))]
def daNIN : List AV → Option (List Nd × Int × Int × ByteArray)
 | [.c (.p (.l c0 ns)), .c (.p (.v (.int .i64 k))), .agg [.p (.v (.int .i64 p)), .p (.v (.string s)), .p (.v (.slice none 0 0))]] => match castD (e := ndC) (e' := c0) ns with | some ns => some (ns, k, p, s) | _ => none
 | _ => none
def eaNIN (a : List Nd × Int × Int × ByteArray) : List AV := [.c (.p (.l ndC a.1)), .c (.int .i64 a.2.1), ndA a.2.2]
def A34 : Table := ext A33 131 (saysG daNIN eaNIN fun a => (some (a.1.length ≤ 1000000000 ∧ 0 ≤ a.2.1 ∧ a.2.1 ≤ (a.1.length : Nat)), .a (.c (.p (.l ndC (wiV a))))))
theorem a34 : TS9 A34 := by
 refine extG a33 131 (fn := Tryz.f131) rfl rfl daNIN eaNIN _ (fun _ => nB9 rfl) [0, 1, 2, 5, 6] fun a hok => ?_
 obtain ⟨ns, k, q, s⟩ := a
 obtain ⟨h1, h2, h3⟩ : ns.length ≤ 1000000000 ∧ 0 ≤ k ∧ k ≤ (ns.length : Nat) := hok
 show runF _ _ _ [] [.c (.p (.l ndC ns)), .c (.int .i64 k), .agg [.int .i64 q, .str s, .p (.v (.slice none 0 0))]] [] fun r H => Ends r H (.a (.c (.p (.l ndC (wiV (ns, k, q, s)))))) []
 have ht : (ns.take k.toNat).length = k.toNat := by rw [List.length_take]; omega
 have hz1 : 0 < 1 := Nat.zero_lt_one
 have hz2 : (ns.take k.toNat).length + 1 ≤ capBound := by rw [ht]; exact Nat.le_trans (m := 1000000001) (by omega) (by decide)
 have hz3 : (ns.take k.toNat).length + 1 = (ns.take k.toNat ++ [(q, s, [])]).length := by rw [zP9]; rfl
 have hz5 : (ns.drop k.toNat).length = ns.length - k.toNat := List.length_drop ..
 have hn : (((ns.length : Nat) : Int)).toNat = ns.length := rfl
 have hz6 : ns.take (((ns.length : Nat) : Int)).toNat = ns := by rw [hn, List.take_length]
 have hz4 : (ns.take k.toNat).length + 1 + ((ns.take (((ns.length : Nat) : Int)).toNat).drop k.toNat).length ≤ capBound := by rw [hz6, ht, hz5]; exact Nat.le_trans (m := 1000000001) (by omega) (by decide)
 repeat ((conv => whnf); refine ⟨by first | exact ⟨h2, rfl, h3⟩ | exact hz1 | exact hz3 | exact hz4 | exact hz2 | exact ⟨h2, h3, Int.le_refl _⟩ | ((conv => whnf); exact ⟨⟨rfl, rfl, rfl⟩, trivial⟩) | exact Early.one (by decide +kernel) (by (conv => whnf); exact ⟨rfl, rfl, rfl⟩) trivial | (unfold inI64; omega) | omega | exact ⟨by omega, by omega⟩ | exact rfl | decide +kernel, ?_⟩)
 conv => whnf
 show Ends (.a (.c (.p (.l ndC (ns.take k.toNat ++ [(q, s, [])] ++ (ns.take (((ns.length : Nat) : Int)).toNat).drop k.toNat))))) [] _ _
 rw [hz6, List.append_assoc]
 exact eR9
def saysWiS : Says := fun args H => match args, H with
 | [.c (.sl _ _ _ _), .c (.p (.v (.int .i64 k))), .agg [.p (.v (.int .i64 p)), .p (.v (.string s)), .p (.v (.slice none 0 0))]], [.arr _ c0 ns _] => match castD (e := ndC) (e' := c0) ns with
  | some ns => some (some (args = [.c (.sl 0 ndC 0 ns.length), .c (.int .i64 k), ndA (p, s)] ∧ H = hpN ns ∧ 0 < ns.length ∧ ns.length ≤ 1000000000 ∧ 0 ≤ k ∧ k ≤ (ns.length : Nat)), .a (.c (.p (.l ndC (wiV (ns, k, p, s))))), [.dead])
  | _ => none
 | _, _ => none
def A35 : Table := ext A33 131 saysWiS
theorem castD_self {c : CT} (zs : List c.den) : castD (e := c) (e' := c) zs = some zs := by
 unfold castD
 rw [dif_pos rfl]
theorem saysG_at {α : Type} {da : List AV → Option α} {ea : α → List AV} {g : α → Option Prop × SV} {a : α} (h : da (ea a) = some a) (hp : holdsO (g a).1) : ∃ q, holdsO q ∧ saysG da ea g (ea a) [] = some (q, (g a).2, []) := by
 refine ⟨some (ea a = ea a ∧ holdsO (g a).1), ⟨rfl, hp⟩, ?_⟩
 unfold saysG
 dsimp only
 rw [h]
theorem daNIN_at (a : List Nd × Int × Int × ByteArray) : daNIN (eaNIN a) = some a := by
 show (match castD (e := ndC) (e' := ndC) a.1 with | some ns => some (ns, a.2.1, a.2.2.1, a.2.2.2) | _ => none) = some a
 rw [castD_self]
theorem daNIS_at (a : List Nd × Int × ByteArray) : daNIS (eaNIS a) = some a := by
 unfold daNIS eaNIS
 dsimp only
 rw [castD_self]
theorem daNI_at (a : List Nd × Int) : daNI (eaNI a) = some a := by
 unfold daNI eaNI
 dsimp only
 rw [castD_self]
theorem a35 : TS9 A35 := by
 refine ext_give a34 a33 fun args H p r H' hs hp => ?_
 unfold saysWiS at hs
 split at hs
 ·split at hs
  ·rename_i k p s _ _ _ _ _ ns _
   cases hs
   obtain ⟨ha, hH, h0, h1, h2, h3⟩ := hp
   refine ⟨ndT, ndC, ns, eaNIN (ns, k, p, s), hH, rfl, h0, ?_, saysG_at (daNIN_at _) ⟨h1, h2, h3⟩, _, rfl⟩
   rw [ha]
   exact .cons .sl (.cons (.p _) (.cons (.agg [_, _, _]) .nil))
  ·cases hs
 ·cases hs
def saysAdbS : Says := fun args H => match args, H with
 | [.c (.sl _ _ _ _), .c (.p (.v (.int .i64 k))), .c (.p (.v (.string s)))], [.arr _ c0 ns _] => match castD (e := ndC) (e' := c0) ns with
  | some ns => some (some (args = [.c (.sl 0 ndC 0 ns.length), .c (.int .i64 k), .c (.str s)] ∧ H = hpN ns ∧ 0 < ns.length ∧ ns.length ≤ 1000000000 ∧ ParOk ns ∧ 0 ≤ k ∧ k < (ns.length : Nat)), .int .i64 (adbV (ns, k, s)), hpN ns)
  | none => none
 | _, _ => none
def A36 : Table := ext A35 127 saysAdbS
theorem a36 : TS9 A36 := by
 refine ext_ro (ext_only a26 a35) a35 fun args H p r H' hs hp => ?_
 unfold saysAdbS at hs
 split at hs
 ·split at hs
  ·rename_i k s _ _ _ _ _ ns _
   cases hs
   obtain ⟨ha, hH, h0, h1, h2, h3, h4⟩ := hp
   refine ⟨ndT, ndC, ns, 0, eaNIS (ns, k, s), hH, rfl, h0, ?_, saysG_at (daNIS_at _) ⟨h1, h2, h3, h4⟩, trivial⟩
   rw [ha]
   exact .cons .sl (.cons (.p _) (.cons (.p _) .nil))
  ·cases hs
 ·cases hs
def saysEndS : Says := fun args H => match args, H with
 | [.c (.sl _ _ _ _), .c (.p (.v (.int .i64 k)))], [.arr _ c0 ns _] => match castD (e := ndC) (e' := c0) ns with
  | some ns => some (some (args = [.c (.sl 0 ndC 0 ns.length), .c (.int .i64 k)] ∧ H = hpN ns ∧ 0 < ns.length ∧ ns.length ≤ 1000000000), .int .i64 (skV (behB ns k) ns.length : Nat), hpN ns)
  | none => none
 | _, _ => none
def A37 : Table := ext A36 128 saysEndS
theorem a37 : TS9 A37 := by
 refine ext_ro (ext_only a29 a36) a36 fun args H p r H' hs hp => ?_
 unfold saysEndS at hs
 split at hs
 ·split at hs
  ·rename_i k _ _ _ _ _ ns _
   cases hs
   obtain ⟨ha, hH, h0, h1⟩ := hp
   refine ⟨ndT, ndC, ns, 0, eaNI (ns, k), hH, rfl, h0, ?_, saysG_at (daNI_at _) h1, trivial⟩
   rw [ha]
   exact .cons .sl (.cons (.p _) .nil)
  ·cases hs
 ·cases hs
end Go.Ab
