/- Package tree: the order of a walk, twins, depth, Check. -/
import Derived.Test.YtnlifjljmbfomaaGreatTX0toY61
namespace Go.Ab
open Go.Proofs
set_option linter.unusedSectionVars false
set_option maxRecDepth 100000
variable [Base]
def paI (ns : List Nd) (j : Nat) : Int := (ndAt ns j).1
def ParOk (ns : List Nd) : Prop := ∀ i, 0 < i → i < ns.length → 0 ≤ paI ns i ∧ paI ns i < (i : Int)
def paN (ns : List Nd) (j : Nat) : Nat := (paI ns j).toNat
theorem par_lt {ns : List Nd} (h : ParOk ns) {j : Nat} (h0 : 0 < j) (hj : j < ns.length) : paN ns j < j ∧ ((paN ns j : Nat) : Int) = (ndAt ns j).1 := by
 have := h j h0 hj
 unfold paN
 refine ⟨by omega, ?_⟩
 show (((paI ns j).toNat : Nat) : Int) = paI ns j
 omega
theorem nd_at {ns : List Nd} (i : Nat) : ns.getD ((i : Int)).toNat ndC.dflt = ndAt ns i := rfl
def flwGo (ns : List Nd) (n : Nd) : Nat → Nat → Bool
 | 0, _ => false
 | k + 1, j => if j = 0 then false else if (ndAt ns j).1 = n.1 then bLe (ndAt ns j).2.1 n.2.1 else flwGo ns n k (paN ns j)
def flwV (ns : List Nd) (i : Nat) : Bool := if (ndAt ns i).1 = (i : Int) - 1 then true else flwGo ns (ndAt ns i) i (i - 1)
def A8 : Table := ext A7 110 (saysG daNI eaNI fun a => (some (a.1.length ≤ 1000000000 ∧ ParOk a.1 ∧ 0 < a.2 ∧ a.2 < (a.1.length : Nat)), .bool (flwV a.1 a.2.toNat)))
theorem a8 : TS9 A8 := by
 refine extG a7 110 (fn := Tryz.f110) rfl rfl daNI eaNI _ (fun _ => nB9 rfl) [0, 1, 4, 5, 6, 15, 19, 32] fun a hok => ?_
 obtain ⟨ns, i⟩ := a
 obtain ⟨hlen, hpar, hi0, hi1⟩ : ns.length ≤ 1000000000 ∧ ParOk ns ∧ 0 < i ∧ i < (ns.length : Nat) := hok
 obtain ⟨i, rfl⟩ : ∃ k : Nat, i = k := ⟨i.toNat, by omega⟩
 have hin : 0 ≤ (i : Int) ∧ (i : Int) < (ns.length : Nat) := by omega
 dsimp only
 rw [Int.toNat_natCast]
 unfold flwV
 repeat ((conv => whnf); refine ⟨by first | exact hin | (unfold inI64; omega) | omega | exact ⟨by omega, by omega⟩ | exact rfl | decide +kernel, ?_⟩)
 conv => whnf
 rw [nd_at]
 refine cI9 ?_ ?_<;>intro h
 ·have h1 : (ndAt ns i).1 = (i : Int) - 1 := oT9 h
  rw [if_pos h1]
  repeat ((conv => whnf); refine ⟨by first | (unfold inI64; omega) | omega | exact ⟨by omega, by omega⟩ | exact rfl | decide +kernel, ?_⟩)
  conv => whnf
  exact eR9
 have h1 : ¬ (ndAt ns i).1 = (i : Int) - 1 := oF9 h
 rw [if_neg h1]
 obtain ⟨nd, hnd⟩ : ∃ nd, nd = ndAt ns i := ⟨_, rfl⟩
 rw [← hnd]
 repeat ((conv => whnf); refine ⟨by first | (unfold inI64; omega) | omega | exact ⟨by omega, by omega⟩ | exact rfl | decide +kernel, ?_⟩)
 conv => whnf
 refine lI9 (σ := Nat × Nat) (fun ⟨_, j⟩ => [(0, XV.s (.a (.c (.p (.l ndC ns))))), (1, nX9), (4, nX9), (5, XV.s (.a (.c (.ptr 0 0)))), (6, XV.s (.int .i64 (j : Nat))), (15, nX9), (19, nX9), (32, nX9)])
  (fun _ => [.row [.int .i64 nd.1, .str nd.2.1, .p (.l ptC nd.2.2)]]) (fun ⟨k, j⟩ => j < k ∧ j < ns.length ∧ flwGo ns nd i (i - 1) = flwGo ns nd k j) (fun ⟨_, j⟩ => j) (i, i - 1) ?_ rfl ⟨by omega, by omega, rfl⟩ ?_
 ·have e : ((i - 1 : Nat) : Int) = (i : Int) - 1 := by omega
  dsimp only
  rw [e]
  repeat first|exact lN9|refine lD9 ?_|refine lS9 ?_
 rintro ⟨k, j⟩ ⟨hjk, hjl, hgo⟩
 obtain ⟨k, rfl⟩ : ∃ m, k = m + 1 := ⟨k - 1, by omega⟩
 repeat ((conv => whnf); refine ⟨by first | (unfold inI64; omega) | omega | exact ⟨by omega, by omega⟩ | exact rfl | decide +kernel, ?_⟩)
 conv => whnf
 refine cI9 ?_ ?_<;>intro h2
 ·have hj0 : 0 < j := by
   have : (0 : Int) < (j : Nat) := oT9 h2
   omega
  have hjn : 0 ≤ (j : Int) ∧ (j : Int) < (ns.length : Nat) := by omega
  have e : flwGo ns nd (k + 1) j = if (ndAt ns j).1 = nd.1 then bLe (ndAt ns j).2.1 nd.2.1 else flwGo ns nd k (paN ns j) := by
   show (if j = 0 then false else _) = _
   rw [if_neg (by omega)]
  rw [e] at hgo
  repeat ((conv => whnf); refine ⟨by first | exact hjn | (unfold inI64; omega) | omega | exact ⟨by omega, by omega⟩ | exact rfl | decide +kernel, ?_⟩)
  conv => whnf
  rw [nd_at]
  refine cI9 ?_ ?_<;>intro h3
  ·have h4 : (ndAt ns j).1 = nd.1 := oT9 h3
   rw [if_pos h4] at hgo
   repeat ((conv => whnf); refine ⟨by first | exact hjn | (unfold inI64; omega) | omega | exact ⟨by omega, by omega⟩ | exact rfl | decide +kernel, ?_⟩)
   conv => whnf
   refine eT9 ?_
   rw [hgo]
   rfl
  have h4 : ¬ (ndAt ns j).1 = nd.1 := oF9 h3
  rw [if_neg h4] at hgo
  repeat ((conv => whnf); refine ⟨by first | exact hjn | (unfold inI64; omega) | omega | exact ⟨by omega, by omega⟩ | exact rfl | decide +kernel, ?_⟩)
  conv => whnf
  obtain ⟨hp1, hp2⟩ := par_lt hpar hj0 hjl
  refine hI9 (k, paN ns j) ?_ rfl ⟨by omega, by omega, hgo⟩ hp1
  dsimp only
  rw [hp2]
  repeat first|exact lN9|refine lD9 ?_|refine lS9 ?_
 ·have hj0 : j = 0 := by
   have : ¬ (0 : Int) < (j : Nat) := oF9 h2
   omega
  subst hj0
  repeat ((conv => whnf); refine ⟨by first | (unfold inI64; omega) | omega | exact ⟨by omega, by omega⟩ | exact rfl | decide +kernel, ?_⟩)
  conv => whnf
  refine eT9 ?_
  rw [hgo]
  rfl
def ordAt (ns : List Nd) (i : Nat) : Bool := !((decide (0 < (i : Int)) && !flwV ns i) || !ascV (ndAt ns i).2.2)
def ordGo (ns : List Nd) : Nat → Nat → Bool
 | 0, _ => true
 | m + 1, i => ordAt ns i && ordGo ns m (i + 1)
def ordV (ns : List Nd) : Bool := ordGo ns ns.length 0
def A9 : Table := ext A8 58 (saysG daN eaN fun ns => (some (LenN ns ∧ ParOk ns), .bool (ordV ns)))
theorem a9 : TS9 A9 := by
 refine extG a8 58 (fn := Tryz.f58) rfl rfl daN eaN _ (fun _ => nB9 rfl) [0, 2, 3, 4, 5, 6, 7, 8, 25] fun ns hok => ?_
 obtain ⟨hl, hpar⟩ : LenN ns ∧ ParOk ns := hok
 have hlen := hl.len
 dsimp only
 unfold ordV
 repeat ((conv => whnf); refine ⟨by first | (unfold inI64; omega) | omega | exact ⟨by omega, by omega⟩ | exact rfl | decide +kernel, ?_⟩)
 conv => whnf
 refine lI9 (σ := Nat × Nat) (fun ⟨_, i⟩ => [(0, XV.s (.a (.c (.p (.l ndC ns))))), (2, nX9), (3, nX9), (4, nX9), (5, XV.s (.a (.c (.p (.l ndC ns))))), (6, XV.s (.int .i64 (ns.length : Nat))), (7, XV.s (.int .i64 (i : Nat))), (8, nX9), (25, nX9)])
  (fun _ => []) (fun ⟨m, i⟩ => i + m = ns.length ∧ ordGo ns ns.length 0 = ordGo ns m i) (fun ⟨m, _⟩ => m) (ns.length, 0) ?_ rfl ⟨Nat.zero_add _, rfl⟩ ?_
 ·repeat first|exact lN9|refine lD9 ?_|refine lS9 ?_
 rintro ⟨m, i⟩ ⟨him, hgo⟩
 repeat ((conv => whnf); refine ⟨by first | (unfold inI64; omega) | omega | exact ⟨by omega, by omega⟩ | exact rfl | decide +kernel, ?_⟩)
 conv => whnf
 refine cI9 ?_ ?_<;>intro h2
 ·have hlt := lt_of_dec h2
  obtain ⟨m, rfl⟩ : ∃ q, m = q + 1 := ⟨m - 1, by omega⟩
  have hin : 0 ≤ (i : Int) ∧ (i : Int) < (ns.length : Nat) := by omega
  have hpl : (ndAt ns i).2.2.length ≤ 1000000000 := by
   have := hl.at hlt
   rw [← nd_get hlt] at this
   exact this
  have e : ordGo ns (m + 1) i = (ordAt ns i && ordGo ns m (i + 1)) := rfl
  rw [e] at hgo
  have hf : lit true (decide (0 < (i : Int))) = true → ([AV.c (.p (.l ndC ns)), AV.c (.int .i64 (i : Nat))] = eaNI (ns, (i : Int)) ∧ holdsO (some (ns.length ≤ 1000000000 ∧ ParOk ns ∧ 0 < (i : Int) ∧ (i : Int) < (ns.length : Nat)))) := fun h => by
   refine ⟨rfl, hlen, hpar, ?_, hin.2⟩
   simpa [lit] using h
  repeat ((conv => whnf); refine ⟨by first | exact hin | exact hf | exact fun _ => ⟨rfl, hpl⟩ | (unfold inI64; omega) | omega | exact ⟨by omega, by omega⟩ | exact rfl | decide +kernel, ?_⟩)
  conv => whnf
  refine cI9 ?_ ?_<;>intro h3
  ·have h4 : ordAt ns i = false := by
    have h5 : ((decide (0 < (i : Int)) && !flwV ns i) || !ascV (ndAt ns i).2.2) = true := h3
    unfold ordAt
    rw [h5]
    rfl
   rw [h4] at hgo
   repeat ((conv => whnf); refine ⟨by first | (unfold inI64; omega) | omega | exact ⟨by omega, by omega⟩ | exact rfl | decide +kernel, ?_⟩)
   conv => whnf
   refine eT9 ?_
   rw [hgo]
   rfl
  have h4 : ordAt ns i = true := by
   have h5 : ((decide (0 < (i : Int)) && !flwV ns i) || !ascV (ndAt ns i).2.2) = false := h3
   unfold ordAt
   rw [h5]
   rfl
  rw [h4, Bool.true_and] at hgo
  repeat ((conv => whnf); refine ⟨by first | (unfold inI64; omega) | omega | exact ⟨by omega, by omega⟩ | exact rfl | decide +kernel, ?_⟩)
  conv => whnf
  refine kI9 (m, i + 1) [] rfl (nK9) rfl ?_ ⟨by omega, hgo⟩ (nS9 m)
  repeat first|exact kN9|refine kD9 ?_|refine kR9 rfl ?_
 ·have hge := ge_of_dec h2
  obtain rfl : m = 0 := by omega
  repeat ((conv => whnf); refine ⟨by first | (unfold inI64; omega) | omega | exact ⟨by omega, by omega⟩ | exact rfl | decide +kernel, ?_⟩)
  conv => whnf
  refine eT9 ?_
  rw [hgo]
  rfl
abbrev kyC : CT := .pair (.int .i64) .str
abbrev twE : Type := List (kyC.den × CT.bool.den)
def twGo : twE → List Nd → Bool
 | _, [] => false
 | es, n :: r => if (findE (k := kyC) (v := .bool) es (n.1, n.2.1)).getD false = true then true else twGo (setE (k := kyC) (v := .bool) (n.1, n.2.1) true es) r
def twV (ns : List Nd) : Bool := twGo [] ns
theorem tw_drop {ns : List Nd} {es : twE} {i : Nat} (h : i < ns.length) : twGo es (ns.drop i) = if (findE (k := kyC) (v := .bool) es ((ns[i]).1, (ns[i]).2.1)).getD false = true then true else twGo (setE (k := kyC) (v := .bool) ((ns[i]).1, (ns[i]).2.1) true es) (ns.drop (i + 1)) := by
 rw [List.drop_eq_getElem_cons h]
 rfl
def A10 : Table := ext A9 59 (saysG daN eaN fun ns => (some (ns.length ≤ 1000000000), .bool (twV ns)))
theorem a10 : TS9 A10 := by
 refine extG a9 59 (fn := Tryz.f59) rfl rfl daN eaN _ (fun _ => nB9 rfl) [0, 2, 3, 5, 6, 8, 9, 10, 11, 21] fun ns hok => ?_
 have hlen : ns.length ≤ 1000000000 := hok
 dsimp only
 unfold twV
 repeat ((conv => whnf); refine ⟨by first | (unfold inI64; omega) | omega | exact ⟨by omega, by omega⟩ | exact rfl | decide +kernel, ?_⟩)
 conv => whnf
 refine lI9 (σ := Nat × twE) (fun ⟨i, _⟩ => [(0, nX9), (2, nX9), (3, XV.s (.a (.c (.mp 0)))), (5, nX9), (6, nX9), (8, XV.s (.a (.c (.p (.l ndC ns))))), (9, XV.s (.int .i64 (ns.length : Nat))), (10, XV.s (.int .i64 (i : Nat))), (11, nX9), (21, nX9)])
  (fun ⟨_, es⟩ => [.map kyC .bool es]) (fun ⟨i, es⟩ => i ≤ ns.length ∧ twGo [] ns = twGo es (ns.drop i)) (fun ⟨i, _⟩ => ns.length - i) (0, []) ?_ rfl ⟨nZ9 _, rfl⟩ ?_
 ·repeat first|exact lN9|refine lD9 ?_|refine lS9 ?_
 rintro ⟨i, es⟩ ⟨hi, hall⟩
 repeat ((conv => whnf); refine ⟨by first | (unfold inI64; omega) | omega | exact ⟨by omega, by omega⟩ | exact rfl | decide +kernel, ?_⟩)
 conv => whnf
 refine cI9 ?_ ?_<;>intro h2
 ·have hlt := lt_of_dec h2
  have hin : 0 ≤ (i : Int) ∧ (i : Int) < (ns.length : Nat) := by omega
  rw [tw_drop hlt] at hall
  have hg := nd_get hlt
  repeat ((conv => whnf); refine ⟨by first | exact hin | (unfold inI64; omega) | omega | exact ⟨by omega, by omega⟩ | exact rfl | decide +kernel, ?_⟩)
  conv => whnf
  generalize hnd : ns.getD ((i : Int)).toNat ndC.dflt = nd at hg ⊢
  rw [← hg] at hall
  refine cI9 ?_ ?_<;>intro h3
  ·have h4 : (findE (k := kyC) (v := .bool) es (nd.1, nd.2.1)).getD false = true := h3
   rw [if_pos h4] at hall
   rw [hall]
   repeat ((conv => whnf); refine ⟨by first | (unfold inI64; omega) | omega | exact ⟨by omega, by omega⟩ | exact rfl | decide +kernel, ?_⟩)
   conv => whnf
   exact eR9
  have h4 : ¬ (findE (k := kyC) (v := .bool) es (nd.1, nd.2.1)).getD false = true := by
   have h5 : (findE (k := kyC) (v := .bool) es (nd.1, nd.2.1)).getD false = false := h3
   rw [h5]; simp
  rw [if_neg h4] at hall
  repeat ((conv => whnf); refine ⟨by first | (unfold inI64; omega) | omega | exact ⟨by omega, by omega⟩ | exact rfl | decide +kernel, ?_⟩)
  conv => whnf
  refine kI9 (i + 1, setE (k := kyC) (v := .bool) (nd.1, nd.2.1) true es) [0] rfl id0 rfl ?_ ⟨hlt, hall⟩ ?_
  ·repeat first|exact kN9|refine kD9 ?_|refine kR9 rfl ?_
  ·show ns.length - (i + 1) < ns.length - i
   omega
 ·have : i = ns.length := by have := ge_of_dec h2; omega
  subst this
  rw [List.drop_length] at hall
  rw [hall]
  repeat ((conv => whnf); refine ⟨by first | (unfold inI64; omega) | omega | exact ⟨by omega, by omega⟩ | exact rfl | decide +kernel, ?_⟩)
  conv => whnf
  exact eR9
def dpGo (ns : List Nd) : Nat → Nat → Nat
 | 0, _ => 0
 | k + 1, j => if j = 0 then 0 else dpGo ns k (paN ns j) + 1
def dpV (ns : List Nd) (j : Nat) : Nat := dpGo ns (j + 1) j
theorem dp_le (ns : List Nd) : ∀ k j, dpGo ns k j ≤ k := by
 intro k
 induction k with
 | zero => intro j; exact nR9 _
 | succ k ih =>
  intro j
  unfold dpGo
  split
  ·exact nZ9 _
  ·have := ih (paN ns j)
   omega
def A11 : Table := ext A10 114 (saysG daNI eaNI fun a => (some (a.1.length ≤ 1000000000 ∧ ParOk a.1 ∧ 0 ≤ a.2 ∧ a.2 < (a.1.length : Nat)), .int .i64 (dpV a.1 a.2.toNat : Nat)))
theorem a11 : TS9 A11 := by
 refine extG a10 114 (fn := Tryz.f114) rfl rfl daNI eaNI _ (fun _ => nB9 rfl) [0, 1, 4, 5, 7] fun a hok => ?_
 obtain ⟨ns, i⟩ := a
 obtain ⟨hlen, hpar, hi0, hi1⟩ : ns.length ≤ 1000000000 ∧ ParOk ns ∧ 0 ≤ i ∧ i < (ns.length : Nat) := hok
 obtain ⟨i, rfl⟩ : ∃ k : Nat, i = k := ⟨i.toNat, by omega⟩
 dsimp only
 rw [Int.toNat_natCast]
 unfold dpV
 have hb := dp_le ns (i + 1) i
 repeat ((conv => whnf); refine ⟨by first | (unfold inI64; omega) | omega | exact ⟨by omega, by omega⟩ | exact rfl | decide +kernel, ?_⟩)
 conv => whnf
 refine lI9 (σ := Nat × Nat × Nat) (fun ⟨_, j, d⟩ => [(0, XV.s (.a (.c (.p (.l ndC ns))))), (1, XV.s (.int .i64 (j : Nat))), (4, nX9), (5, XV.s (.int .i64 (d : Nat))), (7, nX9)])
  (fun _ => []) (fun ⟨k, j, d⟩ => j < k ∧ j < ns.length ∧ d ≤ 1000000001 ∧ d + dpGo ns k j = dpGo ns (i + 1) i) (fun ⟨_, j, _⟩ => j) (i + 1, i, 0) ?_ rfl ⟨by omega, by omega, by omega, Nat.zero_add _⟩ ?_
 ·repeat first|exact lN9|refine lD9 ?_|refine lS9 ?_
 rintro ⟨k, j, d⟩ ⟨hjk, hjl, hd, hgo⟩
 obtain ⟨k, rfl⟩ : ∃ m, k = m + 1 := ⟨k - 1, by omega⟩
 repeat ((conv => whnf); refine ⟨by first | (unfold inI64; omega) | omega | exact ⟨by omega, by omega⟩ | exact rfl | decide +kernel, ?_⟩)
 conv => whnf
 refine cI9 ?_ ?_<;>intro h2
 ·have hj0 : 0 < j := by
   have : (0 : Int) < (j : Nat) := oT9 h2
   omega
  have hjn : 0 ≤ (j : Int) ∧ (j : Int) < (ns.length : Nat) := by omega
  have e : dpGo ns (k + 1) j = dpGo ns k (paN ns j) + 1 := by
   show (if j = 0 then 0 else _) = _
   rw [if_neg (by omega)]
  rw [e] at hgo
  repeat ((conv => whnf); refine ⟨by first | exact hjn | (unfold inI64; omega) | omega | exact ⟨by omega, by omega⟩ | exact rfl | decide +kernel, ?_⟩)
  conv => whnf
  obtain ⟨hp1, hp2⟩ := par_lt hpar hj0 hjl
  refine hI9 (k, paN ns j, d + 1) ?_ rfl ⟨by omega, by omega, by omega, by omega⟩ hp1
  dsimp only
  rw [hp2]
  repeat first|exact lN9|refine lD9 ?_|refine lS9 ?_
 ·have hj0 : j = 0 := by
   have : ¬ (0 : Int) < (j : Nat) := oF9 h2
   omega
  subst hj0
  have e : dpGo ns (k + 1) 0 = 0 := rfl
  rw [e] at hgo
  repeat ((conv => whnf); refine ⟨by first | (unfold inI64; omega) | omega | exact ⟨by omega, by omega⟩ | exact rfl | decide +kernel, ?_⟩)
  conv => whnf
  refine eT9 ?_
  rw [← hgo]
  rfl
def skGo (p : Nat → Bool) : Nat → Nat → Nat
 | 0, i => i
 | m + 1, i => if p i = true then i else skGo p m (i + 1)
def skV (p : Nat → Bool) (n : Nat) : Nat := skGo p n 0
theorem skGo_le (p : Nat → Bool) : ∀ m i, i ≤ skGo p m i ∧ skGo p m i ≤ i + m := by
 intro m
 induction m with
 | zero => intro i; exact ⟨nR9 _, nR9 _⟩
 | succ m ih =>
  intro i
  unfold skGo
  split
  ·exact ⟨nR9 _, by omega⟩
  ·have := ih (i + 1)
   omega
theorem skV_le (p : Nat → Bool) (n : Nat) : skV p n ≤ n := by
 have := (skGo_le p n 0).2
 unfold skV
 omega
def daR1 : List AO → Option (List Nd)
 | [.row [.p (.l c0 ns)]] => castD (e := ndC) (e' := c0) ns
 | _ => none
def deepB (ns : List Nd) (i : Nat) : Bool := decide ((8 : Int) < (dpV ns i : Nat))
def saysDeep1 : Says := fun args H => match args, daR1 H with
 | [.c (.p (.v (.int .i64 i))), .c (.ptr 0 0)], some ns => some (some (H = [.row [.p (.l ndC ns)]] ∧ ns.length ≤ 1000000000 ∧ ParOk ns ∧ 0 ≤ i ∧ i < (ns.length : Nat)), .bool (deepB ns i.toNat), [.row [.p (.l ndC ns)]])
 | _, _ => none
def A12 : Table := ext A11 113 saysDeep1
theorem a12 : TS9 A12 := by
 refine ext_run a11 (f := 113) (fn := Tryz.f113) rfl rfl [0, 1, 3] fun args H p r' H' hs hp => ?_
 unfold saysDeep1 at hs
 split at hs
 ·rename_i i ns _
  cases hs
  obtain ⟨rfl, h1, h2, h3, h4⟩ := hp
  refine ⟨nB9 rfl, [0], rfl, id0, ?_⟩
  repeat ((conv => whnf); refine ⟨by first | exact ⟨rfl, h1, h2, h3, h4⟩ | (unfold inI64; omega) | omega | exact ⟨by omega, by omega⟩ | exact rfl | decide +kernel, ?_⟩)
  conv => whnf
  exact eR9
 ·cases hs
def saysSkD : Says := fun args H => match args, daR1 H with
 | [.c (.p (.l c0 ns)), .c (.clo _ _ _)], some _ => match castD (e := ndC) (e' := c0) ns with
  | some ns => some (some (args = [.c (.p (.l ndC ns)), .c (.clo false 113 [0])] ∧ H = [.row [.p (.l ndC ns)]] ∧ ns.length ≤ 1000000000 ∧ ParOk ns), .int .i64 (skV (deepB ns) ns.length : Nat), [.row [.p (.l ndC ns)]])
  | none => none
 | _, _ => none
def A13 : Table := ext A12 112 saysSkD
theorem a13 : TS9 A13 := by
 refine ext_run a12 (f := 112) (fn := Tryz.f112) rfl rfl [0, 1, 4, 5, 7, 8, 9, 13] fun args H p r' H' hs hp => ?_
 unfold saysSkD at hs
 split at hs
 ·split at hs
  ·rename_i ns0 _ _ _ _ _ _ _ ns _
   cases hs
   obtain ⟨ha, hH, h1, h2⟩ := hp
   rw [ha, hH]
   refine ⟨nB9 rfl, [0], rfl, id0, ?_⟩
   repeat ((conv => whnf); refine ⟨by first | (unfold inI64; omega) | omega | exact ⟨by omega, by omega⟩ | exact rfl | decide +kernel, ?_⟩)
   conv => whnf
   refine lI9 (σ := Nat × Nat) (fun ⟨_, i⟩ => [(0, XV.s (.a (.c (.p (.l ndC ns))))), (1, XV.s (.a (.c (.clo false 113 [0])))), (4, nX9), (5, nX9), (7, XV.s (.int .i64 (ns.length : Nat))), (8, XV.s (.int .i64 (i : Nat))), (9, nX9), (13, nX9)])
    (fun _ => [.row [.p (.l ndC ns)]]) (fun ⟨m, i⟩ => i + m = ns.length ∧ skV (deepB ns) ns.length = skGo (deepB ns) m i) (fun ⟨m, _⟩ => m) (ns.length, 0) ?_ rfl ⟨Nat.zero_add _, rfl⟩ ?_
   ·repeat first|exact lN9|refine lD9 ?_|refine lS9 ?_
   rintro ⟨m, i⟩ ⟨him, hgo⟩
   repeat ((conv => whnf); refine ⟨by first | (unfold inI64; omega) | omega | exact ⟨by omega, by omega⟩ | exact rfl | decide +kernel, ?_⟩)
   conv => whnf
   refine cI9 ?_ ?_<;>intro h3
   ·have hlt := lt_of_dec h3
    obtain ⟨m, rfl⟩ : ∃ q, m = q + 1 := ⟨m - 1, by omega⟩
    have hin : 0 ≤ (i : Int) ∧ (i : Int) < (ns.length : Nat) := by omega
    have e : skGo (deepB ns) (m + 1) i = if deepB ns i = true then i else skGo (deepB ns) m (i + 1) := rfl
    rw [e] at hgo
    repeat ((conv => whnf); refine ⟨by first | exact ⟨rfl, h1, h2, hin.1, hin.2⟩ | (unfold inI64; omega) | omega | exact ⟨by omega, by omega⟩ | exact rfl | decide +kernel, ?_⟩)
    conv => whnf
    refine cI9 ?_ ?_<;>intro h4
    ·have h5 : deepB ns i = true := h4
     rw [if_pos h5] at hgo
     repeat ((conv => whnf); refine ⟨by first | (unfold inI64; omega) | omega | exact ⟨by omega, by omega⟩ | exact rfl | decide +kernel, ?_⟩)
     conv => whnf
     rw [hgo]
     exact eR9
    have h5 : ¬ deepB ns i = true := by
     have h6 : deepB ns i = false := h4
     rw [h6]; simp
    rw [if_neg h5] at hgo
    repeat ((conv => whnf); refine ⟨by first | (unfold inI64; omega) | omega | exact ⟨by omega, by omega⟩ | exact rfl | decide +kernel, ?_⟩)
    conv => whnf
    refine hI9 (m, i + 1) ?_ rfl ⟨by omega, hgo⟩ (nS9 m)
    repeat first|exact lN9|refine lD9 ?_|refine lS9 ?_
   ·have hge := ge_of_dec h3
    obtain rfl : m = 0 := by omega
    obtain rfl : i = ns.length := by omega
    repeat ((conv => whnf); refine ⟨by first | (unfold inI64; omega) | omega | exact ⟨by omega, by omega⟩ | exact rfl | decide +kernel, ?_⟩)
    conv => whnf
    rw [hgo]
    exact eR9
  ·cases hs
 ·cases hs
def deepV (ns : List Nd) : Bool := decide (((skV (deepB ns) ns.length : Nat) : Int) < (ns.length : Nat))
def A14 : Table := ext A13 60 (saysG daN eaN fun ns => (some (ns.length ≤ 1000000000 ∧ ParOk ns), .bool (deepV ns)))
theorem a14 : TS9 A14 := by
 refine extG a13 60 (fn := Tryz.f60) rfl rfl daN eaN _ (fun _ => nB9 rfl) [0, 1, 2] fun ns hok => ?_
 obtain ⟨h1, h2⟩ : ns.length ≤ 1000000000 ∧ ParOk ns := hok
 repeat ((conv => whnf); refine ⟨by first | exact ⟨rfl, rfl, h1, h2⟩ | ((conv => whnf); exact ⟨⟨rfl, rfl, rfl⟩, trivial⟩) | exact Early.one (by decide +kernel) (by (conv => whnf); exact ⟨rfl, rfl, rfl⟩) trivial | (unfold inI64; omega) | omega | exact ⟨by omega, by omega⟩ | exact rfl | decide +kernel, ?_⟩)
 conv => whnf
 exact eR9
end Go.Ab
