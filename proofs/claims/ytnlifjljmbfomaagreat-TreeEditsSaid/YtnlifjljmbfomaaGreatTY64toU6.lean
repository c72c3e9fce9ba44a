/- Package tree: Check, paths, Find, Children. -/
import Derived.Test.YtnlifjljmbfomaaGreatTY62toY63
import Derived.Test.YtnlifjljmbfomaaGreatTX0toY61
import Derived.Shelf.SlicesE.Clone
namespace Go.Ab
open Go.Proofs
set_option linter.unusedSectionVars false
set_option maxRecDepth 100000
variable [Base]
theorem lim_len {ns : List Nd} (h : limV ns = true) : LenN ns ∧ 0 < ns.length ∧ ns.length ≤ 120 := by
 unfold limV at h
 simp only [Bool.and_eq_true, Bool.not_eq_true', decide_eq_false_iff_not, decide_eq_true_eq, List.all_eq_true] at h
 obtain ⟨⟨h1, h2⟩, h3⟩ := h
 refine ⟨⟨by omega, fun n hn => ?_⟩, by omega, h2⟩
 have h4 := h3 n hn
 unfold ndLim at h4
 simp only [Bool.and_eq_true, decide_eq_true_eq] at h4
 omega
theorem frm_at : ∀ (l : List Nd) (i : Nat), frmGo i l = true → ∀ k (hk : k < l.length), ndFrm (i + k) l[k] = true := by
 intro l
 induction l with
 | nil => intro i _ k hk; exact absurd hk (nN9 k)
 | cons n r ih =>
  intro i h k hk
  obtain ⟨h1, h2⟩ := bA9.1 h
  cases k with
  | zero => exact h1
  | succ k =>
   have := ih (i + 1) h2 k (by simpa using hk)
   rw [show i + 1 + k = i + (k + 1) by omega] at this
   exact this
theorem frm_nd {ns : List Nd} (h : frmV ns = true) {i : Nat} (hi : i < ns.length) : ndFrm i (ndAt ns i) = true := by
 have := frm_at ns 0 h i hi
 rw [Nat.zero_add] at this
 have e : ndAt ns i = ns[i] := by unfold ndAt; simp [hi]
 rw [e]
 exact this
theorem frm_par {ns : List Nd} (h : frmV ns = true) : ParOk ns := by
 intro i h0 hi
 have h1 := frm_nd h hi
 unfold ndFrm at h1
 obtain ⟨h2, _⟩ := bA9.1 h1
 obtain ⟨_, h3⟩ := bA9.1 h2
 have e : decide (0 < (i : Int)) = true := dT9 (by omega)
 rw [e, Bool.true_and, Bool.not_eq_true'] at h3
 obtain ⟨h4, _⟩ := Bool.or_eq_false_iff.1 h3
 obtain ⟨h5, h6⟩ := Bool.or_eq_false_iff.1 h4
 have h5 : ¬ paI ns i < 0 := oF9 h5
 have h6 : ¬ (i : Int) ≤ paI ns i := oF9 h6
 omega
theorem frm_nam {ns : List Nd} (h : frmV ns = true) {i : Nat} (h0 : 0 < i) (hi : i < ns.length) : namB (ndAt ns i).2.1 = true := by
 have h1 := frm_nd h hi
 unfold ndFrm at h1
 obtain ⟨h2, _⟩ := bA9.1 h1
 obtain ⟨_, h3⟩ := bA9.1 h2
 have e : decide (0 < (i : Int)) = true := dT9 (by omega)
 rw [e, Bool.true_and, Bool.not_eq_true'] at h3
 simpa using (Bool.or_eq_false_iff.1 h3).2
theorem nam_size {s : ByteArray} (h : namB s = true) : s.size ≤ 31 := by
 unfold namB consB at h
 simp only [Bool.and_eq_true, decide_eq_true_eq] at h
 omega
def chkP (ns : List Nd) : Int := if limV ns = false then 3 else if frmV ns = false then 1 else if ordV ns = false then 12 else if twV ns = true then 5 else if deepV ns = true then 2 else 0
theorem not_b {b : Bool} (h : (!b) = true) : b = false := by simpa using h
theorem not_f {b : Bool} (h : (!b) = false) : b = true := by simpa using h
theorem ne_f {b : Bool} (h : b = true) : ¬ b = false := by rw [h]; simp
theorem ne_t {b : Bool} (h : b = false) : ¬ b = true := by rw [h]; simp
def A15 : Table := ext A14 13 (saysG daT eaT fun ns => (none, .int .i64 (chkP ns)))
theorem a15 : TS9 A15 := by
 refine extG a14 13 (fn := Tryz.f13) rfl rfl daT eaT _ (fun _ => nB9 rfl) [0, 1, 2, 3, 8, 13, 18, 22] fun ns _ => ?_
 dsimp only
 unfold chkP
 repeat ((conv => whnf); refine ⟨by first | exact ⟨rfl, trivial⟩ | (unfold inI64; omega) | omega | exact ⟨by omega, by omega⟩ | exact rfl | decide +kernel, ?_⟩)
 conv => whnf
 refine cI9 ?_ ?_<;>intro h1
 ·rw [if_pos (not_b h1)]
  repeat ((conv => whnf); refine ⟨by first | (unfold inI64; omega) | omega | exact ⟨by omega, by omega⟩ | exact rfl | decide +kernel, ?_⟩)
  conv => whnf
  exact eR9
 have h1 := not_f h1
 rw [if_neg (ne_f h1)]
 obtain ⟨hl, _, _⟩ := lim_len h1
 repeat ((conv => whnf); refine ⟨by first | exact ⟨rfl, hl⟩ | (unfold inI64; omega) | omega | exact ⟨by omega, by omega⟩ | exact rfl | decide +kernel, ?_⟩)
 conv => whnf
 refine cI9 ?_ ?_<;>intro h2
 ·rw [if_pos (not_b h2)]
  repeat ((conv => whnf); refine ⟨by first | (unfold inI64; omega) | omega | exact ⟨by omega, by omega⟩ | exact rfl | decide +kernel, ?_⟩)
  conv => whnf
  exact eR9
 have h2 := not_f h2
 rw [if_neg (ne_f h2)]
 have hp := frm_par h2
 repeat ((conv => whnf); refine ⟨by first | exact ⟨rfl, hl, hp⟩ | (unfold inI64; omega) | omega | exact ⟨by omega, by omega⟩ | exact rfl | decide +kernel, ?_⟩)
 conv => whnf
 refine cI9 ?_ ?_<;>intro h3
 ·rw [if_pos (not_b h3)]
  repeat ((conv => whnf); refine ⟨by first | (unfold inI64; omega) | omega | exact ⟨by omega, by omega⟩ | exact rfl | decide +kernel, ?_⟩)
  conv => whnf
  exact eR9
 have h3 := not_f h3
 rw [if_neg (ne_f h3)]
 have hlen := hl.len
 repeat ((conv => whnf); refine ⟨by first | exact ⟨rfl, hlen⟩ | (unfold inI64; omega) | omega | exact ⟨by omega, by omega⟩ | exact rfl | decide +kernel, ?_⟩)
 conv => whnf
 refine cI9 ?_ ?_<;>intro h4
 ·have h4 : twV ns = true := h4
  rw [if_pos h4]
  repeat ((conv => whnf); refine ⟨by first | (unfold inI64; omega) | omega | exact ⟨by omega, by omega⟩ | exact rfl | decide +kernel, ?_⟩)
  conv => whnf
  exact eR9
 have h4 : twV ns = false := h4
 rw [if_neg (ne_t h4)]
 repeat ((conv => whnf); refine ⟨by first | exact ⟨rfl, hlen, hp⟩ | (unfold inI64; omega) | omega | exact ⟨by omega, by omega⟩ | exact rfl | decide +kernel, ?_⟩)
 conv => whnf
 refine cI9 ?_ ?_<;>intro h5
 ·have h5 : deepV ns = true := h5
  rw [if_pos h5]
  repeat ((conv => whnf); refine ⟨by first | (unfold inI64; omega) | omega | exact ⟨by omega, by omega⟩ | exact rfl | decide +kernel, ?_⟩)
  conv => whnf
  exact eR9
 have h5 : deepV ns = false := h5
 rw [if_neg (ne_t h5)]
 repeat ((conv => whnf); refine ⟨by first | (unfold inI64; omega) | omega | exact ⟨by omega, by omega⟩ | exact rfl | decide +kernel, ?_⟩)
 conv => whnf
 exact eR9
structure VldT (ns : List Nd) : Prop where
 lim : limV ns = true
 frm : frmV ns = true
 ord : ordV ns = true
 tw : twV ns = false
 dp : deepV ns = false
theorem chk_vld {ns : List Nd} : chkP ns = 0 ↔ VldT ns := by
 unfold chkP
 constructor
 ·intro h
  by_cases h1 : limV ns = false; · rw [if_pos h1] at h; cases h
  rw [if_neg h1] at h
  by_cases h2 : frmV ns = false; · rw [if_pos h2] at h; cases h
  rw [if_neg h2] at h
  by_cases h3 : ordV ns = false; · rw [if_pos h3] at h; cases h
  rw [if_neg h3] at h
  by_cases h4 : twV ns = true; · rw [if_pos h4] at h; cases h
  rw [if_neg h4] at h
  by_cases h5 : deepV ns = true; · rw [if_pos h5] at h; cases h
  exact ⟨by simpa using h1, by simpa using h2, by simpa using h3, by simpa using h4, by simpa using h5⟩
 ·intro ⟨h1, h2, h3, h4, h5⟩
  rw [if_neg (ne_f h1), if_neg (ne_f h2), if_neg (ne_f h3), if_neg (ne_t h4), if_neg (ne_t h5)]
theorem VldT.len {ns : List Nd} (h : VldT ns) : 0 < ns.length ∧ ns.length ≤ 120 := (lim_len h.lim).2
theorem VldT.par {ns : List Nd} (h : VldT ns) : ParOk ns := frm_par h.frm
def hasB (a : List Nd × Int) : Bool := decide (0 ≤ a.2) && decide (a.2 < (a.1.length : Nat)) && decide (chkP a.1 = 0)
def A16 : Table := ext A15 69 (saysG daTI eaTI fun a => (none, .bool (hasB a)))
theorem a16 : TS9 A16 := by
 refine extG a15 69 (fn := Tryz.f69) rfl rfl daTI eaTI _ (fun _ => nB9 rfl) [0, 1, 2, 4] fun a _ => ?_
 obtain ⟨ns, i⟩ := a
 repeat ((conv => whnf); refine ⟨by first | exact fun _ => ⟨rfl, trivial⟩ | (unfold inI64; omega) | omega | exact ⟨by omega, by omega⟩ | exact rfl | decide +kernel, ?_⟩)
 conv => whnf
 exact eR9
def pathGo (ns : List Nd) : Nat → Nat → ByteArray → ByteArray
 | 0, _, s => s
 | k + 1, j, s => if j = 0 then s else pathGo ns k (paN ns j) (⟨#[47]⟩ ++ (ndAt ns j).2.1 ++ s)
def pathV (ns : List Nd) (i : Nat) : ByteArray := if i = 0 then ⟨#[47]⟩ else pathGo ns (i + 1) i ⟨#[]⟩
def A17 : Table := ext A16 70 (saysG daNI eaNI fun a => (some (VldT a.1 ∧ 0 ≤ a.2 ∧ a.2 < (a.1.length : Nat)), .str (pathV a.1 a.2.toNat)))
theorem a17 : TS9 A17 := by
 refine extG a16 70 (fn := Tryz.f70) rfl rfl daNI eaNI _ (fun _ => nB9 rfl) [0, 1, 4, 5, 7, 9] fun a hok => ?_
 obtain ⟨ns, i⟩ := a
 obtain ⟨hv, hi0, hi1⟩ : VldT ns ∧ 0 ≤ i ∧ i < (ns.length : Nat) := hok
 obtain ⟨i, rfl⟩ : ∃ k : Nat, i = k := ⟨i.toNat, by omega⟩
 have hlen := hv.len
 have hpar := hv.par
 dsimp only
 rw [Int.toNat_natCast]
 unfold pathV
 repeat ((conv => whnf); refine ⟨by first | (unfold inI64; omega) | omega | exact ⟨by omega, by omega⟩ | exact rfl | decide +kernel, ?_⟩)
 conv => whnf
 refine cI9 ?_ ?_<;>intro h
 ·have h1 : i = 0 := by
   have : (i : Int) = 0 := oT9 h
   omega
  rw [if_pos h1]
  repeat ((conv => whnf); refine ⟨by first | (unfold inI64; omega) | omega | exact ⟨by omega, by omega⟩ | exact rfl | decide +kernel, ?_⟩)
  conv => whnf
  exact eR9
 have h1 : ¬ i = 0 := by
  have : ¬ (i : Int) = 0 := oF9 h
  omega
 rw [if_neg h1]
 repeat ((conv => whnf); refine ⟨by first | (unfold inI64; omega) | omega | exact ⟨by omega, by omega⟩ | exact rfl | decide +kernel, ?_⟩)
 conv => whnf
 refine lI9 (σ := Nat × Nat × ByteArray) (fun ⟨_, j, s⟩ => [(0, XV.s (.a (.c (.p (.l ndC ns))))), (1, XV.s (.int .i64 (j : Nat))), (4, nX9), (5, XV.s (.str s)), (7, nX9), (9, nX9)])
  (fun _ => []) (fun ⟨k, j, s⟩ => j < k ∧ j < ns.length ∧ s.size + 32 * j ≤ 4000 ∧ pathGo ns (i + 1) i ⟨#[]⟩ = pathGo ns k j s) (fun ⟨_, j, _⟩ => j) (i + 1, i, ⟨#[]⟩) ?_ rfl ⟨by omega, by omega, by show 0 + 32 * i ≤ 4000; omega, rfl⟩ ?_
 ·repeat first|exact lN9|refine lD9 ?_|refine lS9 ?_
 rintro ⟨k, j, s⟩ ⟨hjk, hjl, hs, hgo⟩
 obtain ⟨k, rfl⟩ : ∃ m, k = m + 1 := ⟨k - 1, by omega⟩
 repeat ((conv => whnf); refine ⟨by first | (unfold inI64; omega) | omega | exact ⟨by omega, by omega⟩ | exact rfl | decide +kernel, ?_⟩)
 conv => whnf
 refine cI9 ?_ ?_<;>intro h2
 ·have hj0 : 0 < j := by
   have : (0 : Int) < (j : Nat) := oT9 h2
   omega
  have hjn : 0 ≤ (j : Int) ∧ (j : Int) < (ns.length : Nat) := by omega
  have e : pathGo ns (k + 1) j s = pathGo ns k (paN ns j) (⟨#[47]⟩ ++ (ndAt ns j).2.1 ++ s) := by
   show (if j = 0 then s else _) = _
   rw [if_neg (by omega)]
  rw [e] at hgo
  have hnm := nam_size (frm_nam hv.frm hj0 hjl)
  have c1 : (((⟨#[47]⟩ : ByteArray).size + (ndAt ns j).2.1.size : Nat) : Int) ≤ 9223372036854775807 := by
   show ((1 + (ndAt ns j).2.1.size : Nat) : Int) ≤ _
   omega
  have c2 : (((⟨#[47]⟩ ++ (ndAt ns j).2.1 : ByteArray).size + s.size : Nat) : Int) ≤ 9223372036854775807 := by
   rw [zA9]
   show ((1 + (ndAt ns j).2.1.size + s.size : Nat) : Int) ≤ _
   omega
  repeat ((conv => whnf); refine ⟨by first | exact hjn | exact c1 | exact c2 | (unfold inI64; omega) | omega | exact ⟨by omega, by omega⟩ | exact rfl | decide +kernel, ?_⟩)
  conv => whnf
  obtain ⟨hp1, hp2⟩ := par_lt hpar hj0 hjl
  refine hI9 (k, paN ns j, ⟨#[47]⟩ ++ (ndAt ns j).2.1 ++ s) ?_ rfl ⟨by omega, by omega, ?_, hgo⟩ hp1
  ·dsimp only
   rw [hp2]
   repeat first|exact lN9|refine lD9 ?_|refine lS9 ?_
  ·rw [zA9, zA9]
   show 1 + (ndAt ns j).2.1.size + s.size + 32 * paN ns j ≤ 4000
   omega
 ·have hj0 : j = 0 := by
   have : ¬ (0 : Int) < (j : Nat) := oF9 h2
   omega
  subst hj0
  have e : pathGo ns (k + 1) 0 s = s := rfl
  rw [e] at hgo
  repeat ((conv => whnf); refine ⟨by first | (unfold inI64; omega) | omega | exact ⟨by omega, by omega⟩ | exact rfl | decide +kernel, ?_⟩)
  conv => whnf
  rw [hgo]
  exact eR9
def daR2 : List AO → Option (List Nd × ByteArray)
 | [.row [.p (.l c0 ns)], .row [.p (.v (.string s))]] => match castD (e := ndC) (e' := c0) ns with | some ns => some (ns, s) | none => none
 | _ => none
abbrev hpR2 (ns : List Nd) (s : ByteArray) : List AO := [.row [.p (.l ndC ns)], .row [.str s]]
theorem id2 : ∀ k, k < 2 → [0, 1][k]? = some k := fun k hk => by
 have : k = 0 ∨ k = 1 := by omega
 rcases this with rfl | rfl <;> rfl
def isB (ns : List Nd) (s : ByteArray) (i : Nat) : Bool := decide (pathV ns i = s)
def saysFnd1 : Says := fun args H => match args, daR2 H with
 | [.c (.p (.v (.int .i64 i))), .c (.ptr 0 0), .c (.ptr 1 0)], some (ns, s) => some (some (H = hpR2 ns s ∧ VldT ns ∧ 0 ≤ i ∧ i < (ns.length : Nat)), .bool (isB ns s i.toNat), hpR2 ns s)
 | _, _ => none
def A18 : Table := ext A17 119 saysFnd1
theorem a18 : TS9 A18 := by
 refine ext_run a17 (f := 119) (fn := Tryz.f119) rfl rfl [0, 1, 2, 4] fun args H p r' H' hs hp => ?_
 unfold saysFnd1 at hs
 split at hs
 ·rename_i i ns s _
  cases hs
  obtain ⟨rfl, h1, h2, h3⟩ := hp
  refine ⟨nB9 rfl, [0, 1], rfl, id2, ?_⟩
  repeat ((conv => whnf); refine ⟨by first | exact ⟨rfl, h1, h2, h3⟩ | ((conv => whnf); exact ⟨⟨rfl, rfl, rfl⟩, trivial⟩) | exact Early.one (by decide +kernel) (by (conv => whnf); exact ⟨rfl, rfl, rfl⟩) trivial | (unfold inI64; omega) | omega | exact ⟨by omega, by omega⟩ | exact rfl | decide +kernel, ?_⟩)
  conv => whnf
  exact eR9
 ·cases hs
def saysSkF : Says := fun args H => match args, daR2 H with
 | [.c (.p (.l c0 ns)), .c (.clo _ _ _)], some (_, s) => match castD (e := ndC) (e' := c0) ns with
  | some ns => some (some (args = [.c (.p (.l ndC ns)), .c (.clo false 119 [0, 1])] ∧ H = hpR2 ns s ∧ VldT ns), .int .i64 (skV (isB ns s) ns.length : Nat), hpR2 ns s)
  | none => none
 | _, _ => none
theorem a19' : TS9 (ext A18 112 saysSkF) := by
 refine ext_run a18 (f := 112) (fn := Tryz.f112) rfl rfl [0, 1, 4, 5, 7, 8, 9, 13] fun args H p r' H' hs hp => ?_
 unfold saysSkF at hs
 split at hs
 ·split at hs
  ·rename_i _ _ _ _ _ _ _ s _ _ ns _
   cases hs
   obtain ⟨ha, hH, h1⟩ := hp
   rw [ha, hH]
   have hlen := h1.len
   refine ⟨nB9 rfl, [0, 1], rfl, id2, ?_⟩
   repeat ((conv => whnf); refine ⟨by first | (unfold inI64; omega) | omega | exact ⟨by omega, by omega⟩ | exact rfl | decide +kernel, ?_⟩)
   conv => whnf
   refine lI9 (σ := Nat × Nat) (fun ⟨_, i⟩ => [(0, XV.s (.a (.c (.p (.l ndC ns))))), (1, XV.s (.a (.c (.clo false 119 [0, 1])))), (4, nX9), (5, nX9), (7, XV.s (.int .i64 (ns.length : Nat))), (8, XV.s (.int .i64 (i : Nat))), (9, nX9), (13, nX9)])
    (fun _ => hpR2 ns s) (fun ⟨m, i⟩ => i + m = ns.length ∧ skV (isB ns s) ns.length = skGo (isB ns s) m i) (fun ⟨m, _⟩ => m) (ns.length, 0) ?_ rfl ⟨Nat.zero_add _, rfl⟩ ?_
   ·repeat first|exact lN9|refine lD9 ?_|refine lS9 ?_
   rintro ⟨m, i⟩ ⟨him, hgo⟩
   repeat ((conv => whnf); refine ⟨by first | (unfold inI64; omega) | omega | exact ⟨by omega, by omega⟩ | exact rfl | decide +kernel, ?_⟩)
   conv => whnf
   refine cI9 ?_ ?_<;>intro h3
   ·have hlt := lt_of_dec h3
    obtain ⟨m, rfl⟩ : ∃ q, m = q + 1 := ⟨m - 1, by omega⟩
    have hin : 0 ≤ (i : Int) ∧ (i : Int) < (ns.length : Nat) := by omega
    have e : skGo (isB ns s) (m + 1) i = if isB ns s i = true then i else skGo (isB ns s) m (i + 1) := rfl
    rw [e] at hgo
    repeat ((conv => whnf); refine ⟨by first | exact ⟨rfl, h1, hin.1, hin.2⟩ | (unfold inI64; omega) | omega | exact ⟨by omega, by omega⟩ | exact rfl | decide +kernel, ?_⟩)
    conv => whnf
    refine cI9 ?_ ?_<;>intro h4
    ·have h5 : isB ns s i = true := h4
     rw [if_pos h5] at hgo
     repeat ((conv => whnf); refine ⟨by first | (unfold inI64; omega) | omega | exact ⟨by omega, by omega⟩ | exact rfl | decide +kernel, ?_⟩)
     conv => whnf
     rw [hgo]
     exact eR9
    have h5 : ¬ isB ns s i = true := ne_t h4
    rw [if_neg h5] at hgo
    repeat ((conv => whnf); refine ⟨by first | (unfold inI64; omega) | omega | exact ⟨by omega, by omega⟩ | exact rfl | decide +kernel, ?_⟩)
    conv => whnf
    refine hI9 (m, i + 1) ?_ rfl ⟨by omega, hgo⟩ (nS9 m)
    repeat first|exact lN9|refine lD9 ?_|refine lS9 ?_
   ·have hge := ge_of_dec h3
    obtain rfl : m = 0 := by omega
    obtain rfl : i = ns.length := by omega
    repeat ((conv => whnf); refine ⟨by first | (unfold inI64; omega) | omega | exact ⟨by omega, by omega⟩ | exact rfl | decide +kernel, ?_⟩)
    conv => whnf
    rw [hgo]
    exact eR9
  ·cases hs
 ·cases hs
def A19 : Table := ext A18 112 saysSkF
theorem a19 : TS9 A19 := a19'
def fndV (a : List Nd × ByteArray) : Int × Bool := if skV (isB a.1 a.2) a.1.length = a.1.length then (0, false) else (((skV (isB a.1 a.2) a.1.length : Nat) : Int), true)
abbrev fndR (x : Int × Bool) : SV := .tup [.c (.int .i64 x.1), .c (.bool x.2)]
def A20 : Table := ext A19 74 (saysG daNS eaNS fun a => (some (VldT a.1), fndR (fndV a)))
theorem a20 : TS9 A20 := by
 refine extG a19 74 (fn := Tryz.f74) rfl rfl daNS eaNS _ (fun _ => nB9 rfl) [0, 1, 2, 3, 4, 5, 6, 13] fun a hok => ?_
 obtain ⟨ns, s⟩ := a
 have hv : VldT ns := hok
 dsimp only
 unfold fndV
 dsimp only
 repeat ((conv => whnf); refine ⟨by first | exact ⟨rfl, rfl, hv⟩ | (unfold inI64; omega) | omega | exact ⟨by omega, by omega⟩ | exact rfl | decide +kernel, ?_⟩)
 conv => whnf
 refine cI9 ?_ ?_<;>intro h
 ·have h1 : skV (isB ns s) ns.length = ns.length := by
   have : ((skV (isB ns s) ns.length : Nat) : Int) = (ns.length : Nat) := oT9 h
   omega
  rw [if_pos h1]
  repeat ((conv => whnf); refine ⟨by first | (unfold inI64; omega) | omega | exact ⟨by omega, by omega⟩ | exact rfl | decide +kernel, ?_⟩)
  conv => whnf
  exact eR9
 have h1 : ¬ skV (isB ns s) ns.length = ns.length := by
  have : ¬ ((skV (isB ns s) ns.length : Nat) : Int) = (ns.length : Nat) := oF9 h
  omega
 rw [if_neg h1]
 repeat ((conv => whnf); refine ⟨by first | (unfold inI64; omega) | omega | exact ⟨by omega, by omega⟩ | exact rfl | decide +kernel, ?_⟩)
 conv => whnf
 exact eR9
def FindV (a : List Nd × ByteArray) : Int × Bool := if chkP a.1 = 0 then fndV a else (0, false)
def A21 : Table := ext A20 27 (saysG daTS eaTS fun a => (none, fndR (FindV a)))
theorem a21 : TS9 A21 := by
 refine extG a20 27 (fn := Tryz.f27) rfl rfl daTS eaTS _ (fun _ => nB9 rfl) [0, 1, 2, 4, 5, 8] fun a _ => ?_
 obtain ⟨ns, s⟩ := a
 dsimp only
 unfold FindV
 dsimp only
 repeat ((conv => whnf); refine ⟨by first | exact ⟨rfl, trivial⟩ | (unfold inI64; omega) | omega | exact ⟨by omega, by omega⟩ | exact rfl | decide +kernel, ?_⟩)
 conv => whnf
 refine cI9 ?_ ?_<;>intro h
 ·have h1 : ¬ chkP ns = 0 := by
   have h2 : (!decide (chkP ns = 0)) = true := h
   simpa using h2
  rw [if_neg h1]
  repeat ((conv => whnf); refine ⟨by first | (unfold inI64; omega) | omega | exact ⟨by omega, by omega⟩ | exact rfl | decide +kernel, ?_⟩)
  conv => whnf
  exact eR9
 have h1 : chkP ns = 0 := by
  have h2 : (!decide (chkP ns = 0)) = false := h
  simpa using h2
 rw [if_pos h1]
 have hv := chk_vld.1 h1
 repeat ((conv => whnf); refine ⟨by first | exact ⟨rfl, hv⟩ | (unfold inI64; omega) | omega | exact ⟨by omega, by omega⟩ | exact rfl | decide +kernel, ?_⟩)
 conv => whnf
 exact eR9
def PathV (a : List Nd × Int) : ByteArray := if hasB a = true then pathV a.1 a.2.toNat else ⟨#[]⟩
theorem has_vld {ns : List Nd} {i : Int} (h : hasB (ns, i) = true) : VldT ns ∧ 0 ≤ i ∧ i < (ns.length : Nat) := by
 unfold hasB at h
 simp only [Bool.and_eq_true, decide_eq_true_eq] at h
 exact ⟨chk_vld.1 h.2, h.1.1, h.1.2⟩
def A22 : Table := ext A21 18 (saysG daTI eaTI fun a => (none, .str (PathV a)))
theorem a22 : TS9 A22 := by
 refine extG a21 18 (fn := Tryz.f18) rfl rfl daTI eaTI _ (fun _ => nB9 rfl) [0, 1, 2, 4, 8] fun a _ => ?_
 obtain ⟨ns, i⟩ := a
 dsimp only
 unfold PathV
 repeat ((conv => whnf); refine ⟨by first | exact ⟨rfl, trivial⟩ | (unfold inI64; omega) | omega | exact ⟨by omega, by omega⟩ | exact rfl | decide +kernel, ?_⟩)
 conv => whnf
 refine cI9 ?_ ?_<;>intro h
 ·have h1 : hasB (ns, i) = false := not_b h
  rw [if_neg (ne_t h1)]
  repeat ((conv => whnf); refine ⟨by first | (unfold inI64; omega) | omega | exact ⟨by omega, by omega⟩ | exact rfl | decide +kernel, ?_⟩)
  conv => whnf
  exact eR9
 have h1 : hasB (ns, i) = true := not_f h
 rw [if_pos h1]
 have hv := has_vld h1
 repeat ((conv => whnf); refine ⟨by first | exact ⟨rfl, hv⟩ | (unfold inI64; omega) | omega | exact ⟨by omega, by omega⟩ | exact rfl | decide +kernel, ?_⟩)
 conv => whnf
 exact eR9
theorem id2c : ∀ k, k < 1 → [0, 1][k]? = some k := fun k hk => by
 obtain rfl : k = 0 := by omega
 rfl
def chlGo (ns : List Nd) (i : Int) : Nat → Nat → List Int → List Int
 | 0, _, out => out
 | m + 1, j, out => chlGo ns i m (j + 1) (if (ndAt ns j).1 = i then out ++ [(j : Int)] else out)
def chlV (a : List Nd × Int) : List Int := if hasB a = true then chlGo a.1 a.2 a.1.length 0 [] else []
def A23 : Table := ext A22 21 (saysG daTI eaTI fun a => (none, .list (.int .i64) (chlV a)))
theorem a23 : TS9 A23 := by
 refine extG a22 21 (fn := Tryz.f21) rfl rfl daTI eaTI _ (fun _ => nB9 rfl) [0, 1, 2, 4, 5, 6, 7, 11, 13, 14, 15, 16, 23] fun a _ => ?_
 obtain ⟨ns, i⟩ := a
 dsimp only
 unfold chlV
 repeat ((conv => whnf); refine ⟨by first | exact ⟨rfl, trivial⟩ | (unfold inI64; omega) | omega | exact ⟨by omega, by omega⟩ | exact rfl | decide +kernel, ?_⟩)
 conv => whnf
 refine cI9 ?_ ?_<;>intro h
 ·have h1 : hasB (ns, i) = false := not_b h
  rw [if_neg (ne_t h1)]
  repeat ((conv => whnf); refine ⟨by first | (unfold inI64; omega) | omega | exact ⟨by omega, by omega⟩ | exact rfl | decide +kernel, ?_⟩)
  conv => whnf
  refine eO9 (fun G v hv => ?_) rfl
  obtain ⟨_, rfl⟩ := hv
  exact .inl ⟨rfl, rfl⟩
 have h1 : hasB (ns, i) = true := not_f h
 rw [if_pos h1]
 obtain ⟨hv, _, _⟩ := has_vld h1
 have hlen := hv.len
 have hlo : ∀ m j out, (chlGo ns i m j out).length ≤ out.length + m := by
  intro m
  induction m with
  | zero => intro j out; exact nR9 _
  | succ m ih =>
   intro j out
   unfold chlGo
   refine Nat.le_trans (ih _ _) ?_
   split
   ·rw [zP9]; simp only [zC9, zN9]; omega
   ·omega
 repeat ((conv => whnf); refine ⟨by first | (unfold inI64; omega) | omega | exact ⟨by omega, by omega⟩ | exact rfl | decide +kernel, ?_⟩)
 conv => whnf
 refine loop_weak (σ := Nat × Nat × List Int) (fun ⟨_, j, out⟩ => [(0, nX9), (1, XV.s (.int .i64 i)), (2, nX9), (4, nX9), (5, XV.s (.a (.c (.own 1 (.int .i64) out)))), (6, nX9), (7, nX9), (11, nX9), (13, XV.s (.a (.c (.p (.l ndC ns))))), (14, XV.s (.int .i64 (ns.length : Nat))), (15, XV.s (.int .i64 (j : Nat))), (16, nX9), (23, nX9)])
  (fun ⟨_, _, out⟩ => [.row [.p (.l ndC ns)], .tok 3 (.int .i64) out.length true]) (fun ⟨m, j, out⟩ => j + m = ns.length ∧ out.length ≤ j ∧ chlGo ns i ns.length 0 [] = chlGo ns i m j out) (fun ⟨m, _, _⟩ => m) (ns.length, 0, []) ?_ ⟨Nat.zero_add _, nZ9 _, rfl⟩ ?_
 ·refine Weak.own 3 ?_
  repeat first|exact wN9|refine wD9 ?_|refine wS9 ?_|refine wO9 ?_
 rintro ⟨m, j, out⟩ ⟨hjm, hol, hgo⟩
 repeat ((conv => whnf); refine ⟨by first | (unfold inI64; omega) | omega | exact ⟨by omega, by omega⟩ | exact rfl | decide +kernel, ?_⟩)
 conv => whnf
 refine cI9 ?_ ?_<;>intro h2
 ·have hlt := lt_of_dec h2
  obtain ⟨m, rfl⟩ : ∃ q, m = q + 1 := ⟨m - 1, by omega⟩
  have hin : 0 ≤ (j : Int) ∧ (j : Int) < (ns.length : Nat) := by omega
  have e : chlGo ns i (m + 1) j out = chlGo ns i m (j + 1) (if (ndAt ns j).1 = i then out ++ [(j : Int)] else out) := rfl
  rw [e] at hgo
  repeat ((conv => whnf); refine ⟨by first | exact hin | (unfold inI64; omega) | omega | exact ⟨by omega, by omega⟩ | exact rfl | decide +kernel, ?_⟩)
  conv => whnf
  rw [nd_at]
  refine cI9 ?_ ?_<;>intro h3
  ·have h4 : (ndAt ns j).1 = i := oT9 h3
   rw [if_pos h4] at hgo
   have c1 : out.length + 1 ≤ 1000000000000 := by omega
   repeat ((conv => whnf); refine ⟨by first | (unfold inI64; omega) | omega | exact ⟨by omega, by omega⟩ | exact rfl | decide +kernel, ?_⟩)
   conv => whnf
   refine ⟨c1, ?_⟩
   repeat ((conv => whnf); refine ⟨by first | (unfold inI64; omega) | omega | exact ⟨by omega, by omega⟩ | exact rfl | decide +kernel, ?_⟩)
   conv => whnf
   refine kI9 (m, j + 1, out ++ [(j : Int)]) [0, 1] rfl id2c ?_ ?_ ⟨by omega, ?_, hgo⟩ (nS9 m)
   ·show _ = some [AO.row _, AO.tok _ _ (out ++ [(j : Int)]).length true]
    rw [zP9]
    rfl
   ·repeat first|exact kN9|refine kD9 ?_|refine kR9 rfl ?_
   ·rw [zP9]; simp only [zC9, zN9]; omega
  have h4 : ¬ (ndAt ns j).1 = i := oF9 h3
  rw [if_neg h4] at hgo
  repeat ((conv => whnf); refine ⟨by first | (unfold inI64; omega) | omega | exact ⟨by omega, by omega⟩ | exact rfl | decide +kernel, ?_⟩)
  conv => whnf
  refine kI9 (m, j + 1, out) [0, 1] rfl id2c rfl ?_ ⟨by omega, by omega, hgo⟩ (nS9 m)
  repeat first|exact kN9|refine kD9 ?_|refine kR9 rfl ?_
 ·have hge := ge_of_dec h2
  obtain rfl : m = 0 := by omega
  repeat ((conv => whnf); refine ⟨by first | (unfold inI64; omega) | omega | exact ⟨by omega, by omega⟩ | exact rfl | decide +kernel, ?_⟩)
  conv => whnf
  rw [hgo]
  exact eR9
end Go.Ab
namespace Go.Ab
open Go.Proofs Go.Shelf Go.RowKit Go.Lib
set_option linter.unusedSectionVars false
variable [Base]
structure CloneAt (P : Program) (f : FuncId) (t : TypeId) (c : CT) : Prop where
 none' : ∀ (n k : Nat) (w : World), Calls P f #[.slice none n k] w fun e w' => e = .returned (.slice none 0 0) ∧ w' = w
 some' : ∀ (a : Addr) (n k : Nat) (news : List Value) (w : World), news.length = n * c.width → n ≤ 1000000000 → (∀ j u, news[j]? = some u → a.spot = none ∧ w.at' a.block (a.off + j) = some u) → (∀ u ∈ news, u.oneCell' = true) →
  Calls P f #[.slice (some a) n k] w fun e w' => ∃ v', e = .returned v' ∧ w'.ownsRow w.heap.size t c.width v' n news ∧ Below w.heap.size w w'
def View.more (G : View) (w' : World) (J : Nat → Nat → Prop) : View := { ρ := G.ρ, I := fun b x => G.I b x ∨ J b x, H := G.H, w := w' }
theorem Ext.more {G : View} (hS : Sim G) {w' : World} (hb : Below G.w.heap.size G.w w') {J : Nat → Nat → Prop} (hJ : ∀ b x, J b x → G.w.heap.size ≤ b ∧ b < w'.heap.size) : Ext G (G.more w' J) where
 stays := ⟨fun _ _ h => .inl h, fun b x h => at_of_block (hb.block _ (hS.ilt b x h)) x, fun b x es c h hm => (hb.block _ (hS.ilt b x h)).trans hm⟩
 size := hb.size
 os := hb.os
 tape := hb.tape
 output := hb.output
 objs := fun id ob h => ⟨ob, h, AO.next_keep ob fun hbl => ⟨rfl, hb.block _ (hS.lt ⟨ob, h, hbl, rfl⟩)⟩⟩
 frame := fun b hlt _ => hb.block b hlt
 news := fun _ _ h => .inl h
 inew := fun b x h => by
  rcases h with h | h
  ·exact .inl h
  ·exact .inr (.inl (hJ b x h).1)
theorem Sim.more {G : View} (hS : Sim G) {w' : World} (hb : Below G.w.heap.size G.w w') {J : Nat → Nat → Prop} (hJ : ∀ b x, J b x → G.w.heap.size ≤ b ∧ b < w'.heap.size) : Sim (G.more w' J) where
 vars := fun v hv => (hS.vars v hv).mono (Ext.more hS hb hJ).stays
 objs := fun id ob ho hbl => by
  have hlt : G.ρ id < G.w.heap.size := hS.lt ⟨ob, ho, hbl, rfl⟩
  refine (hS.objs id ob ho hbl).mono (Ext.more hS hb hJ) rfl (hb.block _ hlt) fun x hx => ?_
  rcases hx with h | h
  ·exact h
  ·have := (hJ _ _ h).1
   omega
 inj := fun i j b hi hj => hS.inj i j b hi hj
 ilt := fun b x h => by
  rcases h with h | h
  ·exact Nat.lt_of_lt_of_le (hS.ilt b x h) hb.size
  ·exact (hJ b x h).2
theorem frz {G : View} (hS : Sim G) {id : Nat} {t : TypeId} {c : CT} {zs : List c.den} {ver : Nat} (ho : G.H[id]? = some (.arr t c zs ver)) (hpos : 0 < zs.length) :
  ∃ G', G'.w = G.w ∧ Ext G G' ∧ Sim G' ∧ G'.H = G.H.set id .dead ∧ ∀ v, RepC G (.sl id c ver zs.length) v → Rep G'.I G'.w (.list c) zs [v] := by
 obtain ⟨vs, rest, hheap, hno, hrows⟩ := hS.objs id _ ho hpos
 have hlt : G.ρ id < G.w.heap.size := (Array.getElem?_eq_some_iff.1 hheap).1
 have g : Upd G id (G.ρ id) (.arr t c zs ver) .dead (fun x => x < zs.length * c.width) G.w := ⟨ho, trivial, nR9 _, rfl, rfl, rfl, fun _ _ _ => rfl, .inr ⟨_, ho, hpos, rfl⟩, hlt, hno⟩
 have hE := Ext.upd hS g
 refine ⟨G.upd id (G.ρ id) .dead (fun x => x < zs.length * c.width) G.w, rfl, hE, Sim.upd hS g fun h => h.elim, rfl, fun v hv => ?_⟩
 obtain ⟨_, hv⟩ := sl_live hv ho
 rcases hv with ⟨h0, _⟩ | ⟨_, cap, cur, rfl, hcur, hle, hmax, hsz⟩
 ·omega
 ·refine Rows.list (hrows.mono hE.stays) hle fun k u hk => ?_
  have hkl : k < vs.length := (List.getElem?_eq_some_iff.1 hk).1
  refine ⟨.inr ⟨rfl, by rw [← hrows.1]; omega⟩, ?_⟩
  show G.w.cell? _ = _
  simp [World.cell?, hheap]
  rw [List.getElem?_append_left hkl]
  exact hk
def ScC : AC → Prop
 | .p (.v _) => True
 | _ => False
def ScA : AV → Prop
 | .c x => ScC x
 | .agg l => ∀ x ∈ l, ScC x
def ScS : SV → Prop
 | .none => True
 | .a v => ScA v
 | .tup l => ∀ v ∈ l, ScA v
theorem ScC.rep {G G' : View} {x : AC} {v : Value} (h : ScC x) (hr : RepC G x v) : RepC G' x v := by
 cases x with
 | p y =>
  cases y with
  | v y => exact hr
  | l e zs => exact h.elim
  | m k t es => exact h.elim
 | _ => exact h.elim
theorem scAll {α : Type} {R S : α → Value → Prop} {l : List α} : ∀ {cs : List Value}, (∀ x ∈ l, ∀ v, R x v → S x v) → All2 R l cs → All2 S l cs := by
 induction l with
 | nil => intro cs _ h; cases h; exact .nil
 | cons a l ih =>
  intro cs hf h
  cases h with
  | cons h1 h2 => exact .cons (hf a (List.mem_cons_self ..) _ h1) (ih (fun x hx => hf x (List.mem_cons_of_mem _ hx)) h2)
theorem ScA.rep {G G' : View} {x : AV} {v : Value} (h : ScA x) (hr : RepA G x v) : RepA G' x v := by
 cases x with
 | c x => exact ScC.rep h hr
 | agg l =>
  obtain ⟨cs, rfl, hcs⟩ := hr
  exact ⟨cs, rfl, scAll (fun x hx v hv => ScC.rep (h x hx) hv) hcs⟩
theorem ScS.rep {G G' : View} {x : SV} {v : Value} (h : ScS x) (hr : RepS G x v) : RepS G' x v := by
 cases x with
 | none => trivial
 | a x => exact ScA.rep h hr
 | tup l =>
  obtain ⟨cs, rfl, hcs⟩ := hr
  exact ⟨cs, rfl, scAll (fun x hx v hv => ScA.rep (h x hx) hv) hcs⟩
inductive RoA (c : CT) (zs : List c.den) (ver : Nat) : AV → AV → Prop
 | p (x : PV) : RoA c zs ver (.c (.p x)) (.c (.p x))
 | sl : RoA c zs ver (.c (.sl 0 c ver zs.length)) (.c (.p (.l c zs)))
 | agg (l : List PV) : RoA c zs ver (.agg (l.map .p)) (.agg (l.map .p))
 | asl : RoA c zs ver (.agg [.sl 0 c ver zs.length]) (.agg [.p (.l c zs)])
theorem ro_all {G1 G2 : View} (hx : Ext G1 G2) {c : CT} {zs : List c.den} {ver : Nat} (hf : ∀ v, RepC G1 (.sl 0 c ver zs.length) v → Rep G2.I G2.w (.list c) zs [v]) {l l' : List AV} (hl : All2 (RoA c zs ver) l l') : ∀ {cs : List Value}, All2 (RepA G1) l cs → All2 (RepA (G2.sub [] [])) l' cs := by
 induction hl with
 | nil => intro cs h; cases h; exact .nil
 | cons hxy _ ih =>
  intro cs h
  cases h with
  | cons h3 h4 =>
   refine .cons ?_ (ih h4)
   cases hxy with
   | p x => exact RepV.mono hx.stays h3
   | sl => exact hf _ h3
   | agg l =>
    obtain ⟨us, rfl, hus⟩ := h3
    refine ⟨us, rfl, scAll (fun x hx' v hv => ?_) hus⟩
    obtain ⟨y, _, rfl⟩ := List.mem_map.1 hx'
    exact RepV.mono hx.stays hv
   | asl =>
    obtain ⟨us, rfl, hus⟩ := h3
    cases hus with
    | cons h5 h6 =>
     cases h6
     exact ⟨_, rfl, .cons (hf _ h5) .nil⟩
theorem ext_ro {P : Program} {T : Table} {f : FuncId} {s s' : Says} (h1 : TSound P (ext T f s)) (hT : TSound P T)
  (h : ∀ args H p r H', s' args H = some (p, r, H') → holdsO p → ∃ t c zs ver args1, H = [.arr t c zs ver] ∧ H' = [.arr t c zs ver] ∧ 0 < zs.length ∧ All2 (RoA c zs ver) args args1 ∧ (∃ q, holdsO q ∧ s args1 [] = some (q, r, [])) ∧ ScS r) : TSound P (ext T f s') :=
 ext_sound hT fun args H p r H' hs hp G hS hH cargs ha => by
  obtain ⟨t, c, zs, ver, args1, rfl, rfl, hpos, hro, ⟨q, hq, hs1⟩, hr⟩ := h args H p r H' hs hp
  have hb : Nat.beq f f = true := Nat.beq_refl f
  have ho : G.H[0]? = some (.arr t c zs ver) := by rw [hH]; rfl
  obtain ⟨G1, hw, hx, hs2, hH2, hf⟩ := frz hS ho hpos
  have hsub : subH [] G1.H [] = some [] := rfl
  have hS2 : Sim (G1.sub [] []) := hs2.sub hsub rfl
  have hok := h1 f args1 [] q r [] (by unfold ext; rw [hb]; exact hs1) hq (G1.sub [] []) hS2 rfl cargs (ro_all hx hf hro ha)
  have hw2 : (G1.sub [] []).w = G.w := hw
  obtain ⟨vs, rest, hheap, hno, hrows⟩ := hS.objs 0 _ ho hpos
  have hlt : G.ρ 0 < G.w.heap.size := (Array.getElem?_eq_some_iff.1 hheap).1
  have key : ∀ v G', Ext (G1.sub [] []) G' → Sim G' → (G'.H = norm [] [] ∧ RepS G' r v) →
    ∃ G'', G''.w = G'.w ∧ Ext G G'' ∧ Sim G'' ∧ (G''.H = [.arr t c zs ver] ∧ RepS G'' r v) := by
   intro v G' he hs' ⟨_, hr'⟩
   have hfr : ∀ b, b < G.w.heap.size → G'.w.heap[b]? = G.w.heap[b]? := fun b hb => by
    have := he.frame b (by rw [hw2]; exact hb) (fun id ⟨o, ho', _⟩ => by
     rw [show (G1.sub [] []).H = [] from rfl] at ho'
     cases ho')
    rw [hw2] at this
    exact this
   have hst : Stays G.I G.w G.I G'.w := ⟨fun _ _ h => h, fun b o hI => by
    have := (Stays.same he.stays) b o (hx.stays.keep b o hI)
    rw [hw2] at this
    exact this, fun b o es cl hI hm => (hfr b (hS.ilt b o hI)).trans hm⟩
   have hsz : G.w.heap.size ≤ G'.w.heap.size := by
    have := he.size
    rw [hw2] at this
    exact this
   refine ⟨⟨G.ρ, G.I, G.H, G'.w⟩, rfl, ⟨hst, hsz, ?_, ?_, ?_, fun id o hid => ⟨o, hid, ?_⟩, fun b hb _ => hfr b hb, fun id b hh => .inl hh, fun b o hI => .inl hI⟩, ⟨fun v hv => (hS.vars v hv).mono hst, fun id o hid hbl => ?_, hS.inj, fun b o hI => Nat.lt_of_lt_of_le (hS.ilt b o hI) hsz⟩, hH, ScS.rep hr hr'⟩
   ·have := he.os; rw [hw2] at this; exact this
   ·have := he.tape; rw [hw2] at this; exact this
   ·have := he.output; rw [hw2] at this; exact this
   ·cases id with
    | succ n => rw [hH] at hid; cases hid
    | zero =>
     rw [ho] at hid
     cases hid
     exact ⟨rfl, rfl, nR9 _, fun _ => ⟨rfl, fun _ => ⟨rfl, fun cur hc => ⟨cur, (hfr _ hlt).trans hc, rfl⟩⟩⟩⟩
   ·cases id with
    | succ n => rw [hH] at hid; cases hid
    | zero =>
     rw [ho] at hid
     cases hid
     exact ⟨vs, rest, (hfr _ hlt).trans hheap, hno, hrows.mono hst⟩
  rcases hok with ⟨v, G2, h3, h4, h5, h6⟩ | ⟨h3, h4⟩
  ·obtain ⟨G'', hw3, he3, hs3, hR⟩ := key v G2 h4 h5 h6
   exact .inl ⟨v, G'', by rw [hw3, ← hw2]; exact h3, he3, hs3, hR⟩
  ·refine .inr ⟨by rw [← hw2]; exact h3, ?_⟩
   rw [← hw2]
   refine h4.mono fun e w' ⟨v, G2, h5, h6, h7, h8, h9⟩ => ?_
   obtain ⟨G'', hw3, he3, hs3, hR⟩ := key v G2 h7 h8 h9
   exact ⟨v, G'', h5, hw3.trans h6, he3, hs3, hR⟩
theorem ext_give {P : Program} {T : Table} {f : FuncId} {s s' : Says} (h1 : TSound P (ext T f s)) (hT : TSound P T)
  (h : ∀ args H p r H', s' args H = some (p, r, H') → holdsO p → ∃ t c zs args1, H = [.arr t c zs 0] ∧ H' = [.dead] ∧ 0 < zs.length ∧ All2 (RoA c zs 0) args args1 ∧ (∃ q, holdsO q ∧ s args1 [] = some (q, r, [])) ∧ ∃ x, r = .a (.c (.p x))) : TSound P (ext T f s') :=
 ext_sound hT fun args H p r H' hs hp G hS hH cargs ha => by
  obtain ⟨t, c, zs, args1, rfl, rfl, hpos, hro, ⟨q, hq, hs1⟩, x, rfl⟩ := h args H p r H' hs hp
  have hb : Nat.beq f f = true := Nat.beq_refl f
  have ho : G.H[0]? = some (.arr t c zs 0) := by rw [hH]; rfl
  obtain ⟨G1, hw, hx, hs2, hH2, hf⟩ := frz hS ho hpos
  have hsub : subH [] G1.H [] = some [] := rfl
  have hH3 : G1.H = [.dead] := by rw [hH2, hH]; rfl
  have hok := h1 f args1 [] q _ [] (by unfold ext; rw [hb]; exact hs1) hq (G1.sub [] []) (hs2.sub hsub rfl) rfl cargs (ro_all hx hf hro ha)
  have hw2 : (G1.sub [] []).w = G.w := hw
  have key : ∀ v G', Ext (G1.sub [] []) G' → Sim G' → (G'.H = norm [] [] ∧ RepS G' (.a (.c (.p x))) v) →
    ∃ G'', G''.w = G'.w ∧ Ext G G'' ∧ Sim G'' ∧ (G''.H = [.dead] ∧ RepS G'' (.a (.c (.p x))) v) := by
   intro v G' he hs' ⟨hH', hr'⟩
   refine ⟨G1.merge G' [], rfl, hx.trans (Ext.merge hsub rfl hs2 he hs'), Sim.merge hsub rfl hs2 he hs', ?_, unS_rep hsub rfl he hr'⟩
   show putAll (back [] G1.H.length) [] G'.H G1.H = _
   rw [hH', hH3]
   rfl
  rcases hok with ⟨v, G2, h3, h4, h5, h6⟩ | ⟨h3, h4⟩
  ·obtain ⟨G'', hw3, he3, hs3, hR⟩ := key v G2 h4 h5 h6
   exact .inl ⟨v, G'', by rw [hw3, ← hw2]; exact h3, he3, hs3, hR⟩
  ·refine .inr ⟨by rw [← hw2]; exact h3, ?_⟩
   rw [← hw2]
   refine h4.mono fun e w' ⟨v, G2, h5, h6, h7, h8, h9⟩ => ?_
   obtain ⟨G'', hw3, he3, hs3, hR⟩ := key v G2 h7 h8 h9
   exact ⟨v, G'', h5, hw3.trans h6, he3, hs3, hR⟩
theorem ext_case {P : Program} {T : Table} {f : FuncId} {s1 s2 s' : Says} (h1 : TSound P (ext T f s1)) (h2 : TSound P (ext T f s2)) (hT : TSound P T)
  (h : ∀ args H p r H', s' args H = some (p, r, H') → holdsO p → (∃ q, holdsO q ∧ s1 args H = some (q, r, H')) ∨ ∃ q, holdsO q ∧ s2 args H = some (q, r, H')) : TSound P (ext T f s') := by
 intro g args H p r H' hg hp G hS hH cargs ha
 unfold ext at hg
 split at hg
 ·rename_i hb
  have hb' : Nat.beq g f = true := hb
  rcases h args H p r H' hg hp with ⟨q, hq, hs⟩ | ⟨q, hq, hs⟩
  ·exact h1 g args H q r H' (by unfold ext; rw [hb']; exact hs) hq G hS hH cargs ha
  ·exact h2 g args H q r H' (by unfold ext; rw [hb']; exact hs) hq G hS hH cargs ha
 ·exact hT g args H p r H' hg hp G hS hH cargs ha
def PvA : AV → Prop
 | .c x => ∃ p, x = .p p
 | .agg l => ∀ x ∈ l, ∃ p, x = .p p
def PvS : SV → Prop
 | .none => True
 | .a v => PvA v
 | .tup l => ∀ v ∈ l, PvA v
theorem PvA.rep {G G' : View} (hs : Stays G.I G.w G'.I G'.w) {x : AV} {v : Value} (h : PvA x) (hr : RepA G x v) : RepA G' x v := by
 cases x with
 | c x =>
  obtain ⟨p, rfl⟩ := h
  exact RepV.mono hs hr
 | agg l =>
  obtain ⟨cs, rfl, hcs⟩ := hr
  refine ⟨cs, rfl, scAll (fun x hx v hv => ?_) hcs⟩
  obtain ⟨p, rfl⟩ := h x hx
  exact RepV.mono hs hv
theorem PvS.rep {G G' : View} (hs : Stays G.I G.w G'.I G'.w) {x : SV} {v : Value} (h : PvS x) (hr : RepS G x v) : RepS G' x v := by
 cases x with
 | none => trivial
 | a x => exact PvA.rep hs h hr
 | tup l =>
  obtain ⟨cs, rfl, hcs⟩ := hr
  exact ⟨cs, rfl, scAll (fun x hx v hv => PvA.rep hs (h x hx) hv) hcs⟩
theorem ext_kill {P : Program} {T : Table} {f : FuncId} {s s' : Says} (h1 : TSound P (ext T f s)) (hT : TSound P T)
  (h : ∀ args H p r H', s' args H = some (p, r, H') → holdsO p → H' = [.dead] ∧ PvS r ∧ ∃ q t c zs, holdsO q ∧ 0 < zs.length ∧ s args H = some (q, r, [.arr t c zs 0])) : TSound P (ext T f s') :=
 ext_sound hT fun args H p r H' hs hp G hS hH cargs ha => by
  obtain ⟨rfl, hr, q, t, c, zs, hq, hpos, hs1⟩ := h args H p r H' hs hp
  have hb : Nat.beq f f = true := Nat.beq_refl f
  refine (h1 f args H q r [.arr t c zs 0] (by unfold ext; rw [hb]; exact hs1) hq G hS hH cargs ha).mono fun v G1 he hs1 ⟨hH1, hr1⟩ => ?_
  have hH1 : G1.H = [.arr t c zs 0] := hH1
  have ho : G1.H[0]? = some (.arr t c zs 0) := by rw [hH1]; rfl
  obtain ⟨G2, hw, hx, hs2, hH2, _⟩ := frz hs1 ho hpos
  exact ⟨G2, hw, he.trans hx, hs2, by rw [hH2, hH1]; rfl, PvS.rep hx.stays hr hr1⟩
theorem ext_frz2 {P : Program} {T : Table} {f : FuncId} {s s' : Says} (h1 : TSound P (ext T f s)) (hT : TSound P T)
  (h : ∀ args H p r H', s' args H = some (p, r, H') → holdsO p → H = [] ∧ H' = [] ∧ ∃ q t c zs ver y, holdsO q ∧ 0 < zs.length ∧ s args [] = some (q, .tup [.agg [.sl 0 c ver zs.length], .c (.p y)], [.arr t c zs ver]) ∧ r = .tup [.agg [.p (.l c zs)], .c (.p y)]) : TSound P (ext T f s') :=
 ext_sound hT fun args H p r H' hs hp G hS hH cargs ha => by
  obtain ⟨rfl, rfl, q, t, c, zs, ver, y, hq, hpos, hs1, rfl⟩ := h args H p r H' hs hp
  have hb : Nat.beq f f = true := Nat.beq_refl f
  refine (h1 f args [] q (.tup [.agg [.sl 0 c ver zs.length], .c (.p y)]) [.arr t c zs ver] (by unfold ext; rw [hb]; exact hs1) hq G hS hH cargs ha).mono fun v G1 he hs1 ⟨hH1, hr⟩ => ?_
  have ho : G1.H[0]? = some (.arr t c zs ver) := by rw [hH1]; rfl
  obtain ⟨G2, hw, hx, hs2, hH2, hf⟩ := frz hs1 ho hpos
  have hsub : subH [] G2.H [] = some [] := rfl
  refine ⟨G2.sub [] [], hw, (he.trans hx).keep hsub rfl fun k hk => ?_, hs2.sub hsub rfl, rfl, ?_⟩
  ·rw [hH] at hk
   exact absurd hk (nN9 k)
  ·obtain ⟨vs, rfl, hvs⟩ := hr
   cases hvs with
   | cons a b =>
    cases b with
    | cons b1 b2 =>
     cases b2
     obtain ⟨cs, rfl, hcs⟩ := a
     cases hcs with
     | cons c1 c2 =>
      cases c2
      exact ⟨_, rfl, .cons ⟨_, rfl, .cons (hf _ c1) .nil⟩ (.cons (RepV.mono hx.stays b1) .nil)⟩
end Go.Ab
