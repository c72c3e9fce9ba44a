/- Package tree: Check, paths, Find, Children. -/
import Derived.Test.YtidnfbnpndnnoaaGreatTY61toY63
namespace Go.Ab
open Go.Proofs
set_option linter.unusedSectionVars false
set_option maxRecDepth 100000
variable [Base]

theorem lim_len {ns : List Nd} (h : limV ns = true) : LenN ns ∧ 0 < ns.length ∧ ns.length ≤ 120 := by
  unfold limV at h
  simp only [Bool.and_eq_true, Bool.not_eq_true', decide_eq_false_iff_not, decide_eq_true_eq, List.all_eq_true] at h
  obtain ⟨⟨h1, h2⟩, h3⟩ := h
  refine ⟨⟨by omega, fun n hn => ?_⟩, by omega, h2⟩
  have h4 := h3 n hn
  unfold ndLim at h4
  simp only [Bool.and_eq_true, decide_eq_true_eq] at h4
  omega
theorem frm_at : ∀ (l : List Nd) (i : Nat), frmGo i l = true → ∀ k (hk : k < l.length), ndFrm (i + k) l[k] = true := by
  intro l
  induction l with
  | nil => intro i _ k hk; exact absurd hk (Nat.not_lt_zero k)
  | cons n r ih =>
    intro i h k hk
    obtain ⟨h1, h2⟩ := Bool.and_eq_true_iff.1 h
    cases k with
    | zero => exact h1
    | succ k =>
      have := ih (i + 1) h2 k (by simpa using hk)
      rw [show i + 1 + k = i + (k + 1) by omega] at this
      exact this
theorem frm_nd {ns : List Nd} (h : frmV ns = true) {i : Nat} (hi : i < ns.length) : ndFrm i (ndAt ns i) = true := by
  have := frm_at ns 0 h i hi
  rw [Nat.zero_add] at this
  have e : ndAt ns i = ns[i] := by unfold ndAt; simp [hi]
  rw [e]
  exact this
theorem frm_par {ns : List Nd} (h : frmV ns = true) : ParOk ns := by
  intro i h0 hi
  have h1 := frm_nd h hi
  unfold ndFrm at h1
  obtain ⟨h2, _⟩ := Bool.and_eq_true_iff.1 h1
  obtain ⟨_, h3⟩ := Bool.and_eq_true_iff.1 h2
  have e : decide (0 < (i : Int)) = true := decide_eq_true (by omega)
  rw [e, Bool.true_and, Bool.not_eq_true'] at h3
  obtain ⟨h4, _⟩ := Bool.or_eq_false_iff.1 h3
  obtain ⟨h5, h6⟩ := Bool.or_eq_false_iff.1 h4
  have h5 : ¬ paI ns i < 0 := of_decide_eq_false h5
  have h6 : ¬ (i : Int) ≤ paI ns i := of_decide_eq_false h6
  omega
theorem frm_nam {ns : List Nd} (h : frmV ns = true) {i : Nat} (h0 : 0 < i) (hi : i < ns.length) : namB (ndAt ns i).2.1 = true := by
  have h1 := frm_nd h hi
  unfold ndFrm at h1
  obtain ⟨h2, _⟩ := Bool.and_eq_true_iff.1 h1
  obtain ⟨_, h3⟩ := Bool.and_eq_true_iff.1 h2
  have e : decide (0 < (i : Int)) = true := decide_eq_true (by omega)
  rw [e, Bool.true_and, Bool.not_eq_true'] at h3
  simpa using (Bool.or_eq_false_iff.1 h3).2
theorem nam_size {s : ByteArray} (h : namB s = true) : s.size ≤ 31 := by
  unfold namB consB at h
  simp only [Bool.and_eq_true, decide_eq_true_eq] at h
  omega

def chkP (ns : List Nd) : Int := if limV ns = false then 3 else if frmV ns = false then 1 else if ordV ns = false then 12 else if twV ns = true then 5 else if deepV ns = true then 2 else 0

theorem not_b {b : Bool} (h : (!b) = true) : b = false := by simpa using h
theorem not_f {b : Bool} (h : (!b) = false) : b = true := by simpa using h
theorem ne_f {b : Bool} (h : b = true) : ¬ b = false := by rw [h]; simp
theorem ne_t {b : Bool} (h : b = false) : ¬ b = true := by rw [h]; simp

def A15 : Table := ext A14 13 (saysG daT eaT fun ns => (none, .int .i64 (chkP ns)))
theorem a15 : TSound Tryz.prog A15 := by
  refine extG a14 13 (fn := Tryz.f13) rfl rfl daT eaT _ (fun _ => Nat.le_of_ble_eq_true rfl) [0, 1, 2, 3, 8, 13, 18, 22] fun ns _ => ?_
  dsimp only
  unfold chkP
  repeat ((conv => whnf); refine ⟨by first | exact ⟨rfl, trivial⟩ | (unfold inI64; omega) | omega | exact ⟨by omega, by omega⟩ | exact rfl | decide +kernel, ?_⟩)
  conv => whnf
  refine cond_intro (fun h1 => ?_) (fun h1 => ?_)
  · rw [if_pos (not_b h1)]
    repeat ((conv => whnf); refine ⟨by first | (unfold inI64; omega) | omega | exact ⟨by omega, by omega⟩ | exact rfl | decide +kernel, ?_⟩)
    conv => whnf
    exact ends_eq ⟨rfl, rfl⟩
  have h1 := not_f h1
  rw [if_neg (ne_f h1)]
  obtain ⟨hl, _, _⟩ := lim_len h1
  repeat ((conv => whnf); refine ⟨by first | exact ⟨rfl, hl⟩ | (unfold inI64; omega) | omega | exact ⟨by omega, by omega⟩ | exact rfl | decide +kernel, ?_⟩)
  conv => whnf
  refine cond_intro (fun h2 => ?_) (fun h2 => ?_)
  · rw [if_pos (not_b h2)]
    repeat ((conv => whnf); refine ⟨by first | (unfold inI64; omega) | omega | exact ⟨by omega, by omega⟩ | exact rfl | decide +kernel, ?_⟩)
    conv => whnf
    exact ends_eq ⟨rfl, rfl⟩
  have h2 := not_f h2
  rw [if_neg (ne_f h2)]
  have hp := frm_par h2
  repeat ((conv => whnf); refine ⟨by first | exact ⟨rfl, hl, hp⟩ | (unfold inI64; omega) | omega | exact ⟨by omega, by omega⟩ | exact rfl | decide +kernel, ?_⟩)
  conv => whnf
  refine cond_intro (fun h3 => ?_) (fun h3 => ?_)
  · rw [if_pos (not_b h3)]
    repeat ((conv => whnf); refine ⟨by first | (unfold inI64; omega) | omega | exact ⟨by omega, by omega⟩ | exact rfl | decide +kernel, ?_⟩)
    conv => whnf
    exact ends_eq ⟨rfl, rfl⟩
  have h3 := not_f h3
  rw [if_neg (ne_f h3)]
  have hlen := hl.len
  repeat ((conv => whnf); refine ⟨by first | exact ⟨rfl, hlen⟩ | (unfold inI64; omega) | omega | exact ⟨by omega, by omega⟩ | exact rfl | decide +kernel, ?_⟩)
  conv => whnf
  refine cond_intro (fun h4 => ?_) (fun h4 => ?_)
  · have h4 : twV ns = true := h4
    rw [if_pos h4]
    repeat ((conv => whnf); refine ⟨by first | (unfold inI64; omega) | omega | exact ⟨by omega, by omega⟩ | exact rfl | decide +kernel, ?_⟩)
    conv => whnf
    exact ends_eq ⟨rfl, rfl⟩
  have h4 : twV ns = false := h4
  rw [if_neg (ne_t h4)]
  repeat ((conv => whnf); refine ⟨by first | exact ⟨rfl, hlen, hp⟩ | (unfold inI64; omega) | omega | exact ⟨by omega, by omega⟩ | exact rfl | decide +kernel, ?_⟩)
  conv => whnf
  refine cond_intro (fun h5 => ?_) (fun h5 => ?_)
  · have h5 : deepV ns = true := h5
    rw [if_pos h5]
    repeat ((conv => whnf); refine ⟨by first | (unfold inI64; omega) | omega | exact ⟨by omega, by omega⟩ | exact rfl | decide +kernel, ?_⟩)
    conv => whnf
    exact ends_eq ⟨rfl, rfl⟩
  have h5 : deepV ns = false := h5
  rw [if_neg (ne_t h5)]
  repeat ((conv => whnf); refine ⟨by first | (unfold inI64; omega) | omega | exact ⟨by omega, by omega⟩ | exact rfl | decide +kernel, ?_⟩)
  conv => whnf
  exact ends_eq ⟨rfl, rfl⟩

/-- A valid tree. -/
structure VldT (ns : List Nd) : Prop where
  lim : limV ns = true
  frm : frmV ns = true
  ord : ordV ns = true
  tw : twV ns = false
  dp : deepV ns = false
theorem chk_vld {ns : List Nd} : chkP ns = 0 ↔ VldT ns := by
  unfold chkP
  constructor
  · intro h
    by_cases h1 : limV ns = false; · rw [if_pos h1] at h; cases h
    rw [if_neg h1] at h
    by_cases h2 : frmV ns = false; · rw [if_pos h2] at h; cases h
    rw [if_neg h2] at h
    by_cases h3 : ordV ns = false; · rw [if_pos h3] at h; cases h
    rw [if_neg h3] at h
    by_cases h4 : twV ns = true; · rw [if_pos h4] at h; cases h
    rw [if_neg h4] at h
    by_cases h5 : deepV ns = true; · rw [if_pos h5] at h; cases h
    exact ⟨by simpa using h1, by simpa using h2, by simpa using h3, by simpa using h4, by simpa using h5⟩
  · intro ⟨h1, h2, h3, h4, h5⟩
    rw [if_neg (ne_f h1), if_neg (ne_f h2), if_neg (ne_f h3), if_neg (ne_t h4), if_neg (ne_t h5)]
theorem VldT.len {ns : List Nd} (h : VldT ns) : 0 < ns.length ∧ ns.length ≤ 120 := (lim_len h.lim).2
theorem VldT.par {ns : List Nd} (h : VldT ns) : ParOk ns := frm_par h.frm

def hasB (a : List Nd × Int) : Bool := decide (0 ≤ a.2) && decide (a.2 < (a.1.length : Nat)) && decide (chkP a.1 = 0)
def A16 : Table := ext A15 69 (saysG daTI eaTI fun a => (none, .bool (hasB a)))
theorem a16 : TSound Tryz.prog A16 := by
  refine extG a15 69 (fn := Tryz.f69) rfl rfl daTI eaTI _ (fun _ => Nat.le_of_ble_eq_true rfl) [0, 1, 2, 4] fun a _ => ?_
  obtain ⟨ns, i⟩ := a
  repeat ((conv => whnf); refine ⟨by first | exact fun _ => ⟨rfl, trivial⟩ | (unfold inI64; omega) | omega | exact ⟨by omega, by omega⟩ | exact rfl | decide +kernel, ?_⟩)
  conv => whnf
  exact ends_eq ⟨rfl, rfl⟩

/-! Paths. -/
def pathGo (ns : List Nd) : Nat → Nat → ByteArray → ByteArray
  | 0, _, s => s
  | k + 1, j, s => if j = 0 then s else pathGo ns k (paN ns j) (⟨#[47]⟩ ++ (ndAt ns j).2.1 ++ s)
def pathV (ns : List Nd) (i : Nat) : ByteArray := if i = 0 then ⟨#[47]⟩ else pathGo ns (i + 1) i ⟨#[]⟩
def A17 : Table := ext A16 70 (saysG daNI eaNI fun a => (some (VldT a.1 ∧ 0 ≤ a.2 ∧ a.2 < (a.1.length : Nat)), .str (pathV a.1 a.2.toNat)))
theorem a17 : TSound Tryz.prog A17 := by
  refine extG a16 70 (fn := Tryz.f70) rfl rfl daNI eaNI _ (fun _ => Nat.le_of_ble_eq_true rfl) [0, 1, 4, 5, 7, 9] fun a hok => ?_
  obtain ⟨ns, i⟩ := a
  obtain ⟨hv, hi0, hi1⟩ : VldT ns ∧ 0 ≤ i ∧ i < (ns.length : Nat) := hok
  obtain ⟨i, rfl⟩ : ∃ k : Nat, i = k := ⟨i.toNat, by omega⟩
  have hlen := hv.len
  have hpar := hv.par
  dsimp only
  rw [Int.toNat_natCast]
  unfold pathV
  repeat ((conv => whnf); refine ⟨by first | (unfold inI64; omega) | omega | exact ⟨by omega, by omega⟩ | exact rfl | decide +kernel, ?_⟩)
  conv => whnf
  refine cond_intro (fun h => ?_) (fun h => ?_)
  · have h1 : i = 0 := by
      have : (i : Int) = 0 := of_decide_eq_true h
      omega
    rw [if_pos h1]
    repeat ((conv => whnf); refine ⟨by first | (unfold inI64; omega) | omega | exact ⟨by omega, by omega⟩ | exact rfl | decide +kernel, ?_⟩)
    conv => whnf
    exact ends_eq ⟨rfl, rfl⟩
  have h1 : ¬ i = 0 := by
    have : ¬ (i : Int) = 0 := of_decide_eq_false h
    omega
  rw [if_neg h1]
  repeat ((conv => whnf); refine ⟨by first | (unfold inI64; omega) | omega | exact ⟨by omega, by omega⟩ | exact rfl | decide +kernel, ?_⟩)
  conv => whnf
  refine loop_intro (σ := Nat × Nat × ByteArray) (fun ⟨_, j, s⟩ => [(0, XV.s (.a (.c (.p (.l ndC ns))))), (1, XV.s (.int .i64 (j : Nat))), (4, XV.s .none), (5, XV.s (.str s)), (7, XV.s .none), (9, XV.s .none)])
    (fun _ => []) (fun ⟨k, j, s⟩ => j < k ∧ j < ns.length ∧ s.size + 32 * j ≤ 4000 ∧ pathGo ns (i + 1) i ⟨#[]⟩ = pathGo ns k j s) (fun ⟨_, j, _⟩ => j) (i + 1, i, ⟨#[]⟩) ?_ rfl ⟨by omega, by omega, by show 0 + 32 * i ≤ 4000; omega, rfl⟩ ?_
  · repeat (first | exact LeL.nil | refine LeL.drop ?_ | refine LeL.same ?_)
  rintro ⟨k, j, s⟩ ⟨hjk, hjl, hs, hgo⟩
  obtain ⟨k, rfl⟩ : ∃ m, k = m + 1 := ⟨k - 1, by omega⟩
  repeat ((conv => whnf); refine ⟨by first | (unfold inI64; omega) | omega | exact ⟨by omega, by omega⟩ | exact rfl | decide +kernel, ?_⟩)
  conv => whnf
  refine cond_intro (fun h2 => ?_) (fun h2 => ?_)
  · have hj0 : 0 < j := by
      have : (0 : Int) < (j : Nat) := of_decide_eq_true h2
      omega
    have hjn : 0 ≤ (j : Int) ∧ (j : Int) < (ns.length : Nat) := by omega
    have e : pathGo ns (k + 1) j s = pathGo ns k (paN ns j) (⟨#[47]⟩ ++ (ndAt ns j).2.1 ++ s) := by
      show (if j = 0 then s else _) = _
      rw [if_neg (by omega)]
    rw [e] at hgo
    have hnm := nam_size (frm_nam hv.frm hj0 hjl)
    have c1 : (((⟨#[47]⟩ : ByteArray).size + (ndAt ns j).2.1.size : Nat) : Int) ≤ 9223372036854775807 := by
      show ((1 + (ndAt ns j).2.1.size : Nat) : Int) ≤ _
      omega
    have c2 : (((⟨#[47]⟩ ++ (ndAt ns j).2.1 : ByteArray).size + s.size : Nat) : Int) ≤ 9223372036854775807 := by
      rw [ByteArray.size_append]
      show ((1 + (ndAt ns j).2.1.size + s.size : Nat) : Int) ≤ _
      omega
    repeat ((conv => whnf); refine ⟨by first | exact hjn | exact c1 | exact c2 | (unfold inI64; omega) | omega | exact ⟨by omega, by omega⟩ | exact rfl | decide +kernel, ?_⟩)
    conv => whnf
    obtain ⟨hp1, hp2⟩ := par_lt hpar hj0 hjl
    refine head_intro (k, paN ns j, ⟨#[47]⟩ ++ (ndAt ns j).2.1 ++ s) ?_ rfl ⟨by omega, by omega, ?_, hgo⟩ hp1
    · dsimp only
      rw [hp2]
      repeat (first | exact LeL.nil | refine LeL.drop ?_ | refine LeL.same ?_)
    · rw [ByteArray.size_append, ByteArray.size_append]
      show 1 + (ndAt ns j).2.1.size + s.size + 32 * paN ns j ≤ 4000
      omega
  · have hj0 : j = 0 := by
      have : ¬ (0 : Int) < (j : Nat) := of_decide_eq_false h2
      omega
    subst hj0
    have e : pathGo ns (k + 1) 0 s = s := rfl
    rw [e] at hgo
    repeat ((conv => whnf); refine ⟨by first | (unfold inI64; omega) | omega | exact ⟨by omega, by omega⟩ | exact rfl | decide +kernel, ?_⟩)
    conv => whnf
    rw [hgo]
    exact ends_eq ⟨rfl, rfl⟩

def daR2 : List AO → Option (List Nd × ByteArray)
  | [.row [.p (.l c0 ns)], .row [.p (.v (.string s))]] => match castD (e := ndC) (e' := c0) ns with | some ns => some (ns, s) | none => none
  | _ => none
abbrev hpR2 (ns : List Nd) (s : ByteArray) : List AO := [.row [.p (.l ndC ns)], .row [.str s]]
theorem id2 : ∀ k, k < 2 → [0, 1][k]? = some k := fun k hk => by
  have : k = 0 ∨ k = 1 := by omega
  rcases this with rfl | rfl <;> rfl
def isB (ns : List Nd) (s : ByteArray) (i : Nat) : Bool := decide (pathV ns i = s)
def saysFnd1 : Says := fun args H => match args, daR2 H with
  | [.c (.p (.v (.int .i64 i))), .c (.ptr 0 0), .c (.ptr 1 0)], some (ns, s) => some (some (H = hpR2 ns s ∧ VldT ns ∧ 0 ≤ i ∧ i < (ns.length : Nat)), .bool (isB ns s i.toNat), hpR2 ns s)
  | _, _ => none
def A18 : Table := ext A17 119 saysFnd1
theorem a18 : TSound Tryz.prog A18 := by
  refine ext_run a17 (f := 119) (fn := Tryz.f119) rfl rfl [0, 1, 2, 4] fun args H p r' H' hs hp => ?_
  unfold saysFnd1 at hs
  split at hs
  · rename_i i ns s _
    cases hs
    obtain ⟨rfl, h1, h2, h3⟩ := hp
    refine ⟨Nat.le_of_ble_eq_true rfl, [0, 1], rfl, id2, ?_⟩
    repeat ((conv => whnf); refine ⟨by first | exact ⟨rfl, h1, h2, h3⟩ | ((conv => whnf); exact ⟨⟨rfl, rfl, rfl⟩, trivial⟩) | exact Early.one (by decide +kernel) (by (conv => whnf); exact ⟨rfl, rfl, rfl⟩) trivial | (unfold inI64; omega) | omega | exact ⟨by omega, by omega⟩ | exact rfl | decide +kernel, ?_⟩)
    conv => whnf
    exact ends_eq ⟨rfl, rfl⟩
  · cases hs

def saysSkF : Says := fun args H => match args, daR2 H with
  | [.c (.p (.l c0 ns)), .c (.clo _ _ _)], some (_, s) => match castD (e := ndC) (e' := c0) ns with
    | some ns => some (some (args = [.c (.p (.l ndC ns)), .c (.clo false 119 [0, 1])] ∧ H = hpR2 ns s ∧ VldT ns), .int .i64 (skV (isB ns s) ns.length : Nat), hpR2 ns s)
    | none => none
  | _, _ => none
theorem a19' : TSound Tryz.prog (ext A18 112 saysSkF) := by
  refine ext_run a18 (f := 112) (fn := Tryz.f112) rfl rfl [0, 1, 4, 5, 7, 8, 9, 13] fun args H p r' H' hs hp => ?_
  unfold saysSkF at hs
  split at hs
  · split at hs
    · rename_i _ _ _ _ _ _ _ s _ _ ns _
      cases hs
      obtain ⟨ha, hH, h1⟩ := hp
      rw [ha, hH]
      have hlen := h1.len
      refine ⟨Nat.le_of_ble_eq_true rfl, [0, 1], rfl, id2, ?_⟩
      repeat ((conv => whnf); refine ⟨by first | (unfold inI64; omega) | omega | exact ⟨by omega, by omega⟩ | exact rfl | decide +kernel, ?_⟩)
      conv => whnf
      refine loop_intro (σ := Nat × Nat) (fun ⟨_, i⟩ => [(0, XV.s (.a (.c (.p (.l ndC ns))))), (1, XV.s (.a (.c (.clo false 119 [0, 1])))), (4, XV.s .none), (5, XV.s .none), (7, XV.s (.int .i64 (ns.length : Nat))), (8, XV.s (.int .i64 (i : Nat))), (9, XV.s .none), (13, XV.s .none)])
        (fun _ => hpR2 ns s) (fun ⟨m, i⟩ => i + m = ns.length ∧ skV (isB ns s) ns.length = skGo (isB ns s) m i) (fun ⟨m, _⟩ => m) (ns.length, 0) ?_ rfl ⟨Nat.zero_add _, rfl⟩ ?_
      · repeat (first | exact LeL.nil | refine LeL.drop ?_ | refine LeL.same ?_)
      rintro ⟨m, i⟩ ⟨him, hgo⟩
      repeat ((conv => whnf); refine ⟨by first | (unfold inI64; omega) | omega | exact ⟨by omega, by omega⟩ | exact rfl | decide +kernel, ?_⟩)
      conv => whnf
      refine cond_intro (fun h3 => ?_) (fun h3 => ?_)
      · have hlt := lt_of_dec h3
        obtain ⟨m, rfl⟩ : ∃ q, m = q + 1 := ⟨m - 1, by omega⟩
        have hin : 0 ≤ (i : Int) ∧ (i : Int) < (ns.length : Nat) := by omega
        have e : skGo (isB ns s) (m + 1) i = if isB ns s i = true then i else skGo (isB ns s) m (i + 1) := rfl
        rw [e] at hgo
        repeat ((conv => whnf); refine ⟨by first | exact ⟨rfl, h1, hin.1, hin.2⟩ | (unfold inI64; omega) | omega | exact ⟨by omega, by omega⟩ | exact rfl | decide +kernel, ?_⟩)
        conv => whnf
        refine cond_intro (fun h4 => ?_) (fun h4 => ?_)
        · have h5 : isB ns s i = true := h4
          rw [if_pos h5] at hgo
          repeat ((conv => whnf); refine ⟨by first | (unfold inI64; omega) | omega | exact ⟨by omega, by omega⟩ | exact rfl | decide +kernel, ?_⟩)
          conv => whnf
          rw [hgo]
          exact ends_eq ⟨rfl, rfl⟩
        have h5 : ¬ isB ns s i = true := ne_t h4
        rw [if_neg h5] at hgo
        repeat ((conv => whnf); refine ⟨by first | (unfold inI64; omega) | omega | exact ⟨by omega, by omega⟩ | exact rfl | decide +kernel, ?_⟩)
        conv => whnf
        refine head_intro (m, i + 1) ?_ rfl ⟨by omega, hgo⟩ (Nat.lt_succ_self m)
        repeat (first | exact LeL.nil | refine LeL.drop ?_ | refine LeL.same ?_)
      · have hge := ge_of_dec h3
        obtain rfl : m = 0 := by omega
        obtain rfl : i = ns.length := by omega
        repeat ((conv => whnf); refine ⟨by first | (unfold inI64; omega) | omega | exact ⟨by omega, by omega⟩ | exact rfl | decide +kernel, ?_⟩)
        conv => whnf
        rw [hgo]
        exact ends_eq ⟨rfl, rfl⟩
    · cases hs
  · cases hs
def A19 : Table := ext A18 112 saysSkF
theorem a19 : TSound Tryz.prog A19 := a19'

def fndV (a : List Nd × ByteArray) : Int × Bool := if skV (isB a.1 a.2) a.1.length = a.1.length then (0, false) else (((skV (isB a.1 a.2) a.1.length : Nat) : Int), true)
abbrev fndR (x : Int × Bool) : SV := .tup [.c (.int .i64 x.1), .c (.bool x.2)]
def A20 : Table := ext A19 74 (saysG daNS eaNS fun a => (some (VldT a.1), fndR (fndV a)))
theorem a20 : TSound Tryz.prog A20 := by
  refine extG a19 74 (fn := Tryz.f74) rfl rfl daNS eaNS _ (fun _ => Nat.le_of_ble_eq_true rfl) [0, 1, 2, 3, 4, 5, 6, 13] fun a hok => ?_
  obtain ⟨ns, s⟩ := a
  have hv : VldT ns := hok
  dsimp only
  unfold fndV
  dsimp only
  repeat ((conv => whnf); refine ⟨by first | exact ⟨rfl, rfl, hv⟩ | (unfold inI64; omega) | omega | exact ⟨by omega, by omega⟩ | exact rfl | decide +kernel, ?_⟩)
  conv => whnf
  refine cond_intro (fun h => ?_) (fun h => ?_)
  · have h1 : skV (isB ns s) ns.length = ns.length := by
      have : ((skV (isB ns s) ns.length : Nat) : Int) = (ns.length : Nat) := of_decide_eq_true h
      omega
    rw [if_pos h1]
    repeat ((conv => whnf); refine ⟨by first | (unfold inI64; omega) | omega | exact ⟨by omega, by omega⟩ | exact rfl | decide +kernel, ?_⟩)
    conv => whnf
    exact ends_eq ⟨rfl, rfl⟩
  have h1 : ¬ skV (isB ns s) ns.length = ns.length := by
    have : ¬ ((skV (isB ns s) ns.length : Nat) : Int) = (ns.length : Nat) := of_decide_eq_false h
    omega
  rw [if_neg h1]
  repeat ((conv => whnf); refine ⟨by first | (unfold inI64; omega) | omega | exact ⟨by omega, by omega⟩ | exact rfl | decide +kernel, ?_⟩)
  conv => whnf
  exact ends_eq ⟨rfl, rfl⟩

def FindV (a : List Nd × ByteArray) : Int × Bool := if chkP a.1 = 0 then fndV a else (0, false)
def A21 : Table := ext A20 27 (saysG daTS eaTS fun a => (none, fndR (FindV a)))
theorem a21 : TSound Tryz.prog A21 := by
  refine extG a20 27 (fn := Tryz.f27) rfl rfl daTS eaTS _ (fun _ => Nat.le_of_ble_eq_true rfl) [0, 1, 2, 4, 5, 8] fun a _ => ?_
  obtain ⟨ns, s⟩ := a
  dsimp only
  unfold FindV
  dsimp only
  repeat ((conv => whnf); refine ⟨by first | exact ⟨rfl, trivial⟩ | (unfold inI64; omega) | omega | exact ⟨by omega, by omega⟩ | exact rfl | decide +kernel, ?_⟩)
  conv => whnf
  refine cond_intro (fun h => ?_) (fun h => ?_)
  · have h1 : ¬ chkP ns = 0 := by
      have h2 : (!decide (chkP ns = 0)) = true := h
      simpa using h2
    rw [if_neg h1]
    repeat ((conv => whnf); refine ⟨by first | (unfold inI64; omega) | omega | exact ⟨by omega, by omega⟩ | exact rfl | decide +kernel, ?_⟩)
    conv => whnf
    exact ends_eq ⟨rfl, rfl⟩
  have h1 : chkP ns = 0 := by
    have h2 : (!decide (chkP ns = 0)) = false := h
    simpa using h2
  rw [if_pos h1]
  have hv := chk_vld.1 h1
  repeat ((conv => whnf); refine ⟨by first | exact ⟨rfl, hv⟩ | (unfold inI64; omega) | omega | exact ⟨by omega, by omega⟩ | exact rfl | decide +kernel, ?_⟩)
  conv => whnf
  exact ends_eq ⟨rfl, rfl⟩

def PathV (a : List Nd × Int) : ByteArray := if hasB a = true then pathV a.1 a.2.toNat else ⟨#[]⟩
theorem has_vld {ns : List Nd} {i : Int} (h : hasB (ns, i) = true) : VldT ns ∧ 0 ≤ i ∧ i < (ns.length : Nat) := by
  unfold hasB at h
  simp only [Bool.and_eq_true, decide_eq_true_eq] at h
  exact ⟨chk_vld.1 h.2, h.1.1, h.1.2⟩
def A22 : Table := ext A21 18 (saysG daTI eaTI fun a => (none, .str (PathV a)))
theorem a22 : TSound Tryz.prog A22 := by
  refine extG a21 18 (fn := Tryz.f18) rfl rfl daTI eaTI _ (fun _ => Nat.le_of_ble_eq_true rfl) [0, 1, 2, 4, 8] fun a _ => ?_
  obtain ⟨ns, i⟩ := a
  dsimp only
  unfold PathV
  repeat ((conv => whnf); refine ⟨by first | exact ⟨rfl, trivial⟩ | (unfold inI64; omega) | omega | exact ⟨by omega, by omega⟩ | exact rfl | decide +kernel, ?_⟩)
  conv => whnf
  refine cond_intro (fun h => ?_) (fun h => ?_)
  · have h1 : hasB (ns, i) = false := not_b h
    rw [if_neg (ne_t h1)]
    repeat ((conv => whnf); refine ⟨by first | (unfold inI64; omega) | omega | exact ⟨by omega, by omega⟩ | exact rfl | decide +kernel, ?_⟩)
    conv => whnf
    exact ends_eq ⟨rfl, rfl⟩
  have h1 : hasB (ns, i) = true := not_f h
  rw [if_pos h1]
  have hv := has_vld h1
  repeat ((conv => whnf); refine ⟨by first | exact ⟨rfl, hv⟩ | (unfold inI64; omega) | omega | exact ⟨by omega, by omega⟩ | exact rfl | decide +kernel, ?_⟩)
  conv => whnf
  exact ends_eq ⟨rfl, rfl⟩

/-! Children. -/
theorem id2c : ∀ k, k < 1 → [0, 1][k]? = some k := fun k hk => by
  obtain rfl : k = 0 := by omega
  rfl
def chlGo (ns : List Nd) (i : Int) : Nat → Nat → List Int → List Int
  | 0, _, out => out
  | m + 1, j, out => chlGo ns i m (j + 1) (if (ndAt ns j).1 = i then out ++ [(j : Int)] else out)
def chlV (a : List Nd × Int) : List Int := if hasB a = true then chlGo a.1 a.2 a.1.length 0 [] else []
def A23 : Table := ext A22 21 (saysG daTI eaTI fun a => (none, .list (.int .i64) (chlV a)))
theorem a23 : TSound Tryz.prog A23 := by
  refine extG a22 21 (fn := Tryz.f21) rfl rfl daTI eaTI _ (fun _ => Nat.le_of_ble_eq_true rfl) [0, 1, 2, 4, 5, 6, 7, 11, 13, 14, 15, 16, 23] fun a _ => ?_
  obtain ⟨ns, i⟩ := a
  dsimp only
  unfold chlV
  repeat ((conv => whnf); refine ⟨by first | exact ⟨rfl, trivial⟩ | (unfold inI64; omega) | omega | exact ⟨by omega, by omega⟩ | exact rfl | decide +kernel, ?_⟩)
  conv => whnf
  refine cond_intro (fun h => ?_) (fun h => ?_)
  · have h1 : hasB (ns, i) = false := not_b h
    rw [if_neg (ne_t h1)]
    repeat ((conv => whnf); refine ⟨by first | (unfold inI64; omega) | omega | exact ⟨by omega, by omega⟩ | exact rfl | decide +kernel, ?_⟩)
    conv => whnf
    refine ends_of (fun G v hv => ?_) rfl
    obtain ⟨_, rfl⟩ := hv
    exact .inl ⟨rfl, rfl⟩
  have h1 : hasB (ns, i) = true := not_f h
  rw [if_pos h1]
  obtain ⟨hv, _, _⟩ := has_vld h1
  have hlen := hv.len
  have hlo : ∀ m j out, (chlGo ns i m j out).length ≤ out.length + m := by
    intro m
    induction m with
    | zero => intro j out; exact Nat.le_refl _
    | succ m ih =>
      intro j out
      unfold chlGo
      refine Nat.le_trans (ih _ _) ?_
      split
      · rw [List.length_append]; simp only [List.length_cons, List.length_nil]; omega
      · omega
  repeat ((conv => whnf); refine ⟨by first | (unfold inI64; omega) | omega | exact ⟨by omega, by omega⟩ | exact rfl | decide +kernel, ?_⟩)
  conv => whnf
  refine loop_weak (σ := Nat × Nat × List Int) (fun ⟨_, j, out⟩ => [(0, XV.s .none), (1, XV.s (.int .i64 i)), (2, XV.s .none), (4, XV.s .none), (5, XV.s (.a (.c (.own 1 (.int .i64) out)))), (6, XV.s .none), (7, XV.s .none), (11, XV.s .none), (13, XV.s (.a (.c (.p (.l ndC ns))))), (14, XV.s (.int .i64 (ns.length : Nat))), (15, XV.s (.int .i64 (j : Nat))), (16, XV.s .none), (23, XV.s .none)])
    (fun ⟨_, _, out⟩ => [.row [.p (.l ndC ns)], .tok 3 (.int .i64) out.length true]) (fun ⟨m, j, out⟩ => j + m = ns.length ∧ out.length ≤ j ∧ chlGo ns i ns.length 0 [] = chlGo ns i m j out) (fun ⟨m, _, _⟩ => m) (ns.length, 0, []) ?_ ⟨Nat.zero_add _, Nat.zero_le _, rfl⟩ ?_
  · refine Weak.own 3 ?_
    repeat (first | exact OwnL.nil | refine OwnL.drop ?_ | refine OwnL.same ?_ | refine OwnL.own ?_)
  rintro ⟨m, j, out⟩ ⟨hjm, hol, hgo⟩
  repeat ((conv => whnf); refine ⟨by first | (unfold inI64; omega) | omega | exact ⟨by omega, by omega⟩ | exact rfl | decide +kernel, ?_⟩)
  conv => whnf
  refine cond_intro (fun h2 => ?_) (fun h2 => ?_)
  · have hlt := lt_of_dec h2
    obtain ⟨m, rfl⟩ : ∃ q, m = q + 1 := ⟨m - 1, by omega⟩
    have hin : 0 ≤ (j : Int) ∧ (j : Int) < (ns.length : Nat) := by omega
    have e : chlGo ns i (m + 1) j out = chlGo ns i m (j + 1) (if (ndAt ns j).1 = i then out ++ [(j : Int)] else out) := rfl
    rw [e] at hgo
    repeat ((conv => whnf); refine ⟨by first | exact hin | (unfold inI64; omega) | omega | exact ⟨by omega, by omega⟩ | exact rfl | decide +kernel, ?_⟩)
    conv => whnf
    rw [nd_at]
    refine cond_intro (fun h3 => ?_) (fun h3 => ?_)
    · have h4 : (ndAt ns j).1 = i := of_decide_eq_true h3
      rw [if_pos h4] at hgo
      have c1 : out.length + 1 ≤ 1000000000000 := by omega
      repeat ((conv => whnf); refine ⟨by first | (unfold inI64; omega) | omega | exact ⟨by omega, by omega⟩ | exact rfl | decide +kernel, ?_⟩)
      conv => whnf
      refine ⟨c1, ?_⟩
      repeat ((conv => whnf); refine ⟨by first | (unfold inI64; omega) | omega | exact ⟨by omega, by omega⟩ | exact rfl | decide +kernel, ?_⟩)
      conv => whnf
      refine head_keep (m, j + 1, out ++ [(j : Int)]) [0, 1] rfl id2c ?_ ?_ ⟨by omega, ?_, hgo⟩ (Nat.lt_succ_self m)
      · show _ = some [AO.row _, AO.tok _ _ (out ++ [(j : Int)]).length true]
        rw [List.length_append]
        rfl
      · repeat (first | exact KeepL.nil | refine KeepL.drop ?_ | refine KeepL.ren rfl ?_)
      · rw [List.length_append]; simp only [List.length_cons, List.length_nil]; omega
    have h4 : ¬ (ndAt ns j).1 = i := of_decide_eq_false h3
    rw [if_neg h4] at hgo
    repeat ((conv => whnf); refine ⟨by first | (unfold inI64; omega) | omega | exact ⟨by omega, by omega⟩ | exact rfl | decide +kernel, ?_⟩)
    conv => whnf
    refine head_keep (m, j + 1, out) [0, 1] rfl id2c rfl ?_ ⟨by omega, by omega, hgo⟩ (Nat.lt_succ_self m)
    repeat (first | exact KeepL.nil | refine KeepL.drop ?_ | refine KeepL.ren rfl ?_)
  · have hge := ge_of_dec h2
    obtain rfl : m = 0 := by omega
    repeat ((conv => whnf); refine ⟨by first | (unfold inI64; omega) | omega | exact ⟨by omega, by omega⟩ | exact rfl | decide +kernel, ?_⟩)
    conv => whnf
    rw [hgo]
    exact ends_eq ⟨rfl, rfl⟩
end Go.Ab
