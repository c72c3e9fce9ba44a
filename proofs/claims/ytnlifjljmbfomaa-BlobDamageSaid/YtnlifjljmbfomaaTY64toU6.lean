/- Package tree: Check, paths, Find, Children. -/
import Derived.Test.YtnlifjljmbfomaaTY61toY63
import Derived.Test.YtnlifjljmbfomaaTX0toY60
import Derived.Shelf.SlicesE.Clone
namespace Go.Ab
open Go.Proofs
set_option linter.unusedSectionVars false
set_option maxRecDepth 100000
variable [Base]

theorem lim_len {ns : List Nd} (h : limV ns = true) : LenN ns ∧ 0 < ns.length ∧ ns.length ≤ 120 := by
  unfold limV at h
  simp only [Bool.and_eq_true, Bool.not_eq_true', decide_eq_false_iff_not, decide_eq_true_eq, List.all_eq_true] at h
  obtain ⟨⟨h1, h2⟩, h3⟩ := h
  refine ⟨⟨by omega, fun n hn => ?_⟩, by omega, h2⟩
  have h4 := h3 n hn
  unfold ndLim at h4
  simp only [Bool.and_eq_true, decide_eq_true_eq] at h4
  omega
theorem frm_at : ∀ (l : List Nd) (i : Nat), frmGo i l = true → ∀ k (hk : k < l.length), ndFrm (i + k) l[k] = true := by
  intro l
  induction l with
  | nil => intro i _ k hk; exact absurd hk (Nat.not_lt_zero k)
  | cons n r ih =>
    intro i h k hk
    obtain ⟨h1, h2⟩ := Bool.and_eq_true_iff.1 h
    cases k with
    | zero => exact h1
    | succ k =>
      have := ih (i + 1) h2 k (by simpa using hk)
      rw [show i + 1 + k = i + (k + 1) by omega] at this
      exact this
theorem frm_nd {ns : List Nd} (h : frmV ns = true) {i : Nat} (hi : i < ns.length) : ndFrm i (ndAt ns i) = true := by
  have := frm_at ns 0 h i hi
  rw [Nat.zero_add] at this
  have e : ndAt ns i = ns[i] := by unfold ndAt; simp [hi]
  rw [e]
  exact this
theorem frm_par {ns : List Nd} (h : frmV ns = true) : ParOk ns := by
  intro i h0 hi
  have h1 := frm_nd h hi
  unfold ndFrm at h1
  obtain ⟨h2, _⟩ := Bool.and_eq_true_iff.1 h1
  obtain ⟨_, h3⟩ := Bool.and_eq_true_iff.1 h2
  have e : decide (0 < (i : Int)) = true := decide_eq_true (by omega)
  rw [e, Bool.true_and, Bool.not_eq_true'] at h3
  obtain ⟨h4, _⟩ := Bool.or_eq_false_iff.1 h3
  obtain ⟨h5, h6⟩ := Bool.or_eq_false_iff.1 h4
  have h5 : ¬ paI ns i < 0 := of_decide_eq_false h5
  have h6 : ¬ (i : Int) ≤ paI ns i := of_decide_eq_false h6
  omega
theorem frm_nam {ns : List Nd} (h : frmV ns = true) {i : Nat} (h0 : 0 < i) (hi : i < ns.length) : namB (ndAt ns i).2.1 = true := by
  have h1 := frm_nd h hi
  unfold ndFrm at h1
  obtain ⟨h2, _⟩ := Bool.and_eq_true_iff.1 h1
  obtain ⟨_, h3⟩ := Bool.and_eq_true_iff.1 h2
  have e : decide (0 < (i : Int)) = true := decide_eq_true (by omega)
  rw [e, Bool.true_and, Bool.not_eq_true'] at h3
  simpa using (Bool.or_eq_false_iff.1 h3).2
theorem nam_size {s : ByteArray} (h : namB s = true) : s.size ≤ 31 := by
  unfold namB consB at h
  simp only [Bool.and_eq_true, decide_eq_true_eq] at h
  omega

def chkP (ns : List Nd) : Int := if limV ns = false then 3 else if frmV ns = false then 1 else if ordV ns = false then 12 else if twV ns = true then 5 else if deepV ns = true then 2 else 0

theorem not_b {b : Bool} (h : (!b) = true) : b = false := by simpa using h
theorem not_f {b : Bool} (h : (!b) = false) : b = true := by simpa using h
theorem ne_f {b : Bool} (h : b = true) : ¬ b = false := by rw [h]; simp
theorem ne_t {b : Bool} (h : b = false) : ¬ b = true := by rw [h]; simp

def A15 : Table := ext A14 12 (saysG daT eaT fun ns => (none, .int .i64 (chkP ns)))
theorem a15 : TSound Try.prog A15 := by
  refine extG a14 12 (fn := Try.f12) rfl rfl daT eaT _ (fun _ => Nat.le_of_ble_eq_true rfl) [0, 1, 2, 3, 8, 13, 18, 22] fun ns _ => ?_
  dsimp only
  unfold chkP
  repeat ((conv => whnf); refine ⟨by first | exact ⟨rfl, trivial⟩ | (unfold inI64; omega) | omega | exact ⟨by omega, by omega⟩ | exact rfl | decide +kernel, ?_⟩)
  conv => whnf
  refine cond_intro (fun h1 => ?_) (fun h1 => ?_)
  · rw [if_pos (not_b h1)]
    repeat ((conv => whnf); refine ⟨by first | (unfold inI64; omega) | omega | exact ⟨by omega, by omega⟩ | exact rfl | decide +kernel, ?_⟩)
    conv => whnf
    exact ends_eq ⟨rfl, rfl⟩
  have h1 := not_f h1
  rw [if_neg (ne_f h1)]
  obtain ⟨hl, _, _⟩ := lim_len h1
  repeat ((conv => whnf); refine ⟨by first | exact ⟨rfl, hl⟩ | (unfold inI64; omega) | omega | exact ⟨by omega, by omega⟩ | exact rfl | decide +kernel, ?_⟩)
  conv => whnf
  refine cond_intro (fun h2 => ?_) (fun h2 => ?_)
  · rw [if_pos (not_b h2)]
    repeat ((conv => whnf); refine ⟨by first | (unfold inI64; omega) | omega | exact ⟨by omega, by omega⟩ | exact rfl | decide +kernel, ?_⟩)
    conv => whnf
    exact ends_eq ⟨rfl, rfl⟩
  have h2 := not_f h2
  rw [if_neg (ne_f h2)]
  have hp := frm_par h2
  repeat ((conv => whnf); refine ⟨by first | exact ⟨rfl, hl, hp⟩ | (unfold inI64; omega) | omega | exact ⟨by omega, by omega⟩ | exact rfl | decide +kernel, ?_⟩)
  conv => whnf
  refine cond_intro (fun h3 => ?_) (fun h3 => ?_)
  · rw [if_pos (not_b h3)]
    repeat ((conv => whnf); refine ⟨by first | (unfold inI64; omega) | omega | exact ⟨by omega, by omega⟩ | exact rfl | decide +kernel, ?_⟩)
    conv => whnf
    exact ends_eq ⟨rfl, rfl⟩
  have h3 := not_f h3
  rw [if_neg (ne_f h3)]
  have hlen := hl.len
  repeat ((conv => whnf); refine ⟨by first | exact ⟨rfl, hlen⟩ | (unfold inI64; omega) | omega | exact ⟨by omega, by omega⟩ | exact rfl | decide +kernel, ?_⟩)
  conv => whnf
  refine cond_intro (fun h4 => ?_) (fun h4 => ?_)
  · have h4 : twV ns = true := h4
    rw [if_pos h4]
    repeat ((conv => whnf); refine ⟨by first | (unfold inI64; omega) | omega | exact ⟨by omega, by omega⟩ | exact rfl | decide +kernel, ?_⟩)
    conv => whnf
    exact ends_eq ⟨rfl, rfl⟩
  have h4 : twV ns = false := h4
  rw [if_neg (ne_t h4)]
  repeat ((conv => whnf); refine ⟨by first | exact ⟨rfl, hlen, hp⟩ | (unfold inI64; omega) | omega | exact ⟨by omega, by omega⟩ | exact rfl | decide +kernel, ?_⟩)
  conv => whnf
  refine cond_intro (fun h5 => ?_) (fun h5 => ?_)
  · have h5 : deepV ns = true := h5
    rw [if_pos h5]
    repeat ((conv => whnf); refine ⟨by first | (unfold inI64; omega) | omega | exact ⟨by omega, by omega⟩ | exact rfl | decide +kernel, ?_⟩)
    conv => whnf
    exact ends_eq ⟨rfl, rfl⟩
  have h5 : deepV ns = false := h5
  rw [if_neg (ne_t h5)]
  repeat ((conv => whnf); refine ⟨by first | (unfold inI64; omega) | omega | exact ⟨by omega, by omega⟩ | exact rfl | decide +kernel, ?_⟩)
  conv => whnf
  exact ends_eq ⟨rfl, rfl⟩

/-- A valid tree. -/
structure VldT (ns : List Nd) : Prop where
  lim : limV ns = true
  frm : frmV ns = true
  ord : ordV ns = true
  tw : twV ns = false
  dp : deepV ns = false
theorem chk_vld {ns : List Nd} : chkP ns = 0 ↔ VldT ns := by
  unfold chkP
  constructor
  · intro h
    by_cases h1 : limV ns = false; · rw [if_pos h1] at h; cases h
    rw [if_neg h1] at h
    by_cases h2 : frmV ns = false; · rw [if_pos h2] at h; cases h
    rw [if_neg h2] at h
    by_cases h3 : ordV ns = false; · rw [if_pos h3] at h; cases h
    rw [if_neg h3] at h
    by_cases h4 : twV ns = true; · rw [if_pos h4] at h; cases h
    rw [if_neg h4] at h
    by_cases h5 : deepV ns = true; · rw [if_pos h5] at h; cases h
    exact ⟨by simpa using h1, by simpa using h2, by simpa using h3, by simpa using h4, by simpa using h5⟩
  · intro ⟨h1, h2, h3, h4, h5⟩
    rw [if_neg (ne_f h1), if_neg (ne_f h2), if_neg (ne_f h3), if_neg (ne_t h4), if_neg (ne_t h5)]
theorem VldT.len {ns : List Nd} (h : VldT ns) : 0 < ns.length ∧ ns.length ≤ 120 := (lim_len h.lim).2
theorem VldT.par {ns : List Nd} (h : VldT ns) : ParOk ns := frm_par h.frm

def hasB (a : List Nd × Int) : Bool := decide (0 ≤ a.2) && decide (a.2 < (a.1.length : Nat)) && decide (chkP a.1 = 0)
abbrev A16 : Table := A15
theorem a16 : TSound Try.prog A16 := a15
/-! Paths. -/
def pathGo (ns : List Nd) : Nat → Nat → ByteArray → ByteArray
  | 0, _, s => s
  | k + 1, j, s => if j = 0 then s else pathGo ns k (paN ns j) (⟨#[47]⟩ ++ (ndAt ns j).2.1 ++ s)
def pathV (ns : List Nd) (i : Nat) : ByteArray := if i = 0 then ⟨#[47]⟩ else pathGo ns (i + 1) i ⟨#[]⟩
abbrev A17 : Table := A16
theorem a17 : TSound Try.prog A17 := a16
def daR2 : List AO → Option (List Nd × ByteArray)
  | [.row [.p (.l c0 ns)], .row [.p (.v (.string s))]] => match castD (e := ndC) (e' := c0) ns with | some ns => some (ns, s) | none => none
  | _ => none
abbrev hpR2 (ns : List Nd) (s : ByteArray) : List AO := [.row [.p (.l ndC ns)], .row [.str s]]
theorem id2 : ∀ k, k < 2 → [0, 1][k]? = some k := fun k hk => by
  have : k = 0 ∨ k = 1 := by omega
  rcases this with rfl | rfl <;> rfl
def isB (ns : List Nd) (s : ByteArray) (i : Nat) : Bool := decide (pathV ns i = s)
def saysFnd1 : Says := fun args H => match args, daR2 H with
  | [.c (.p (.v (.int .i64 i))), .c (.ptr 0 0), .c (.ptr 1 0)], some (ns, s) => some (some (H = hpR2 ns s ∧ VldT ns ∧ 0 ≤ i ∧ i < (ns.length : Nat)), .bool (isB ns s i.toNat), hpR2 ns s)
  | _, _ => none
abbrev A18 : Table := A17
theorem a18 : TSound Try.prog A18 := a17
abbrev A19 : Table := A18
theorem a19 : TSound Try.prog A19 := a18
def fndV (a : List Nd × ByteArray) : Int × Bool := if skV (isB a.1 a.2) a.1.length = a.1.length then (0, false) else (((skV (isB a.1 a.2) a.1.length : Nat) : Int), true)
abbrev fndR (x : Int × Bool) : SV := .tup [.c (.int .i64 x.1), .c (.bool x.2)]
abbrev A20 : Table := A19
theorem a20 : TSound Try.prog A20 := a19
def FindV (a : List Nd × ByteArray) : Int × Bool := if chkP a.1 = 0 then fndV a else (0, false)
abbrev A21 : Table := A20
theorem a21 : TSound Try.prog A21 := a20
def PathV (a : List Nd × Int) : ByteArray := if hasB a = true then pathV a.1 a.2.toNat else ⟨#[]⟩
theorem has_vld {ns : List Nd} {i : Int} (h : hasB (ns, i) = true) : VldT ns ∧ 0 ≤ i ∧ i < (ns.length : Nat) := by
  unfold hasB at h
  simp only [Bool.and_eq_true, decide_eq_true_eq] at h
  exact ⟨chk_vld.1 h.2, h.1.1, h.1.2⟩
abbrev A22 : Table := A21
theorem a22 : TSound Try.prog A22 := a21
/-! Children. -/
theorem id2c : ∀ k, k < 1 → [0, 1][k]? = some k := fun k hk => by
  obtain rfl : k = 0 := by omega
  rfl
def chlGo (ns : List Nd) (i : Int) : Nat → Nat → List Int → List Int
  | 0, _, out => out
  | m + 1, j, out => chlGo ns i m (j + 1) (if (ndAt ns j).1 = i then out ++ [(j : Int)] else out)
def chlV (a : List Nd × Int) : List Int := if hasB a = true then chlGo a.1 a.2 a.1.length 0 [] else []
abbrev A23 : Table := A22
theorem a23 : TSound Try.prog A23 := a22
end Go.Ab
namespace Go.Ab
open Go.Proofs Go.Shelf Go.RowKit Go.Lib
set_option linter.unusedSectionVars false

set_option maxHeartbeats 2000000 in
set_option maxRecDepth 100000 in
/-- A slice of nothing, wherever it lies. -/
theorem clone_zero {P : Program} {ρ : Ren} (L : SlLaysE0.n41 P ρ) (i0 : TypeInfo) (z : Value) (size bytes : Nat) (hi : P.info? (ρ.t 23) = some i0) (hz0 : i0.zero = some z) (hz1 : i0.size = size) (hz2 : i0.bytes = bytes) (hzs : z.cells.size = size) (hsz : 0 < size)
    (z23 : ∀ w, (Go.sizeOf (ρ.t 23)).run P w = .ok size w) (a : Addr) (c : Nat) (w : World) :
    Calls P (ρ.f 41) #[.slice (some a) 0 c] w fun e w' => ∃ v', e = .returned v' ∧ w'.ownsRow w.heap.size (ρ.t 23) size v' 0 [] ∧ Below w.heap.size w w' := by
  have mixed := L.mixed; have t4 := L.t4; have a4 := L.a4; have z4 := L.z4; have v4 := L.v4; have t22 := L.t22; have a22 := L.a22; have z22 := L.z22; have v22 := L.v22
  have q22 : ∀ (w : World) (a : Option Addr) (n c n' c' : Nat), (binOp .eql (ρ.t 22) (.slice a n c) (.slice none n' c')).run P w = .ok (.bool a.isNone) w := fun w a n c n' c' => Lib.run_eql_slice_nil w _ _ a n c n' c' L.t22
  have u22 : ∀ w, Sem.run P (underlying (ρ.t 22)) w = .ok (TypeDesc.slice (ρ.t 23)) w := run_underlying t22
  obtain ⟨_, _, FG⟩ := L.f41
  go_enter FG, SlBodyN.n41_ntmps ρ
  go_wp2_with (at_builtin; refine wpList_append_own _ rfl _ _ (ρ.t 22) rfl w.heap.size (ρ.t 23) i0 z size bytes t22 hi hz0 hz1 hz2 hzs hsz _ _ _ rfl (World.ownsRow_made w #[] 0 (Nat.le_refl _) (Nat.zero_le _) (by simp)) a 0 c [] rfl ?qc1 ?qc2 ?qc3 ?qc4 ?qc5 ?qc6 ?_)
  case qc1 => simp
  case qc2 => intro j u hj; simp at hj
  case qc3 => intro u hu; simp at hu
  case qc4 => rw [Nat.zero_add]; exact Nat.zero_le _
  case qc5 => simp
  case qc6 => simp
  intro v' w1 hown hgrow hnil
  go_wp2
  go_ret
  refine ⟨v', rfl, by simpa using hown, ?_⟩
  exact ((Below.refl _ w).alloc (Nat.le_refl _) _).grown hgrow (by simp) (by intro k hk; simp [Value.ownBlock] at hk; omega)

variable [Base]

/-- What the kit's contract says at a type of elements, over shapes. -/
structure CloneAt (P : Program) (f : FuncId) (t : TypeId) (c : CT) : Prop where
  none' : ∀ (n k : Nat) (w : World), Calls P f #[.slice none n k] w fun e w' => e = .returned (.slice none 0 0) ∧ w' = w
  some' : ∀ (a : Addr) (n k : Nat) (news : List Value) (w : World), news.length = n * c.width → n ≤ 1000000000 → (∀ j u, news[j]? = some u → a.spot = none ∧ w.at' a.block (a.off + j) = some u) → (∀ u ∈ news, u.oneCell' = true) →
    Calls P f #[.slice (some a) n k] w fun e w' => ∃ v', e = .returned v' ∧ w'.ownsRow w.heap.size t c.width v' n news ∧ Below w.heap.size w w'

theorem clone_at {P : Program} {ρ : Ren} (L : SlLaysE0.n41 P ρ) {c : CT} (i0 : TypeInfo) (z : Value) (bytes : Nat) (hi : P.info? (ρ.t 23) = some i0) (hz0 : i0.zero = some z) (hz1 : i0.size = c.width) (hz2 : i0.bytes = bytes) (hzs : z.cells.size = c.width) (hb : bytes ≤ 1000)
    (z23 : ∀ w, (Go.sizeOf (ρ.t 23)).run P w = .ok c.width w) (hc : 0 < c.width) : CloneAt P (ρ.f 41) (ρ.t 23) c where
  none' := fun n k w => AnyE.slices_Clone_nil L n k w
  some' := fun a n k news w hl hn hm h1 => by
    cases hnews : news with
    | nil =>
      have hn0 : n = 0 := by
        rw [hnews] at hl
        rcases Nat.eq_zero_or_pos n with h | h
        · exact h
        · have := Nat.mul_pos h hc
          simp at hl
          omega
      subst hn0
      exact clone_zero L i0 z c.width bytes hi hz0 hz1 hz2 hzs hc z23 a k w
    | cons x r =>
      have h0 : news[0]? = some x := by rw [hnews]; rfl
      obtain ⟨b, off, spot⟩ := a
      have hs : spot = none := (hm 0 x h0).1
      subst hs
      rw [← hnews]
      refine (AnyE.slices_Clone L i0 z c.width bytes hi hz0 hz1 hz2 hzs hc z23 b off n k news w hl ?_ ?_ (fun j u hj => (hm j u hj).2) h1).mono fun e w' ⟨v', h2, h3, _, h4⟩ => ⟨v', h2, h3, h4⟩
      · exact Nat.le_trans hn (by unfold maxLen; omega)
      · exact Nat.le_trans (Nat.mul_le_mul hn hb) (by omega)

/-! A callee that has only made memory. -/
def View.more (G : View) (w' : World) (J : Nat → Nat → Prop) : View := { ρ := G.ρ, I := fun b x => G.I b x ∨ J b x, H := G.H, w := w' }

theorem Ext.more {G : View} (hS : Sim G) {w' : World} (hb : Below G.w.heap.size G.w w') {J : Nat → Nat → Prop} (hJ : ∀ b x, J b x → G.w.heap.size ≤ b ∧ b < w'.heap.size) : Ext G (G.more w' J) where
  stays := ⟨fun _ _ h => .inl h, fun b x h => at_of_block (hb.block _ (hS.ilt b x h)) x, fun b x es c h hm => (hb.block _ (hS.ilt b x h)).trans hm⟩
  size := hb.size
  os := hb.os
  tape := hb.tape
  output := hb.output
  objs := fun id ob h => ⟨ob, h, AO.next_keep ob fun hbl => ⟨rfl, hb.block _ (hS.lt ⟨ob, h, hbl, rfl⟩)⟩⟩
  frame := fun b hlt _ => hb.block b hlt
  news := fun _ _ h => .inl h
  inew := fun b x h => by
    rcases h with h | h
    · exact .inl h
    · exact .inr (.inl (hJ b x h).1)

theorem Sim.more {G : View} (hS : Sim G) {w' : World} (hb : Below G.w.heap.size G.w w') {J : Nat → Nat → Prop} (hJ : ∀ b x, J b x → G.w.heap.size ≤ b ∧ b < w'.heap.size) : Sim (G.more w' J) where
  vars := fun v hv => (hS.vars v hv).mono (Ext.more hS hb hJ).stays
  objs := fun id ob ho hbl => by
    have hlt : G.ρ id < G.w.heap.size := hS.lt ⟨ob, ho, hbl, rfl⟩
    refine (hS.objs id ob ho hbl).mono (Ext.more hS hb hJ) rfl (hb.block _ hlt) fun x hx => ?_
    rcases hx with h | h
    · exact h
    · have := (hJ _ _ h).1
      omega
  inj := fun i j b hi hj => hS.inj i j b hi hj
  ilt := fun b x h => by
    rcases h with h | h
    · exact Nat.lt_of_lt_of_le (hS.ilt b x h) hb.size
    · exact (hJ b x h).2

/-- The copy is written no more. -/
theorem clone_list {P : Program} {f : FuncId} {t : TypeId} {c : CT} (hcl : CloneAt P f t c) {G : View} (hS : Sim G) {zs : List c.den} {v : Value} (hv : Rep G.I G.w (.list c) zs [v]) (hn : zs.length ≤ 1000000000) :
    Calls P f #[v] G.w fun e w' => ∃ v' G', e = .returned v' ∧ G'.w = w' ∧ Ext G G' ∧ Sim G' ∧ G'.H = G.H ∧ Rep G'.I G'.w (.list c) zs [v'] := by
  rcases hv.rows with ⟨rfl, rfl⟩ | ⟨a, cap, vs, rfl, hcap, hr, hm⟩
  · exact (hcl.none' 0 0 G.w).mono fun e w' ⟨he, hw⟩ => ⟨_, G, he, hw.symm, Ext.refl G, hS, rfl, .inl ⟨rfl, rfl⟩⟩
  · refine (hcl.some' a zs.length cap vs G.w hr.1 hn (fun j u hj => ⟨(hm j u hj).1, (hm j u hj).2.2⟩) hr.oneCell).mono fun e w' ⟨v', he, hown, hb⟩ => ?_
    rcases hown.2 with ⟨rfl, h0⟩ | ⟨g, cap', cur, rfl, hg, hheap, hle, hmax, hsz, htake⟩
    · have hJ : ∀ b x, (fun _ _ => False : Nat → Nat → Prop) b x → G.w.heap.size ≤ b ∧ b < w'.heap.size := fun _ _ h => h.elim
      exact ⟨_, G.more w' fun _ _ => False, he, rfl, Ext.more hS hb hJ, Sim.more hS hb hJ, rfl, .inl ⟨List.eq_nil_of_length_eq_zero h0, rfl⟩⟩
    · have hlt : g < w'.heap.size := (Array.getElem?_eq_some_iff.1 hheap).1
      have hJ : ∀ b x, (fun b x => b = g ∧ x < zs.length * c.width : Nat → Nat → Prop) b x → G.w.heap.size ≤ b ∧ b < w'.heap.size := fun b x h => by rw [h.1]; exact ⟨hg, hlt⟩
      refine ⟨_, G.more w' fun b x => b = g ∧ x < zs.length * c.width, he, rfl, Ext.more hS hb hJ, Sim.more hS hb hJ, rfl, Rows.list (hr.mono (Ext.more hS hb hJ).stays) hle fun k u hk => ?_⟩
      have hkl : k < vs.length := (List.getElem?_eq_some_iff.1 hk).1
      have hkw : k < zs.length * c.width := by rw [← hr.1]; exact hkl
      refine ⟨.inr ⟨rfl, by omega⟩, ?_⟩
      show w'.cell? _ = _
      rw [← htake, List.getElem?_take, if_pos hkw] at hk
      simp [World.cell?, hheap]
      simpa using hk

/-- The copy is one's own. -/
theorem clone_arr {P : Program} {f : FuncId} {t : TypeId} {c : CT} (hcl : CloneAt P f t c) {G : View} (hS : Sim G) {zs : List c.den} {v : Value} (hv : Rep G.I G.w (.list c) zs [v]) (hn : zs.length ≤ 1000000000) (hpos : 0 < zs.length) :
    Calls P f #[v] G.w fun e w' => ∃ v' G', e = .returned v' ∧ G'.w = w' ∧ Ext G G' ∧ Sim G' ∧ G'.H = G.H ++ [.arr t c zs 0] ∧ RepC G' (.sl G.H.length c 0 zs.length) v' := by
  rcases hv.rows with ⟨rfl, rfl⟩ | ⟨a, cap, vs, rfl, hcap, hr, hm⟩
  · simp at hpos
  · refine (hcl.some' a zs.length cap vs G.w hr.1 hn (fun j u hj => ⟨(hm j u hj).1, (hm j u hj).2.2⟩) hr.oneCell).mono fun e w' ⟨v', he, hown, hb⟩ => ?_
    rcases hown.2 with ⟨rfl, h0⟩ | ⟨g, cap', cur, rfl, hg, hheap, hle, hmax, hsz, htake⟩
    · omega
    · have hJ : ∀ b x, (fun _ _ => False : Nat → Nat → Prop) b x → G.w.heap.size ≤ b ∧ b < w'.heap.size := fun _ _ h => h.elim
      have hx := Ext.more hS hb hJ
      have hs := Sim.more hS hb hJ
      have hfree : ∀ id, ¬ (G.more w' fun _ _ => False).holds id g := fun id ⟨o, h1, h2, h3⟩ => by
        have := hS.lt ⟨o, h1, h2, h3⟩
        omega
      obtain ⟨ho, hρ⟩ := (G.more w' fun _ _ => False).obj_last g (.arr t c zs 0)
      refine ⟨_, (G.more w' fun _ _ => False).obj g (.arr t c zs 0), he, rfl, hx.obj fun _ => hg, hs.obj hfree fun _ => ⟨vs, cur.toList.drop (zs.length * c.width), ?_, fun x hx => ?_, hr.mono hx.stays⟩, rfl, rfl, .inr ⟨t, zs, 0, ho, Nat.le_refl _, fun _ => ⟨Nat.le_refl _, .inr ⟨hpos, cap', cur, ?_, ?_, hle, hmax, hsz⟩⟩⟩⟩
      · rw [hρ, ← htake, List.take_append_drop]
        exact hheap
      · rw [hρ] at hx
        rcases hx with hx | hx
        · have := hS.ilt _ _ hx
          omega
        · exact hx
      · rw [show ((G.more w' fun _ _ => False).obj g (.arr t c zs 0)).ρ G.H.length = g from hρ]
      · rw [show ((G.more w' fun _ _ => False).obj g (.arr t c zs 0)).ρ G.H.length = g from hρ]
        exact hheap

/-! Lines of tables. -/
def saysCl (c : CT) : Says := fun args H => match args, H with
  | [.c (.p (.l _ zs))], [] => match castD (e := c) zs with
    | some zs => some (some (zs.length ≤ 1000000000), .a (.c (.p (.l c zs))), [])
    | none => none
  | _, _ => none
def saysClA (t : TypeId) (c : CT) : Says := fun args H => match args, H with
  | [.c (.p (.l _ zs))], [] => match castD (e := c) zs with
    | some zs => some (some (0 < zs.length ∧ zs.length ≤ 1000000000), .a (.c (.sl 0 c 0 zs.length)), [.arr t c zs 0])
    | none => none
  | _, _ => none

theorem castD_some {c c' : CT} {zs : List c'.den} {ys : List c.den} (h : castD (e := c) zs = some ys) : ∃ he : c' = c, ys = he ▸ zs := by
  unfold castD at h
  split at h
  · rename_i he
    cases h
    exact ⟨he, rfl⟩
  · cases h

theorem call_enter {P : Program} {f : FuncId} {fn : Func} (hf : P.funcs[f]? = some fn) (hname : (fn.name == "runtime.NumGoroutine") = false) (hb : fn.body.isNone = false) (args : Array Value) (w : World) : (callFunc f args).run P w = .ok (.enter f args) w := by
  have hn' : ¬ fn.name = "runtime.NumGoroutine" := by simpa using hname
  have hb' : ∃ c, fn.body = some c := by
    cases h : fn.body with
    | none => rw [h] at hb; cases hb
    | some c => exact ⟨c, rfl⟩
  obtain ⟨c, hc⟩ := hb'
  simp [callFunc, hf, hn', hc]

theorem ext_cl {P : Program} {T : Table} (hT : TSound P T) (f : FuncId) {fn : Func} (hf : P.funcs[f]? = some fn) (hname : (fn.name == "runtime.NumGoroutine") = false) (hb : fn.body.isNone = false) {t : TypeId} {c : CT} (hcl : CloneAt P f t c) : TSound P (ext T f (saysCl c)) :=
  ext_sound hT fun args H p r H' hs hp G hS hH cargs ha => by
    unfold saysCl at hs
    split at hs
    · split at hs
      · rename_i c' zs _ ys hc
        obtain ⟨rfl, rfl⟩ := castD_some hc
        cases hs
        cases ha with
        | cons h1 h2 =>
          cases h2
          refine .inr ⟨call_enter hf hname hb _ _, (clone_list hcl hS h1 hp).mono fun e w' ⟨v', G', h3, h4, h5, h6, h7, h8⟩ => ⟨v', G', h3, h4, h5, h6, h7.trans hH, h8⟩⟩
      · cases hs
    · cases hs

theorem ext_clA {P : Program} {T : Table} (hT : TSound P T) (f : FuncId) {fn : Func} (hf : P.funcs[f]? = some fn) (hname : (fn.name == "runtime.NumGoroutine") = false) (hb : fn.body.isNone = false) {t : TypeId} {c : CT} (hcl : CloneAt P f t c) : TSound P (ext T f (saysClA t c)) :=
  ext_sound hT fun args H p r H' hs hp G hS hH cargs ha => by
    unfold saysClA at hs
    split at hs
    · split at hs
      · rename_i c' zs _ ys hc
        obtain ⟨rfl, rfl⟩ := castD_some hc
        cases hs
        cases ha with
        | cons h1 h2 =>
          cases h2
          refine .inr ⟨call_enter hf hname hb _ _, (clone_arr hcl hS h1 hp.2 hp.1).mono fun e w' ⟨v', G', h3, h4, h5, h6, h7, h8⟩ => ⟨v', G', h3, h4, h5, h6, by rw [h7, hH]; rfl, ?_⟩⟩
          rw [hH] at h8
          exact h8
      · cases hs
    · cases hs

/-! A result with a slice of one's own, that is written no more. -/
theorem frz {G : View} (hS : Sim G) {id : Nat} {t : TypeId} {c : CT} {zs : List c.den} {ver : Nat} (ho : G.H[id]? = some (.arr t c zs ver)) (hpos : 0 < zs.length) :
    ∃ G', G'.w = G.w ∧ Ext G G' ∧ Sim G' ∧ G'.H = G.H.set id .dead ∧ ∀ v, RepC G (.sl id c ver zs.length) v → Rep G'.I G'.w (.list c) zs [v] := by
  obtain ⟨vs, rest, hheap, hno, hrows⟩ := hS.objs id _ ho hpos
  have hlt : G.ρ id < G.w.heap.size := (Array.getElem?_eq_some_iff.1 hheap).1
  have g : Upd G id (G.ρ id) (.arr t c zs ver) .dead (fun x => x < zs.length * c.width) G.w := ⟨ho, trivial, Nat.le_refl _, rfl, rfl, rfl, fun _ _ _ => rfl, .inr ⟨_, ho, hpos, rfl⟩, hlt, hno⟩
  have hE := Ext.upd hS g
  refine ⟨G.upd id (G.ρ id) .dead (fun x => x < zs.length * c.width) G.w, rfl, hE, Sim.upd hS g fun h => h.elim, rfl, fun v hv => ?_⟩
  obtain ⟨_, hv⟩ := sl_live hv ho
  rcases hv with ⟨h0, _⟩ | ⟨_, cap, cur, rfl, hcur, hle, hmax, hsz⟩
  · omega
  · refine Rows.list (hrows.mono hE.stays) hle fun k u hk => ?_
    have hkl : k < vs.length := (List.getElem?_eq_some_iff.1 hk).1
    refine ⟨.inr ⟨rfl, by rw [← hrows.1]; omega⟩, ?_⟩
    show G.w.cell? _ = _
    simp [World.cell?, hheap]
    rw [List.getElem?_append_left hkl]
    exact hk

def FrzC (c : CT) (zs : List c.den) (x y : AC) : Prop := (∃ p, x = .p p ∧ y = .p p) ∨ (x = .sl 0 c 0 zs.length ∧ y = .p (.l c zs))

theorem frz_all {G1 G2 : View} (hx : Ext G1 G2) {c : CT} {zs : List c.den} (hf : ∀ v, RepC G1 (.sl 0 c 0 zs.length) v → Rep G2.I G2.w (.list c) zs [v]) {l l' : List AC} (hl : All2 (FrzC c zs) l l') : ∀ {cs : List Value}, All2 (RepC G1) l cs → All2 (RepC (G2.sub [] [])) l' cs := by
  induction hl with
  | nil => intro cs h; cases h; exact .nil
  | cons hxy _ ih =>
    intro cs h
    cases h with
    | cons h3 h4 =>
      refine .cons ?_ (ih h4)
      rcases hxy with ⟨p, rfl, rfl⟩ | ⟨rfl, rfl⟩
      · exact RepV.mono hx.stays h3
      · exact hf _ h3

theorem ext_frz {P : Program} {T : Table} {f : FuncId} {s s' : Says} (h1 : TSound P (ext T f s)) (hT : TSound P T)
    (h : ∀ args H p r H', s' args H = some (p, r, H') → holdsO p → H = [] ∧ H' = [] ∧ ∃ t c zs l l', 0 < zs.length ∧ s args [] = some (p, .a (.agg l), [.arr t c zs 0]) ∧ r = .a (.agg l') ∧ All2 (FrzC c zs) l l') : TSound P (ext T f s') :=
  ext_sound hT fun args H p r H' hs hp G hS hH cargs ha => by
    obtain ⟨rfl, rfl, t, c, zs, l, l', hpos, hs1, rfl, hl⟩ := h args H p r H' hs hp
    have hb : Nat.beq f f = true := Nat.beq_refl f
    refine (h1 f args [] p (.a (.agg l)) [.arr t c zs 0] (by unfold ext; rw [hb]; exact hs1) hp G hS hH cargs ha).mono fun v G1 he hs1 ⟨hH1, hr⟩ => ?_
    have ho : G1.H[0]? = some (.arr t c zs 0) := by rw [hH1]; rfl
    obtain ⟨G2, hw, hx, hs2, hH2, hf⟩ := frz hs1 ho hpos
    have hsub : subH [] G2.H [] = some [] := rfl
    refine ⟨G2.sub [] [], hw, (he.trans hx).keep hsub rfl fun k hk => ?_, hs2.sub hsub rfl, rfl, ?_⟩
    · rw [hH] at hk
      exact absurd hk (Nat.not_lt_zero k)
    · obtain ⟨cs, rfl, hcs⟩ := hr
      exact ⟨cs, rfl, frz_all hx hf hl hcs⟩

end Go.Ab
namespace Go.Ab
open Go.Proofs Go.Shelf Go.RowKit Go.Lib
set_option linter.unusedSectionVars false
variable [Base]

def ScC : AC → Prop
  | .p (.v _) => True
  | _ => False

def ScA : AV → Prop
  | .c x => ScC x
  | .agg l => ∀ x ∈ l, ScC x

def ScS : SV → Prop
  | .none => True
  | .a v => ScA v
  | .tup l => ∀ v ∈ l, ScA v

theorem ScC.rep {G G' : View} {x : AC} {v : Value} (h : ScC x) (hr : RepC G x v) : RepC G' x v := by
  cases x with
  | p y =>
    cases y with
    | v y => exact hr
    | l e zs => exact h.elim
    | m k t es => exact h.elim
  | _ => exact h.elim

theorem scAll {α : Type} {R S : α → Value → Prop} {l : List α} : ∀ {cs : List Value}, (∀ x ∈ l, ∀ v, R x v → S x v) → All2 R l cs → All2 S l cs := by
  induction l with
  | nil => intro cs _ h; cases h; exact .nil
  | cons a l ih =>
    intro cs hf h
    cases h with
    | cons h1 h2 => exact .cons (hf a (List.mem_cons_self ..) _ h1) (ih (fun x hx => hf x (List.mem_cons_of_mem _ hx)) h2)

theorem ScA.rep {G G' : View} {x : AV} {v : Value} (h : ScA x) (hr : RepA G x v) : RepA G' x v := by
  cases x with
  | c x => exact ScC.rep h hr
  | agg l =>
    obtain ⟨cs, rfl, hcs⟩ := hr
    exact ⟨cs, rfl, scAll (fun x hx v hv => ScC.rep (h x hx) hv) hcs⟩

theorem ScS.rep {G G' : View} {x : SV} {v : Value} (h : ScS x) (hr : RepS G x v) : RepS G' x v := by
  cases x with
  | none => trivial
  | a x => exact ScA.rep h hr
  | tup l =>
    obtain ⟨cs, rfl, hcs⟩ := hr
    exact ⟨cs, rfl, scAll (fun x hx v hv => ScA.rep (h x hx) hv) hcs⟩

inductive RoA (c : CT) (zs : List c.den) (ver : Nat) : AV → AV → Prop
  | p (x : PV) : RoA c zs ver (.c (.p x)) (.c (.p x))
  | sl : RoA c zs ver (.c (.sl 0 c ver zs.length)) (.c (.p (.l c zs)))
  | agg (l : List PV) : RoA c zs ver (.agg (l.map .p)) (.agg (l.map .p))
  | asl : RoA c zs ver (.agg [.sl 0 c ver zs.length]) (.agg [.p (.l c zs)])

theorem ro_all {G1 G2 : View} (hx : Ext G1 G2) {c : CT} {zs : List c.den} {ver : Nat} (hf : ∀ v, RepC G1 (.sl 0 c ver zs.length) v → Rep G2.I G2.w (.list c) zs [v]) {l l' : List AV} (hl : All2 (RoA c zs ver) l l') : ∀ {cs : List Value}, All2 (RepA G1) l cs → All2 (RepA (G2.sub [] [])) l' cs := by
  induction hl with
  | nil => intro cs h; cases h; exact .nil
  | cons hxy _ ih =>
    intro cs h
    cases h with
    | cons h3 h4 =>
      refine .cons ?_ (ih h4)
      cases hxy with
      | p x => exact RepV.mono hx.stays h3
      | sl => exact hf _ h3
      | agg l =>
        obtain ⟨us, rfl, hus⟩ := h3
        refine ⟨us, rfl, scAll (fun x hx' v hv => ?_) hus⟩
        obtain ⟨y, _, rfl⟩ := List.mem_map.1 hx'
        exact RepV.mono hx.stays hv
      | asl =>
        obtain ⟨us, rfl, hus⟩ := h3
        cases hus with
        | cons h5 h6 =>
          cases h6
          exact ⟨_, rfl, .cons (hf _ h5) .nil⟩

/-- What only reads a slice leaves it as it is. -/
theorem ext_ro {P : Program} {T : Table} {f : FuncId} {s s' : Says} (h1 : TSound P (ext T f s)) (hT : TSound P T)
    (h : ∀ args H p r H', s' args H = some (p, r, H') → holdsO p → ∃ t c zs ver args1, H = [.arr t c zs ver] ∧ H' = [.arr t c zs ver] ∧ 0 < zs.length ∧ All2 (RoA c zs ver) args args1 ∧ (∃ q, holdsO q ∧ s args1 [] = some (q, r, [])) ∧ ScS r) : TSound P (ext T f s') :=
  ext_sound hT fun args H p r H' hs hp G hS hH cargs ha => by
    obtain ⟨t, c, zs, ver, args1, rfl, rfl, hpos, hro, ⟨q, hq, hs1⟩, hr⟩ := h args H p r H' hs hp
    have hb : Nat.beq f f = true := Nat.beq_refl f
    have ho : G.H[0]? = some (.arr t c zs ver) := by rw [hH]; rfl
    obtain ⟨G1, hw, hx, hs2, hH2, hf⟩ := frz hS ho hpos
    have hsub : subH [] G1.H [] = some [] := rfl
    have hS2 : Sim (G1.sub [] []) := hs2.sub hsub rfl
    have hok := h1 f args1 [] q r [] (by unfold ext; rw [hb]; exact hs1) hq (G1.sub [] []) hS2 rfl cargs (ro_all hx hf hro ha)
    have hw2 : (G1.sub [] []).w = G.w := hw
    obtain ⟨vs, rest, hheap, hno, hrows⟩ := hS.objs 0 _ ho hpos
    have hlt : G.ρ 0 < G.w.heap.size := (Array.getElem?_eq_some_iff.1 hheap).1
    have key : ∀ v G', Ext (G1.sub [] []) G' → Sim G' → (G'.H = norm [] [] ∧ RepS G' r v) →
        ∃ G'', G''.w = G'.w ∧ Ext G G'' ∧ Sim G'' ∧ (G''.H = [.arr t c zs ver] ∧ RepS G'' r v) := by
      intro v G' he hs' ⟨_, hr'⟩
      have hfr : ∀ b, b < G.w.heap.size → G'.w.heap[b]? = G.w.heap[b]? := fun b hb => by
        have := he.frame b (by rw [hw2]; exact hb) (fun id ⟨o, ho', _⟩ => by
          rw [show (G1.sub [] []).H = [] from rfl] at ho'
          cases ho')
        rw [hw2] at this
        exact this
      have hst : Stays G.I G.w G.I G'.w := ⟨fun _ _ h => h, fun b o hI => by
        have := (Stays.same he.stays) b o (hx.stays.keep b o hI)
        rw [hw2] at this
        exact this, fun b o es cl hI hm => (hfr b (hS.ilt b o hI)).trans hm⟩
      have hsz : G.w.heap.size ≤ G'.w.heap.size := by
        have := he.size
        rw [hw2] at this
        exact this
      refine ⟨⟨G.ρ, G.I, G.H, G'.w⟩, rfl, ⟨hst, hsz, ?_, ?_, ?_, fun id o hid => ⟨o, hid, ?_⟩, fun b hb _ => hfr b hb, fun id b hh => .inl hh, fun b o hI => .inl hI⟩, ⟨fun v hv => (hS.vars v hv).mono hst, fun id o hid hbl => ?_, hS.inj, fun b o hI => Nat.lt_of_lt_of_le (hS.ilt b o hI) hsz⟩, hH, ScS.rep hr hr'⟩
      · have := he.os; rw [hw2] at this; exact this
      · have := he.tape; rw [hw2] at this; exact this
      · have := he.output; rw [hw2] at this; exact this
      · cases id with
        | succ n => rw [hH] at hid; cases hid
        | zero =>
          rw [ho] at hid
          cases hid
          exact ⟨rfl, rfl, Nat.le_refl _, fun _ => ⟨rfl, fun _ => ⟨rfl, fun cur hc => ⟨cur, (hfr _ hlt).trans hc, rfl⟩⟩⟩⟩
      · cases id with
        | succ n => rw [hH] at hid; cases hid
        | zero =>
          rw [ho] at hid
          cases hid
          exact ⟨vs, rest, (hfr _ hlt).trans hheap, hno, hrows.mono hst⟩
    rcases hok with ⟨v, G2, h3, h4, h5, h6⟩ | ⟨h3, h4⟩
    · obtain ⟨G'', hw3, he3, hs3, hR⟩ := key v G2 h4 h5 h6
      exact .inl ⟨v, G'', by rw [hw3, ← hw2]; exact h3, he3, hs3, hR⟩
    · refine .inr ⟨by rw [← hw2]; exact h3, ?_⟩
      rw [← hw2]
      refine h4.mono fun e w' ⟨v, G2, h5, h6, h7, h8, h9⟩ => ?_
      obtain ⟨G'', hw3, he3, hs3, hR⟩ := key v G2 h7 h8 h9
      exact ⟨v, G'', h5, hw3.trans h6, he3, hs3, hR⟩

/-- A slice that is given away: it is written no more. -/
theorem ext_give {P : Program} {T : Table} {f : FuncId} {s s' : Says} (h1 : TSound P (ext T f s)) (hT : TSound P T)
    (h : ∀ args H p r H', s' args H = some (p, r, H') → holdsO p → ∃ t c zs args1, H = [.arr t c zs 0] ∧ H' = [.dead] ∧ 0 < zs.length ∧ All2 (RoA c zs 0) args args1 ∧ (∃ q, holdsO q ∧ s args1 [] = some (q, r, [])) ∧ ∃ x, r = .a (.c (.p x))) : TSound P (ext T f s') :=
  ext_sound hT fun args H p r H' hs hp G hS hH cargs ha => by
    obtain ⟨t, c, zs, args1, rfl, rfl, hpos, hro, ⟨q, hq, hs1⟩, x, rfl⟩ := h args H p r H' hs hp
    have hb : Nat.beq f f = true := Nat.beq_refl f
    have ho : G.H[0]? = some (.arr t c zs 0) := by rw [hH]; rfl
    obtain ⟨G1, hw, hx, hs2, hH2, hf⟩ := frz hS ho hpos
    have hsub : subH [] G1.H [] = some [] := rfl
    have hH3 : G1.H = [.dead] := by rw [hH2, hH]; rfl
    have hok := h1 f args1 [] q _ [] (by unfold ext; rw [hb]; exact hs1) hq (G1.sub [] []) (hs2.sub hsub rfl) rfl cargs (ro_all hx hf hro ha)
    have hw2 : (G1.sub [] []).w = G.w := hw
    have key : ∀ v G', Ext (G1.sub [] []) G' → Sim G' → (G'.H = norm [] [] ∧ RepS G' (.a (.c (.p x))) v) →
        ∃ G'', G''.w = G'.w ∧ Ext G G'' ∧ Sim G'' ∧ (G''.H = [.dead] ∧ RepS G'' (.a (.c (.p x))) v) := by
      intro v G' he hs' ⟨hH', hr'⟩
      refine ⟨G1.merge G' [], rfl, hx.trans (Ext.merge hsub rfl hs2 he hs'), Sim.merge hsub rfl hs2 he hs', ?_, unS_rep hsub rfl he hr'⟩
      show putAll (back [] G1.H.length) [] G'.H G1.H = _
      rw [hH', hH3]
      rfl
    rcases hok with ⟨v, G2, h3, h4, h5, h6⟩ | ⟨h3, h4⟩
    · obtain ⟨G'', hw3, he3, hs3, hR⟩ := key v G2 h4 h5 h6
      exact .inl ⟨v, G'', by rw [hw3, ← hw2]; exact h3, he3, hs3, hR⟩
    · refine .inr ⟨by rw [← hw2]; exact h3, ?_⟩
      rw [← hw2]
      refine h4.mono fun e w' ⟨v, G2, h5, h6, h7, h8, h9⟩ => ?_
      obtain ⟨G'', hw3, he3, hs3, hR⟩ := key v G2 h7 h8 h9
      exact ⟨v, G'', h5, hw3.trans h6, he3, hs3, hR⟩
/-! Lines for several cases. -/
theorem ext_case {P : Program} {T : Table} {f : FuncId} {s1 s2 s' : Says} (h1 : TSound P (ext T f s1)) (h2 : TSound P (ext T f s2)) (hT : TSound P T)
    (h : ∀ args H p r H', s' args H = some (p, r, H') → holdsO p → (∃ q, holdsO q ∧ s1 args H = some (q, r, H')) ∨ ∃ q, holdsO q ∧ s2 args H = some (q, r, H')) : TSound P (ext T f s') := by
  intro g args H p r H' hg hp G hS hH cargs ha
  unfold ext at hg
  split at hg
  · rename_i hb
    have hb' : Nat.beq g f = true := hb
    rcases h args H p r H' hg hp with ⟨q, hq, hs⟩ | ⟨q, hq, hs⟩
    · exact h1 g args H q r H' (by unfold ext; rw [hb']; exact hs) hq G hS hH cargs ha
    · exact h2 g args H q r H' (by unfold ext; rw [hb']; exact hs) hq G hS hH cargs ha
  · exact hT g args H p r H' hg hp G hS hH cargs ha

def PvA : AV → Prop
  | .c x => ∃ p, x = .p p
  | .agg l => ∀ x ∈ l, ∃ p, x = .p p

def PvS : SV → Prop
  | .none => True
  | .a v => PvA v
  | .tup l => ∀ v ∈ l, PvA v

theorem PvA.rep {G G' : View} (hs : Stays G.I G.w G'.I G'.w) {x : AV} {v : Value} (h : PvA x) (hr : RepA G x v) : RepA G' x v := by
  cases x with
  | c x =>
    obtain ⟨p, rfl⟩ := h
    exact RepV.mono hs hr
  | agg l =>
    obtain ⟨cs, rfl, hcs⟩ := hr
    refine ⟨cs, rfl, scAll (fun x hx v hv => ?_) hcs⟩
    obtain ⟨p, rfl⟩ := h x hx
    exact RepV.mono hs hv

theorem PvS.rep {G G' : View} (hs : Stays G.I G.w G'.I G'.w) {x : SV} {v : Value} (h : PvS x) (hr : RepS G x v) : RepS G' x v := by
  cases x with
  | none => trivial
  | a x => exact PvA.rep hs h hr
  | tup l =>
    obtain ⟨cs, rfl, hcs⟩ := hr
    exact ⟨cs, rfl, scAll (fun x hx v hv => PvA.rep hs (h x hx) hv) hcs⟩

/-- An array that is left alone when a function has ended. -/
theorem ext_kill {P : Program} {T : Table} {f : FuncId} {s s' : Says} (h1 : TSound P (ext T f s)) (hT : TSound P T)
    (h : ∀ args H p r H', s' args H = some (p, r, H') → holdsO p → H' = [.dead] ∧ PvS r ∧ ∃ q t c zs, holdsO q ∧ 0 < zs.length ∧ s args H = some (q, r, [.arr t c zs 0])) : TSound P (ext T f s') :=
  ext_sound hT fun args H p r H' hs hp G hS hH cargs ha => by
    obtain ⟨rfl, hr, q, t, c, zs, hq, hpos, hs1⟩ := h args H p r H' hs hp
    have hb : Nat.beq f f = true := Nat.beq_refl f
    refine (h1 f args H q r [.arr t c zs 0] (by unfold ext; rw [hb]; exact hs1) hq G hS hH cargs ha).mono fun v G1 he hs1 ⟨hH1, hr1⟩ => ?_
    have hH1 : G1.H = [.arr t c zs 0] := hH1
    have ho : G1.H[0]? = some (.arr t c zs 0) := by rw [hH1]; rfl
    obtain ⟨G2, hw, hx, hs2, hH2, _⟩ := frz hs1 ho hpos
    exact ⟨G2, hw, he.trans hx, hs2, by rw [hH2, hH1]; rfl, PvS.rep hx.stays hr hr1⟩

/-- A tree that a function has made: it is written no more. -/
theorem ext_frz2 {P : Program} {T : Table} {f : FuncId} {s s' : Says} (h1 : TSound P (ext T f s)) (hT : TSound P T)
    (h : ∀ args H p r H', s' args H = some (p, r, H') → holdsO p → H = [] ∧ H' = [] ∧ ∃ q t c zs ver y, holdsO q ∧ 0 < zs.length ∧ s args [] = some (q, .tup [.agg [.sl 0 c ver zs.length], .c (.p y)], [.arr t c zs ver]) ∧ r = .tup [.agg [.p (.l c zs)], .c (.p y)]) : TSound P (ext T f s') :=
  ext_sound hT fun args H p r H' hs hp G hS hH cargs ha => by
    obtain ⟨rfl, rfl, q, t, c, zs, ver, y, hq, hpos, hs1, rfl⟩ := h args H p r H' hs hp
    have hb : Nat.beq f f = true := Nat.beq_refl f
    refine (h1 f args [] q (.tup [.agg [.sl 0 c ver zs.length], .c (.p y)]) [.arr t c zs ver] (by unfold ext; rw [hb]; exact hs1) hq G hS hH cargs ha).mono fun v G1 he hs1 ⟨hH1, hr⟩ => ?_
    have ho : G1.H[0]? = some (.arr t c zs ver) := by rw [hH1]; rfl
    obtain ⟨G2, hw, hx, hs2, hH2, hf⟩ := frz hs1 ho hpos
    have hsub : subH [] G2.H [] = some [] := rfl
    refine ⟨G2.sub [] [], hw, (he.trans hx).keep hsub rfl fun k hk => ?_, hs2.sub hsub rfl, rfl, ?_⟩
    · rw [hH] at hk
      exact absurd hk (Nat.not_lt_zero k)
    · obtain ⟨vs, rfl, hvs⟩ := hr
      cases hvs with
      | cons a b =>
        cases b with
        | cons b1 b2 =>
          cases b2
          obtain ⟨cs, rfl, hcs⟩ := a
          cases hcs with
          | cons c1 c2 =>
            cases c2
            exact ⟨_, rfl, .cons ⟨_, rfl, .cons (hf _ c1) .nil⟩ (.cons (RepV.mono hx.stays b1) .nil)⟩
end Go.Ab
