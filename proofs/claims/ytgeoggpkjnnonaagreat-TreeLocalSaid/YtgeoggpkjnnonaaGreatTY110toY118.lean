/- Package tree: Set. Made by gy110.py. -/
import Derived.Test.YtgeoggpkjnnonaaGreatTY106toY109
namespace Go.Ab
open Go.Proofs
set_option linter.unusedSectionVars false
set_option maxRecDepth 100000
variable [Base]

theorem ord_asc {ns : List Nd} (h : ordV ns = true) {i : Nat} (hi : i < ns.length) : ascV (ndAt ns i).2.2 = true := by
  have key : ∀ m j, ordGo ns m j = true → ∀ i, j ≤ i → i < j + m → ordAt ns i = true := by
    intro m
    induction m with
    | zero => intro j _ i h1 h2; omega
    | succ m ih =>
      intro j h i h1 h2
      obtain ⟨h3, h4⟩ := Bool.and_eq_true_iff.1 (show (ordAt ns j && ordGo ns m (j + 1)) = true from h)
      by_cases hij : i = j
      · rw [hij]; exact h3
      · exact ih (j + 1) h4 i (by omega) (by omega)
  have h1 := key _ _ h i (Nat.zero_le _) (by omega)
  unfold ordAt at h1
  cases hx : ascV (ndAt ns i).2.2 with
  | true => rfl
  | false => rw [hx] at h1; simp at h1
theorem vld_st {ns : List Nd} {p : ByteArray} (hv : VldT ns) (hf : (fndV (ns, p)).2 = true) : StOk ns (fndV (ns, p)).1 := by
  obtain ⟨_, _, _, _, h5, h6⟩ := vld_ad hv hf
  have hk : (fndV (ns, p)).1.toNat < ns.length := by omega
  refine ⟨(lim_len hv.lim).1.len, h5, h6, ?_, ord_asc hv.ord hk⟩
  have e : ndAt ns (fndV (ns, p)).1.toNat = ns[(fndV (ns, p)).1.toNat] := by unfold ndAt; simp [hk]
  rw [e]
  exact (lim_len hv.lim).1.at hk
def SetV (a : List Nd × ByteArray × ByteArray × ByteArray) : List Nd × Int :=
  if chkP a.1 = 0 then if (fndV (a.1, a.2.1)).2 = true then if stE (ndAt a.1 (fndV (a.1, a.2.1)).1.toNat).2.2 a.2.2 = 0 then (stN a.1 (fndV (a.1, a.2.1)).1.toNat a.2.2, 0) else ([], stE (ndAt a.1 (fndV (a.1, a.2.1)).1.toNat).2.2 a.2.2) else ([], 4) else ([], chkP a.1)
abbrev rwS (s : ByteArray) : AO := .row [.str s]
theorem id2h' : ∀ k, k < 2 → [0, 1, 4][k]? = some k := fun k hk => by
  obtain rfl | rfl : k = 0 ∨ k = 1 := by omega
  all_goals rfl
theorem id2h'' : ∀ k, k < 2 → [0, 1, 4, 5][k]? = some k := fun k hk => by
  obtain rfl | rfl : k = 0 ∨ k = 1 := by omega
  all_goals rfl


/-! E. -/
def K0E : Table := ext F5 82 (saysStX (fun ns k p => ¬ stE (ndAt ns k).2.2 p = 0) (fun ns k p => .tup [.c (.p (.v (.slice none 0 0))), .c (.int .i64 (stE (ndAt ns k).2.2 p))]) fun ns _ _ => hpN ns)
theorem k0E : TSound Tryz.prog K0E := st_er
def says1E : Says := fun args H => match args, H with
  | [.c (.sl _ _ _ _), .c (.p (.v (.int .i64 k))), .c (.ptr 1 0), .c (.ptr 2 0)], [.arr _ c0 ns _, .row [.p (.v (.string a))], .row [.p (.v (.string b))]] => match castD (e := ndC) (e' := c0) ns with
    | some ns => some (some (args = [.c (.sl 0 ndC 0 ns.length), .c (.int .i64 k), .c (.ptr 1 0), .c (.ptr 2 0)] ∧ H = [.arr ndT ndC ns 0, rwS a, rwS b] ∧ StOk ns k ∧ ¬ stE (ndAt ns k.toNat).2.2 (a, b) = 0), .tup [.c (.p (.v (.slice none 0 0))), .c (.int .i64 (stE (ndAt ns k.toNat).2.2 (a, b)))], [.arr ndT ndC ns 0, rwS a, rwS b])
    | none => none
  | _, _ => none
def K1E : Table := ext K0E 81 says1E
theorem k1E : TSound Tryz.prog K1E := by
  refine ext_run k0E (f := 81) (fn := Tryz.f81) rfl rfl [0, 1, 2, 3, 6, 7] fun args H p r' H' hs hp => ?_
  unfold says1E at hs
  split at hs
  · split at hs
    · rename_i k _ _ _ _ a b _ ns _
      cases hs
      obtain ⟨ha, hH, h1, h2⟩ := hp
      rw [ha, hH]
      refine ⟨Nat.le_of_ble_eq_true rfl, [0, 1, 2], rfl, id3, ?_⟩
      repeat ((conv => whnf); refine ⟨by first | exact ⟨rfl, rfl, h1, h2⟩ | (unfold inI64; omega) | omega | exact ⟨by omega, by omega⟩ | exact rfl | decide +kernel, ?_⟩)
      conv => whnf
      exact ends_eq ⟨rfl, rfl⟩
    · cases hs
  · cases hs

def says2E : Says := fun args H => match args, H with
  | [.agg [.p (.l c0 ns)], .c (.p (.v (.string q))), .c (.clo _ _ _)], [.row [.p (.v (.string a))], .row [.p (.v (.string b))]] => match castD (e := ndC) (e' := c0) ns with
    | some ns => some (some (args = [.agg [.p (.l ndC ns)], .c (.str q), .c (.clo false 81 [0, 1])] ∧ H = [rwS a, rwS b] ∧ ¬ (SetV (ns, q, a, b)).2 = 0), treR (SetV (ns, q, a, b)), [rwS a, rwS b])
    | none => none
  | _, _ => none
def K2E : Table := ext (K1E) 75 (says2E)
theorem k2E : TSound Tryz.prog (K2E) := by
  refine ext_run (k1E) (f := 75) (fn := Tryz.f75) rfl rfl [0, 1, 2, 3, 6, 7, 8, 9, 10, 11, 12, 16, 27] fun args H p r' H' hs hp => ?_
  unfold says2E at hs
  split at hs
  · split at hs
    · rename_i q _ _ _ a b _ ns _
      cases hs
      obtain ⟨ha, hH, hc⟩ := hp
      rw [ha, hH]
      refine ⟨Nat.le_of_ble_eq_true rfl, [0, 1], rfl, id2h, ?_⟩
      repeat ((conv => whnf); refine ⟨by first | exact ⟨rfl, trivial⟩ | (unfold inI64; omega) | omega | exact ⟨by omega, by omega⟩ | exact rfl | decide +kernel, ?_⟩)
      conv => whnf
      refine cond_intro (fun h => ?_) (fun h => ?_)
      · have h1 : ¬ chkP ns = 0 := by
          have h2 : (!decide (chkP ns = 0)) = true := h
          simpa using h2
        repeat ((conv => whnf); refine ⟨by first | (unfold inI64; omega) | omega | exact ⟨by omega, by omega⟩ | exact rfl | decide +kernel, ?_⟩)
        conv => whnf
        exact ends_nil (by unfold SetV; rw [if_neg h1])
      have h1 : chkP ns = 0 := by
        have h2 : (!decide (chkP ns = 0)) = false := h
        simpa using h2
      have hv := chk_vld.1 h1
      repeat ((conv => whnf); refine ⟨by first | exact ⟨rfl, hv⟩ | (unfold inI64; omega) | omega | exact ⟨by omega, by omega⟩ | exact rfl | decide +kernel, ?_⟩)
      conv => whnf
      refine cond_intro (fun h3 => ?_) (fun h3 => ?_)
      · have h4 : ¬ (fndV (ns, q)).2 = true := ne_t (not_b h3)
        repeat ((conv => whnf); refine ⟨by first | (unfold inI64; omega) | omega | exact ⟨by omega, by omega⟩ | exact rfl | decide +kernel, ?_⟩)
        conv => whnf
        exact ends_nil (by unfold SetV; rw [if_pos h1, if_neg h4])
      have h4 : (fndV (ns, q)).2 = true := not_f h3
      have hok := vld_st hv h4
      obtain ⟨hl, hp0, _⟩ := lim_len hv.lim
      have he : ¬ stE (ndAt ns (fndV (ns, q)).1.toNat).2.2 (a, b) = 0 := fun h5 => hc (by unfold SetV; dsimp only; rw [if_pos h1, if_pos h4, if_pos h5])
      repeat ((conv => whnf); refine ⟨by first | exact ⟨rfl, hl, hp0⟩ | exact ⟨rfl, rfl, hok, he⟩ | (unfold inI64; omega) | omega | exact ⟨by omega, by omega⟩ | exact rfl | decide +kernel, ?_⟩)
      conv => whnf
      exact ends_nil (by unfold SetV; dsimp only; rw [if_pos h1, if_pos h4, if_neg he])
    · cases hs
  · cases hs

def says3E : Says := fun args H => match H with
  | [] => match daTSSS args with
    | some a => some (some (args = eaTSSS a ∧ ¬ (SetV a).2 = 0), treR (SetV a), [])
    | none => none
  | _ => none
theorem k3E : TSound Tryz.prog (ext (K2E) 37 (says3E)) := by
  refine ext_run (k2E) (f := 37) (fn := Tryz.f37) rfl rfl [0, 1, 2, 3, 4, 6, 7, 8, 9] fun args H p r' H' hs hp => ?_
  unfold says3E at hs
  split at hs
  · split at hs
    · rename_i a _
      cases hs
      obtain ⟨ha, hc⟩ := hp
      rw [ha]
      obtain ⟨ns, q, a, b⟩ := a
      refine ⟨Nat.le_of_ble_eq_true rfl, [], rfl, fun k hk => absurd hk (Nat.not_lt_zero k), ?_⟩
      show runF _ _ _ _ [.agg [.p (.l ndC ns)], .c (.str q), .c (.str a), .c (.str b)] [] _
      repeat ((conv => whnf); refine ⟨by first | exact ⟨rfl, rfl, hc⟩ | ((conv => whnf); exact ⟨⟨rfl, rfl, rfl⟩, trivial⟩) | exact Early.one (by decide +kernel) (by (conv => whnf); exact ⟨rfl, rfl, rfl⟩) trivial | (unfold inI64; omega) | omega | exact ⟨by omega, by omega⟩ | exact rfl | decide +kernel, ?_⟩)
      conv => whnf
      exact ends_eq ⟨rfl, rfl⟩
    · cases hs
  · cases hs

/-! N. -/
def K0N : Table := ext F5 82 (saysStX (fun ns k p => stE (ndAt ns k).2.2 p = 0 ∧ fndP (ndAt ns k).2.2 p.1 = false) (fun ns _ _ => .tup [.c (.sl 0 ndC 0 ns.length), .c (.int .i64 0)]) fun ns k p => hpN (stN ns k p))
theorem k0N : TSound Tryz.prog K0N := st_new
def says1N : Says := fun args H => match args, H with
  | [.c (.sl _ _ _ _), .c (.p (.v (.int .i64 k))), .c (.ptr 1 0), .c (.ptr 2 0)], [.arr _ c0 ns _, .row [.p (.v (.string a))], .row [.p (.v (.string b))]] => match castD (e := ndC) (e' := c0) ns with
    | some ns => some (some (args = [.c (.sl 0 ndC 0 ns.length), .c (.int .i64 k), .c (.ptr 1 0), .c (.ptr 2 0)] ∧ H = [.arr ndT ndC ns 0, rwS a, rwS b] ∧ StOk ns k ∧ stE (ndAt ns k.toNat).2.2 (a, b) = 0 ∧ fndP (ndAt ns k.toNat).2.2 a = false), .tup [.c (.sl 0 ndC 0 ns.length), .c (.int .i64 0)], [.arr ndT ndC (stN ns k.toNat (a, b)) 0, rwS a, rwS b])
    | none => none
  | _, _ => none
def K1N : Table := ext K0N 81 says1N
theorem k1N : TSound Tryz.prog K1N := by
  refine ext_run k0N (f := 81) (fn := Tryz.f81) rfl rfl [0, 1, 2, 3, 6, 7] fun args H p r' H' hs hp => ?_
  unfold says1N at hs
  split at hs
  · split at hs
    · rename_i k _ _ _ _ a b _ ns _
      cases hs
      obtain ⟨ha, hH, h1, h2⟩ := hp
      rw [ha, hH]
      refine ⟨Nat.le_of_ble_eq_true rfl, [0, 1, 2], rfl, id3, ?_⟩
      repeat ((conv => whnf); refine ⟨by first | exact ⟨rfl, rfl, h1, h2⟩ | (unfold inI64; omega) | omega | exact ⟨by omega, by omega⟩ | exact rfl | decide +kernel, ?_⟩)
      conv => whnf
      exact ends_eq ⟨rfl, rfl⟩
    · cases hs
  · cases hs

def says2N : Says := fun args H => match args, H with
  | [.agg [.p (.l c0 ns)], .c (.p (.v (.string q))), .c (.clo _ _ _)], [.row [.p (.v (.string a))], .row [.p (.v (.string b))]] => match castD (e := ndC) (e' := c0) ns with
    | some ns => some (some (args = [.agg [.p (.l ndC ns)], .c (.str q), .c (.clo false 81 [0, 1])] ∧ H = [rwS a, rwS b] ∧ chkP ns = 0 ∧ (fndV (ns, q)).2 = true ∧ stE (ndAt ns (fndV (ns, q)).1.toNat).2.2 (a, b) = 0 ∧ fndP (ndAt ns (fndV (ns, q)).1.toNat).2.2 a = false), .tup [.agg [.sl 2 ndC 0 ns.length], .c (.int .i64 0)], [rwS a, rwS b, .arr ndT ndC (stN ns (fndV (ns, q)).1.toNat (a, b)) 0])
    | none => none
  | _, _ => none
def K2N : Table := ext (K1N) 75 (says2N)
theorem k2N : TSound Tryz.prog (K2N) := by
  refine ext_run (k1N) (f := 75) (fn := Tryz.f75) rfl rfl [0, 1, 2, 3, 6, 7, 8, 9, 10, 11, 12, 16, 27] fun args H p r' H' hs hp => ?_
  unfold says2N at hs
  split at hs
  · split at hs
    · rename_i q _ _ _ a b _ ns _
      cases hs
      obtain ⟨ha, hH, hc⟩ := hp
      rw [ha, hH]
      refine ⟨Nat.le_of_ble_eq_true rfl, [0, 1, 4], rfl, fun k hk => id2h' k hk, ?_⟩
      obtain ⟨h1, h4, he, hf⟩ := hc
      have hv := chk_vld.1 h1
      have hok := vld_st hv h4
      obtain ⟨hl, hp0, _⟩ := lim_len hv.lim
      repeat ((conv => whnf); refine ⟨by first | exact ⟨rfl, trivial⟩ | (unfold inI64; omega) | omega | exact ⟨by omega, by omega⟩ | exact rfl | decide +kernel, ?_⟩)
      conv => whnf
      refine cond_intro (fun h => ?_) (fun h => ?_)
      · have h2 : (!decide (chkP ns = 0)) = true := h
        exact absurd h1 (by simpa using h2)
      repeat ((conv => whnf); refine ⟨by first | exact ⟨rfl, hv⟩ | (unfold inI64; omega) | omega | exact ⟨by omega, by omega⟩ | exact rfl | decide +kernel, ?_⟩)
      conv => whnf
      refine cond_intro (fun h3 => ?_) (fun h3 => ?_)
      · exact absurd h4 (ne_t (not_b h3))
      repeat ((conv => whnf); refine ⟨by first | exact ⟨rfl, hl, hp0⟩ | exact ⟨rfl, rfl, hok, he, hf⟩ | (unfold inI64; omega) | omega | exact ⟨by omega, by omega⟩ | exact rfl | decide +kernel, ?_⟩)
      conv => whnf
      exact ends_eq ⟨rfl, rfl⟩
    · cases hs
  · cases hs

def says3N : Says := fun args H => match H with
  | [] => match daTSSS args with
    | some a => some (some (args = eaTSSS a ∧ chkP a.1 = 0 ∧ (fndV (a.1, a.2.1)).2 = true ∧ stE (ndAt a.1 (fndV (a.1, a.2.1)).1.toNat).2.2 a.2.2 = 0 ∧ fndP (ndAt a.1 (fndV (a.1, a.2.1)).1.toNat).2.2 a.2.2.1 = false), .tup [.agg [.sl 0 ndC 0 a.1.length], .c (.int .i64 0)], [.arr ndT ndC (stN a.1 (fndV (a.1, a.2.1)).1.toNat a.2.2) 0])
    | none => none
  | _ => none
theorem k3N : TSound Tryz.prog (ext (K2N) 37 (says3N)) := by
  refine ext_run (k2N) (f := 37) (fn := Tryz.f37) rfl rfl [0, 1, 2, 3, 4, 6, 7, 8, 9] fun args H p r' H' hs hp => ?_
  unfold says3N at hs
  split at hs
  · split at hs
    · rename_i a _
      cases hs
      obtain ⟨ha, hc⟩ := hp
      rw [ha]
      obtain ⟨ns, q, a, b⟩ := a
      refine ⟨Nat.le_of_ble_eq_true rfl, [4], rfl, fun k hk => absurd hk (Nat.not_lt_zero k), ?_⟩
      show runF _ _ _ _ [.agg [.p (.l ndC ns)], .c (.str q), .c (.str a), .c (.str b)] [] _
      repeat ((conv => whnf); refine ⟨by first | exact ⟨rfl, rfl, hc⟩ | ((conv => whnf); exact ⟨⟨rfl, rfl, rfl⟩, trivial⟩) | exact Early.one (by decide +kernel) (by (conv => whnf); exact ⟨rfl, rfl, rfl⟩) trivial | (unfold inI64; omega) | omega | exact ⟨by omega, by omega⟩ | exact rfl | decide +kernel, ?_⟩)
      conv => whnf
      exact ends_eq ⟨rfl, rfl⟩
    · cases hs
  · cases hs

/-! F. -/
abbrev hpF1 (ns : List Nd) (h : Nat) (a b : ByteArray) (ps : List Pt) : List AO := [.vec ndT ndC ns h 2 (.sl 3 ptC 0 ps.length), rwS a, rwS b, .arr ptT ptC ps 0]
theorem id4h : ∀ k, k < 4 → [0, 1, 2, 3][k]? = some k := id4
def says1F (h : Nat) : Says := fun args H => match args, H with
  | [.c (.vs _ _), .c (.p (.v (.int .i64 _))), .c (.ptr 1 0), .c (.ptr 2 0)], [.vec _ c0 ns _ _ _, .row [.p (.v (.string a))], .row [.p (.v (.string b))], .arr _ c1 ps _] => match castD (e := ndC) (e' := c0) ns, castD (e := ptC) (e' := c1) ps with
    | some ns, some ps => some (some (args = [.c (.vs 0 ns.length), .c (.int .i64 (h : Nat)), .c (.ptr 1 0), .c (.ptr 2 0)] ∧ H = hpF1 ns h a b ps ∧ SoOk ns h ps (a, b)), .tup [.c (.vs 0 ns.length), .c (.int .i64 0)], [.vec ndT ndC ns h 2 (.sl 3 ptC 0 ps.length), rwS a, rwS b, .arr ptT ptC (ps.set (posV ps a) (a, b)) 0])
    | _, _ => none
  | _, _ => none
def K1F (h : Nat) : Table := ext (F7 h) 81 (says1F h)
theorem k1F (h : Nat) : TSound Tryz.prog (K1F h) := by
  refine ext_run (f7 h) (f := 81) (fn := Tryz.f81) rfl rfl [0, 1, 2, 3, 6, 7] fun args H p r' H' hs hp => ?_
  unfold says1F at hs
  split at hs
  · split at hs
    · rename_i a b _ _ _ _ _ _ ns ps _ _
      cases hs
      obtain ⟨ha, hH, h1⟩ := hp
      rw [ha, hH]
      refine ⟨Nat.le_of_ble_eq_true rfl, [0, 1, 2, 3], rfl, id4h, ?_⟩
      repeat ((conv => whnf); refine ⟨by first | exact ⟨rfl, rfl, h1⟩ | (unfold inI64; omega) | omega | exact ⟨by omega, by omega⟩ | exact rfl | decide +kernel, ?_⟩)
      conv => whnf
      exact ends_eq ⟨rfl, rfl⟩
    · cases hs
  · cases hs

def says2F (h : Nat) : Says := fun args H => match args, H with
  | [.agg [.p (.l c0 ns)], .c (.p (.v (.string q))), .c (.clo _ _ _)], [.row [.p (.v (.string a))], .row [.p (.v (.string b))]] => match castD (e := ndC) (e' := c0) ns with
    | some ns => some (some (args = [.agg [.p (.l ndC ns)], .c (.str q), .c (.clo false 81 [0, 1])] ∧ H = [rwS a, rwS b] ∧ chkP ns = 0 ∧ (fndV (ns, q)).2 = true ∧ stE (ndAt ns (fndV (ns, q)).1.toNat).2.2 (a, b) = 0 ∧ fndP (ndAt ns (fndV (ns, q)).1.toNat).2.2 a = true ∧ (fndV (ns, q)).1.toNat = h), .tup [.agg [.vs 2 ns.length], .c (.int .i64 0)], [rwS a, rwS b, .vec ndT ndC ns h 2 (.sl 3 ptC 0 (ndAt ns h).2.2.length), .arr ptT ptC ((ndAt ns h).2.2.set (posV (ndAt ns h).2.2 a) (a, b)) 0])
    | none => none
  | _, _ => none
def K2F (h : Nat) : Table := ext (K1F h) 75 (says2F h)
theorem k2F (h : Nat) : TSound Tryz.prog (K2F h) := by
  refine ext_run (k1F h) (f := 75) (fn := Tryz.f75) rfl rfl [0, 1, 2, 3, 6, 7, 8, 9, 10, 11, 12, 16, 27] fun args H p r' H' hs hp => ?_
  unfold says2F at hs
  split at hs
  · split at hs
    · rename_i q _ _ _ a b _ ns _
      cases hs
      obtain ⟨ha, hH, hc⟩ := hp
      rw [ha, hH]
      refine ⟨Nat.le_of_ble_eq_true rfl, [0, 1, 4, 5], rfl, fun k hk => id2h'' k hk, ?_⟩
      obtain ⟨h1, h4, he, hf, hh⟩ := hc
      have hv := chk_vld.1 h1
      have hok := vld_st hv h4
      obtain ⟨hl, hp0, _⟩ := lim_len hv.lim
      rw [hh] at he hf
      have hki : (fndV (ns, q)).1 = (h : Nat) := by
        have := hok.k0
        omega
      have hlt : h < ns.length := by
        have := hok.k1
        omega
      have hsr : SrOk ((ndAt ns h).2.2, ByteArray.empty) := hh ▸ hok.ps
      have hpos : 0 < (ndAt ns h).2.2.length := by
        have h9 := hf
        unfold fndP at h9
        have := of_decide_eq_true (Bool.and_eq_true_iff.1 h9).1
        omega
      have hso : SoOk ns h (ndAt ns h).2.2 (a, b) := ⟨hok.len, hlt, hpos, hsr, he, hf⟩
      repeat ((conv => whnf); refine ⟨by first | exact ⟨rfl, trivial⟩ | (unfold inI64; omega) | omega | exact ⟨by omega, by omega⟩ | exact rfl | decide +kernel, ?_⟩)
      conv => whnf
      refine cond_intro (fun h => ?_) (fun h => ?_)
      · have h2 : (!decide (chkP ns = 0)) = true := h
        exact absurd h1 (by simpa using h2)
      repeat ((conv => whnf); refine ⟨by first | exact ⟨rfl, hv⟩ | (unfold inI64; omega) | omega | exact ⟨by omega, by omega⟩ | exact rfl | decide +kernel, ?_⟩)
      conv => whnf
      refine cond_intro (fun h3 => ?_) (fun h3 => ?_)
      · exact absurd h4 (ne_t (not_b h3))
      repeat ((conv => whnf); refine ⟨by first | exact ⟨rfl, hl, hlt, hpos⟩ | (unfold inI64; omega) | omega | exact ⟨by omega, by omega⟩ | exact rfl | decide +kernel, ?_⟩)
      conv => whnf
      rw [hki]
      repeat ((conv => whnf); refine ⟨by first | exact ⟨rfl, rfl, hso⟩ | (unfold inI64; omega) | omega | exact ⟨by omega, by omega⟩ | exact rfl | decide +kernel, ?_⟩)
      conv => whnf
      exact ends_eq ⟨rfl, rfl⟩
    · cases hs
  · cases hs

def says3F (h : Nat) : Says := fun args H => match H with
  | [] => match daTSSS args with
    | some a => some (some (args = eaTSSS a ∧ chkP a.1 = 0 ∧ (fndV (a.1, a.2.1)).2 = true ∧ stE (ndAt a.1 (fndV (a.1, a.2.1)).1.toNat).2.2 a.2.2 = 0 ∧ fndP (ndAt a.1 (fndV (a.1, a.2.1)).1.toNat).2.2 a.2.2.1 = true ∧ (fndV (a.1, a.2.1)).1.toNat = h), .tup [.agg [.vs 0 a.1.length], .c (.int .i64 0)], [.vec ndT ndC a.1 h 2 (.sl 1 ptC 0 (ndAt a.1 h).2.2.length), .arr ptT ptC ((ndAt a.1 h).2.2.set (posV (ndAt a.1 h).2.2 a.2.2.1) a.2.2) 0])
    | none => none
  | _ => none
theorem k3F (h : Nat) : TSound Tryz.prog (ext (K2F h) 37 (says3F h)) := by
  refine ext_run (k2F h) (f := 37) (fn := Tryz.f37) rfl rfl [0, 1, 2, 3, 4, 6, 7, 8, 9] fun args H p r' H' hs hp => ?_
  unfold says3F at hs
  split at hs
  · split at hs
    · rename_i a _
      cases hs
      obtain ⟨ha, hc⟩ := hp
      rw [ha]
      obtain ⟨ns, q, a, b⟩ := a
      refine ⟨Nat.le_of_ble_eq_true rfl, [4, 5], rfl, fun k hk => absurd hk (Nat.not_lt_zero k), ?_⟩
      show runF _ _ _ _ [.agg [.p (.l ndC ns)], .c (.str q), .c (.str a), .c (.str b)] [] _
      repeat ((conv => whnf); refine ⟨by first | exact ⟨rfl, rfl, hc⟩ | ((conv => whnf); exact ⟨⟨rfl, rfl, rfl⟩, trivial⟩) | exact Early.one (by decide +kernel) (by (conv => whnf); exact ⟨rfl, rfl, rfl⟩) trivial | (unfold inI64; omega) | omega | exact ⟨by omega, by omega⟩ | exact rfl | decide +kernel, ?_⟩)
      conv => whnf
      exact ends_eq ⟨rfl, rfl⟩
    · cases hs
  · cases hs

def says4E : Says := says3E
def says4N : Says := fun args H => match H with
  | [] => match daTSSS args with
    | some a => some (some (args = eaTSSS a ∧ chkP a.1 = 0 ∧ (fndV (a.1, a.2.1)).2 = true ∧ stE (ndAt a.1 (fndV (a.1, a.2.1)).1.toNat).2.2 a.2.2 = 0 ∧ fndP (ndAt a.1 (fndV (a.1, a.2.1)).1.toNat).2.2 a.2.2.1 = false), .tup [.agg [.p (.l ndC (stN a.1 (fndV (a.1, a.2.1)).1.toNat a.2.2))], .c (.int .i64 0)], [])
    | none => none
  | _ => none
theorem stN_len (ns : List Nd) (k : Nat) (p : Pt) : (stN ns k p).length = ns.length := List.length_set ..
theorem vld_pos {ns : List Nd} (h : chkP ns = 0) : 0 < ns.length := (lim_len (chk_vld.1 h).lim).2.1
theorem k4N : TSound Tryz.prog (ext F5 37 says4N) := by
  refine ext_only (?_ : TSound Tryz.prog (ext K2N 37 says4N)) f5
  refine ext_frz2 k3N k2N fun args H p r H' hs hp => ?_
  unfold says4N at hs
  split at hs
  · split at hs
    · rename_i a ha
      cases hs
      obtain ⟨h0, h1, h2, h3, h4⟩ := hp
      refine ⟨rfl, rfl, some (args = eaTSSS a ∧ chkP a.1 = 0 ∧ (fndV (a.1, a.2.1)).2 = true ∧ stE (ndAt a.1 (fndV (a.1, a.2.1)).1.toNat).2.2 a.2.2 = 0 ∧ fndP (ndAt a.1 (fndV (a.1, a.2.1)).1.toNat).2.2 a.2.2.1 = false), ndT, ndC, stN a.1 (fndV (a.1, a.2.1)).1.toNat a.2.2, 0, .v (.int .i64 0), ?_, by rw [stN_len]; exact vld_pos h1, ?_, rfl⟩
      rotate_left
      · unfold says3N
        dsimp only
        rw [ha]
        dsimp only
        rw [stN_len]
      · exact ⟨h0, h1, h2, h3, h4⟩
    · cases hs
  · cases hs
def stF (ns : List Nd) (h : Nat) (p : Pt) : List Nd := ns.set h ((ndAt ns h).1, (ndAt ns h).2.1, (ndAt ns h).2.2.set (posV (ndAt ns h).2.2 p.1) p)
def says4F (h : Nat) : Says := fun args H => match H with
  | [] => match daTSSS args with
    | some a => some (some (args = eaTSSS a ∧ chkP a.1 = 0 ∧ (fndV (a.1, a.2.1)).2 = true ∧ stE (ndAt a.1 (fndV (a.1, a.2.1)).1.toNat).2.2 a.2.2 = 0 ∧ fndP (ndAt a.1 (fndV (a.1, a.2.1)).1.toNat).2.2 a.2.2.1 = true ∧ (fndV (a.1, a.2.1)).1.toNat = h), .tup [.agg [.p (.l ndC (stF a.1 h a.2.2))], .c (.int .i64 0)], [])
    | none => none
  | _ => none
theorem dec_nd (n : Nd) (ps : List Pt) : dec ndC ((enc ndC n).take 2 ++ [.l ptC ps] ++ (enc ndC n).drop (2 + 1)) = some ((n.1, n.2.1, ps), []) := rfl
theorem k4F (h : Nat) : TSound Tryz.prog (ext F5 37 (says4F h)) := by
  refine ext_only (?_ : TSound Tryz.prog (ext (K2F h) 37 (says4F h))) f5
  refine ext_frzV (k3F h) (k2F h) fun args H p r H' hs hp => ?_
  unfold says4F at hs
  split at hs
  · split at hs
    · rename_i a ha
      cases hs
      obtain ⟨h0, h1, h2, h3, h4, h5⟩ := hp
      have hpos : 0 < (ndAt a.1 h).2.2.length := by
        have h9 := h4
        rw [h5] at h9
        unfold fndP at h9
        have := of_decide_eq_true (Bool.and_eq_true_iff.1 h9).1
        omega
      refine ⟨rfl, rfl, some (args = eaTSSS a ∧ chkP a.1 = 0 ∧ (fndV (a.1, a.2.1)).2 = true ∧ stE (ndAt a.1 (fndV (a.1, a.2.1)).1.toNat).2.2 a.2.2 = 0 ∧ fndP (ndAt a.1 (fndV (a.1, a.2.1)).1.toNat).2.2 a.2.2.1 = true ∧ (fndV (a.1, a.2.1)).1.toNat = h), ndT, ptT, ndC, ptC, a.1, (ndAt a.1 h).2.2.set (posV (ndAt a.1 h).2.2 a.2.2.1) a.2.2, h, 2, 0, .v (.int .i64 0), _, ?_, by rw [List.length_set]; exact hpos, dec_nd _ _, ?_, rfl⟩
      rotate_left
      · unfold says3F
        dsimp only
        rw [ha]
        dsimp only
        rw [List.length_set]
      · exact ⟨h0, h1, h2, h3, h4, h5⟩
    · cases hs
  · cases hs
theorem set_some {a : List Nd × ByteArray × ByteArray × ByteArray} (h : (SetV a).2 = 0) : chkP a.1 = 0 ∧ (fndV (a.1, a.2.1)).2 = true ∧ stE (ndAt a.1 (fndV (a.1, a.2.1)).1.toNat).2.2 a.2.2 = 0 ∧ SetV a = (stN a.1 (fndV (a.1, a.2.1)).1.toNat a.2.2, 0) := by
  unfold SetV at *
  split at h
  · rename_i h1
    rw [if_pos h1]
    split at h
    · rename_i h2
      rw [if_pos h2]
      split at h
      · rename_i h3
        rw [if_pos h3]
        exact ⟨h1, h2, h3, rfl⟩
      · rename_i h3
        exact absurd h h3
    · cases h
  · rename_i h1
    exact absurd h h1
def K4 : Table := ext F5 37 (saysG daTSSS eaTSSS fun a => (none, treR (SetV a)))
def saysNF : Says := fun args H => match H with
  | [] => match daTSSS args with
    | some a => some (some (args = eaTSSS a ∧ (SetV a).2 = 0), treR (SetV a), [])
    | none => none
  | _ => none
theorem k4NF : TSound Tryz.prog (ext F5 37 saysNF) := by
  refine ext_case k4N (ext_fam (s' := fun args H => match H with
    | [] => match daTSSS args with
      | some a => some (some (args = eaTSSS a ∧ (SetV a).2 = 0 ∧ fndP (ndAt a.1 (fndV (a.1, a.2.1)).1.toNat).2.2 a.2.2.1 = true), treR (SetV a), [])
      | none => none
    | _ => none) k4F f5 fun args H p r H' hs hp => ?_) f5 fun args H p r H' hs hp => ?_
  · split at hs
    · split at hs
      · rename_i a ha
        cases hs
        obtain ⟨h0, h1, h2⟩ := hp
        obtain ⟨g1, g2, g3, g4⟩ := set_some h1
        refine ⟨(fndV (a.1, a.2.1)).1.toNat, some (args = eaTSSS a ∧ chkP a.1 = 0 ∧ (fndV (a.1, a.2.1)).2 = true ∧ stE (ndAt a.1 (fndV (a.1, a.2.1)).1.toNat).2.2 a.2.2 = 0 ∧ fndP (ndAt a.1 (fndV (a.1, a.2.1)).1.toNat).2.2 a.2.2.1 = true ∧ (fndV (a.1, a.2.1)).1.toNat = (fndV (a.1, a.2.1)).1.toNat), ?_, by unfold says4F; dsimp only; rw [ha]; dsimp only; rw [g4]; unfold stF stN stP; rw [if_pos h2]⟩
        exact ⟨h0, g1, g2, g3, h2, rfl⟩
      · cases hs
    · cases hs
  · unfold saysNF at hs
    split at hs
    · split at hs
      · rename_i a ha
        cases hs
        obtain ⟨h0, h1⟩ := hp
        obtain ⟨g1, g2, g3, g4⟩ := set_some h1
        by_cases hf : fndP (ndAt a.1 (fndV (a.1, a.2.1)).1.toNat).2.2 a.2.2.1 = true
        · exact .inr ⟨some (args = eaTSSS a ∧ (SetV a).2 = 0 ∧ fndP (ndAt a.1 (fndV (a.1, a.2.1)).1.toNat).2.2 a.2.2.1 = true), ⟨h0, h1, hf⟩, rfl⟩
        · have hf : fndP (ndAt a.1 (fndV (a.1, a.2.1)).1.toNat).2.2 a.2.2.1 = false := by simpa using hf
          refine .inl ⟨some (args = eaTSSS a ∧ chkP a.1 = 0 ∧ (fndV (a.1, a.2.1)).2 = true ∧ stE (ndAt a.1 (fndV (a.1, a.2.1)).1.toNat).2.2 a.2.2 = 0 ∧ fndP (ndAt a.1 (fndV (a.1, a.2.1)).1.toNat).2.2 a.2.2.1 = false), ?_, by unfold says4N; dsimp only; rw [ha]; dsimp only; rw [g4]⟩
          exact ⟨h0, g1, g2, g3, hf⟩
      · cases hs
    · cases hs
theorem k4 : TSound Tryz.prog K4 := by
  refine ext_case k4NF (ext_only k3E f5) f5 fun args H p r H' hs hp => ?_
  unfold saysG at hs
  split at hs
  · split at hs
    · rename_i a ha
      cases hs
      obtain ⟨h1, _⟩ := hp
      by_cases h0 : (SetV a).2 = 0
      · refine .inl ⟨_, ?_, by unfold saysNF; dsimp only; rw [ha]⟩
        exact ⟨h1, h0⟩
      · refine .inr ⟨_, ?_, by unfold says3E; dsimp only; rw [ha]⟩
        exact ⟨h1, h0⟩
    · cases hs
  · cases hs

theorem ltC_spec (nm : ByteArray) : ∀ ps : List Pt, (∀ j, j < ltC nm ps → bLt (ptAt ps j).1 nm = true) ∧ (ltC nm ps < ps.length → bLt (ptAt ps (ltC nm ps)).1 nm = false) := by
  intro ps
  induction ps with
  | nil => exact ⟨fun j h => absurd h (Nat.not_lt_zero j), fun h => absurd h (Nat.not_lt_zero _)⟩
  | cons q r ih =>
    unfold ltC
    split
    · rename_i h
      refine ⟨fun j hj => ?_, fun hj => ?_⟩
      · cases j with
        | zero => exact h
        | succ j => exact ih.1 j (by omega)
      · exact ih.2 (by simpa using hj)
    · rename_i h
      refine ⟨fun j hj => absurd hj (Nat.not_lt_zero j), fun _ => ?_⟩
      simpa using h
theorem pos_ltC (ps : List Pt) (nm : ByteArray) : posV ps nm = ltC nm ps := by
  obtain ⟨h1, h2⟩ := ltC_spec nm ps
  have hle := ltC_le nm ps
  rcases Nat.lt_or_eq_of_le hle with h | h
  · refine skGo_yes _ _ _ (Nat.zero_le _) (by omega) ?_ fun j _ hj => ?_
    · show (!bLt (ptAt ps (ltC nm ps)).1 nm) = true
      rw [h2 h]
      rfl
    · show (!bLt (ptAt ps j).1 nm) = false
      rw [h1 j hj]
      rfl
  · have := skGo_no (p := fun i => !bLt (ptAt ps i).1 nm) ps.length 0 fun j _ hj => by
      show (!bLt (ptAt ps j).1 nm) = false
      rw [h1 j (by omega)]
      rfl
    rw [Nat.zero_add] at this
    rw [h]
    exact this
theorem st_put (ps : List Pt) (p : Pt) : stP ps p = putV (ps, p) := by
  have hle := ltC_le p.1 ps
  unfold stP putV
  dsimp only
  rw [← pos_ltC] at hle ⊢
  by_cases hlt : posV ps p.1 < ps.length
  · rw [List.drop_eq_getElem_cons hlt]
    have e : ptAt ps (posV ps p.1) = ps[posV ps p.1] := pt_at' hlt
    by_cases hn : (ptAt ps (posV ps p.1)).1 = p.1
    · have hf : fndP ps p.1 = true := by
        unfold fndP
        rw [decide_eq_true hlt, decide_eq_true hn]
        rfl
      rw [if_pos hf]
      rw [e] at hn
      dsimp only
      rw [if_pos hn, List.set_eq_take_append_cons_drop, if_pos hlt]
    · have hf : fndP ps p.1 = false := by
        unfold fndP
        rw [decide_eq_false hn, Bool.and_false]
      rw [if_neg (ne_t hf)]
      rw [e] at hn
      dsimp only
      rw [if_neg hn, ← List.drop_eq_getElem_cons hlt]
      rfl
  · have hf : fndP ps p.1 = false := by
      unfold fndP
      rw [decide_eq_false hlt, Bool.false_and]
    rw [if_neg (ne_t hf), List.drop_of_length_le (by omega)]
    unfold wiP
    dsimp only
    rw [Int.toNat_natCast, List.drop_of_length_le (by omega)]
theorem stN_setN (ns : List Nd) (k : Nat) (p : Pt) : stN ns k p = setN ns k p.1 p.2 := by
  unfold stN setN
  rw [st_put]
theorem wi_mem {ps : List Pt} {p q : Pt} (h : q ∈ stP ps p) : q = p ∨ q ∈ ps := by
  unfold stP at h
  split at h
  · rcases List.mem_or_eq_of_mem_set h with h | h
    · exact .inr h
    · exact .inl h
  · unfold wiP at h
    rcases List.mem_append.1 h with h | h
    · exact .inr (List.mem_of_mem_take h)
    · rcases List.mem_cons.1 h with h | h
      · exact .inl h
      · exact .inr (List.mem_of_mem_drop h)
theorem stP_len {ps : List Pt} {p : Pt} (h : stE ps p = 0) (hl : ps.length ≤ 24) : (stP ps p).length ≤ 24 ∧ p.2.size ≤ 256 := by
  unfold stE at h
  split at h
  · cases h
  · split at h
    · cases h
    · rename_i h1
      simp at h1
      refine ⟨?_, h1.2⟩
      unfold stP
      split
      · rw [List.length_set]; exact hl
      · rename_i h2
        have h3 := h1.1 (by simpa using h2)
        unfold wiP
        simp only [List.length_append, List.length_take, List.length_cons, List.length_drop]
        omega
theorem vl_st {ns : List Nd} (hv : Vl ns) {k : Nat} (hk : k < ns.length) {p : Pt} (hp : prpB p.1 = true) (he : stE (ndAt ns k).2.2 p = 0) : Vl (stN ns k p) := by
  have hl := hv.f.lim
  have hlim : limV (stN ns k p) = true := by
    unfold limV at hl ⊢
    rw [stN_len]
    simp only [Bool.and_eq_true, List.all_eq_true] at hl ⊢
    refine ⟨hl.1, fun n hn => ?_⟩
    unfold stN at hn
    rcases List.mem_or_eq_of_mem_set hn with h | h
    · exact hl.2 n h
    · have h1 := hl.2 (ndAt ns k) (by
        have e : ndAt ns k = ns[k] := by unfold ndAt; simp [hk]
        rw [e]
        exact List.getElem_mem hk)
      rw [h]
      unfold ndLim at h1 ⊢
      simp only [Bool.and_eq_true, decide_eq_true_eq, List.all_eq_true] at h1 ⊢
      obtain ⟨g1, g2⟩ := stP_len he h1.1
      refine ⟨g1, fun q hq => ?_⟩
      rcases wi_mem hq with h2 | h2
      · rw [h2]
        unfold ptLim
        simp
        omega
      · exact h1.2 q h2
  rw [stN_setN] at hlim ⊢
  exact vl_set hv hk hp hlim
end Go.Ab
