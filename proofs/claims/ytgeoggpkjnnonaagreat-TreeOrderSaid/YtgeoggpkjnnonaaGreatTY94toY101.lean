/- Children in a valid tree. -/
import Derived.Test.YtgeoggpkjnnonaaGreatTY86toY93
namespace Go.Ab
open Go.Proofs
set_option linter.unusedSectionVars false
set_option maxRecDepth 100000
variable [Base]

/-- What 'follows' says: the parent is the node before, or a node above it has the same parent and an earlier name. -/
theorem flwGo_ex {ns : List Nd} {n : Nd} : ∀ k j, flwGo ns n k j = true → ∃ t, 0 < upN ns t j ∧ (ndAt ns (upN ns t j)).1 = n.1 ∧ bLe (ndAt ns (upN ns t j)).2.1 n.2.1 = true := by
  intro k
  induction k with
  | zero => intro j h; cases h
  | succ k ih =>
    intro j h
    unfold flwGo at h
    split at h
    · cases h
    · rename_i h0
      split at h
      · rename_i h1
        exact ⟨0, (show 0 < j by omega), h1, h⟩
      · obtain ⟨t, h1, h2, h3⟩ := ih _ h
        exact ⟨t + 1, h1, h2, h3⟩
theorem vl_flw {ns : List Nd} (hv : Vl ns) {m : Nat} (hm : m + 1 < ns.length) : paN ns (m + 1) = m ∨ ∃ t, 0 < upN ns t m ∧ paN ns (upN ns t m) = paN ns (m + 1) ∧ bLe (ndAt ns (upN ns t m)).2.1 (ndAt ns (m + 1)).2.1 = true := by
  have h := hv.flw (m + 1) (by omega) hm
  unfold flwV at h
  split at h
  · rename_i h1
    left
    unfold paN paI
    rw [h1]
    omega
  · obtain ⟨t, h1, h2, h3⟩ := flwGo_ex _ _ h
    refine .inr ⟨t, h1, ?_, h3⟩
    have h2' : (ndAt ns (upN ns t m)).1 = (ndAt ns (m + 1)).1 := h2
    unfold paN paI
    rw [h2']
/-- What lies between a node and one below it is below it too. -/
theorem below_all {ns : List Nd} (hv : Vl ns) {a : Nat} : ∀ m, m < ns.length → (∃ t, upN ns t m = a) → ∀ j, a ≤ j → j ≤ m → ∃ t, upN ns t j = a := by
  intro m
  induction m with
  | zero =>
    intro _ h j _ h2
    obtain rfl : j = 0 := by omega
    exact h
  | succ m ih =>
    intro hm h j h1 h2
    by_cases hj : j = m + 1
    · rw [hj]; exact h
    · obtain ⟨t, ht⟩ := h
      cases t with
      | zero =>
        have : m + 1 = a := ht
        omega
      | succ t =>
        have ht : upN ns t (paN ns (m + 1)) = a := ht
        refine ih (by omega) ?_ j h1 (by omega)
        rcases vl_flw hv hm with h3 | ⟨u, h3, h4, _⟩
        · rw [h3] at ht
          exact ⟨t, ht⟩
        · rw [← h4, ← up_succ, ← upN_add] at ht
          exact ⟨_, ht⟩
/-- The first child is the next node. -/
theorem first_child {ns : List Nd} (hv : Vl ns) {i c : Nat} (hc : c < ns.length) (h0 : 0 < c) (hp : paN ns c = i) : i + 1 < ns.length ∧ paN ns (i + 1) = i := by
  have hlt := (par_lt hv.f.par h0 hc).1
  have hi1 : i + 1 < ns.length := by omega
  obtain ⟨t, ht⟩ := below_all hv c hc ⟨1, hp⟩ (i + 1) (by omega) (by omega)
  refine ⟨hi1, ?_⟩
  cases t with
  | zero =>
    have : i + 1 = i := ht
    omega
  | succ t =>
    have ht : upN ns t (paN ns (i + 1)) = i := ht
    have h1 := up_le hv.f t (paN ns (i + 1))
    have h2 := (par_lt hv.f.par (j := i + 1) (by omega) hi1).1
    omega
/-- Neighbours among children have ascending names. -/
theorem next_child {ns : List Nd} (hv : Vl ns) {i c d : Nat} (hd : d < ns.length) (c0 : 0 < c) (hcd : c < d) (hpc : paN ns c = i) (hpd : paN ns d = i) (hno : ∀ e, c < e → e < d → ¬ paN ns e = i) : bLt (ndAt ns c).2.1 (ndAt ns d).2.1 = true := by
  obtain ⟨d, rfl⟩ : ∃ q, d = q + 1 := ⟨d - 1, by omega⟩
  have hci := (par_lt hv.f.par c0 (by omega)).1
  rcases vl_flw hv hd with h | ⟨t, h1, h2, h3⟩
  · omega
  · have hle := up_le hv.f t d
    obtain ⟨e, he⟩ : ∃ e, upN ns t d = e := ⟨_, rfl⟩
    rw [he] at h1 h2 h3 hle
    have hec : e ≤ c := by
      rcases Nat.lt_or_ge c e with h | h
      · exact absurd (by omega) (hno e h (by omega))
      · exact h
    obtain ⟨u, hu⟩ := below_all hv d (by omega) ⟨t, he⟩ c hec (by omega)
    have hec2 : c = e := up_same hv.f (i := i) (j := c) (t := 0) (u := u) c0 (by omega) h1 (by omega) hpc (by omega) rfl hu
    subst hec2
    rcases bLe_iff.1 h3 with h | h
    · exact h
    · exfalso
      have := hv.d c (d + 1) c0 (by omega) (by omega) hd (by omega) h
      omega

/-- The nodes from one on with this parent. -/
def kidL (ns : List Nd) (i : Int) : Nat → Nat → List Nat
  | 0, _ => []
  | m + 1, j => if (ndAt ns j).1 = i then j :: kidL ns i m (j + 1) else kidL ns i m (j + 1)
theorem chl_eq (ns : List Nd) (i : Int) : ∀ (m j : Nat) (out : List Int), chlGo ns i m j out = out ++ (kidL ns i m j).map fun q : Nat => (q : Int) := by
  intro m
  induction m with
  | zero => intro j out; exact (List.append_nil _).symm
  | succ m ih =>
    intro j out
    unfold chlGo kidL
    rw [ih]
    split
    · rw [List.map_cons, List.append_assoc]
      rfl
    · rfl
theorem kid_mem {ns : List Nd} {i : Int} : ∀ m j q, q ∈ kidL ns i m j ↔ j ≤ q ∧ q < j + m ∧ (ndAt ns q).1 = i := by
  intro m
  induction m with
  | zero =>
    intro j q
    constructor
    · intro h; cases h
    · intro ⟨h1, h2, _⟩; omega
  | succ m ih =>
    intro j q
    unfold kidL
    split
    · rename_i h0
      rw [List.mem_cons, ih]
      constructor
      · rintro (rfl | ⟨h1, h2, h3⟩)
        · exact ⟨Nat.le_refl _, by omega, h0⟩
        · exact ⟨by omega, by omega, h3⟩
      · rintro ⟨h1, h2, h3⟩
        by_cases hq : q = j
        · exact .inl hq
        · exact .inr ⟨by omega, by omega, h3⟩
    · rename_i h0
      rw [ih]
      constructor
      · rintro ⟨h1, h2, h3⟩
        exact ⟨by omega, by omega, h3⟩
      · rintro ⟨h1, h2, h3⟩
        by_cases hq : q = j
        · subst hq
          exact absurd h3 h0
        · exact ⟨by omega, by omega, h3⟩
theorem kid_asc {ns : List Nd} {i : Int} : ∀ m j, (kidL ns i m j).Pairwise (· < ·) := by
  intro m
  induction m with
  | zero => intro j; exact List.Pairwise.nil
  | succ m ih =>
    intro j
    unfold kidL
    split
    · refine List.pairwise_cons.2 ⟨fun q hq => ?_, ih _⟩
      have := ((kid_mem m (j + 1) q).1 hq).1
      omega
    · exact ih _
/-- How many have a parent before one. -/
def kcnt (ns : List Nd) (b : Int) : Nat → Nat → Nat
  | 0, _ => 0
  | m + 1, j => (if 0 ≤ (ndAt ns j).1 ∧ (ndAt ns j).1 < b then 1 else 0) + kcnt ns b m (j + 1)
theorem kcnt_step {ns : List Nd} {b : Int} (hb : 0 ≤ b) : ∀ m j, kcnt ns (b + 1) m j = kcnt ns b m j + (kidL ns b m j).length := by
  intro m
  induction m with
  | zero => intro j; rfl
  | succ m ih =>
    intro j
    unfold kcnt kidL
    rw [ih]
    generalize hx : @id Int (ndAt ns j).1 = x
    have hx : (ndAt ns j).1 = x := hx
    rw [hx]
    by_cases h1 : x = b
    · rw [if_pos h1, if_pos (show 0 ≤ x ∧ x < b + 1 by omega), if_neg (show ¬ (0 ≤ x ∧ x < b) by omega), List.length_cons]
      omega
    · rw [if_neg h1]
      by_cases h2 : 0 ≤ x ∧ x < b
      · rw [if_pos h2, if_pos (show 0 ≤ x ∧ x < b + 1 by omega)]
        omega
      · rw [if_neg h2, if_neg (show ¬ (0 ≤ x ∧ x < b + 1) by omega)]
        omega
theorem kcnt_zero (ns : List Nd) : ∀ m j, kcnt ns 0 m j = 0 := by
  intro m
  induction m with
  | zero => intro j; rfl
  | succ m ih =>
    intro j
    unfold kcnt
    rw [ih, if_neg (fun h => absurd (Int.lt_of_le_of_lt h.1 h.2) (Int.lt_irrefl _))]
theorem kcnt_all {ns : List Nd} (hf : FrmT ns) : ∀ m j, 0 < j → j + m = ns.length → kcnt ns (ns.length : Nat) m j = m := by
  intro m
  induction m with
  | zero => intro j _ _; rfl
  | succ m ih =>
    intro j h0 hj
    have hp := hf.par j h0 (by omega)
    unfold kcnt
    rw [ih (j + 1) (by omega) (by omega), if_pos (show 0 ≤ (ndAt ns j).1 ∧ (ndAt ns j).1 < ((ns.length : Nat) : Int) from ⟨hp.1, Int.lt_of_lt_of_le hp.2 (by omega)⟩)]
    omega

def woV (a : List Nd × Int × Int) : List Nd := a.1.take a.2.1.toNat ++ a.1.drop a.2.2.toNat
def daNII : List AV → Option (List Nd × Int × Int)
  | [.c (.p (.l c0 ns)), .c (.p (.v (.int .i64 k))), .c (.p (.v (.int .i64 q)))] => match castD (e := ndC) (e' := c0) ns with | some ns => some (ns, k, q) | _ => none
  | _ => none
def eaNII (a : List Nd × Int × Int) : List AV := [.c (.p (.l ndC a.1)), .c (.int .i64 a.2.1), .c (.int .i64 a.2.2)]
theorem daNII_at (a : List Nd × Int × Int) : daNII (eaNII a) = some a := by
  unfold daNII eaNII
  dsimp only
  rw [castD_self]
def E1 : Table := ext C29 114 (saysG daNII eaNII fun a => (some (a.1.length ≤ 1000000000 ∧ 0 < a.2.1 ∧ a.2.1 ≤ (a.1.length : Nat) ∧ 0 ≤ a.2.2 ∧ a.2.2 ≤ (a.1.length : Nat)), .a (.c (.p (.l ndC (woV a))))))
theorem e1 : TSound Tryz.prog E1 := by
  refine extG c29 114 (fn := Tryz.f114) rfl rfl daNII eaNII _ (fun _ => Nat.le_of_ble_eq_true rfl) [0, 1, 2, 6] fun a hok => ?_
  obtain ⟨ns, k, q⟩ := a
  obtain ⟨h1, h2, h3, h4, h5⟩ : ns.length ≤ 1000000000 ∧ 0 < k ∧ k ≤ (ns.length : Nat) ∧ 0 ≤ q ∧ q ≤ (ns.length : Nat) := hok
  show runF _ _ _ [] [.c (.p (.l ndC ns)), .c (.int .i64 k), .c (.int .i64 q)] [] fun r H => Ends r H (.a (.c (.p (.l ndC (woV (ns, k, q)))))) []
  have ht : (ns.take k.toNat).length = k.toNat := by rw [List.length_take]; omega
  have hz1 : (ns.take k.toNat).length ≤ capBound := by rw [ht]; exact Nat.le_trans (m := 1000000001) (by omega) (by decide)
  repeat ((conv => whnf); refine ⟨by first | exact ⟨Int.le_refl _, by omega, h3⟩ | ((conv => whnf); exact ⟨⟨rfl, rfl, rfl⟩, trivial⟩) | exact Early.one (by decide +kernel) (by (conv => whnf); exact ⟨rfl, rfl, rfl⟩) trivial | (unfold inI64; omega) | omega | exact ⟨by omega, by omega⟩ | exact rfl | decide +kernel, ?_⟩)
  conv => whnf
  refine Or.inl (Or.inl ?_)
  have hn : (((ns.length : Nat) : Int)).toNat = ns.length := rfl
  have hz6 : ns.take (((ns.length : Nat) : Int)).toNat = ns := by rw [hn, List.take_length]
  have hz5 : (ns.drop q.toNat).length = ns.length - q.toNat := List.length_drop ..
  have hz4 : (ns.take k.toNat).length + ((ns.take (((ns.length : Nat) : Int)).toNat).drop q.toNat).length ≤ capBound := by rw [hz6, ht, hz5]; exact Nat.le_trans (m := 2000000001) (by omega) (by decide)
  repeat ((conv => whnf); refine ⟨by first | exact hz1 | exact ⟨h4, h5, Int.le_refl _⟩ | exact hz4 | ((conv => whnf); exact ⟨⟨rfl, rfl, rfl⟩, trivial⟩) | exact Early.one (by decide +kernel) (by (conv => whnf); exact ⟨rfl, rfl, rfl⟩) trivial | (unfold inI64; omega) | omega | exact ⟨by omega, by omega⟩ | exact rfl | decide +kernel, ?_⟩)
  conv => whnf
  show Ends (.a (.c (.p (.l ndC (ns.take k.toNat ++ (ns.take (((ns.length : Nat) : Int)).toNat).drop q.toNat))))) [] _ _
  rw [hz6]
  exact ends_eq ⟨rfl, rfl⟩
def saysWoS : Says := fun args H => match args, H with
  | [.c (.sl _ _ _ _), .c (.p (.v (.int .i64 k))), .c (.p (.v (.int .i64 q)))], [.arr _ c0 ns _] => match castD (e := ndC) (e' := c0) ns with
    | some ns => some (some (args = [.c (.sl 0 ndC 0 ns.length), .c (.int .i64 k), .c (.int .i64 q)] ∧ H = hpN ns ∧ ns.length ≤ 1000000000 ∧ 0 < k ∧ k ≤ (ns.length : Nat) ∧ 0 ≤ q ∧ q ≤ (ns.length : Nat)), .a (.c (.p (.l ndC (woV (ns, k, q))))), [.dead])
    | _ => none
  | _, _ => none
def E2 : Table := ext C29 114 saysWoS
theorem e2 : TSound Tryz.prog E2 := by
  refine ext_give e1 c29 fun args H p r H' hs hp => ?_
  unfold saysWoS at hs
  split at hs
  · split at hs
    · rename_i k q _ _ _ _ _ ns _
      cases hs
      obtain ⟨ha, hH, h1, h2, h3, h4, h5⟩ := hp
      refine ⟨ndT, ndC, ns, eaNII (ns, k, q), hH, rfl, by omega, ?_, saysG_at (daNII_at _) ⟨h1, h2, h3, h4, h5⟩, _, rfl⟩
      rw [ha]
      exact .cons .sl (.cons (.p _) (.cons (.p _) .nil))
    · cases hs
  · cases hs

/-! remove. -/
def behN (ns : List Nd) (k : Int) : Nat := skV (behB ns k) ns.length
def rmN (ns : List Nd) (k : Int) : List Nd := woV (ns.map (mvGo (behN ns k : Nat) (k - (behN ns k : Nat))), k, (behN ns k : Nat))
def rmR (a : List Nd × Int) : List Nd := if a.2 = 0 then [] else rmN a.1 a.2
def rmE (a : List Nd × Int) : Int := if a.2 = 0 then 1 else 0
abbrev rmS (a : List Nd × Int) : SV := .tup [.c (.p (.l ndC (rmR a))), .c (.int .i64 (rmE a))]
structure RmOk (ns : List Nd) (k : Int) : Prop where
  pos : 0 < ns.length
  len : ns.length ≤ 120
  pm : ParM ns
  k0 : 0 ≤ k
  k1 : k < (ns.length : Nat)
def saysRmX (c : Int → Prop) (h : List Nd → List AO) : Says := fun args H => match args, H with
  | [.c (.sl _ _ _ _), .c (.p (.v (.int .i64 k)))], [.arr _ c0 ns _] => match castD (e := ndC) (e' := c0) ns with
    | some ns => some (some (args = [.c (.sl 0 ndC 0 ns.length), .c (.int .i64 k)] ∧ H = hpN ns ∧ RmOk ns k ∧ c k), rmS (ns, k), h ns)
    | none => none
  | _, _ => none
theorem rm_er : TSound Tryz.prog (ext E2 86 (saysRmX (fun k => k = 0) hpN)) := by
  refine ext_run e2 (f := 86) (fn := Tryz.f86) rfl rfl [0, 1, 4, 5, 6, 8] fun args H p r' H' hs hp => ?_
  unfold saysRmX at hs
  split at hs
  · split at hs
    · rename_i k _ _ _ _ _ ns _
      cases hs
      obtain ⟨ha, hH, hok, rfl⟩ := hp
      rw [ha, hH]
      refine ⟨Nat.le_of_ble_eq_true rfl, [0], rfl, id0, ?_⟩
      repeat ((conv => whnf); refine ⟨by first | (unfold inI64; omega) | omega | exact ⟨by omega, by omega⟩ | exact rfl | decide +kernel, ?_⟩)
      conv => whnf
      refine ends_of (fun G v hv => ?_) rfl
      obtain ⟨vs, rfl, hvs⟩ := hv
      cases hvs with
      | cons a b =>
        refine ⟨_, rfl, .cons ?_ b⟩
        obtain ⟨_, rfl⟩ := a
        exact .inl ⟨rfl, rfl⟩
    · cases hs
  · cases hs
theorem rm_ok : TSound Tryz.prog (ext E2 86 (saysRmX (fun k => ¬ k = 0) fun _ => [.dead])) := by
  refine ext_run e2 (f := 86) (fn := Tryz.f86) rfl rfl [0, 1, 4, 5, 6, 8] fun args H p r' H' hs hp => ?_
  unfold saysRmX at hs
  split at hs
  · split at hs
    · rename_i k _ _ _ _ _ ns _
      cases hs
      obtain ⟨ha, hH, hok, hk⟩ := hp
      rw [ha, hH]
      obtain ⟨h0, h1, h2, h4, h5⟩ := hok
      refine ⟨Nat.le_of_ble_eq_true rfl, [0], rfl, id0, ?_⟩
      have h1' : ns.length ≤ 1000000000 := by omega
      have hle : skV (behB ns k) ns.length ≤ ns.length := skV_le _ _
      have hd : -1000 ≤ k - ((skV (behB ns k) ns.length : Nat) : Int) ∧ k - ((skV (behB ns k) ns.length : Nat) : Int) ≤ 1000 := by omega
      have hw : (([.c (.sl 0 ndC 0 ns.length), .c (.int .i64 k), .c (.int .i64 (skV (behB ns k) ns.length : Nat))] : List AV) = [.c (.sl 0 ndC 0 (ns.map (mvGo (skV (behB ns k) ns.length : Nat) (k - (skV (behB ns k) ns.length : Nat)))).length), .c (.int .i64 k), .c (.int .i64 (skV (behB ns k) ns.length : Nat))]) ∧ hpN (ns.map (mvGo (skV (behB ns k) ns.length : Nat) (k - (skV (behB ns k) ns.length : Nat)))) = hpN (ns.map (mvGo (skV (behB ns k) ns.length : Nat) (k - (skV (behB ns k) ns.length : Nat)))) ∧ (ns.map (mvGo (skV (behB ns k) ns.length : Nat) (k - (skV (behB ns k) ns.length : Nat)))).length ≤ 1000000000 ∧ 0 < k ∧ k ≤ ((ns.map (mvGo (skV (behB ns k) ns.length : Nat) (k - (skV (behB ns k) ns.length : Nat)))).length : Nat) ∧ (0 : Int) ≤ (skV (behB ns k) ns.length : Nat) ∧ ((skV (behB ns k) ns.length : Nat) : Int) ≤ ((ns.map (mvGo (skV (behB ns k) ns.length : Nat) (k - (skV (behB ns k) ns.length : Nat)))).length : Nat) := by
        rw [List.length_map]
        exact ⟨rfl, rfl, h1', by omega, by omega, by omega, by omega⟩
      repeat ((conv => whnf); refine ⟨by first | (unfold inI64; omega) | omega | exact ⟨by omega, by omega⟩ | exact rfl | decide +kernel, ?_⟩)
      conv => whnf
      refine cond_intro (fun h => ?_) (fun h => ?_)
      · exact absurd (of_decide_eq_true h) hk
      have ho : inI64 (k - ((skV (behB ns k) ns.length : Nat) : Int)) := by unfold inI64; omega
      repeat ((conv => whnf); refine ⟨by first | exact ⟨rfl, rfl, h0, h1'⟩ | exact ho | exact ⟨rfl, rfl, h1', hd, h2⟩ | exact hw | (unfold inI64; omega) | omega | exact ⟨by omega, by omega⟩ | exact rfl | decide +kernel, ?_⟩)
      conv => whnf
      have e1 : rmR (ns, k) = rmN ns k := by
        unfold rmR
        rw [if_neg hk]
      have e2 : rmE (ns, k) = 0 := by
        unfold rmE
        rw [if_neg hk]
      show Ends (.tup [.c (.p (.l ndC (rmN ns k))), .c (.int .i64 0)]) [.dead] (.tup [.c (.p (.l ndC (rmR (ns, k)))), .c (.int .i64 (rmE (ns, k)))]) [.dead]
      rw [e1, e2]
      exact ends_eq ⟨rfl, rfl⟩
    · cases hs
  · cases hs
theorem rm_e2 : TSound Tryz.prog (ext E2 86 (saysRmX (fun k => k = 0) fun _ => [.dead])) := by
  refine ext_kill rm_er e2 fun args H p r H' hs hp => ?_
  unfold saysRmX at hs
  split at hs
  · split at hs
    · rename_i k _ _ _ _ _ ns hc
      cases hs
      refine ⟨rfl, fun v hv => ?_, _, ndT, ndC, ns, hp, hp.2.2.1.pos, ?_⟩
      · rcases List.mem_cons.1 hv with rfl | hv
        · exact ⟨_, rfl⟩
        · rcases List.mem_cons.1 hv with rfl | hv
          · exact ⟨_, rfl⟩
          · cases hv
      · unfold saysRmX
        dsimp only
        rw [hc]
    · cases hs
  · cases hs
def saysRm : Says := saysRmX (fun _ => True) fun _ => [.dead]
def E3 : Table := ext E2 86 saysRm
theorem e3 : TSound Tryz.prog E3 := by
  refine ext_case rm_ok rm_e2 e2 fun args H p r H' hs hp => ?_
  unfold saysRm saysRmX at hs
  split at hs
  · split at hs
    · rename_i k _ _ _ _ _ ns hc
      cases hs
      obtain ⟨h1, h2, h3, _⟩ := hp
      by_cases he : k = 0
      · refine .inr ⟨_, ?_, by unfold saysRmX; dsimp only; rw [hc]⟩
        exact ⟨h1, h2, h3, he⟩
      · refine .inl ⟨_, ?_, by unfold saysRmX; dsimp only; rw [hc]⟩
        exact ⟨h1, h2, h3, he⟩
    · cases hs
  · cases hs

def RemV (a : List Nd × ByteArray) : List Nd × Int :=
  if chkP a.1 = 0 then if (fndV (a.1, a.2)).2 = true then (rmR (a.1, (fndV (a.1, a.2)).1), rmE (a.1, (fndV (a.1, a.2)).1)) else ([], 4) else ([], chkP a.1)
def daTSF : List AV → Option (List Nd × ByteArray)
  | [.agg [.p (.l c0 ns)], .c (.p (.v (.string p))), .c (.p (.v (.func _ _ _)))] => match castD (e := ndC) (e' := c0) ns with | some ns => some (ns, p) | none => none
  | _ => none
def eaTSF (a : List Nd × ByteArray) : List AV := [.agg [.p (.l ndC a.1)], .c (.str a.2), .c (.p (.v (.func (.func 86) #[] #[])))]
theorem vld_rm {ns : List Nd} {p : ByteArray} (hv : VldT ns) (hf : (fndV (ns, p)).2 = true) : RmOk ns (fndV (ns, p)).1 := by
  obtain ⟨h1, h2, _, h4, h5, h6⟩ := vld_ad hv hf
  exact ⟨h1, (lim_len hv.lim).2.2, h4, h5, h6⟩
def E4 : Table := ext E3 75 (saysG daTSF eaTSF fun a => (none, treR (RemV a)))
theorem e4 : TSound Tryz.prog E4 := by
  refine extG e3 75 (fn := Tryz.f75) rfl rfl daTSF eaTSF _ (fun _ => Nat.le_of_ble_eq_true rfl) [0, 1, 2, 3, 6, 7, 8, 9, 10, 11, 12, 16, 27] fun a _ => ?_
  obtain ⟨ns, p⟩ := a
  show runF _ _ _ [] [.agg [.p (.l ndC ns)], .c (.str p), .c (.p (.v (.func (.func 86) #[] #[])))] [] fun r H => Ends r H (treR (RemV (ns, p))) []
  repeat ((conv => whnf); refine ⟨by first | exact ⟨rfl, trivial⟩ | (unfold inI64; omega) | omega | exact ⟨by omega, by omega⟩ | exact rfl | decide +kernel, ?_⟩)
  conv => whnf
  refine cond_intro (fun h => ?_) (fun h => ?_)
  · have h1 : ¬ chkP ns = 0 := by
      have h2 : (!decide (chkP ns = 0)) = true := h
      simpa using h2
    repeat ((conv => whnf); refine ⟨by first | (unfold inI64; omega) | omega | exact ⟨by omega, by omega⟩ | exact rfl | decide +kernel, ?_⟩)
    conv => whnf
    exact ends_nil (by unfold RemV; rw [if_neg h1])
  have h1 : chkP ns = 0 := by
    have h2 : (!decide (chkP ns = 0)) = false := h
    simpa using h2
  have hv := chk_vld.1 h1
  repeat ((conv => whnf); refine ⟨by first | exact ⟨rfl, hv⟩ | (unfold inI64; omega) | omega | exact ⟨by omega, by omega⟩ | exact rfl | decide +kernel, ?_⟩)
  conv => whnf
  refine cond_intro (fun h3 => ?_) (fun h3 => ?_)
  · have h4 : ¬ (fndV (ns, p)).2 = true := ne_t (not_b h3)
    repeat ((conv => whnf); refine ⟨by first | (unfold inI64; omega) | omega | exact ⟨by omega, by omega⟩ | exact rfl | decide +kernel, ?_⟩)
    conv => whnf
    exact ends_nil (by unfold RemV; rw [if_pos h1, if_neg h4])
  have h4 : (fndV (ns, p)).2 = true := not_f h3
  have hok := vld_rm hv h4
  obtain ⟨hl, hp0, _⟩ := lim_len hv.lim
  repeat ((conv => whnf); refine ⟨by first | exact ⟨rfl, hl, hp0⟩ | exact ⟨rfl, rfl, hok, trivial⟩ | (unfold inI64; omega) | omega | exact ⟨by omega, by omega⟩ | exact rfl | decide +kernel, ?_⟩)
  conv => whnf
  have e : RemV (ns, p) = (rmR (ns, (fndV (ns, p)).1), rmE (ns, (fndV (ns, p)).1)) := by
    unfold RemV
    rw [if_pos h1, if_pos h4]
  show Ends (treR (rmR (ns, (fndV (ns, p)).1), rmE (ns, (fndV (ns, p)).1))) _ (treR (RemV (ns, p))) _
  rw [e]
  exact ends_eq ⟨rfl, rfl⟩
def E5 : Table := ext E4 41 (saysG daTS eaTS fun a => (none, treR (RemV a)))
theorem e5 : TSound Tryz.prog E5 := by
  refine extG e4 41 (fn := Tryz.f41) rfl rfl daTS eaTS _ (fun _ => Nat.le_of_ble_eq_true rfl) [0, 1, 2, 4, 5] fun a _ => ?_
  obtain ⟨ns, p⟩ := a
  show runF _ _ _ [] [.agg [.p (.l ndC ns)], .c (.str p)] [] _
  repeat ((conv => whnf); refine ⟨by first | exact ⟨rfl, trivial⟩ | ((conv => whnf); exact ⟨⟨rfl, rfl, rfl⟩, trivial⟩) | exact Early.one (by decide +kernel) (by (conv => whnf); exact ⟨rfl, rfl, rfl⟩) trivial | (unfold inI64; omega) | omega | exact ⟨by omega, by omega⟩ | exact rfl | decide +kernel, ?_⟩)
  conv => whnf
  exact ends_eq ⟨rfl, rfl⟩

def nmL (ns : List Nd) (j : Nat) : List UInt8 := (ndAt ns j).2.1.data.toList
def pthL (ns : List Nd) : Nat → Nat → List UInt8
  | 0, _ => []
  | k + 1, j => if j = 0 then [] else pthL ns k (paN ns j) ++ 47 :: nmL ns j
theorem pathGo_L (ns : List Nd) : ∀ k j s, (pathGo ns k j s).data.toList = pthL ns k j ++ s.data.toList := by
  intro k
  induction k with
  | zero => intro j s; rfl
  | succ k ih =>
    intro j s
    unfold pathGo pthL
    split
    · rfl
    · rw [ih]
      simp [nmL, ByteArray.data_append]
theorem pthL_fuel {ns : List Nd} (hf : FrmT ns) : ∀ k m j, j < k → j < m → j < ns.length → pthL ns k j = pthL ns m j := by
  intro k
  induction k with
  | zero => intro m j h; omega
  | succ k ih =>
    intro m j h1 h2 h3
    obtain ⟨m, rfl⟩ : ∃ q, m = q + 1 := ⟨m - 1, by omega⟩
    unfold pthL
    split
    · rfl
    · have := (par_lt hf.par (j := j) (by omega) h3).1
      rw [ih m (paN ns j) (by omega) (by omega) (by omega)]
def pL (ns : List Nd) (j : Nat) : List UInt8 := pthL ns (j + 1) j
theorem pL_zero (ns : List Nd) : pL ns 0 = [] := rfl
theorem pL_succ {ns : List Nd} (hf : FrmT ns) {j : Nat} (h0 : 0 < j) (hj : j < ns.length) : pL ns j = pL ns (paN ns j) ++ 47 :: nmL ns j := by
  have := (par_lt hf.par h0 hj).1
  unfold pL
  rw [pthL_fuel hf (paN ns j + 1) j (paN ns j) (by omega) this (by omega)]
  show (if j = 0 then [] else _) = _
  rw [if_neg (by omega)]
theorem pathV_L (ns : List Nd) (i : Nat) : (pathV ns i).data.toList = if i = 0 then [47] else pL ns i := by
  unfold pathV
  split
  · rfl
  · rw [pathGo_L]
    exact List.append_nil _
theorem nm_ok {ns : List Nd} (hf : FrmT ns) {j : Nat} (h0 : 0 < j) (hj : j < ns.length) : (47 : UInt8) ∉ nmL ns j ∧ nmL ns j ≠ [] := by
  have h := frm_nam hf.frm h0 hj
  unfold nmL
  obtain ⟨l, hl⟩ : ∃ l, (ndAt ns j).2.1 = B l := ⟨(ndAt ns j).2.1.data.toList, rfl⟩
  rw [hl] at h ⊢
  have hd : (B l).data.toList = l := rfl
  rw [hd]
  cases l with
  | nil => rw [namB_nil] at h; cases h
  | cons a r =>
    rw [namB_cons] at h
    simp only [Bool.and_eq_true, List.all_eq_true] at h
    obtain ⟨_, h1, h2⟩ := h
    have h47 : nameB (((47 : UInt8).toNat : Nat) : Int) = false := by decide
    refine ⟨fun hm => ?_, List.cons_ne_nil _ _⟩
    rcases List.mem_cons.1 hm with h3 | h3
    · rw [← h3, h47] at h1; cases h1
    · have := h2 _ h3
      rw [h47] at this
      cases this
theorem app47 {a c b d : List UInt8} (hb : (47 : UInt8) ∉ b) (h : a ++ 47 :: b = c ++ 47 :: d) : (a = c ∧ b = d) ∨ ∃ e, a = c ++ 47 :: e ∧ d = e ++ 47 :: b := by
  rcases List.append_eq_append_iff.1 h with ⟨a', h1, h2⟩ | ⟨c', h1, h2⟩
  · cases a' with
    | nil =>
      rw [List.append_nil] at h1
      exact .inl ⟨h1.symm, (List.cons.inj h2).2⟩
    | cons x a' =>
      obtain ⟨_, h3⟩ := List.cons.inj h2
      exact absurd (by rw [h3]; simp) hb
  · cases c' with
    | nil =>
      rw [List.append_nil] at h1
      exact .inl ⟨h1, (List.cons.inj h2).2.symm⟩
    | cons x c' =>
      obtain ⟨h3, h4⟩ := List.cons.inj h2
      exact .inr ⟨c', by rw [h1, ← h3], h4⟩
theorem pL_ne {ns : List Nd} (hf : FrmT ns) {j : Nat} (h0 : 0 < j) (hj : j < ns.length) : pL ns j ≠ [] := by
  rw [pL_succ hf h0 hj]
  simp
theorem ba_ext9 {a b : ByteArray} (h : a.data.toList = b.data.toList) : a = b := by
  cases a; cases b
  congr
  exact Array.toList_inj.1 h
theorem pL_inj {ns : List Nd} (hv : Vl ns) : ∀ n i j, i ≤ n → i < ns.length → j < ns.length → pL ns i = pL ns j → i = j := by
  intro n
  induction n with
  | zero =>
    intro i j h1 h2 h3 h
    obtain rfl : i = 0 := by omega
    rcases Nat.eq_zero_or_pos j with h0 | h0
    · exact h0.symm
    · exact absurd (h.symm.trans (pL_zero ns)) (pL_ne hv.f h0 h3)
  | succ n ih =>
    intro i j h1 h2 h3 h
    rcases Nat.eq_zero_or_pos j with h0 | h0
    · subst h0
      rcases Nat.eq_zero_or_pos i with h4 | h4
      · exact h4
      · exact absurd (h.trans (pL_zero ns)) (pL_ne hv.f h4 h2)
    rcases Nat.eq_zero_or_pos i with h4 | h4
    · subst h4
      exact absurd (h.symm.trans (pL_zero ns)) (pL_ne hv.f h0 h3)
    have hpi := (par_lt hv.f.par h4 h2).1
    have hpj := (par_lt hv.f.par h0 h3).1
    rw [pL_succ hv.f h4 h2, pL_succ hv.f h0 h3] at h
    rcases app47 (nm_ok hv.f h4 h2).1 h with ⟨h5, h6⟩ | ⟨e, h5, h6⟩
    · exact hv.d i j h4 h2 h0 h3 (ih _ _ (by omega) (by omega) (by omega) h5) (ba_ext9 h6)
    · exact absurd (by rw [h6]; simp) (nm_ok hv.f h0 h3).1
theorem path_inj {ns : List Nd} (hv : Vl ns) {i j : Nat} (hi : i < ns.length) (hj : j < ns.length) (h : pathV ns i = pathV ns j) : i = j := by
  have h1 := congrArg (fun s : ByteArray => s.data.toList) h
  rw [pathV_L, pathV_L] at h1
  have key : ∀ j, 0 < j → j < ns.length → [47] ≠ pL ns j := by
    intro j h0 hj h2
    rw [pL_succ hv.f h0 hj] at h2
    rcases app47 (a := []) (b := []) (by simp) h2 with ⟨_, h3⟩ | ⟨e, h3, _⟩
    · exact (nm_ok hv.f h0 hj).2 h3.symm
    · simp at h3
  split at h1
  · split at h1
    · omega
    · exact absurd h1 (key j (by omega) hj)
  · split at h1
    · exact absurd h1.symm (key i (by omega) hi)
    · exact pL_inj hv i i j (Nat.le_refl _) hi hj h1
/-- What has a node's path and a '/' in front is below it. -/
theorem pre_below {ns : List Nd} (hv : Vl ns) {k : Nat} (hk : k < ns.length) : ∀ n i r, i ≤ n → i < ns.length → pL ns i = pL ns k ++ 47 :: r → ∃ t, upN ns t i = k := by
  intro n
  induction n with
  | zero =>
    intro i r h1 h2 h
    obtain rfl : i = 0 := by omega
    rw [pL_zero] at h
    simp at h
  | succ n ih =>
    intro i r h1 h2 h
    rcases Nat.eq_zero_or_pos i with h4 | h4
    · subst h4
      rw [pL_zero] at h
      simp at h
    have hpi := (par_lt hv.f.par h4 h2).1
    rw [pL_succ hv.f h4 h2] at h
    rcases app47 (nm_ok hv.f h4 h2).1 h with ⟨h5, _⟩ | ⟨e, h5, _⟩
    · exact ⟨1, show paN ns i = k from pL_inj hv _ _ _ (Nat.le_refl _) (by omega) hk h5⟩
    · obtain ⟨t, ht⟩ := ih (paN ns i) e (by omega) (by omega) h5
      exact ⟨t + 1, ht⟩
theorem below_pre {ns : List Nd} (hf : FrmT ns) {k : Nat} (hk0 : 0 < k) : ∀ t i, i < ns.length → upN ns t i = k → pL ns i = pL ns k ∨ ∃ r, pL ns i = pL ns k ++ 47 :: r := by
  intro t
  induction t with
  | zero => intro i _ h; exact .inl (by rw [show i = k from h])
  | succ t ih =>
    intro i hi h
    rcases Nat.eq_zero_or_pos i with h4 | h4
    · subst h4
      rw [up_zero hf] at h
      omega
    have hpi := (par_lt hf.par h4 hi).1
    refine .inr ?_
    rw [pL_succ hf h4 hi]
    rcases ih (paN ns i) (by omega) h with h5 | ⟨r, h5⟩
    · exact ⟨_, by rw [h5]⟩
    · exact ⟨r ++ 47 :: nmL ns i, by rw [h5]; simp⟩
theorem skGo_yes {p : Nat → Bool} : ∀ m i k, i ≤ k → k < i + m → p k = true → (∀ j, i ≤ j → j < k → p j = false) → skGo p m i = k := by
  intro m
  induction m with
  | zero => intro i k h1 h2; omega
  | succ m ih =>
    intro i k h1 h2 h3 h4
    unfold skGo
    by_cases h : i = k
    · subst h
      rw [if_pos h3]
    · rw [if_neg (by rw [h4 i (Nat.le_refl _) (by omega)]; exact Bool.false_ne_true)]
      exact ih (i + 1) k (by omega) (by omega) h3 fun j a b => h4 j (by omega) b
theorem fnd_path {ns : List Nd} (hv : Vl ns) {i : Nat} (hi : i < ns.length) : fndV (ns, pathV ns i) = ((i : Int), true) := by
  have h : skV (isB ns (pathV ns i)) ns.length = i := skGo_yes _ _ _ (Nat.zero_le _) (by omega) (decide_eq_true rfl) fun j _ hj => decide_eq_false fun he => by
    have := path_inj hv (by omega) hi he
    omega
  unfold fndV
  dsimp only
  rw [h, if_neg (by omega)]
theorem fnd_none {ns : List Nd} {s : ByteArray} (h : ∀ j, j < ns.length → ¬ pathV ns j = s) : fndV (ns, s) = (0, false) := by
  have h : skV (isB ns s) ns.length = ns.length := by
    have := skGo_no (p := isB ns s) ns.length 0 fun j _ hj => decide_eq_false (h j (by omega))
    rw [Nat.zero_add] at this
    exact this
  unfold fndV
  dsimp only
  rw [if_pos h]

/-- Children come in the order of their names. -/
theorem sib_lt {ns : List Nd} (hv : Vl ns) {i : Nat} : ∀ n c d, d - c ≤ n → 0 < c → c < d → d < ns.length → paN ns c = i → paN ns d = i → bLt (ndAt ns c).2.1 (ndAt ns d).2.1 = true := by
  intro n
  induction n with
  | zero => intro c d h1 h2 h3; omega
  | succ n ih =>
    intro c d h1 c0 h3 hd hc hp
    by_cases hno : ∀ e, c < e → e < d → ¬ paN ns e = i
    · exact next_child hv hd c0 h3 hc hp hno
    · have hno : ∃ e, c < e ∧ e < d ∧ paN ns e = i := by
        refine Classical.byContradiction fun h => hno fun e a b k => h ⟨e, a, b, k⟩
      obtain ⟨e, e1, e2, e3⟩ := hno
      exact bLt_trans (ih c e (by omega) c0 e1 (by omega) hc e3) (ih e d (by omega) (by omega) e2 hd e3 hp)
theorem nx_lt {ns : List Nd} (hv : Vl ns) {a b : Nat} (ha : a < ns.length) (hb0 : 0 < b) (hb : b < ns.length) (h : Nx ns a b) : a < b := by
  rcases h with h | ⟨t, h1, h2, h3⟩
  · have := (par_lt hv.f.par hb0 hb).1
    omega
  · obtain ⟨c, hc⟩ : ∃ c, upN ns t a = c := ⟨_, rfl⟩
    rw [hc] at h1 h2 h3
    have hca : c ≤ a := by rw [← hc]; exact up_le hv.f t a
    have hcb : c < b := by
      rcases Nat.lt_trichotomy c b with h | h | h
      · exact h
      · subst h
        rw [bLt_irrefl] at h3
        cases h3
      · have h4 := sib_lt hv (c - b) b c (Nat.le_refl _) hb0 h (by omega) h2.symm rfl
        have h5 := bLt_trans h3 h4
        rw [bLt_irrefl] at h5
        cases h5
    rcases Nat.lt_or_ge a b with h | h
    · exact h
    · exfalso
      obtain ⟨u, hu⟩ := below_all hv a ha ⟨t, hc⟩ b (by omega) h
      cases u with
      | zero =>
        have : b = c := hu
        omega
      | succ u =>
        have hu : upN ns u (paN ns b) = c := hu
        have h4 := up_le hv.f u (paN ns b)
        have h5 := (par_lt hv.f.par h1 (by omega)).1
        omega
theorem asc_id : ∀ (l : List Int) (k n : Nat), (l.Pairwise fun a b => a < b) → (∀ c ∈ l, (k : Int) ≤ c ∧ c < (n : Nat)) → (∀ j : Nat, k ≤ j → j < n → (j : Int) ∈ l) → idOk k l = true := by
  intro l
  induction l with
  | nil => intro k n _ _ _; rfl
  | cons a l ih =>
    intro k n h1 h2 h3
    obtain ⟨h4, h5⟩ := List.pairwise_cons.1 h1
    have ha := h2 a (List.mem_cons_self ..)
    have hk : a = (k : Int) := by
      rcases List.mem_cons.1 (h3 k (Nat.le_refl _) (by omega)) with h | h
      · exact h.symm
      · have := h4 _ h
        omega
    unfold idOk
    rw [decide_eq_true hk.symm, Bool.true_and]
    refine ih (k + 1) n h5 (fun c hc => ?_) fun j h6 h7 => ?_
    · have := h4 c hc
      have := (h2 c (List.mem_cons_of_mem _ hc)).2
      omega
    · rcases List.mem_cons.1 (h3 j (by omega) h7) with h | h
      · omega
      · exact h
theorem chn_asc {ns : List Nd} (hv : Vl ns) : ∀ (l : List Int), ChN ns l → (∀ c ∈ l, 0 ≤ c ∧ c < (ns.length : Nat)) → (∀ c ∈ l.drop 1, 0 < c) → l.Pairwise fun a b => a < b := by
  intro l
  induction l with
  | nil => intro _ _ _; exact List.Pairwise.nil
  | cons a l ih =>
    intro h1 h2 h3
    cases l with
    | nil => exact List.Pairwise.cons (fun b hb => by cases hb) List.Pairwise.nil
    | cons b l =>
      obtain ⟨h4, h5⟩ := h1
      have h3 : ∀ c ∈ b :: l, 0 < c := h3
      have ih := ih h5 (fun c hc => h2 c (List.mem_cons_of_mem _ hc)) fun c hc => h3 c (List.mem_cons_of_mem _ hc)
      have ha := h2 a (List.mem_cons_self ..)
      have hb := h2 b (List.mem_cons_of_mem _ (List.mem_cons_self ..))
      have hb0 := h3 b (List.mem_cons_self ..)
      have hab : a < b := by
        have := nx_lt hv (a := a.toNat) (b := b.toNat) (by omega) (by omega) (by omega) h4
        omega
      refine List.pairwise_cons.2 ⟨fun c hc => ?_, ih⟩
      rcases List.mem_cons.1 hc with rfl | hc
      · exact hab
      · have := (List.pairwise_cons.1 ih).1 c hc
        omega
theorem vl_ord {ns : List Nd} (hv : Vl ns) : idOk 0 (wk 120 ns 0) = true := by
  have hin : ∀ c ∈ wkT ns, 0 ≤ c ∧ c < (ns.length : Nat) := fun c hc => by
    obtain ⟨i, hi, rfl⟩ := List.getElem_of_mem hc
    exact wkT_in hv.f hi
  refine asc_id _ 0 ns.length (chn_asc hv _ (wkT_chain hv.f hv.d) hin fun c hc => ?_) (fun c hc => by have := hin c hc; omega) fun j _ hj => wkT_all hv.f hj
  obtain ⟨i, hi, rfl⟩ := List.getElem_of_mem hc
  rw [List.getElem_drop]
  rw [List.length_drop] at hi
  have hi : i < (wkT ns).length - 1 := hi
  exact wkT_gt hv.f (by omega) (by omega)
theorem vl_rchk {ns : List Nd} (hv : Vl ns) : rchk ns = 0 := by
  have h1 : rOrd ns = true := by
    unfold rOrd
    rw [vl_ord hv, Bool.true_and, List.all_eq_true]
    intro n hn
    obtain ⟨i, hi, rfl⟩ := nd_mem hn
    exact hv.asc i hi
  have h2 : rtGo ns ns.length 0 = false := by
    have hin : ∀ i, i < ns.length → ∀ m k, 0 < k → k + m ≤ i → rtIn ns i m k = false := by
      intro i hi m
      induction m with
      | zero => intro k _ _; rfl
      | succ m ih =>
        intro k hk hm
        unfold rtIn
        rw [ih (k + 1) (by omega) (by omega), Bool.or_false]
        unfold twnB
        rw [Bool.and_eq_false_iff]
        by_cases hp : (ndAt ns k).1 = (ndAt ns i).1
        · refine .inr (decide_eq_false fun hn => ?_)
          have := hv.d k i hk (by omega) (by omega) hi (by unfold paN paI; rw [hp]) hn
          omega
        · exact .inl (decide_eq_false hp)
    have : ∀ m i, i + m ≤ ns.length → rtGo ns m i = false := by
      intro m
      induction m with
      | zero => intro i _; rfl
      | succ m ih =>
        intro i hi
        unfold rtGo
        rw [ih (i + 1) (by omega), Bool.or_false]
        rcases Nat.eq_zero_or_pos i with h0 | h0
        · subst h0; rfl
        · exact hin i (by omega) (i - 1) 1 (by decide) (by omega)
    exact this _ _ (by omega)
  have h3 : rlGo ns ns.length 0 = false := by
    have : ∀ m i, i + m ≤ ns.length → rlGo ns m i = false := by
      intro m
      induction m with
      | zero => intro i _; rfl
      | succ m ih =>
        intro i hi
        unfold rlGo
        rw [ih (i + 1) (by omega), Bool.or_false]
        have := hv.dep i (by omega)
        exact decide_eq_false (by omega)
    exact this _ _ (by omega)
  unfold rchk
  rw [if_neg (ne_f hv.f.lim), if_neg (ne_f hv.f.frm), if_neg (ne_f h1), if_neg (ne_t h2), if_neg (ne_t h3)]
theorem rpath_vl {ns : List Nd} (hv : Vl ns) {i : Nat} (hi : i < ns.length) : rPathV (ns, (i : Int)) = pathV ns i := by
  unfold rPathV
  rw [if_pos ⟨vl_rchk hv, by show (0 : Int) ≤ (i : Nat); omega, by show ((i : Nat) : Int) < (ns.length : Nat); omega⟩]
  rfl
end Go.Ab
