/- Package tree: search. -/
import Derived.Test.YtgeoggpkjnnonaaGreatTY102toU7
namespace Go.Ab
open Go.Proofs
set_option linter.unusedSectionVars false
set_option maxRecDepth 100000
variable [Base]

def cmpV (a b : ByteArray) : Int := Lib.compareBytes a.data.toList b.data.toList
theorem u8_eq {x y : UInt8} (h1 : ¬ x < y) (h2 : ¬ y < x) : x = y := UInt8.le_antisymm (UInt8.not_lt.1 h2) (UInt8.not_lt.1 h1)
theorem cmp_lt : ∀ (a b : List UInt8), Lib.compareBytes a b < 0 ↔ Op.bytesLess a b = true := by
  intro a
  induction a with
  | nil =>
    intro b
    cases b with
    | nil => decide
    | cons y b => exact ⟨fun _ => rfl, fun _ => (by decide : (-1 : Int) < 0)⟩
  | cons x a ih =>
    intro b
    cases b with
    | nil => exact ⟨fun h => absurd (show (1 : Int) < 0 from h) (by decide), fun h => by cases h⟩
    | cons y b =>
      unfold Lib.compareBytes Op.bytesLess
      by_cases h1 : x < y
      · rw [if_pos h1, decide_eq_true h1]
        exact ⟨fun _ => rfl, fun _ => by decide⟩
      · rw [if_neg h1, decide_eq_false h1, Bool.false_or]
        by_cases h2 : y < x
        · rw [if_pos h2]
          refine ⟨fun h => absurd h (by decide), fun h => ?_⟩
          obtain ⟨h3, _⟩ := Bool.and_eq_true_iff.1 h
          have h3 : x = y := by simpa using h3
          subst h3
          exact absurd h2 h1
        · rw [if_neg h2, u8_eq h1 h2]
          simp [ih]
theorem cmp_zero : ∀ (a b : List UInt8), Lib.compareBytes a b = 0 ↔ a = b := by
  intro a
  induction a with
  | nil =>
    intro b
    cases b with
    | nil => exact ⟨fun _ => rfl, fun _ => rfl⟩
    | cons y b => exact ⟨fun h => absurd (show (-1 : Int) = 0 from h) (by decide), fun h => by cases h⟩
  | cons x a ih =>
    intro b
    cases b with
    | nil => exact ⟨fun h => absurd (show (1 : Int) = 0 from h) (by decide), fun h => by cases h⟩
    | cons y b =>
      unfold Lib.compareBytes
      by_cases h1 : x < y
      · rw [if_pos h1]
        refine ⟨fun h => absurd h (by decide), fun h => ?_⟩
        rw [(List.cons.inj h).1] at h1
        exact absurd h1 (UInt8.lt_irrefl _)
      · rw [if_neg h1]
        by_cases h2 : y < x
        · rw [if_pos h2]
          refine ⟨fun h => absurd h (by decide), fun h => ?_⟩
          rw [(List.cons.inj h).1] at h2
          exact absurd h2 (UInt8.lt_irrefl _)
        · rw [if_neg h2, ih, u8_eq h1 h2]
          simp
theorem cmpV_lt {a b : ByteArray} : cmpV a b < 0 ↔ bLt a b = true := by
  unfold cmpV bLt
  rw [cmp_lt, ByteArray.toList_eq, ByteArray.toList_eq]
theorem cmpV_zero {a b : ByteArray} : cmpV a b = 0 ↔ a = b := by
  unfold cmpV
  rw [cmp_zero]
  exact ⟨fun h => ba_ext9 h, fun h => by rw [h]⟩

abbrev ptAt (ps : List Pt) (i : Nat) : Pt := ps.getD i ptC.dflt
def posV (ps : List Pt) (s : ByteArray) : Nat := skV (fun i => !bLt (ptAt ps i).1 s) ps.length
def fndP (ps : List Pt) (s : ByteArray) : Bool := decide (posV ps s < ps.length) && decide ((ptAt ps (posV ps s)).1 = s)
theorem posV_le (ps : List Pt) (s : ByteArray) : posV ps s ≤ ps.length := skV_le _ _
theorem pt_at' {ps : List Pt} {i : Nat} (h : i < ps.length) : ptAt ps i = ps[i] := by unfold ptAt; simp [h]
theorem asc_pw {ps : List Pt} (h : ascV ps = true) : ∀ i j, i < j → j < ps.length → bLt (ptAt ps i).1 (ptAt ps j).1 = true := by
  intro i j h1 h2
  have key : ∀ n i j, j - i ≤ n → i < j → j < ps.length → bLt (ptAt ps i).1 (ptAt ps j).1 = true := by
    intro n
    induction n with
    | zero => intro i j a b; omega
    | succ n ih =>
      intro i j a b c
      have hs : ∀ (m : Nat), m + 1 < ps.length → bLt (ptAt ps m).1 (ptAt ps (m + 1)).1 = true := by
        intro m hm
        have hall : ∀ q, q ≤ m → ascV (ps.drop q) = true := by
          intro q
          induction q with
          | zero => intro _; exact h
          | succ q ihq =>
            intro hq
            have := ihq (by omega)
            rw [asc_drop (by omega)] at this
            exact (Bool.and_eq_true_iff.1 this).2
        have := hall m (Nat.le_refl _)
        rw [asc_drop hm] at this
        rw [pt_at' (by omega), pt_at' hm]
        exact (Bool.and_eq_true_iff.1 this).1
      by_cases hij : j = i + 1
      · subst hij
        exact hs i c
      · exact bLt_trans (hs i (by omega)) (ih (i + 1) j (by omega) (by omega) c)
  exact key _ i j (Nat.le_refl _) h1 h2
/-- What comes before the place is smaller, and what comes from there on is not. -/
theorem pos_lo {ps : List Pt} {s : ByteArray} {i : Nat} (h : i < posV ps s) : bLt (ptAt ps i).1 s = true := by
  have := (skGo_spec (fun i => !bLt (ptAt ps i).1 s) ps.length 0).1 i (Nat.zero_le _) h
  simpa using this
theorem pos_hi {ps : List Pt} {s : ByteArray} (ha : ascV ps = true) {i : Nat} (h : posV ps s ≤ i) (hi : i < ps.length) : bLt (ptAt ps i).1 s = false := by
  have h1 := (skGo_spec (fun i => !bLt (ptAt ps i).1 s) ps.length 0).2 (by show posV ps s < _; omega)
  have h1 : bLt (ptAt ps (posV ps s)).1 s = false := by
    have h2 : (!bLt (ptAt ps (posV ps s)).1 s) = true := h1
    simpa using h2
  rcases Nat.lt_or_eq_of_le h with h2 | h2
  · cases h3 : bLt (ptAt ps i).1 s with
    | false => rfl
    | true =>
      have := bLt_trans (asc_pw ha _ _ h2 hi) h3
      rw [h1] at this
      cases this
  · rw [← h2]
    exact h1

def F1 : Table := ext E6 98 (fun args H => match args, H with | [.c (.p (.v (.string a))), .c (.p (.v (.string b)))], [] => some (none, .int .i64 (cmpV a b), []) | _, _ => none)
theorem f1 : TSound Tryz.prog F1 := by
  refine ext_calls e6 98 (fn := Tryz.f98) rfl rfl rfl fun args H p r H' hs hp => ?_
  split at hs
  · cases hs
    refine ⟨rfl, fun G hS hH cargs ha => ?_⟩
    cases ha with
    | cons h1 t1 =>
      cases t1 with
      | cons h2 t2 =>
        cases t2
        obtain ⟨_, rfl⟩ := h1
        obtain ⟨_, rfl⟩ := h2
        exact ⟨_, ⟨rfl, rfl⟩, Tryz.strings_Compare _ _ _⟩
  · cases hs
def saysSr1 : Says := fun args H => match args, H with
  | [.agg [.p (.v (.string a)), .p (.v (.string _))], .c (.p (.v (.string b)))], [] => some (none, .int .i64 (cmpV a b), [])
  | _, _ => none
def F2 : Table := ext F1 97 saysSr1
theorem f2 : TSound Tryz.prog F2 := by
  refine ext_run f1 (f := 97) (fn := Tryz.f97) rfl rfl [0, 1, 2, 4] fun args H p r' H' hs hp => ?_
  unfold saysSr1 at hs
  split at hs
  · cases hs
    refine ⟨Nat.le_of_ble_eq_true rfl, [], rfl, fun k hk => absurd hk (Nat.not_lt_zero k), ?_⟩
    repeat ((conv => whnf); refine ⟨by first | (unfold inI64; omega) | omega | exact ⟨by omega, by omega⟩ | exact rfl | decide +kernel, ?_⟩)
    conv => whnf
    exact ends_eq ⟨rfl, rfl⟩
  · cases hs
def daPS : List AV → Option (List Pt × ByteArray)
  | [.c (.p (.l c0 ps)), .c (.p (.v (.string s)))] => match castD (e := ptC) (e' := c0) ps with | some ps => some (ps, s) | none => none
  | _ => none
def eaPS (a : List Pt × ByteArray) : List AV := [.c (.p (.l ptC a.1)), .c (.str a.2)]
theorem daPS_at (a : List Pt × ByteArray) : daPS (eaPS a) = some a := by
  unfold daPS eaPS
  dsimp only
  rw [castD_self]
def daPSF : List AV → Option (List Pt × ByteArray)
  | [.c (.p (.l c0 ps)), .c (.p (.v (.string s))), .c (.p (.v (.func _ _ _)))] => match castD (e := ptC) (e' := c0) ps with | some ps => some (ps, s) | none => none
  | _ => none
def eaPSF (a : List Pt × ByteArray) : List AV := [.c (.p (.l ptC a.1)), .c (.str a.2), .c (.p (.v (.func (.func 97) #[] #[])))]
abbrev srR (a : List Pt × ByteArray) : SV := .tup [.c (.int .i64 (posV a.1 a.2 : Nat)), .c (.bool (fndP a.1 a.2))]
abbrev SrOk (a : List Pt × ByteArray) : Prop := a.1.length ≤ 1000000000 ∧ ascV a.1 = true
def F3 : Table := ext F2 96 (saysG daPSF eaPSF fun a => (some (SrOk a), srR a))
theorem f3 : TSound Tryz.prog F3 := by
  refine extG f2 96 (fn := Tryz.f96) rfl rfl daPSF eaPSF _ (fun _ => Nat.le_of_ble_eq_true rfl) [0, 1, 2, 6, 7, 8, 9, 10, 11, 17, 31] fun a hok => ?_
  obtain ⟨ps, s⟩ := a
  obtain ⟨hl, ha⟩ : ps.length ≤ 1000000000 ∧ ascV ps = true := hok
  show runF _ _ _ [] [.c (.p (.l ptC ps)), .c (.str s), .c (.p (.v (.func (.func 97) #[] #[])))] [] fun r H => Ends r H (srR (ps, s)) []
  have hpl := posV_le ps s
  repeat ((conv => whnf); refine ⟨by first | (unfold inI64; omega) | omega | exact ⟨by omega, by omega⟩ | exact rfl | decide +kernel, ?_⟩)
  conv => whnf
  refine loop_intro (σ := Nat × Nat) (fun ⟨i, j⟩ => [(0, XV.s (.a (.c (.p (.l ptC ps))))), (1, XV.s (.str s)), (2, XV.s (.a (.c (.p (.v (.func (.func 97) #[] #[])))))), (6, XV.s .none), (7, XV.s .none), (8, XV.s (.int .i64 (ps.length : Nat))), (9, XV.s (.int .i64 (i : Nat))), (10, XV.s (.int .i64 (j : Nat))), (11, XV.s .none), (17, XV.s .none), (31, XV.s .none)])
    (fun _ => []) (fun ⟨i, j⟩ => i ≤ posV ps s ∧ posV ps s ≤ j ∧ j ≤ ps.length) (fun ⟨i, j⟩ => j - i) (0, ps.length) ?_ rfl ⟨Nat.zero_le _, hpl, Nat.le_refl _⟩ ?_
  · repeat (first | exact LeL.nil | refine LeL.drop ?_ | refine LeL.same ?_)
  rintro ⟨i, j⟩ ⟨h1, h2, h3⟩
  repeat ((conv => whnf); refine ⟨by first | (unfold inI64; omega) | omega | exact ⟨by omega, by omega⟩ | exact rfl | decide +kernel, ?_⟩)
  conv => whnf
  refine cond_intro (fun h => ?_) (fun h => ?_)
  · have hij : i < j := lt_of_dec h
    obtain ⟨m, hm⟩ : ∃ m : Nat, (i + j) / 2 = m := ⟨_, rfl⟩
    have hm1 : i ≤ m ∧ m < j := by omega
    have hu : IntKind.wrap .u64 ((i : Int) + (j : Int)) = (i : Int) + (j : Int) := by
      unfold IntKind.wrap
      show ((i : Int) + (j : Int)) % 18446744073709551616 = _
      omega
    have hf : Int.fdiv ((i : Int) + (j : Int)) (2 ^ min (Int.toNat 1) 64) = (m : Int) := by
      show Int.fdiv ((i : Int) + (j : Int)) 2 = (m : Int)
      rw [Int.fdiv_eq_ediv_of_nonneg _ (by decide)]
      omega
    have hf2 : Int.fdiv (IntKind.wrap .u64 ((i : Int) + (j : Int))) (2 ^ min (Int.toNat 1) IntKind.u64.bits) = (m : Int) := by
      rw [hu]
      exact hf
    have hin : 0 ≤ (m : Int) ∧ (m : Int) < (ps.length : Nat) := by omega
    repeat ((conv => whnf); refine ⟨by first | (unfold inI64; omega) | omega | exact ⟨by omega, by omega⟩ | (intro hg; first | (unfold inI64; omega) | omega | exact ⟨by omega, by omega⟩ | (simp [lit] at hg; unfold inI64; omega) | (simp [lit] at hg; omega) | (simp [lit] at hg; exact ⟨by omega, by omega⟩)) | (show (_ : Nat) + 1 ≤ 1000000000000; omega) | exact rfl | (unfold inI64; dsimp only; omega) | (dsimp only; omega) | (intro hg; simp [lit] at hg; first | (unfold inI64; dsimp only; omega) | (dsimp only; omega)) | decide +kernel, ?_⟩)
    conv => whnf
    rw [hf2]
    repeat ((conv => whnf); refine ⟨by first | exact hin | (unfold inI64; omega) | omega | exact ⟨by omega, by omega⟩ | (intro hg; first | (unfold inI64; omega) | omega | exact ⟨by omega, by omega⟩ | (simp [lit] at hg; unfold inI64; omega) | (simp [lit] at hg; omega) | (simp [lit] at hg; exact ⟨by omega, by omega⟩)) | (show (_ : Nat) + 1 ≤ 1000000000000; omega) | exact rfl | (unfold inI64; dsimp only; omega) | (dsimp only; omega) | (intro hg; simp [lit] at hg; first | (unfold inI64; dsimp only; omega) | (dsimp only; omega)) | decide +kernel, ?_⟩)
    conv => whnf
    refine cond_intro (fun h5 => ?_) (fun h5 => ?_)
    · have h6 : bLt (ptAt ps m).1 s = true := cmpV_lt.1 (of_decide_eq_true h5)
      have h7 : m < posV ps s := by
        rcases Nat.lt_or_ge m (posV ps s) with h8 | h8
        · exact h8
        · rw [pos_hi ha h8 (by omega)] at h6
          cases h6
      repeat ((conv => whnf); refine ⟨by first | (unfold inI64; omega) | omega | exact ⟨by omega, by omega⟩ | (intro hg; first | (unfold inI64; omega) | omega | exact ⟨by omega, by omega⟩ | (simp [lit] at hg; unfold inI64; omega) | (simp [lit] at hg; omega) | (simp [lit] at hg; exact ⟨by omega, by omega⟩)) | (show (_ : Nat) + 1 ≤ 1000000000000; omega) | exact rfl | (unfold inI64; dsimp only; omega) | (dsimp only; omega) | (intro hg; simp [lit] at hg; first | (unfold inI64; dsimp only; omega) | (dsimp only; omega)) | decide +kernel, ?_⟩)
      conv => whnf
      refine head_intro (m + 1, j) ?_ rfl ⟨h7, h2, h3⟩ (show j - (m + 1) < j - i by omega)
      repeat (first | exact LeL.nil | refine LeL.drop ?_ | refine LeL.same ?_)
    · have h6 : ¬ bLt (ptAt ps m).1 s = true := fun h8 => of_decide_eq_false h5 (cmpV_lt.2 h8)
      have h7 : posV ps s ≤ m := by
        rcases Nat.lt_or_ge m (posV ps s) with h8 | h8
        · exact absurd (pos_lo h8) h6
        · exact h8
      repeat ((conv => whnf); refine ⟨by first | (unfold inI64; omega) | omega | exact ⟨by omega, by omega⟩ | (intro hg; first | (unfold inI64; omega) | omega | exact ⟨by omega, by omega⟩ | (simp [lit] at hg; unfold inI64; omega) | (simp [lit] at hg; omega) | (simp [lit] at hg; exact ⟨by omega, by omega⟩)) | (show (_ : Nat) + 1 ≤ 1000000000000; omega) | exact rfl | (unfold inI64; dsimp only; omega) | (dsimp only; omega) | (intro hg; simp [lit] at hg; first | (unfold inI64; dsimp only; omega) | (dsimp only; omega)) | decide +kernel, ?_⟩)
      conv => whnf
      refine head_intro (i, m) ?_ rfl ⟨h1, h7, by show m ≤ ps.length; omega⟩ (show m - i < j - i by omega)
      repeat (first | exact LeL.nil | refine LeL.drop ?_ | refine LeL.same ?_)
  · have hij : i = j := by have := ge_of_dec h; omega
    obtain rfl : i = posV ps s := by omega
    subst hij
    repeat ((conv => whnf); refine ⟨by first | (unfold inI64; omega) | omega | exact ⟨by omega, by omega⟩ | (intro hg; first | (unfold inI64; omega) | omega | exact ⟨by omega, by omega⟩ | (simp [lit] at hg; unfold inI64; omega) | (simp [lit] at hg; omega) | (simp [lit] at hg; exact ⟨by omega, by omega⟩)) | (show (_ : Nat) + 1 ≤ 1000000000000; omega) | exact rfl | (unfold inI64; dsimp only; omega) | (dsimp only; omega) | (intro hg; simp [lit] at hg; first | (unfold inI64; dsimp only; omega) | (dsimp only; omega)) | decide +kernel, ?_⟩)
    conv => whnf
    refine ends_eq ⟨?_, rfl⟩
    have e : (decide ((((posV ps s : Nat) : Nat) : Int) < ((ps.length : Nat) : Int)) && decide (cmpV (ptAt ps (posV ps s)).1 s = 0)) = fndP ps s := by
      unfold fndP
      congr 1
      · exact decide_eq_decide.2 (by omega)
      · exact decide_eq_decide.2 cmpV_zero
    show SV.tup [.c (.int .i64 (posV ps s : Nat)), .c (.bool (decide ((((posV ps s : Nat) : Nat) : Int) < ((ps.length : Nat) : Int)) && decide (cmpV (ptAt ps (posV ps s)).1 s = 0)))] = _
    rw [e]
def F4 : Table := ext F3 65 (saysG daPS eaPS fun a => (some (SrOk a), srR a))
theorem f4 : TSound Tryz.prog F4 := by
  refine extG f3 65 (fn := Tryz.f65) rfl rfl daPS eaPS _ (fun _ => Nat.le_of_ble_eq_true rfl) [0, 1, 4, 5] fun a hok => ?_
  obtain ⟨ps, s⟩ := a
  have hok : SrOk (ps, s) := hok
  show runF _ _ _ [] [.c (.p (.l ptC ps)), .c (.str s)] [] fun r H => Ends r H (srR (ps, s)) []
  repeat ((conv => whnf); refine ⟨by first | exact ⟨rfl, hok⟩ | (unfold inI64; omega) | omega | exact ⟨by omega, by omega⟩ | exact rfl | decide +kernel, ?_⟩)
  conv => whnf
  exact ends_eq ⟨rfl, rfl⟩
/-! The same with a slice of one's own. -/
abbrev ptT : TypeId := 61
def saysSrS : Says := fun args H => match args, H with
  | [.c (.sl _ _ _ _), .c (.p (.v (.string s)))], [.arr _ c0 ps _] => match castD (e := ptC) (e' := c0) ps with
    | some ps => some (some (args = [.c (.sl 0 ptC 0 ps.length), .c (.str s)] ∧ H = [.arr ptT ptC ps 0] ∧ 0 < ps.length ∧ SrOk (ps, s)), srR (ps, s), [.arr ptT ptC ps 0])
    | none => none
  | _, _ => none
theorem srS : TSound Tryz.prog (ext F4 65 saysSrS) := by
  refine ext_ro (ext_only f4 f4) f4 fun args H p r H' hs hp => ?_
  unfold saysSrS at hs
  split at hs
  · split at hs
    · rename_i s _ _ _ _ _ ps _
      cases hs
      obtain ⟨ha, hH, h0, h1⟩ := hp
      refine ⟨ptT, ptC, ps, 0, eaPS (ps, s), hH, rfl, h0, ?_, saysG_at (daPS_at _) h1, fun v hv => ?_⟩
      · rw [ha]
        exact .cons .sl (.cons (.p _) .nil)
      · rcases List.mem_cons.1 hv with rfl | hv
        · trivial
        · rcases List.mem_cons.1 hv with rfl | hv
          · trivial
          · cases hv
    · cases hs
  · cases hs

abbrev ptA (p : Pt) : AV := .agg [.str p.1, .str p.2]
def wiP (a : List Pt × Int × Pt) : List Pt := a.1.take a.2.1.toNat ++ a.2.2 :: a.1.drop a.2.1.toNat
def daPIP : List AV → Option (List Pt × Int × Pt)
  | [.c (.p (.l c0 ps)), .c (.p (.v (.int .i64 k))), .agg [.p (.v (.string a)), .p (.v (.string b))]] => match castD (e := ptC) (e' := c0) ps with | some ps => some (ps, k, (a, b)) | _ => none
  | _ => none
def eaPIP (a : List Pt × Int × Pt) : List AV := [.c (.p (.l ptC a.1)), .c (.int .i64 a.2.1), ptA a.2.2]
def F5 : Table := ext F4 112 (saysG daPIP eaPIP fun a => (some (a.1.length ≤ 1000000000 ∧ 0 ≤ a.2.1 ∧ a.2.1 ≤ (a.1.length : Nat)), .a (.c (.p (.l ptC (wiP a))))))
theorem f5 : TSound Tryz.prog F5 := by
  refine extG f4 112 (fn := Tryz.f112) rfl rfl daPIP eaPIP _ (fun _ => Nat.le_of_ble_eq_true rfl) [0, 1, 2, 5, 6] fun a hok => ?_
  obtain ⟨ps, k, q, s⟩ := a
  obtain ⟨h1, h2, h3⟩ : ps.length ≤ 1000000000 ∧ 0 ≤ k ∧ k ≤ (ps.length : Nat) := hok
  show runF _ _ _ [] [.c (.p (.l ptC ps)), .c (.int .i64 k), .agg [.str q, .str s]] [] fun r H => Ends r H (.a (.c (.p (.l ptC (wiP (ps, k, q, s)))))) []
  have ht : (ps.take k.toNat).length = k.toNat := by rw [List.length_take]; omega
  have hz1 : 0 < 1 := Nat.zero_lt_one
  have hz2 : (ps.take k.toNat).length + 1 ≤ capBound := by rw [ht]; exact Nat.le_trans (m := 1000000001) (by omega) (by decide)
  have hz3 : (ps.take k.toNat).length + 1 = (ps.take k.toNat ++ [(q, s)]).length := by rw [List.length_append]; rfl
  have hz5 : (ps.drop k.toNat).length = ps.length - k.toNat := List.length_drop ..
  have hn : (((ps.length : Nat) : Int)).toNat = ps.length := rfl
  have hz6 : ps.take (((ps.length : Nat) : Int)).toNat = ps := by rw [hn, List.take_length]
  have hz4 : (ps.take k.toNat).length + 1 + ((ps.take (((ps.length : Nat) : Int)).toNat).drop k.toNat).length ≤ capBound := by rw [hz6, ht, hz5]; exact Nat.le_trans (m := 1000000001) (by omega) (by decide)
  repeat ((conv => whnf); refine ⟨by first | exact ⟨h2, rfl, h3⟩ | exact hz1 | exact hz3 | exact hz4 | exact hz2 | exact ⟨h2, h3, Int.le_refl _⟩ | ((conv => whnf); exact ⟨⟨rfl, rfl, rfl⟩, trivial⟩) | exact Early.one (by decide +kernel) (by (conv => whnf); exact ⟨rfl, rfl, rfl⟩) trivial | (unfold inI64; omega) | omega | exact ⟨by omega, by omega⟩ | exact rfl | decide +kernel, ?_⟩)
  conv => whnf
  show Ends (.a (.c (.p (.l ptC (ps.take k.toNat ++ [(q, s)] ++ (ps.take (((ps.length : Nat) : Int)).toNat).drop k.toNat))))) [] _ _
  rw [hz6, List.append_assoc]
  exact ends_eq ⟨rfl, rfl⟩

/-! A copy, in which the properties of node 'h' may be written. -/
abbrev hpV2 (ns : List Nd) (h : Nat) (ps : List Pt) : List AO := [.vec ndT ndC ns h 2 (.sl 1 ptC 0 ps.length), .arr ptT ptC ps 0]
def saysCpH (h : Nat) : Says := fun args H => match H with
  | [] => match daN args with
    | some ns => some (some (args = eaN ns ∧ LenN ns ∧ h < ns.length ∧ 0 < (ndAt ns h).2.2.length), .a (.c (.vs 0 ns.length)), hpV2 ns h (ndAt ns h).2.2)
    | none => none
  | _ => none
def F6 (h : Nat) : Table := ext F5 106 (saysCpH h)
theorem f6 (h : Nat) : TSound Tryz.prog (F6 h) := by
  refine ext_run f5 (f := 106) (fn := Tryz.f106) rfl rfl [0, 2, 3, 4, 8, 9, 10] fun args H p r' H' hs hp => ?_
  unfold saysCpH at hs
  split at hs
  · split at hs
    · rename_i ns _
      cases hs
      obtain ⟨rfl, hl, hh, hpos⟩ := hp
      have hlen := hl.1
      have hgh : ns.getD h ndC.dflt = ndAt ns h := rfl
      have hy : (enc ndC (ns.getD h ndC.dflt))[2]? = some (.l ptC (ndAt ns h).2.2) := rfl
      refine ⟨Nat.le_of_ble_eq_true rfl, [0, 1], rfl, fun k hk => absurd hk (Nat.not_lt_zero k), ?_⟩
      conv => whnf
      refine Or.inl (Or.inr ?_)
      conv => whnf
      refine ⟨Nat.le_trans hlen (by decide), h, 2, .l ptC (ndAt ns h).2.2, hh, hy, ?_⟩
      repeat ((conv => whnf); refine ⟨by first | (unfold inI64; omega) | omega | exact ⟨by omega, by omega⟩ | exact rfl | decide +kernel, ?_⟩)
      conv => whnf
      refine loop_intro (σ := Bool × Nat) (fun ⟨_, i⟩ => [(0, XV.s .none), (2, XV.s .none), (3, XV.s (.a (.c (.vs 0 ns.length)))), (4, XV.s .none), (8, XV.s (.int .i64 (ns.length : Nat))), (9, XV.s (.int .i64 (i : Nat))), (10, XV.s .none)])
        (fun ⟨b, _⟩ => match b with | false => [.vec ndT ndC ns h 2 (.p (.l ptC (ndAt ns h).2.2))] | true => hpV2 ns h (ndAt ns h).2.2) (fun ⟨b, i⟩ => match b with | false => i ≤ h | true => h < i ∧ i ≤ ns.length) (fun ⟨_, i⟩ => ns.length - i) (false, 0) ?_ rfl (Nat.zero_le _) ?_
      · repeat (first | exact LeL.nil | refine LeL.drop ?_ | refine LeL.same ?_)
      have hcap : ∀ i, i < ns.length → (ns.getD i ndC.dflt).2.2.length ≤ capBound := by
        intro i hin
        have he : ns.getD i ndC.dflt = ns[i] := by simp [hin]
        rw [he]
        exact Nat.le_trans (hl.at hin) (by decide)
      have hcap2 : (ndAt ns h).2.2.length ≤ capBound := hcap h hh
      rintro ⟨b, i⟩ hI
      cases b
      · have hI : i ≤ h := hI
        conv => whnf
        refine cond_intro (fun h1 => ?_) (fun h1 => ?_)
        · have hin : i < ns.length := lt_of_dec h1
          have hob : (0 : Int) ≤ (i : Nat) ∧ (i : Int) < (ns.length : Nat) := ⟨by omega, by omega⟩
          have hc := hcap i hin
          by_cases hih : i = h
          · subst hih
            repeat ((conv => whnf); refine ⟨by first | exact hob | (unfold inI64; omega) | omega | exact ⟨by omega, by omega⟩ | exact rfl | decide +kernel, ?_⟩)
            conv => whnf
            refine Or.inr ⟨⟨rfl, rfl⟩, ?_⟩
            conv => whnf
            refine Or.inr ?_
            repeat ((conv => whnf); refine ⟨by first | exact hob | exact hcap2 | (unfold inI64; omega) | omega | exact ⟨by omega, by omega⟩ | exact rfl | decide +kernel, ?_⟩)
            conv => whnf
            refine Or.inr ⟨⟨rfl, rfl, rfl⟩, ?_⟩
            repeat ((conv => whnf); refine ⟨by first | (unfold inI64; omega) | omega | exact ⟨by omega, by omega⟩ | exact rfl | decide +kernel, ?_⟩)
            conv => whnf
            refine head_intro (true, i + 1) ?_ rfl (show i < i + 1 ∧ i + 1 ≤ ns.length by omega) (show ns.length - (i + 1) < ns.length - i by omega)
            repeat (first | exact LeL.nil | refine LeL.drop ?_ | refine LeL.same ?_)
          · repeat ((conv => whnf); refine ⟨by first | exact hob | (unfold inI64; omega) | omega | exact ⟨by omega, by omega⟩ | exact rfl | decide +kernel, ?_⟩)
            conv => whnf
            refine Or.inl ⟨hih, ?_⟩
            conv => whnf
            refine Or.inl ?_
            repeat ((conv => whnf); refine ⟨by first | exact hob | exact hc | (unfold inI64; omega) | omega | exact ⟨by omega, by omega⟩ | exact rfl | decide +kernel, ?_⟩)
            conv => whnf
            refine Or.inl ⟨hih, ?_⟩
            repeat ((conv => whnf); refine ⟨by first | (unfold inI64; omega) | omega | exact ⟨by omega, by omega⟩ | exact rfl | decide +kernel, ?_⟩)
            conv => whnf
            refine head_keep (false, i + 1) [0] rfl (fun k hk => ?_) ?_ ?_ (show i + 1 ≤ h by omega) (show ns.length - (i + 1) < ns.length - i by omega)
            · have hk : k < 1 := hk
              obtain rfl : k = 0 := by omega
              rfl
            · show some [AO.vec _ ndC (ns.set i (ns.getD i ndC.dflt)) h 2 _] = _
              rw [nd_set hin]
            · repeat (first | exact KeepL.nil | refine KeepL.drop ?_ | refine KeepL.ren rfl ?_)
        · exfalso
          have := ge_of_dec h1
          omega
      · obtain ⟨hI, hI2⟩ : h < i ∧ i ≤ ns.length := hI
        conv => whnf
        refine cond_intro (fun h1 => ?_) (fun h1 => ?_)
        · have hin : i < ns.length := lt_of_dec h1
          have hob : (0 : Int) ≤ (i : Nat) ∧ (i : Int) < (ns.length : Nat) := ⟨by omega, by omega⟩
          have hc := hcap i hin
          have hih : ¬ i = h := by omega
          repeat ((conv => whnf); refine ⟨by first | exact hob | (unfold inI64; omega) | omega | exact ⟨by omega, by omega⟩ | exact rfl | decide +kernel, ?_⟩)
          conv => whnf
          refine Or.inl ⟨hih, ?_⟩
          conv => whnf
          refine Or.inl ?_
          repeat ((conv => whnf); refine ⟨by first | exact hob | exact hc | (unfold inI64; omega) | omega | exact ⟨by omega, by omega⟩ | exact rfl | decide +kernel, ?_⟩)
          conv => whnf
          refine Or.inl ⟨hih, ?_⟩
          repeat ((conv => whnf); refine ⟨by first | (unfold inI64; omega) | omega | exact ⟨by omega, by omega⟩ | exact rfl | decide +kernel, ?_⟩)
          conv => whnf
          refine head_keep (true, i + 1) [0, 1] rfl (fun k hk => ?_) ?_ ?_ (show h < i + 1 ∧ i + 1 ≤ ns.length by omega) (show ns.length - (i + 1) < ns.length - i by omega)
          · have hk : k < 1 := hk
            obtain rfl : k = 0 := by omega
            rfl
          · show some [AO.vec _ ndC (ns.set i (ns.getD i ndC.dflt)) h 2 _, AO.arr _ _ _ _] = _
            rw [nd_set hin]
          · repeat (first | exact KeepL.nil | refine KeepL.drop ?_ | refine KeepL.ren rfl ?_)
        · repeat ((conv => whnf); refine ⟨by first | (unfold inI64; omega) | omega | exact ⟨by omega, by omega⟩ | exact rfl | decide +kernel, ?_⟩)
          conv => whnf
          exact ends_eq ⟨rfl, rfl⟩
    · cases hs
  · cases hs

def stE (ps : List Pt) (p : Pt) : Int := if prpB p.1 = false then 1 else if ((!fndP ps p.1 && decide (24 ≤ ps.length)) || decide (256 < p.2.size)) = true then 3 else 0
def stP (ps : List Pt) (p : Pt) : List Pt := if fndP ps p.1 = true then ps.set (posV ps p.1) p else wiP (ps, (posV ps p.1 : Nat), p)
def stN (ns : List Nd) (k : Nat) (p : Pt) : List Nd := ns.set k ((ndAt ns k).1, (ndAt ns k).2.1, stP (ndAt ns k).2.2 p)
structure StOk (ns : List Nd) (k : Int) : Prop where
  len : ns.length ≤ 1000000000
  k0 : 0 ≤ k
  k1 : k < (ns.length : Nat)
  ps : SrOk ((ndAt ns k.toNat).2.2, ByteArray.empty)
def saysStX (c : List Nd → Nat → Pt → Prop) (r : List Nd → Nat → Pt → SV) (h : List Nd → Nat → Pt → List AO) : Says := fun args H => match args, H with
  | [.c (.sl _ _ _ _), .c (.p (.v (.int .i64 k))), .agg [.p (.v (.string a)), .p (.v (.string b))]], [.arr _ c0 ns _] => match castD (e := ndC) (e' := c0) ns with
    | some ns => some (some (args = [.c (.sl 0 ndC 0 ns.length), .c (.int .i64 k), ptA (a, b)] ∧ H = hpN ns ∧ StOk ns k ∧ c ns k.toNat (a, b)), r ns k.toNat (a, b), h ns k.toNat (a, b))
    | none => none
  | _, _ => none
/-- With an error. -/
theorem st_er : TSound Tryz.prog (ext F5 82 (saysStX (fun ns k p => ¬ stE (ndAt ns k).2.2 p = 0) (fun ns k p => .tup [.c (.p (.v (.slice none 0 0))), .c (.int .i64 (stE (ndAt ns k).2.2 p))]) fun ns _ _ => hpN ns)) := by
  refine ext_run f5 (f := 82) (fn := Tryz.f82) rfl rfl [0, 1, 2, 5, 6, 7, 8, 9, 10, 14, 39, 40] fun args H p r' H' hs hp => ?_
  unfold saysStX at hs
  split at hs
  · split at hs
    · rename_i k a b _ _ _ _ _ ns _
      cases hs
      obtain ⟨ha, hH, hok, he⟩ := hp
      rw [ha, hH]
      obtain ⟨h1, h2, h3, h4⟩ := hok
      obtain ⟨k, rfl⟩ : ∃ q : Nat, k = q := ⟨k.toNat, by omega⟩
      rw [Int.toNat_natCast] at h4 he ⊢
      have hob : 0 = 0 ∧ (0 : Int) ≤ (k : Nat) ∧ (k : Int) < (ns.length : Nat) := ⟨rfl, h2, h3⟩
      refine ⟨Nat.le_of_ble_eq_true rfl, [0], rfl, id0, ?_⟩
      dsimp only
      obtain ⟨E, hE⟩ : ∃ E, stE (ndAt ns k).2.2 (a, b) = E := ⟨_, rfl⟩
      rw [hE] at he ⊢
      unfold stE at hE
      have h4a : SrOk ((ndAt ns k).2.2, a) := h4
      repeat ((conv => whnf); refine ⟨by first | exact ⟨rfl, trivial⟩ | (unfold inI64; omega) | omega | exact ⟨by omega, by omega⟩ | exact rfl | decide +kernel, ?_⟩)
      conv => whnf
      refine cond_intro (fun h5 => ?_) (fun h5 => ?_)
      · have h6 : prpB a = false := not_b h5
        rw [if_pos h6] at hE
        repeat ((conv => whnf); refine ⟨by first | (unfold inI64; omega) | omega | exact ⟨by omega, by omega⟩ | exact rfl | decide +kernel, ?_⟩)
        conv => whnf
        rw [← hE]
        exact ends_eq ⟨rfl, rfl⟩
      have h6 : prpB a = true := not_f h5
      rw [if_neg (ne_f h6)] at hE
      repeat ((conv => whnf); refine ⟨by first | exact hob | exact ⟨rfl, h4a⟩ | (unfold inI64; omega) | omega | exact ⟨by omega, by omega⟩ | (intro hg; first | (unfold inI64; omega) | omega | exact ⟨by omega, by omega⟩ | (simp [lit] at hg; unfold inI64; omega) | (simp [lit] at hg; omega) | (simp [lit] at hg; exact ⟨by omega, by omega⟩)) | (show (_ : Nat) + 1 ≤ 1000000000000; omega) | exact rfl | (unfold inI64; dsimp only; omega) | (dsimp only; omega) | (intro hg; simp [lit] at hg; first | (unfold inI64; dsimp only; omega) | (dsimp only; omega)) | decide +kernel, ?_⟩)
      conv => whnf
      refine cond_intro (fun h7 => ?_) (fun h7 => ?_)
      · have h8 : ((!fndP (ndAt ns k).2.2 a && decide (24 ≤ (ndAt ns k).2.2.length)) || decide (256 < b.size)) = true := by
          have h9 : ((!fndP (ndAt ns k).2.2 a && decide ((24 : Int) ≤ ((ndAt ns k).2.2.length : Nat))) || decide ((256 : Int) < (b.size : Nat))) = true := h7
          rw [← h9]
          congr 1
          · congr 1
            exact decide_eq_decide.2 (by omega)
          · exact decide_eq_decide.2 (by omega)
        rw [if_pos h8] at hE
        repeat ((conv => whnf); refine ⟨by first | (unfold inI64; omega) | omega | exact ⟨by omega, by omega⟩ | exact rfl | decide +kernel, ?_⟩)
        conv => whnf
        rw [← hE]
        exact ends_eq ⟨rfl, rfl⟩
      · exfalso
        have h8 : ((!fndP (ndAt ns k).2.2 a && decide (24 ≤ (ndAt ns k).2.2.length)) || decide (256 < b.size)) = false := by
          have h9 : ((!fndP (ndAt ns k).2.2 a && decide ((24 : Int) ≤ ((ndAt ns k).2.2.length : Nat))) || decide ((256 : Int) < (b.size : Nat))) = false := h7
          rw [← h9]
          congr 1
          · congr 1
            exact decide_eq_decide.2 (by omega)
          · exact decide_eq_decide.2 (by omega)
        rw [if_neg (ne_t h8)] at hE
        exact he hE.symm
    · cases hs
  · cases hs

theorem st_lim {ps : List Pt} {a b : ByteArray} (h : stE ps (a, b) = 0) : prpB a = true ∧ ((!fndP ps a && decide ((24 : Int) ≤ (ps.length : Nat))) || decide ((256 : Int) < (b.size : Nat))) = false := by
  unfold stE at h
  split at h
  · cases h
  · rename_i h1
    split at h
    · cases h
    · rename_i h2
      refine ⟨by simpa using h1, ?_⟩
      have h3 : ((!fndP ps a && decide (24 ≤ ps.length)) || decide (256 < b.size)) = false := by simpa using h2
      rw [← h3]
      congr 1
      · congr 1
        exact decide_eq_decide.2 (by omega)
      · exact decide_eq_decide.2 (by omega)
/-- A new property. -/
theorem st_new : TSound Tryz.prog (ext F5 82 (saysStX (fun ns k p => stE (ndAt ns k).2.2 p = 0 ∧ fndP (ndAt ns k).2.2 p.1 = false) (fun ns _ _ => .tup [.c (.sl 0 ndC 0 ns.length), .c (.int .i64 0)]) fun ns k p => hpN (stN ns k p))) := by
  refine ext_run f5 (f := 82) (fn := Tryz.f82) rfl rfl [0, 1, 2, 5, 6, 7, 8, 9, 10, 14, 39, 40] fun args H p r' H' hs hp => ?_
  unfold saysStX at hs
  split at hs
  · split at hs
    · rename_i k a b _ _ _ _ _ ns _
      cases hs
      obtain ⟨ha, hH, hok, he, hf⟩ := hp
      rw [ha, hH]
      obtain ⟨h1, h2, h3, h4⟩ := hok
      obtain ⟨k, rfl⟩ : ∃ q : Nat, k = q := ⟨k.toNat, by omega⟩
      rw [Int.toNat_natCast] at h4 he hf ⊢
      have hob : 0 = 0 ∧ (0 : Int) ≤ (k : Nat) ∧ (k : Int) < (ns.length : Nat) := ⟨rfl, h2, h3⟩
      refine ⟨Nat.le_of_ble_eq_true rfl, [0], rfl, id0, ?_⟩
      dsimp only
      have h4a : SrOk ((ndAt ns k).2.2, a) := h4
      have hpl := posV_le (ndAt ns k).2.2 a
      obtain ⟨h6, h7⟩ := st_lim he
      have hw : (ndAt ns k).2.2.length ≤ 1000000000 ∧ (0 : Int) ≤ ((posV (ndAt ns k).2.2 a : Nat) : Int) ∧ ((posV (ndAt ns k).2.2 a : Nat) : Int) ≤ ((ndAt ns k).2.2.length : Nat) := ⟨h4a.1, by omega, by omega⟩
      have hf : fndP (ndAt ns k).2.2 a = false := hf
      repeat ((conv => whnf); refine ⟨by first | exact ⟨rfl, trivial⟩ | (unfold inI64; omega) | omega | exact ⟨by omega, by omega⟩ | exact rfl | decide +kernel, ?_⟩)
      conv => whnf
      refine cond_intro (fun h5 => ?_) (fun h5 => ?_)
      · rw [not_b h5] at h6
        cases h6
      repeat ((conv => whnf); refine ⟨by first | exact hob | exact ⟨rfl, h4a⟩ | (unfold inI64; omega) | omega | exact ⟨by omega, by omega⟩ | (intro hg; first | (unfold inI64; omega) | omega | exact ⟨by omega, by omega⟩ | (simp [lit] at hg; unfold inI64; omega) | (simp [lit] at hg; omega) | (simp [lit] at hg; exact ⟨by omega, by omega⟩)) | (show (_ : Nat) + 1 ≤ 1000000000000; omega) | exact rfl | (unfold inI64; dsimp only; omega) | (dsimp only; omega) | (intro hg; simp [lit] at hg; first | (unfold inI64; dsimp only; omega) | (dsimp only; omega)) | decide +kernel, ?_⟩)
      conv => whnf
      refine cond_intro (fun h8 => ?_) (fun h8 => ?_)
      · exact Bool.noConfusion (h7.symm.trans h8)
      repeat ((conv => whnf); refine ⟨by first | (unfold inI64; omega) | omega | exact ⟨by omega, by omega⟩ | (intro hg; first | (unfold inI64; omega) | omega | exact ⟨by omega, by omega⟩ | (simp [lit] at hg; unfold inI64; omega) | (simp [lit] at hg; omega) | (simp [lit] at hg; exact ⟨by omega, by omega⟩)) | (show (_ : Nat) + 1 ≤ 1000000000000; omega) | exact rfl | (unfold inI64; dsimp only; omega) | (dsimp only; omega) | (intro hg; simp [lit] at hg; first | (unfold inI64; dsimp only; omega) | (dsimp only; omega)) | decide +kernel, ?_⟩)
      conv => whnf
      refine cond_intro (fun h9 => ?_) (fun h9 => ?_)
      · have h9 : fndP (ndAt ns k).2.2 a = true := h9
        rw [hf] at h9
        cases h9
      repeat ((conv => whnf); refine ⟨by first | exact hob | exact ⟨rfl, hw⟩ | (unfold inI64; omega) | omega | exact ⟨by omega, by omega⟩ | (intro hg; first | (unfold inI64; omega) | omega | exact ⟨by omega, by omega⟩ | (simp [lit] at hg; unfold inI64; omega) | (simp [lit] at hg; omega) | (simp [lit] at hg; exact ⟨by omega, by omega⟩)) | (show (_ : Nat) + 1 ≤ 1000000000000; omega) | exact rfl | (unfold inI64; dsimp only; omega) | (dsimp only; omega) | (intro hg; simp [lit] at hg; first | (unfold inI64; dsimp only; omega) | (dsimp only; omega)) | decide +kernel, ?_⟩)
      conv => whnf
      refine ends_eq ⟨rfl, ?_⟩
      show [AO.arr ndT ndC (ns.set k ((ndAt ns k).1, (ndAt ns k).2.1, wiP ((ndAt ns k).2.2, (posV (ndAt ns k).2.2 a : Nat), (a, b)))) 0] = _
      unfold stN stP
      rw [if_neg (ne_t hf)]
    · cases hs
  · cases hs

structure SoOk (ns : List Nd) (h : Nat) (ps : List Pt) (p : Pt) : Prop where
  len : ns.length ≤ 1000000000
  lt : h < ns.length
  pos : 0 < ps.length
  sr : SrOk (ps, ByteArray.empty)
  er : stE ps p = 0
  fd : fndP ps p.1 = true
theorem id2h : ∀ k, k < 2 → [0, 1][k]? = some k := fun k hk => by
  obtain rfl | rfl : k = 0 ∨ k = 1 := by omega
  all_goals rfl
def saysSo (h : Nat) : Says := fun args H => match args, H with
  | [.c (.vs _ _), .c (.p (.v (.int .i64 _))), .agg [.p (.v (.string a)), .p (.v (.string b))]], [.vec _ c0 ns _ _ _, .arr _ c1 ps _] => match castD (e := ndC) (e' := c0) ns, castD (e := ptC) (e' := c1) ps with
    | some ns, some ps => some (some (args = [.c (.vs 0 ns.length), .c (.int .i64 (h : Nat)), ptA (a, b)] ∧ H = hpV2 ns h ps ∧ SoOk ns h ps (a, b)), .tup [.c (.vs 0 ns.length), .c (.int .i64 0)], [.vec ndT ndC ns h 2 (.sl 1 ptC 0 ps.length), .arr ptT ptC (ps.set (posV ps a) (a, b)) 0])
    | _, _ => none
  | _, _ => none
def FS (h : Nat) : Table := ext (F6 h) 65 saysSrS
theorem fs (h : Nat) : TSound Tryz.prog (FS h) := ext_only srS (f6 h)
def F7 (h : Nat) : Table := ext (FS h) 82 (saysSo h)
theorem f7 (h : Nat) : TSound Tryz.prog (F7 h) := by
  refine ext_run (fs h) (f := 82) (fn := Tryz.f82) rfl rfl [0, 1, 2, 5, 6, 7, 8, 9, 10, 14, 39, 40] fun args H p r' H' hs hp => ?_
  unfold saysSo at hs
  split at hs
  · split at hs
    · rename_i a b _ _ _ _ _ _ _ _ _ _ _ _ ns ps _ _
      cases hs
      obtain ⟨ha, hH, hok⟩ := hp
      rw [ha, hH]
      obtain ⟨h1, h2, h3, h4, h5, h6⟩ := hok
      have hob : (0 : Int) ≤ (h : Nat) ∧ (h : Int) < (ns.length : Nat) := ⟨by omega, by omega⟩
      have h4a : SrOk (ps, a) := h4
      obtain ⟨h7, h8⟩ := st_lim h5
      have h6 : fndP ps a = true := h6
      have hlt : posV ps a < ps.length := by
        unfold fndP at h6
        exact of_decide_eq_true (Bool.and_eq_true_iff.1 h6).1
      have hob2 : 0 = 0 ∧ (0 : Int) ≤ ((posV ps a : Nat) : Int) ∧ ((posV ps a : Nat) : Int) < (ps.length : Nat) := ⟨rfl, by omega, by omega⟩
      refine ⟨Nat.le_of_ble_eq_true rfl, [0, 1], rfl, id2h, ?_⟩
      repeat ((conv => whnf); refine ⟨by first | exact ⟨rfl, trivial⟩ | (unfold inI64; omega) | omega | exact ⟨by omega, by omega⟩ | exact rfl | decide +kernel, ?_⟩)
      conv => whnf
      refine cond_intro (fun h9 => ?_) (fun h9 => ?_)
      · rw [not_b h9] at h7
        cases h7
      repeat ((conv => whnf); refine ⟨by first | exact hob | (unfold inI64; omega) | omega | exact ⟨by omega, by omega⟩ | exact rfl | decide +kernel, ?_⟩)
      conv => whnf
      refine Or.inr ⟨⟨rfl, rfl⟩, ?_⟩
      repeat ((conv => whnf); refine ⟨by first | exact ⟨rfl, rfl, h3, h4a⟩ | (unfold inI64; omega) | omega | exact ⟨by omega, by omega⟩ | (intro hg; first | (unfold inI64; omega) | omega | exact ⟨by omega, by omega⟩ | (simp [lit] at hg; unfold inI64; omega) | (simp [lit] at hg; omega) | (simp [lit] at hg; exact ⟨by omega, by omega⟩)) | (show (_ : Nat) + 1 ≤ 1000000000000; omega) | exact rfl | (unfold inI64; dsimp only; omega) | (dsimp only; omega) | (intro hg; simp [lit] at hg; first | (unfold inI64; dsimp only; omega) | (dsimp only; omega)) | decide +kernel, ?_⟩)
      conv => whnf
      refine cond_intro (fun h10 => ?_) (fun h10 => ?_)
      · exact Bool.noConfusion (h8.symm.trans h10)
      repeat ((conv => whnf); refine ⟨by first | (unfold inI64; omega) | omega | exact ⟨by omega, by omega⟩ | (intro hg; first | (unfold inI64; omega) | omega | exact ⟨by omega, by omega⟩ | (simp [lit] at hg; unfold inI64; omega) | (simp [lit] at hg; omega) | (simp [lit] at hg; exact ⟨by omega, by omega⟩)) | (show (_ : Nat) + 1 ≤ 1000000000000; omega) | exact rfl | (unfold inI64; dsimp only; omega) | (dsimp only; omega) | (intro hg; simp [lit] at hg; first | (unfold inI64; dsimp only; omega) | (dsimp only; omega)) | decide +kernel, ?_⟩)
      conv => whnf
      refine cond_intro (fun h11 => ?_) (fun h11 => ?_)
      · repeat ((conv => whnf); refine ⟨by first | exact hob2 | (unfold inI64; omega) | omega | exact ⟨by omega, by omega⟩ | (intro hg; first | (unfold inI64; omega) | omega | exact ⟨by omega, by omega⟩ | (simp [lit] at hg; unfold inI64; omega) | (simp [lit] at hg; omega) | (simp [lit] at hg; exact ⟨by omega, by omega⟩)) | (show (_ : Nat) + 1 ≤ 1000000000000; omega) | exact rfl | (unfold inI64; dsimp only; omega) | (dsimp only; omega) | (intro hg; simp [lit] at hg; first | (unfold inI64; dsimp only; omega) | (dsimp only; omega)) | decide +kernel, ?_⟩)
        conv => whnf
        exact ends_eq ⟨rfl, rfl⟩
      · exact Bool.noConfusion (h6.symm.trans h11)
    · cases hs
  · cases hs
end Go.Ab
