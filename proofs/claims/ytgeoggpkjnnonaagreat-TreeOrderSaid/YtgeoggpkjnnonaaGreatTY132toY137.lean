/- Package tree: Same. -/
import Derived.Test.YtgeoggpkjnnonaaGreatTY125toY129
namespace Go.Ab
open Go.Proofs
set_option linter.unusedSectionVars false
set_option maxRecDepth 100000
variable [Base]

def daP2 : List AV → Option (List Pt × List Pt)
  | [.c (.p (.l c0 ps)), .c (.p (.l c1 qs))] => match castD (e := ptC) (e' := c0) ps, castD (e := ptC) (e' := c1) qs with | some ps, some qs => some (ps, qs) | _, _ => none
  | _ => none
def eaP2 (a : List Pt × List Pt) : List AV := [.c (.p (.l ptC a.1)), .c (.p (.l ptC a.2))]
def eqPB (a : List Pt × List Pt) : Bool := decide (@Eq (List Pt) a.1 a.2)
def N1 : Table := ext L4 61 (saysG daP2 eaP2 fun a => (some (a.1.length ≤ 1000000000), .bool (eqPB a)))
theorem n1 : TSound Tryz.prog N1 := by
  refine extG l4 61 (fn := Tryz.f61) rfl rfl daP2 eaP2 _ (fun _ => Nat.le_of_ble_eq_true rfl) [0, 1, 4, 5, 10, 12, 13, 14, 24] fun a hok => ?_
  obtain ⟨ps, qs⟩ := a
  have hl : ps.length ≤ 1000000000 := hok
  show runF _ _ _ [] [.c (.p (.l ptC ps)), .c (.p (.l ptC qs))] [] fun r H => Ends r H (.bool (eqPB (ps, qs))) []
  repeat ((conv => whnf); refine ⟨by first | (unfold inI64; omega) | omega | exact ⟨by omega, by omega⟩ | (intro hg; first | (unfold inI64; omega) | omega | exact ⟨by omega, by omega⟩ | (simp [lit] at hg; unfold inI64; omega) | (simp [lit] at hg; omega) | (simp [lit] at hg; exact ⟨by omega, by omega⟩)) | (show (_ : Nat) + 1 ≤ 1000000000000; omega) | exact rfl | (unfold inI64; dsimp only; omega) | (dsimp only; omega) | (intro hg; simp [lit] at hg; first | (unfold inI64; dsimp only; omega) | (dsimp only; omega)) | decide +kernel, ?_⟩)
  conv => whnf
  refine cond_intro (fun h => ?_) (fun h => ?_)
  · have h1 : eqPB (ps, qs) = false := by
      unfold eqPB
      refine decide_eq_false fun hx => ?_
      have hx : ps = qs := hx
      subst hx
      have h2 : (!decide (((ps.length : Nat) : Int) = (ps.length : Nat))) = true := h
      simp at h2
    rw [h1]
    repeat ((conv => whnf); refine ⟨by first | (unfold inI64; omega) | omega | exact ⟨by omega, by omega⟩ | exact rfl | decide +kernel, ?_⟩)
    conv => whnf
    exact ends_eq ⟨rfl, rfl⟩
  have h3 : ps.length = qs.length := by
    have h : (!decide (((ps.length : Nat) : Int) = (qs.length : Nat))) = false := h
    simp at h
    omega
  have eqg : eqGood Tryz.prog 61 := ⟨by decide +kernel, by decide +kernel⟩
  conv => whnf
  refine loop_intro (σ := Nat) (fun i => [(0, XV.s (.a (.c (.p (.l ptC ps))))), (1, XV.s (.a (.c (.p (.l ptC qs))))), (4, XV.s .none), (5, XV.s .none), (10, XV.s .none), (12, XV.s (.int .i64 (ps.length : Nat))), (13, XV.s (.int .i64 (i : Nat))), (14, XV.s .none), (24, XV.s .none)])
    (fun _ => []) (fun i => i ≤ ps.length ∧ ∀ j, j < i → ps.getD j ptC.dflt = qs.getD j ptC.dflt) (fun i => ps.length - i) 0 ?_ rfl ⟨Nat.zero_le _, fun j hj => absurd hj (Nat.not_lt_zero j)⟩ (fun i hi => ?_)
  · repeat (first | exact LeL.nil | refine LeL.drop ?_ | refine LeL.same ?_)
  obtain ⟨hi, hall⟩ := hi
  conv => whnf
  refine cond_intro (fun h4 => ?_) (fun h4 => ?_)
  · have h5 : i < ps.length := lt_of_dec h4
    have hin : 0 ≤ (i : Int) ∧ (i : Int) < (ps.length : Nat) := by omega
    have hin2 : 0 ≤ (i : Int) ∧ (i : Int) < (qs.length : Nat) := by omega
    repeat ((conv => whnf); refine ⟨by first | exact hin | exact hin2 | exact eqg | exact fun _ => eqg | ((conv => whnf); exact ⟨⟨rfl, rfl, rfl⟩, trivial⟩) | exact Early.one (by decide +kernel) (by (conv => whnf); exact ⟨rfl, rfl, rfl⟩) trivial | (unfold inI64; omega) | omega | exact ⟨by omega, by omega⟩ | exact rfl | decide +kernel, ?_⟩)
    conv => whnf
    refine cond_intro (fun h6 => ?_) (fun h6 => ?_)
    · have h9 : eqPB (ps, qs) = false := by
        unfold eqPB
        refine decide_eq_false fun hx => ?_
        have hx : ps = qs := hx
        subst hx
        have h8 : (!(decide ((ps.getD ((i : Int)).toNat ptC.dflt).1 = (ps.getD ((i : Int)).toNat ptC.dflt).1) && decide ((ps.getD ((i : Int)).toNat ptC.dflt).2 = (ps.getD ((i : Int)).toNat ptC.dflt).2))) = false := by simp
        exact Bool.noConfusion (h8.symm.trans h6)
      rw [h9]
      repeat ((conv => whnf); refine ⟨by first | (unfold inI64; omega) | omega | exact ⟨by omega, by omega⟩ | exact rfl | decide +kernel, ?_⟩)
      conv => whnf
      exact ends_eq ⟨rfl, rfl⟩
    have h7 : ps.getD i ptC.dflt = qs.getD i ptC.dflt := by
      have h8 : (!(decide ((ps.getD ((i : Int)).toNat ptC.dflt).1 = (qs.getD ((i : Int)).toNat ptC.dflt).1) && decide ((ps.getD ((i : Int)).toNat ptC.dflt).2 = (qs.getD ((i : Int)).toNat ptC.dflt).2))) = false := h6
      rw [Int.toNat_natCast] at h8
      simp at h8
      exact Prod.ext h8.1 h8.2
    repeat ((conv => whnf); refine ⟨by first | (unfold inI64; omega) | omega | exact ⟨by omega, by omega⟩ | exact rfl | decide +kernel, ?_⟩)
    conv => whnf
    refine head_intro (i + 1) ?_ rfl ⟨h5, fun j hj => ?_⟩ ?_
    · repeat (first | exact LeL.nil | refine LeL.drop ?_ | refine LeL.same ?_)
    · by_cases hji : j = i
      · rw [hji]; exact h7
      · exact hall j (by omega)
    · omega
  · have hge := ge_of_dec h4
    obtain rfl : i = ps.length := by omega
    have h9 : eqPB (ps, qs) = true := by
      unfold eqPB
      exact decide_eq_true (eq_prefix (α := Pt) _ h3 hall)
    rw [h9]
    repeat ((conv => whnf); refine ⟨by first | (unfold inI64; omega) | omega | exact ⟨by omega, by omega⟩ | exact rfl | decide +kernel, ?_⟩)
    conv => whnf
    exact ends_eq ⟨rfl, rfl⟩
def N2 : Table := ext N1 60 (saysG daNN eaNN fun a => (some (a.1.2.2.length ≤ 1000000000), .bool (decide (a.1.1 = a.2.1) && decide (a.1.2.1 = a.2.2.1) && eqPB (a.1.2.2, a.2.2.2))))
theorem n2 : TSound Tryz.prog N2 := by
  refine extG n1 60 (fn := Tryz.f60) rfl rfl daNN eaNN _ (fun _ => Nat.le_of_ble_eq_true rfl) [0, 1, 2, 3, 4] fun a hok => ?_
  obtain ⟨⟨a, s, ps⟩, b, t, qs⟩ := a
  have hl : ps.length ≤ 1000000000 := hok
  show runF _ _ _ [] [.agg [.int .i64 a, .str s, .p (.l ptC ps)], .agg [.int .i64 b, .str t, .p (.l ptC qs)]] [] fun r H => Ends r H (.bool (decide (a = b) && decide (s = t) && eqPB (ps, qs))) []
  repeat ((conv => whnf); refine ⟨by first | exact fun _ => ⟨rfl, hl⟩ | (unfold inI64; omega) | omega | exact ⟨by omega, by omega⟩ | (intro hg; first | (unfold inI64; omega) | omega | exact ⟨by omega, by omega⟩ | (simp [lit] at hg; unfold inI64; omega) | (simp [lit] at hg; omega) | (simp [lit] at hg; exact ⟨by omega, by omega⟩)) | (show (_ : Nat) + 1 ≤ 1000000000000; omega) | exact rfl | (unfold inI64; dsimp only; omega) | (dsimp only; omega) | (intro hg; simp [lit] at hg; first | (unfold inI64; dsimp only; omega) | (dsimp only; omega)) | decide +kernel, ?_⟩)
  conv => whnf
  exact ends_eq ⟨rfl, rfl⟩

def daNNF : List AV → Option (List Nd × List Nd)
  | [.c (.p (.l c0 ns)), .c (.p (.l c1 ms)), .c (.p (.v (.func _ _ _)))] => match castD (e := ndC) (e' := c0) ns, castD (e := ndC) (e' := c1) ms with | some ns, some ms => some (ns, ms) | _, _ => none
  | _ => none
def eaNNF (a : List Nd × List Nd) : List AV := [.c (.p (.l ndC a.1)), .c (.p (.l ndC a.2)), .c (.p (.v (.func (.func 60) #[] #[])))]
theorem sam1 {a b : Nd} : (decide (a.1 = b.1) && decide (a.2.1 = b.2.1) && eqPB (a.2.2, b.2.2)) = samN (a, b) := rfl
def N3 : Table := ext N2 59 (saysG daNNF eaNNF fun a => (some (TTOk a), .bool (eqTB a)))
theorem n3 : TSound Tryz.prog N3 := by
  refine extG n2 59 (fn := Tryz.f59) rfl rfl daNNF eaNNF _ (fun _ => Nat.le_of_ble_eq_true rfl) [0, 1, 2, 6, 7, 8, 9, 14, 15, 16, 17, 18, 30] fun a hok => ?_
  obtain ⟨ns, ms⟩ := a
  obtain ⟨hl, hps⟩ : ns.length ≤ 1000000000 ∧ ∀ i, i < ns.length → (ndAt ns i).2.2.length ≤ 1000000000 := hok
  show runF _ _ _ [] [.c (.p (.l ndC ns)), .c (.p (.l ndC ms)), .c (.p (.v (.func (.func 60) #[] #[])))] [] fun r H => Ends r H (.bool (eqTB (ns, ms))) []
  repeat ((conv => whnf); refine ⟨by first | (unfold inI64; omega) | omega | exact ⟨by omega, by omega⟩ | (intro hg; first | (unfold inI64; omega) | omega | exact ⟨by omega, by omega⟩ | (simp [lit] at hg; unfold inI64; omega) | (simp [lit] at hg; omega) | (simp [lit] at hg; exact ⟨by omega, by omega⟩)) | (show (_ : Nat) + 1 ≤ 1000000000000; omega) | exact rfl | (unfold inI64; dsimp only; omega) | (dsimp only; omega) | (intro hg; simp [lit] at hg; first | (unfold inI64; dsimp only; omega) | (dsimp only; omega)) | decide +kernel, ?_⟩)
  conv => whnf
  refine cond_intro (fun h => ?_) (fun h => ?_)
  · have h1 : eqTB (ns, ms) = false := by
      unfold eqTB
      refine decide_eq_false fun hx => ?_
      have hx : ns = ms := hx
      subst hx
      have h2 : (!decide (((ns.length : Nat) : Int) = (ns.length : Nat))) = true := h
      simp at h2
    rw [h1]
    repeat ((conv => whnf); refine ⟨by first | (unfold inI64; omega) | omega | exact ⟨by omega, by omega⟩ | exact rfl | decide +kernel, ?_⟩)
    conv => whnf
    exact ends_eq ⟨rfl, rfl⟩
  have h3 : ns.length = ms.length := by
    have h : (!decide (((ns.length : Nat) : Int) = (ms.length : Nat))) = false := h
    simp at h
    omega
  conv => whnf
  refine loop_intro (σ := Nat) (fun i => [(0, XV.s (.a (.c (.p (.l ndC ns))))), (1, XV.s (.a (.c (.p (.l ndC ms))))), (2, XV.s (.a (.c (.p (.v (.func (.func 60) #[] #[])))))), (6, XV.s .none), (7, XV.s .none), (8, XV.s .none), (9, XV.s .none), (14, XV.s .none), (15, XV.s (.a (.c (.p (.l ndC ns))))), (16, XV.s (.int .i64 (ns.length : Nat))), (17, XV.s (.int .i64 (i : Nat))), (18, XV.s .none), (30, XV.s .none)])
    (fun _ => []) (fun i => i ≤ ns.length ∧ ∀ j, j < i → ns.getD j ndC.dflt = ms.getD j ndC.dflt) (fun i => ns.length - i) 0 ?_ rfl ⟨Nat.zero_le _, fun j hj => absurd hj (Nat.not_lt_zero j)⟩ (fun i hi => ?_)
  · repeat (first | exact LeL.nil | refine LeL.drop ?_ | refine LeL.same ?_)
  obtain ⟨hi, hall⟩ := hi
  conv => whnf
  refine cond_intro (fun h4 => ?_) (fun h4 => ?_)
  · have h5 : i < ns.length := lt_of_dec h4
    have hin : 0 ≤ (i : Int) ∧ (i : Int) < (ns.length : Nat) := by omega
    have hin2 : 0 ≤ (i : Int) ∧ (i : Int) < (ms.length : Nat) := by omega
    have hpi := hps i h5
    repeat ((conv => whnf); refine ⟨by first | exact hin | exact hin2 | exact ⟨rfl, hpi⟩ | (unfold inI64; omega) | omega | exact ⟨by omega, by omega⟩ | (intro hg; first | (unfold inI64; omega) | omega | exact ⟨by omega, by omega⟩ | (simp [lit] at hg; unfold inI64; omega) | (simp [lit] at hg; omega) | (simp [lit] at hg; exact ⟨by omega, by omega⟩)) | (show (_ : Nat) + 1 ≤ 1000000000000; omega) | exact rfl | (unfold inI64; dsimp only; omega) | (dsimp only; omega) | (intro hg; simp [lit] at hg; first | (unfold inI64; dsimp only; omega) | (dsimp only; omega)) | decide +kernel, ?_⟩)
    conv => whnf
    refine cond_intro (fun h6 => ?_) (fun h6 => ?_)
    · have h7 : eqTB (ns, ms) = false := by
        unfold eqTB
        refine decide_eq_false fun hx => ?_
        have hx : ns = ms := hx
        subst hx
        have h8 : (!samN (ndAt ns i, ndAt ns i)) = false := by rw [sam_eq.2 rfl]; rfl
        exact Bool.noConfusion (h8.symm.trans h6)
      rw [h7]
      repeat ((conv => whnf); refine ⟨by first | (unfold inI64; omega) | omega | exact ⟨by omega, by omega⟩ | exact rfl | decide +kernel, ?_⟩)
      conv => whnf
      exact ends_eq ⟨rfl, rfl⟩
    have h7 : ns.getD i ndC.dflt = ms.getD i ndC.dflt := by
      have h8 : (!samN (ndAt ns i, ndAt ms i)) = false := h6
      refine sam_eq.1 (show samN (ndAt ns i, ndAt ms i) = true from ?_)
      cases h9 : samN (ndAt ns i, ndAt ms i) with
      | true => rfl
      | false => rw [h9] at h8; cases h8
    repeat ((conv => whnf); refine ⟨by first | (unfold inI64; omega) | omega | exact ⟨by omega, by omega⟩ | exact rfl | decide +kernel, ?_⟩)
    conv => whnf
    refine head_keep (i + 1) [] rfl (fun k hk => absurd hk (Nat.not_lt_zero k)) rfl ?_ ⟨h5, fun j hj => ?_⟩ (show ns.length - (i + 1) < ns.length - i by omega)
    · repeat (first | exact KeepL.nil | refine KeepL.drop ?_ | refine KeepL.ren rfl ?_)
    · by_cases hji : j = i
      · rw [hji]; exact h7
      · exact hall j (by omega)
  · have hge := ge_of_dec h4
    obtain rfl : i = ns.length := by omega
    have h9 : eqTB (ns, ms) = true := by
      unfold eqTB
      exact decide_eq_true (eq_prefix (α := Nd) _ h3 hall)
    rw [h9]
    repeat ((conv => whnf); refine ⟨by first | (unfold inI64; omega) | omega | exact ⟨by omega, by omega⟩ | exact rfl | decide +kernel, ?_⟩)
    conv => whnf
    exact ends_eq ⟨rfl, rfl⟩
def N4 : Table := ext N3 15 (saysG daTT eaTT fun a => (some (TTOk a), .bool (eqTB a)))
theorem n4 : TSound Tryz.prog N4 := by
  refine extG n3 15 (fn := Tryz.f15) rfl rfl daTT eaTT _ (fun _ => Nat.le_of_ble_eq_true rfl) [0, 1, 2, 3, 4] fun a hok => ?_
  obtain ⟨ns, ms⟩ := a
  have hok : TTOk (ns, ms) := hok
  show runF _ _ _ [] [.agg [.p (.l ndC ns)], .agg [.p (.l ndC ms)]] [] fun r H => Ends r H (.bool (eqTB (ns, ms))) []
  repeat ((conv => whnf); refine ⟨by first | exact ⟨rfl, hok⟩ | (unfold inI64; omega) | omega | exact ⟨by omega, by omega⟩ | (intro hg; first | (unfold inI64; omega) | omega | exact ⟨by omega, by omega⟩ | (simp [lit] at hg; unfold inI64; omega) | (simp [lit] at hg; omega) | (simp [lit] at hg; exact ⟨by omega, by omega⟩)) | (show (_ : Nat) + 1 ≤ 1000000000000; omega) | exact rfl | (unfold inI64; dsimp only; omega) | (dsimp only; omega) | (intro hg; simp [lit] at hg; first | (unfold inI64; dsimp only; omega) | (dsimp only; omega)) | decide +kernel, ?_⟩)
  conv => whnf
  exact ends_eq ⟨rfl, rfl⟩

def rFindV (a : List Nd × ByteArray) : Int × Bool := if rchk a.1 = 0 then ((if rfV a.1 a.2 < 0 then 0 else rfV a.1 a.2), decide (0 ≤ rfV a.1 a.2)) else (0, false)
def N5 : Table := ext N4 28 (saysG daTS eaTS fun a => (none, fndR (rFindV a)))
theorem n5 : TSound Tryz.prog N5 := by
  refine extG n4 28 (fn := Tryz.f28) rfl rfl daTS eaTS _ (fun _ => Nat.le_of_ble_eq_true rfl) [0, 1, 2, 4, 5, 6, 9] fun a _ => ?_
  obtain ⟨ns, s⟩ := a
  show runF _ _ _ [] [.agg [.p (.l ndC ns)], .c (.str s)] [] fun r H => Ends r H (fndR (rFindV (ns, s))) []
  unfold rFindV
  dsimp only
  repeat ((conv => whnf); refine ⟨by first | exact ⟨rfl, trivial⟩ | (unfold inI64; omega) | omega | exact ⟨by omega, by omega⟩ | (intro hg; first | (unfold inI64; omega) | omega | exact ⟨by omega, by omega⟩ | (simp [lit] at hg; unfold inI64; omega) | (simp [lit] at hg; omega) | (simp [lit] at hg; exact ⟨by omega, by omega⟩)) | (show (_ : Nat) + 1 ≤ 1000000000000; omega) | exact rfl | (unfold inI64; dsimp only; omega) | (dsimp only; omega) | (intro hg; simp [lit] at hg; first | (unfold inI64; dsimp only; omega) | (dsimp only; omega)) | decide +kernel, ?_⟩)
  conv => whnf
  refine cond_intro (fun h => ?_) (fun h => ?_)
  · have h1 : ¬ rchk ns = 0 := by
      have h2 : (!decide (rchk ns = 0)) = true := h
      simpa using h2
    rw [if_neg h1]
    repeat ((conv => whnf); refine ⟨by first | (unfold inI64; omega) | omega | exact ⟨by omega, by omega⟩ | exact rfl | decide +kernel, ?_⟩)
    conv => whnf
    exact ends_eq ⟨rfl, rfl⟩
  have h1 : rchk ns = 0 := by
    have h2 : (!decide (rchk ns = 0)) = false := h
    simpa using h2
  rw [if_pos h1]
  have hf := rchk_frm h1
  repeat ((conv => whnf); refine ⟨by first | exact ⟨rfl, hf⟩ | (unfold inI64; omega) | omega | exact ⟨by omega, by omega⟩ | (intro hg; first | (unfold inI64; omega) | omega | exact ⟨by omega, by omega⟩ | (simp [lit] at hg; unfold inI64; omega) | (simp [lit] at hg; omega) | (simp [lit] at hg; exact ⟨by omega, by omega⟩)) | (show (_ : Nat) + 1 ≤ 1000000000000; omega) | exact rfl | (unfold inI64; dsimp only; omega) | (dsimp only; omega) | (intro hg; simp [lit] at hg; first | (unfold inI64; dsimp only; omega) | (dsimp only; omega)) | decide +kernel, ?_⟩)
  conv => whnf
  exact ends_eq ⟨rfl, rfl⟩

/-- Slices of one's own, and nothing at all, are lists to which nothing is appended any more. -/
def FrzL : Env → Env → Prop
  | [], [] => True
  | (t, x) :: r, (u, y) :: q => t = u ∧ (x = .s .none ∨ x = y ∨ (∃ c zs, x = .s (.a (.c (.p (.l c zs)))) ∧ ∃ j, y = .s (.a (.c (.own j c zs)))) ∨ ∃ c, x = .s (.a (.c (.p (.l c [])))) ∧ y = .s (.v (.slice none 0 0))) ∧ FrzL r q
  | _, _ => False
theorem FrzL.nil : FrzL [] [] := trivial
theorem FrzL.drop {t : Nat} {y : XV} {r q : Env} (h : FrzL r q) : FrzL ((t, .s .none) :: r) ((t, y) :: q) := ⟨rfl, .inl rfl, h⟩
theorem FrzL.same {t : Nat} {x : XV} {r q : Env} (h : FrzL r q) : FrzL ((t, x) :: r) ((t, x) :: q) := ⟨rfl, .inr (.inl rfl), h⟩
theorem FrzL.own {t j : Nat} {c : CT} {zs : List c.den} {r q : Env} (h : FrzL r q) : FrzL ((t, .s (.a (.c (.p (.l c zs))))) :: r) ((t, .s (.a (.c (.own j c zs)))) :: q) := ⟨rfl, .inr (.inr (.inl ⟨c, zs, rfl, j, rfl⟩)), h⟩
theorem FrzL.no {t : Nat} {c : CT} {r q : Env} (h : FrzL r q) : FrzL ((t, .s (.a (.c (.p (.l c []))))) :: r) ((t, .s (.v (.slice none 0 0))) :: q) := ⟨rfl, .inr (.inr (.inr ⟨c, rfl, rfl⟩)), h⟩
theorem FrzL.get : ∀ {e e' : Env}, FrzL e e' → ∀ t, e.get t = .s .none ∨ e.get t = e'.get t ∨ (∃ c zs, e.get t = .s (.a (.c (.p (.l c zs)))) ∧ ∃ j, e'.get t = .s (.a (.c (.own j c zs)))) ∨ ∃ c, e.get t = .s (.a (.c (.p (.l c [])))) ∧ e'.get t = .s (.v (.slice none 0 0))
  | [], [], _, _ => .inr (.inl rfl)
  | (a, x) :: r, (b, y) :: q, h, t => by
    obtain ⟨rfl, h2, h3⟩ := h
    rw [Env.get_cons, Env.get_cons]
    by_cases he : a = t
    · rw [if_pos he, if_pos he]; exact h2
    · rw [if_neg he, if_neg he]; exact FrzL.get h3 t
  | [], _ :: _, h, _ => h.elim
  | _ :: _, [], h, _ => h.elim
theorem Weak.frzS {n m : Nat} {e e' : Env} (H : List AO) (h : FrzL e' e) : Weak n m e H e' H := fun G0 G a hx hm hS hH hE => by
  refine ⟨G, rfl, hx, hS, hH, fun t => ?_, hE.size, hE.defers⟩
  have hv := hE.get t
  rcases h.get t with h1 | h1 | ⟨c, zs, h1, j, h2⟩ | ⟨c, h1, h2⟩
  · rw [h1]; trivial
  · rw [h1]; exact hv
  · rw [h1]
    rw [h2] at hv
    exact hv.1
  · rw [h1]
    rw [h2] at hv
    obtain ⟨_, hv⟩ := hv
    rw [hv]
    exact .inl ⟨rfl, rfl⟩

def orGo (zs : List Int) : Nat → Nat → Int → List Int → List Int × Int
  | 0, _, n, out => (out, n)
  | m + 1, i, n, out => orGo zs m (i + 1) (rawN zs n) (out.take (modV (rawV zs n) ((out.length : Nat) + 1)).toNat ++ (i : Int) :: out.drop (modV (rawV zs n) ((out.length : Nat) + 1)).toNat)
def orV (zs : List Int) (n k : Int) : List Int × Int := orGo zs k.toNat 0 n []
def N6 : Table := ext N5 44 (saysTapeI fun zs n k => (some (tapeOk zs n ∧ 0 ≤ k ∧ k ≤ 1000), .a (.c (.p (.l (.int .i64) (orV zs n k).1))), (orV zs n k).2))
theorem n6 : TSound Tryz.prog N6 := by
  refine extTapeI n5 44 (fn := Tryz.f44) rfl rfl (by decide) _ [0, 1, 4, 5, 6, 7, 8, 11] fun zs n k hp => ?_
  obtain ⟨ht, hk0, hk1⟩ : tapeOk zs n ∧ 0 ≤ k ∧ k ≤ 1000 := hp
  obtain ⟨k, rfl⟩ : ∃ q : Nat, k = q := ⟨k.toNat, by omega⟩
  obtain ⟨n1, hn1⟩ : ∃ n1, n1 = n := ⟨_, rfl⟩
  repeat ((conv => whnf); refine ⟨by first | (unfold inI64; omega) | omega | exact ⟨by omega, by omega⟩ | (intro hg; first | (unfold inI64; omega) | omega | exact ⟨by omega, by omega⟩ | (simp [lit] at hg; unfold inI64; omega) | (simp [lit] at hg; omega) | (simp [lit] at hg; exact ⟨by omega, by omega⟩)) | (show (_ : Nat) + 1 ≤ 1000000000000; omega) | exact rfl | (unfold inI64; dsimp only; omega) | (dsimp only; omega) | (intro hg; simp [lit] at hg; first | (unfold inI64; dsimp only; omega) | (dsimp only; omega)) | decide +kernel, ?_⟩)
  conv => whnf
  refine loop_weak (σ := Nat × Int × List Int) (fun ⟨i, _, out⟩ => [(0, XV.s (.a (.c (.ptr 0 0)))), (1, XV.s (.int .i64 (k : Nat))), (4, XV.s .none), (5, XV.s (.a (.c (.p (.l (.int .i64) out))))), (6, XV.s (.int .i64 (i : Nat))), (7, XV.s .none), (8, XV.s .none), (11, XV.s .none)])
    (fun ⟨_, n, _⟩ => [tapeO zs n]) (fun ⟨i, n, out⟩ => i ≤ k ∧ tapeOk zs n ∧ out.length = i ∧ orV zs n1 (k : Int) = orGo zs (k - i) i n out) (fun ⟨i, _, _⟩ => k - i) (0, n, []) ?_ ⟨Nat.zero_le _, ht, rfl, by rw [hn1]; rfl⟩ ?_
  · refine Weak.frzS _ ?_
    repeat (first | exact FrzL.nil | refine FrzL.drop ?_ | refine FrzL.same ?_ | refine FrzL.no ?_)
  rintro ⟨i, n, out⟩ ⟨hi, hn, ho, he⟩
  conv => whnf
  refine cond_intro (fun h => ?_) (fun h => ?_)
  · have hin : i < k := lt_of_dec h
    have hm0 := modV_nonneg (rawV zs n) (((out.length : Nat) : Int) + 1)
    have hm1 := modV_lt (rawV zs n) (((out.length : Nat) : Int) + 1) (by omega)
    obtain ⟨q, hq⟩ : ∃ q : Nat, modV (rawV zs n) (((out.length : Nat) : Int) + 1) = (q : Int) := ⟨(modV (rawV zs n) (((out.length : Nat) : Int) + 1)).toNat, by omega⟩
    repeat ((conv => whnf); refine ⟨by first | (unfold inI64; omega) | omega | exact ⟨by omega, by omega⟩ | (intro hg; first | (unfold inI64; omega) | omega | exact ⟨by omega, by omega⟩ | (simp [lit] at hg; unfold inI64; omega) | (simp [lit] at hg; omega) | (simp [lit] at hg; exact ⟨by omega, by omega⟩)) | (show (_ : Nat) + 1 ≤ 1000000000000; omega) | exact rfl | (unfold inI64; dsimp only; omega) | (dsimp only; omega) | (intro hg; simp [lit] at hg; first | (unfold inI64; dsimp only; omega) | (dsimp only; omega)) | decide +kernel, ?_⟩)
    conv => whnf
    rw [hq] at hm0 hm1 ⊢
    have hb1 : 0 ≤ (q : Int) ∧ (q : Int) ≤ ((out.length : Nat) : Int) ∧ ((out.length : Nat) : Int) ≤ ((out.length : Nat) : Int) := ⟨hm0, by omega, Int.le_refl _⟩
    have hb2 : 0 ≤ (q : Int) ∧ (q : Int) = (q : Int) ∧ (q : Int) ≤ ((out.length : Nat) : Int) := ⟨hm0, rfl, by omega⟩
    have hn9 : (((out.length : Nat) : Int)).toNat = out.length := rfl
    have hz6 : out.take (((out.length : Nat) : Int)).toNat = out := by rw [hn9, List.take_length]
    have hz1 : 1 + ((out.take (((out.length : Nat) : Int)).toNat).drop ((q : Int)).toNat).length ≤ capBound := by
      rw [hz6, List.length_drop]
      exact Nat.le_trans (m := 2001) (by omega) (by decide)
    have hz2 : 0 < ([(i : Int)] ++ (out.take (((out.length : Nat) : Int)).toNat).drop ((q : Int)).toNat).length := by
      exact Nat.succ_pos _
    have hz3 : (out.take ((q : Int)).toNat).length + ([(i : Int)] ++ (out.take (((out.length : Nat) : Int)).toNat).drop ((q : Int)).toNat).length ≤ capBound := by
      rw [hz6, List.length_append, List.length_drop, List.length_take, List.length_cons, List.length_nil]
      exact Nat.le_trans (m := 5001) (by omega) (by decide)
    repeat ((conv => whnf); refine ⟨by first | exact hb1 | exact hb2 | exact hz1 | exact hz2 | exact hz3 | (unfold inI64; omega) | omega | exact ⟨by omega, by omega⟩ | (intro hg; first | (unfold inI64; omega) | omega | exact ⟨by omega, by omega⟩ | (simp [lit] at hg; unfold inI64; omega) | (simp [lit] at hg; omega) | (simp [lit] at hg; exact ⟨by omega, by omega⟩)) | (show (_ : Nat) + 1 ≤ 1000000000000; omega) | exact rfl | (unfold inI64; dsimp only; omega) | (dsimp only; omega) | (intro hg; simp [lit] at hg; first | (unfold inI64; dsimp only; omega) | (dsimp only; omega)) | decide +kernel, ?_⟩)
    conv => whnf
    have e2 : (([(i : Int)] ++ (out.take (((out.length : Nat) : Int)).toNat).drop ((q : Int)).toNat) : List Int) = (i : Int) :: out.drop q := by
      rw [hz6, Int.toNat_natCast]
      rfl
    have hx1 := rawN_ok9 hn
    refine head_weak (i + 1, rawN zs n, out.take ((q : Int)).toNat ++ ([(i : Int)] ++ (out.take (((out.length : Nat) : Int)).toNat).drop ((q : Int)).toNat)) (Weak.trans (Weak.frzS (e' := [(0, XV.s (.a (.c (.ptr 0 0)))), (1, XV.s (.int .i64 (k : Nat))), (4, XV.s .none), (5, XV.s (.a (.c (.p (.l (.int .i64) (out.take ((q : Int)).toNat ++ ([(i : Int)] ++ (out.take (((out.length : Nat) : Int)).toNat).drop ((q : Int)).toNat))))))), (6, XV.s (.int .i64 ((i + 1 : Nat) : Int))), (7, XV.s .none), (8, XV.s .none), (11, XV.s .none)]) _ ?_) (Weak.keep [0] rfl rfl id0 ?_)) ⟨hin, hx1, ?_, ?_⟩ (show k - (i + 1) < k - i by omega)
    · repeat (first | exact FrzL.nil | refine FrzL.drop ?_ | refine FrzL.same ?_ | refine FrzL.own ?_)
    · repeat (first | exact KeepL.nil | refine KeepL.drop ?_ | refine KeepL.ren rfl ?_)
    · rw [e2, Int.toNat_natCast, List.length_append, List.length_cons, List.length_take, List.length_drop]
      omega
    · rw [he, e2, Int.toNat_natCast]
      obtain ⟨d, hd⟩ : ∃ d, k - i = d + 1 := ⟨k - i - 1, by omega⟩
      rw [hd, show k - (i + 1) = d by omega]
      show orGo zs d (i + 1) (rawN zs n) (out.take (modV (rawV zs n) ((out.length : Nat) + 1)).toNat ++ (i : Int) :: out.drop (modV (rawV zs n) ((out.length : Nat) + 1)).toNat) = _
      rw [hq, Int.toNat_natCast]
  · obtain rfl : i = k := by have := ge_of_dec h; omega
    rw [hn1, Nat.sub_self] at he
    repeat ((conv => whnf); refine ⟨by first | (unfold inI64; omega) | omega | exact ⟨by omega, by omega⟩ | (intro hg; first | (unfold inI64; omega) | omega | exact ⟨by omega, by omega⟩ | (simp [lit] at hg; unfold inI64; omega) | (simp [lit] at hg; omega) | (simp [lit] at hg; exact ⟨by omega, by omega⟩)) | (show (_ : Nat) + 1 ≤ 1000000000000; omega) | exact rfl | (unfold inI64; dsimp only; omega) | (dsimp only; omega) | (intro hg; simp [lit] at hg; first | (unfold inI64; dsimp only; omega) | (dsimp only; omega)) | decide +kernel, ?_⟩)
    conv => whnf
    have e1 : orGo zs 0 i n out = (out, n) := rfl
    rw [he, e1]
    exact ends_eq ⟨rfl, rfl⟩

theorem or_mem (zs : List Int) : ∀ (m i : Nat) (n : Int) (out : List Int) (x : Int), x ∈ (orGo zs m i n out).1 ↔ x ∈ out ∨ ((i : Int) ≤ x ∧ x < ((i + m : Nat) : Int)) := by
  intro m
  induction m with
  | zero =>
    intro i n out x
    show x ∈ out ↔ _
    exact ⟨.inl, fun h => h.elim id fun h => by omega⟩
  | succ m ih =>
    intro i n out x
    show x ∈ (orGo zs m (i + 1) (rawN zs n) _).1 ↔ _
    rw [ih]
    have e : ∀ q, x ∈ out.take q ++ (i : Int) :: out.drop q ↔ x ∈ out ∨ x = (i : Int) := by
      intro q
      rw [List.mem_append, List.mem_cons]
      have h : x ∈ out ↔ x ∈ out.take q ∨ x ∈ out.drop q := by rw [← List.mem_append, List.take_append_drop]
      rw [h]
      constructor
      · rintro (h1 | h1 | h1)
        · exact .inl (.inl h1)
        · exact .inr h1
        · exact .inl (.inr h1)
      · rintro ((h1 | h1) | h1)
        · exact .inl h1
        · exact .inr (.inr h1)
        · exact .inr (.inl h1)
    rw [e]
    constructor
    · rintro ((h | h) | h)
      · exact .inl h
      · exact .inr (by omega)
      · exact .inr (by omega)
    · rintro (h | h)
      · exact .inl (.inl h)
      · by_cases hx : x = (i : Int)
        · exact .inl (.inr hx)
        · exact .inr (by omega)
theorem or_len (zs : List Int) : ∀ (m i : Nat) (n : Int) (out : List Int), (orGo zs m i n out).1.length = out.length + m := by
  intro m
  induction m with
  | zero => intro i n out; rfl
  | succ m ih =>
    intro i n out
    show (orGo zs m (i + 1) (rawN zs n) _).1.length = _
    rw [ih, List.length_append, List.length_cons, List.length_take, List.length_drop]
    omega
theorem or_ok {zs : List Int} : ∀ (m i : Nat) (n : Int) (out : List Int), tapeOk zs n → tapeOk zs (orGo zs m i n out).2 := by
  intro m
  induction m with
  | zero => intro i n out h; exact h
  | succ m ih => intro i n out h; exact ih _ _ _ (rawN_ok9 h)
structure OrF (l : List Int) (k : Nat) : Prop where
  len : l.length = k
  rng : ∀ c, c < l.length → ∃ j : Nat, l.getD c 0 = (j : Int) ∧ j < k
  all : ∀ j, j < k → ∃ c, c < l.length ∧ l.getD c 0 = (j : Int)
theorem or_f (zs : List Int) (n : Int) (k : Nat) : OrF (orV zs n (k : Int)).1 k := by
  unfold orV
  rw [Int.toNat_natCast]
  have h1 := or_mem zs k 0 n []
  have h2 := or_len zs k 0 n []
  generalize (orGo zs k 0 n []).1 = l at h1 h2
  refine ⟨by simpa using h2, fun c hc => ?_, fun j hj => ?_⟩
  · have h3 := (h1 (l.getD c 0)).1 (by
      rw [List.getD_eq_getElem?_getD, List.getElem?_eq_getElem hc]
      exact List.getElem_mem hc)
    rcases h3 with h3 | h3
    · cases h3
    · exact ⟨(l.getD c 0).toNat, by omega, by omega⟩
  · obtain ⟨c, hc, he⟩ := List.getElem_of_mem ((h1 (j : Int)).2 (.inr (by omega)))
    exact ⟨c, hc, by rw [List.getD_eq_getElem?_getD, List.getElem?_eq_getElem hc]; exact he⟩

/-! Properties that are there. -/
/-- The tree with some properties only. -/
def flN (ns : List Nd) (S : Nat → ByteArray → Bool) : List Nd := ns.mapIdx fun j n => (n.1, n.2.1, n.2.2.filter fun p => S j p.1)
theorem fl_len (ns : List Nd) (S : Nat → ByteArray → Bool) : (flN ns S).length = ns.length := by unfold flN; rw [List.length_mapIdx]
theorem fl_at {ns : List Nd} (S : Nat → ByteArray → Bool) {i : Nat} (hi : i < ns.length) : ndAt (flN ns S) i = ((ndAt ns i).1, (ndAt ns i).2.1, (ndAt ns i).2.2.filter fun p => S i p.1) := by
  have e : ndAt ns i = ns[i] := nd_at' hi
  rw [e, nd_at' (by rw [fl_len]; exact hi)]
  unfold flN
  rw [List.getElem_mapIdx]
theorem fl_sm (ns : List Nd) (S : Nat → ByteArray → Bool) : Sm ns (flN ns S) := by
  refine ⟨fl_len ns S, fun i => ?_, fun i => ?_⟩
  all_goals
    by_cases hi : i < ns.length
    · rw [fl_at S hi]
    · have h1 : ndAt (flN ns S) i = ndC.dflt := by
        unfold ndAt
        rw [List.getD_eq_getElem?_getD, List.getElem?_eq_none (by rw [fl_len]; omega)]
        rfl
      have h2 : ndAt ns i = ndC.dflt := by
        unfold ndAt
        rw [List.getD_eq_getElem?_getD, List.getElem?_eq_none (by omega)]
        rfl
      rw [h1, h2]
theorem fl_vl {ns : List Nd} (hv : Vl ns) (S : Nat → ByteArray → Bool) : Vl (flN ns S) := by
  refine vl_sm hv (fl_sm ns S) ?_ fun i hi => ?_
  · have hl := hv.f.lim
    unfold limV at hl ⊢
    rw [fl_len]
    simp only [Bool.and_eq_true, List.all_eq_true] at hl ⊢
    refine ⟨hl.1, fun n hn => ?_⟩
    obtain ⟨i, hi, rfl⟩ := List.getElem_of_mem hn
    rw [← nd_at' hi]
    rw [fl_len] at hi
    rw [fl_at S hi]
    obtain ⟨h1, h2⟩ := lim_ps hv hi
    unfold ndLim
    simp only [Bool.and_eq_true, decide_eq_true_eq, List.all_eq_true]
    exact ⟨Nat.le_trans (List.length_filter_le ..) h1, fun q hq => (h2 q ((List.mem_filter.1 hq).1)).2⟩
  · rw [fl_at S hi]
    obtain ⟨h1, h2⟩ := lim_ps hv hi
    exact ⟨List.all_eq_true.2 fun q hq => (h2 q ((List.mem_filter.1 hq).1)).1, ((asc_iff _).1 (hv.asc i hi)).filter _⟩
/-- One property more. -/
def flS (S : Nat → ByteArray → Bool) (k : Nat) (s : ByteArray) : Nat → ByteArray → Bool := fun j t => S j t || (decide (j = k) && decide (t = s))
theorem fl_st {ns : List Nd} (hv : Vl ns) {k : Nat} (hk : k < ns.length) (S : Nat → ByteArray → Bool) {p : Pt} (hp : p ∈ (ndAt ns k).2.2) : SetV (flN ns S, pathV ns k, p) = (flN ns (flS S k p.1), 0) := by
  have hvl := fl_vl hv S
  have hkl : k < (flN ns S).length := by rw [fl_len]; exact hk
  have hasc := (asc_iff _).1 (hv.asc k hk)
  obtain ⟨hlen, hmem⟩ := lim_ps hv hk
  obtain ⟨s, o⟩ := p
  obtain ⟨A, B, hAB, hA, hc⟩ := pt_cases hasc s
  have hat := fl_at S hk
  have hhd : ∀ (r : List Pt), (∀ q r', r = q :: r' → bLt q.1 s = false ∧ ¬ q.1 = s) → Asc r → ∀ q ∈ r, bLt q.1 s = false ∧ ¬ q.1 = s := by
    intro r h1 h2 q hq
    cases r with
    | nil => cases hq
    | cons a r =>
      have h3 := h1 a r rfl
      rcases List.mem_cons.1 hq with h4 | h4
      · rw [h4]; exact h3
      · have h5 := (List.pairwise_cons.1 h2).1 q h4
        have h6 : bLt s q.1 = true := by
          rcases bs_total a.1.toList s.toList with h7 | h7 | h7
          · have h8 : bLt a.1 s = true := h7
            rw [h3.1] at h8
            cases h8
          · exact absurd (ba_ext h7) h3.2
          · exact bLt_trans h7 h5
        refine ⟨?_, fun h7 => ?_⟩
        · cases h7 : bLt q.1 s with
          | false => rfl
          | true =>
            have h8 := bLt_trans h6 h7
            rw [bLt_irrefl] at h8
            cases h8
        · rw [h7, bLt_irrefl] at h6
          cases h6
  rw [hAB] at hasc
  obtain ⟨g1, g2, g3⟩ := List.pairwise_append.1 hasc
  rcases hc with hB | ⟨o', r, rfl, hr⟩
  · exfalso
    rw [hAB] at hp
    rcases List.mem_append.1 hp with h | h
    · have h1 := hA _ h
      rw [bLt_irrefl] at h1
      cases h1
    · exact (hhd B hB g2 _ h).2 rfl
  have hrr := hhd r hr (List.pairwise_cons.1 g2).2
  have hoo : o' = o := by
    rw [hAB] at hp
    rcases List.mem_append.1 hp with h | h
    · have h1 := hA _ h
      rw [bLt_irrefl] at h1
      cases h1
    · rcases List.mem_cons.1 h with h | h
      · exact (Prod.mk.inj h).2.symm
      · exact absurd rfl (hrr _ h).2
  subst hoo
  have ne1 : ∀ q ∈ A, ¬ q.1 = s := fun q hq h => by
    have h1 := hA q hq
    rw [h, bLt_irrefl] at h1
    cases h1
  have hfA : A.filter (fun p => flS S k s k p.1) = A.filter fun p => S k p.1 := List.filter_congr fun q hq => by
    unfold flS
    rw [decide_eq_false (ne1 q hq), Bool.and_false, Bool.or_false]
  have hfr : r.filter (fun p => flS S k s k p.1) = r.filter fun p => S k p.1 := List.filter_congr fun q hq => by
    unfold flS
    rw [decide_eq_false (hrr q hq).2, Bool.and_false, Bool.or_false]
  have hself : flS S k s k s = true := by
    unfold flS
    rw [decide_eq_true rfl, decide_eq_true rfl, Bool.and_self, Bool.or_true]
  have hF : (ndAt ns k).2.2.filter (fun p => flS S k s k p.1) = A.filter (fun p => S k p.1) ++ (s, o') :: r.filter fun p => S k p.1 := by
    rw [hAB, List.filter_append, List.filter_cons, if_pos hself, hfA, hfr]
  have hA2 : ∀ q ∈ A.filter (fun p => S k p.1), bLt q.1 s = true := fun q hq => hA q (List.mem_filter.1 hq).1
  have hr2 : ∀ q r', r.filter (fun p => S k p.1) = q :: r' → bLt q.1 s = false ∧ ¬ q.1 = s := fun q r' h => hrr q (List.mem_filter.1 (h ▸ List.mem_cons_self ..)).1
  have hpl : (ndAt (flN ns S) k).2.2 = A.filter (fun p => S k p.1) ++ (if S k s = true then [(s, o')] else []) ++ r.filter fun p => S k p.1 := by
    rw [hat]
    show (ndAt ns k).2.2.filter _ = _
    rw [hAB, List.filter_append, List.filter_cons]
    split
    · rw [List.append_assoc]
      rfl
    · rw [List.append_nil]
  have hst : stP (ndAt (flN ns S) k).2.2 (s, o') = (ndAt ns k).2.2.filter (fun p => flS S k s k p.1) := by
    rw [hpl, hF]
    split
    · rw [List.append_assoc]
      exact st_at hA2
    · rw [List.append_nil]
      exact st_no hA2 hr2
  have hprp : prpB s = true := (hmem (s, o') hp).1
  have hE : stE (ndAt (flN ns S) k).2.2 (s, o') = 0 := by
    have ho := (hmem (s, o') hp).2
    unfold ptLim at ho
    have ho : o'.size ≤ 256 := of_decide_eq_true ho
    unfold stE
    dsimp only
    rw [if_neg (ne_f hprp), hpl]
    have h1 : (A.filter (fun p => S k p.1)).length ≤ A.length := List.length_filter_le ..
    have h2 : (r.filter (fun p => S k p.1)).length ≤ r.length := List.length_filter_le ..
    rw [hAB, List.length_append, List.length_cons] at hlen
    split
    · rw [List.append_assoc, show ([(s, o')] ++ r.filter fun p => S k p.1) = (s, o') :: r.filter fun p => S k p.1 from rfl, fnd_at hA2, if_neg]
      simp
      omega
    · rw [List.append_nil, fnd_no hA2 hr2, if_neg]
      rw [List.length_append]
      simp
      omega
  have hpath : pathV (flN ns S) k = pathV ns k := (fl_sm ns S).path k
  have hf := fnd_path hvl hkl
  rw [hpath] at hf
  unfold SetV
  dsimp only
  rw [if_pos (chk_vld.2 hvl.vld), hf, if_pos rfl]
  dsimp only
  rw [Int.toNat_natCast, if_pos hE]
  refine Prod.ext ?_ rfl
  show stN (flN ns S) k (s, o') = flN ns (flS S k s)
  unfold stN
  rw [hst]
  refine List.ext_getElem (by rw [List.length_set, fl_len, fl_len]) fun i h1 h2 => ?_
  rw [fl_len] at h2
  rw [List.getElem_set]
  by_cases hi : k = i
  · subst hi
    rw [if_pos rfl, ← nd_at', fl_at (flS S k s) hk, hat]
  · rw [if_neg hi, ← nd_at', ← nd_at', fl_at _ h2, fl_at _ h2]
    have : (flS S k s i) = S i := funext fun t => by
      unfold flS
      rw [decide_eq_false (fun h => hi h.symm), Bool.false_and, Bool.or_false]
    rw [this]
theorem fl_all {ns : List Nd} {S : Nat → ByteArray → Bool} (h : ∀ i, i < ns.length → ∀ p ∈ (ndAt ns i).2.2, S i p.1 = true) : flN ns S = ns := by
  refine List.ext_getElem (fl_len ns S) fun i h1 h2 => ?_
  rw [← nd_at', fl_at S h2, List.filter_eq_self.2 (h i h2), nd_at' h2]
end Go.Ab
