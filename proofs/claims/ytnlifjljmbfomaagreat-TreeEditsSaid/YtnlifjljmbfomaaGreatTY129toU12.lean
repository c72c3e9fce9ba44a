/- Delete, and Set of what was there before, undo Set. -/
import Derived.Test.YtnlifjljmbfomaaGreatTY112toY128
import Derived.Test.YtnlifjljmbfomaaGreatTY99toY107
import Derived.Test.YtnlifjljmbfomaaGreatTX0toY61
import Derived.Test.YtnlifjljmbfomaaGreatTY64toU6
namespace Go.Ab
open Go.Proofs
set_option linter.unusedSectionVars false
set_option maxRecDepth 100000
variable [Base]
theorem lim_ps {ns : List Nd} (hv : Vl ns) {k : Nat} (hk : k < ns.length) : (ndAt ns k).2.2.length ≤ 24 ∧ ∀ q ∈ (ndAt ns k).2.2, ptFrm q = true ∧ ptLim q = true := by
 have hl := hv.f.lim
 unfold limV at hl
 simp only [Bool.and_eq_true, List.all_eq_true] at hl
 have h5 := hl.2 (ndAt ns k) (by rw [nd_at' hk]; exact List.getElem_mem hk)
 unfold ndLim at h5
 simp only [Bool.and_eq_true, decide_eq_true_eq, List.all_eq_true] at h5
 exact ⟨h5.1, fun q hq => ⟨List.all_eq_true.1 (frm_ps hv.f.frm hk) q hq, h5.2 q hq⟩⟩
structure UndoF (ns : List Nd) (k : Nat) (s v : ByteArray) : Prop where
 vl : Vl (stN ns k (s, v))
 fnd : FindV (stN ns k (s, v), pathV ns k) = ((k : Int), true)
 val : ValV (stN ns k (s, v), (k : Int), s) = (v, true)
 del : ∃ z, DelV (stN ns k (s, v), pathV ns k, s) = (z, 0) ∧ ((ValV (ns, (k : Int), s) = (⟨#[]⟩, false) ∧ z = ns) ∨ ∃ o, ValV (ns, (k : Int), s) = (o, true) ∧ SetV (z, pathV ns k, s, o) = (ns, 0))
def daP2 : List AV → Option (List Pt × List Pt)
 | [.c (.p (.l c0 ps)), .c (.p (.l c1 qs))] => match castD (e := ptC) (e' := c0) ps, castD (e := ptC) (e' := c1) qs with | some ps, some qs => some (ps, qs) | _, _ => none
 | _ => none
def eaP2 (a : List Pt × List Pt) : List AV := [.c (.p (.l ptC a.1)), .c (.p (.l ptC a.2))]
def eqPB (a : List Pt × List Pt) : Bool := decide (@Eq (List Pt) a.1 a.2)
def N1 : Table := ext L4 67 (saysG daP2 eaP2 fun a => (some (a.1.length ≤ 1000000000), .bool (eqPB a)))
theorem n1 : TS9 N1 := by
 refine extG l4 67 (fn := Tryz.f67) rfl rfl daP2 eaP2 _ (fun _ => nB9 rfl) [0, 1, 4, 5, 10, 12, 13, 14, 24] fun a hok => ?_
 obtain ⟨ps, qs⟩ := a
 have hl : ps.length ≤ 1000000000 := hok
 show runF _ _ _ [] [.c (.p (.l ptC ps)), .c (.p (.l ptC qs))] [] fun r H => Ends r H (.bool (eqPB (ps, qs))) []
 repeat ((conv => whnf); refine ⟨by first | (unfold inI64; omega) | omega | exact ⟨by omega, by omega⟩ | (intro hg; first | (unfold inI64; omega) | omega | exact ⟨by omega, by omega⟩ | (simp [lit] at hg; unfold inI64; omega) | (simp [lit] at hg; omega) | (simp [lit] at hg; exact ⟨by omega, by omega⟩)) | (show (_ : Nat) + 1 ≤ 1000000000000; omega) | exact rfl | (unfold inI64; dsimp only; omega) | (dsimp only; omega) | (intro hg; simp [lit] at hg; first | (unfold inI64; dsimp only; omega) | (dsimp only; omega)) | decide +kernel, ?_⟩)
 conv => whnf
 refine cI9 ?_ ?_<;>intro h
 ·have h1 : eqPB (ps, qs) = false := by
   unfold eqPB
   refine dF9 fun hx => ?_
   have hx : ps = qs := hx
   subst hx
   have h2 : (!decide (((ps.length : Nat) : Int) = (ps.length : Nat))) = true := h
   simp at h2
  rw [h1]
  repeat ((conv => whnf); refine ⟨by first | (unfold inI64; omega) | omega | exact ⟨by omega, by omega⟩ | exact rfl | decide +kernel, ?_⟩)
  conv => whnf
  exact eR9
 have h3 : ps.length = qs.length := by
  have h : (!decide (((ps.length : Nat) : Int) = (qs.length : Nat))) = false := h
  simp at h
  omega
 have eqg : eqGood Tryz.prog 76 := ⟨by decide +kernel, by decide +kernel⟩
 conv => whnf
 refine lI9 (σ := Nat) (fun i => [(0, XV.s (.a (.c (.p (.l ptC ps))))), (1, XV.s (.a (.c (.p (.l ptC qs))))), (4, nX9), (5, nX9), (10, nX9), (12, XV.s (.int .i64 (ps.length : Nat))), (13, XV.s (.int .i64 (i : Nat))), (14, nX9), (24, nX9)])
  (fun _ => []) (fun i => i ≤ ps.length ∧ ∀ j, j < i → ps.getD j ptC.dflt = qs.getD j ptC.dflt) (fun i => ps.length - i) 0 ?_ rfl ⟨nZ9 _, fun j hj => absurd hj (nN9 j)⟩ (fun i hi => ?_)
 ·repeat first|exact lN9|refine lD9 ?_|refine lS9 ?_
 obtain ⟨hi, hall⟩ := hi
 conv => whnf
 refine cI9 ?_ ?_<;>intro h4
 ·have h5 : i < ps.length := lt_of_dec h4
  have hin : 0 ≤ (i : Int) ∧ (i : Int) < (ps.length : Nat) := by omega
  have hin2 : 0 ≤ (i : Int) ∧ (i : Int) < (qs.length : Nat) := by omega
  repeat ((conv => whnf); refine ⟨by first | exact hin | exact hin2 | exact eqg | exact fun _ => eqg | ((conv => whnf); exact ⟨⟨rfl, rfl, rfl⟩, trivial⟩) | exact Early.one (by decide +kernel) (by (conv => whnf); exact ⟨rfl, rfl, rfl⟩) trivial | (unfold inI64; omega) | omega | exact ⟨by omega, by omega⟩ | exact rfl | decide +kernel, ?_⟩)
  conv => whnf
  refine cI9 ?_ ?_<;>intro h6
  ·have h9 : eqPB (ps, qs) = false := by
    unfold eqPB
    refine dF9 fun hx => ?_
    have hx : ps = qs := hx
    subst hx
    have h8 : (!(decide ((ps.getD ((i : Int)).toNat ptC.dflt).1 = (ps.getD ((i : Int)).toNat ptC.dflt).1) && decide ((ps.getD ((i : Int)).toNat ptC.dflt).2 = (ps.getD ((i : Int)).toNat ptC.dflt).2))) = false := by simp
    exact Bool.noConfusion (h8.symm.trans h6)
   rw [h9]
   repeat ((conv => whnf); refine ⟨by first | (unfold inI64; omega) | omega | exact ⟨by omega, by omega⟩ | exact rfl | decide +kernel, ?_⟩)
   conv => whnf
   exact eR9
  have h7 : ps.getD i ptC.dflt = qs.getD i ptC.dflt := by
   have h8 : (!(decide ((ps.getD ((i : Int)).toNat ptC.dflt).1 = (qs.getD ((i : Int)).toNat ptC.dflt).1) && decide ((ps.getD ((i : Int)).toNat ptC.dflt).2 = (qs.getD ((i : Int)).toNat ptC.dflt).2))) = false := h6
   rw [Int.toNat_natCast] at h8
   simp at h8
   exact Prod.ext h8.1 h8.2
  repeat ((conv => whnf); refine ⟨by first | (unfold inI64; omega) | omega | exact ⟨by omega, by omega⟩ | exact rfl | decide +kernel, ?_⟩)
  conv => whnf
  refine hI9 (i + 1) ?_ rfl ⟨h5, fun j hj => ?_⟩ ?_
  ·repeat first|exact lN9|refine lD9 ?_|refine lS9 ?_
  ·by_cases hji : j = i
   ·rw [hji]; exact h7
   ·exact hall j (by omega)
  ·omega
 ·have hge := ge_of_dec h4
  obtain rfl : i = ps.length := by omega
  have h9 : eqPB (ps, qs) = true := by
   unfold eqPB
   exact dT9 (eq_prefix (α := Pt) _ h3 hall)
  rw [h9]
  repeat ((conv => whnf); refine ⟨by first | (unfold inI64; omega) | omega | exact ⟨by omega, by omega⟩ | exact rfl | decide +kernel, ?_⟩)
  conv => whnf
  exact eR9
def N2 : Table := ext N1 66 (saysG daNN eaNN fun a => (some (a.1.2.2.length ≤ 1000000000), .bool (decide (a.1.1 = a.2.1) && decide (a.1.2.1 = a.2.2.1) && eqPB (a.1.2.2, a.2.2.2))))
theorem n2 : TS9 N2 := by
 refine extG n1 66 (fn := Tryz.f66) rfl rfl daNN eaNN _ (fun _ => nB9 rfl) [0, 1, 2, 3, 4] fun a hok => ?_
 obtain ⟨⟨a, s, ps⟩, b, t, qs⟩ := a
 have hl : ps.length ≤ 1000000000 := hok
 show runF _ _ _ [] [.agg [.int .i64 a, .str s, .p (.l ptC ps)], .agg [.int .i64 b, .str t, .p (.l ptC qs)]] [] fun r H => Ends r H (.bool (decide (a = b) && decide (s = t) && eqPB (ps, qs))) []
 repeat ((conv => whnf); refine ⟨by first | exact fun _ => ⟨rfl, hl⟩ | (unfold inI64; omega) | omega | exact ⟨by omega, by omega⟩ | (intro hg; first | (unfold inI64; omega) | omega | exact ⟨by omega, by omega⟩ | (simp [lit] at hg; unfold inI64; omega) | (simp [lit] at hg; omega) | (simp [lit] at hg; exact ⟨by omega, by omega⟩)) | (show (_ : Nat) + 1 ≤ 1000000000000; omega) | exact rfl | (unfold inI64; dsimp only; omega) | (dsimp only; omega) | (intro hg; simp [lit] at hg; first | (unfold inI64; dsimp only; omega) | (dsimp only; omega)) | decide +kernel, ?_⟩)
 conv => whnf
 exact eR9
def daNNF : List AV → Option (List Nd × List Nd)
 | [.c (.p (.l c0 ns)), .c (.p (.l c1 ms)), .c (.p (.v (.func _ _ _)))] => match castD (e := ndC) (e' := c0) ns, castD (e := ndC) (e' := c1) ms with | some ns, some ms => some (ns, ms) | _, _ => none
 | _ => none
def eaNNF (a : List Nd × List Nd) : List AV := [.c (.p (.l ndC a.1)), .c (.p (.l ndC a.2)), .c (.p (.v (.func (.func 66) #[] #[])))]
def N3 : Table := ext N2 65 (saysG daNNF eaNNF fun a => (some (TTOk a), .bool (eqTB a)))
theorem n3 : TS9 N3 := by
 refine extG n2 65 (fn := Tryz.f65) rfl rfl daNNF eaNNF _ (fun _ => nB9 rfl) [0, 1, 2, 6, 7, 8, 9, 14, 15, 16, 17, 18, 30] fun a hok => ?_
 obtain ⟨ns, ms⟩ := a
 obtain ⟨hl, hps⟩ : ns.length ≤ 1000000000 ∧ ∀ i, i < ns.length → (ndAt ns i).2.2.length ≤ 1000000000 := hok
 show runF _ _ _ [] [.c (.p (.l ndC ns)), .c (.p (.l ndC ms)), .c (.p (.v (.func (.func 66) #[] #[])))] [] fun r H => Ends r H (.bool (eqTB (ns, ms))) []
 repeat ((conv => whnf); refine ⟨by first | (unfold inI64; omega) | omega | exact ⟨by omega, by omega⟩ | (intro hg; first | (unfold inI64; omega) | omega | exact ⟨by omega, by omega⟩ | (simp [lit] at hg; unfold inI64; omega) | (simp [lit] at hg; omega) | (simp [lit] at hg; exact ⟨by omega, by omega⟩)) | (show (_ : Nat) + 1 ≤ 1000000000000; omega) | exact rfl | (unfold inI64; dsimp only; omega) | (dsimp only; omega) | (intro hg; simp [lit] at hg; first | (unfold inI64; dsimp only; omega) | (dsimp only; omega)) | decide +kernel, ?_⟩)
 conv => whnf
 refine cI9 ?_ ?_<;>intro h
 ·have h1 : eqTB (ns, ms) = false := by
   unfold eqTB
   refine dF9 fun hx => ?_
   have hx : ns = ms := hx
   subst hx
   have h2 : (!decide (((ns.length : Nat) : Int) = (ns.length : Nat))) = true := h
   simp at h2
  rw [h1]
  repeat ((conv => whnf); refine ⟨by first | (unfold inI64; omega) | omega | exact ⟨by omega, by omega⟩ | exact rfl | decide +kernel, ?_⟩)
  conv => whnf
  exact eR9
 have h3 : ns.length = ms.length := by
  have h : (!decide (((ns.length : Nat) : Int) = (ms.length : Nat))) = false := h
  simp at h
  omega
 conv => whnf
 refine lI9 (σ := Nat) (fun i => [(0, XV.s (.a (.c (.p (.l ndC ns))))), (1, XV.s (.a (.c (.p (.l ndC ms))))), (2, XV.s (.a (.c (.p (.v (.func (.func 66) #[] #[])))))), (6, nX9), (7, nX9), (8, nX9), (9, nX9), (14, nX9), (15, XV.s (.a (.c (.p (.l ndC ns))))), (16, XV.s (.int .i64 (ns.length : Nat))), (17, XV.s (.int .i64 (i : Nat))), (18, nX9), (30, nX9)])
  (fun _ => []) (fun i => i ≤ ns.length ∧ ∀ j, j < i → ns.getD j ndC.dflt = ms.getD j ndC.dflt) (fun i => ns.length - i) 0 ?_ rfl ⟨nZ9 _, fun j hj => absurd hj (nN9 j)⟩ (fun i hi => ?_)
 ·repeat first|exact lN9|refine lD9 ?_|refine lS9 ?_
 obtain ⟨hi, hall⟩ := hi
 conv => whnf
 refine cI9 ?_ ?_<;>intro h4
 ·have h5 : i < ns.length := lt_of_dec h4
  have hin : 0 ≤ (i : Int) ∧ (i : Int) < (ns.length : Nat) := by omega
  have hin2 : 0 ≤ (i : Int) ∧ (i : Int) < (ms.length : Nat) := by omega
  have hpi := hps i h5
  repeat ((conv => whnf); refine ⟨by first | exact hin | exact hin2 | exact ⟨rfl, hpi⟩ | (unfold inI64; omega) | omega | exact ⟨by omega, by omega⟩ | (intro hg; first | (unfold inI64; omega) | omega | exact ⟨by omega, by omega⟩ | (simp [lit] at hg; unfold inI64; omega) | (simp [lit] at hg; omega) | (simp [lit] at hg; exact ⟨by omega, by omega⟩)) | (show (_ : Nat) + 1 ≤ 1000000000000; omega) | exact rfl | (unfold inI64; dsimp only; omega) | (dsimp only; omega) | (intro hg; simp [lit] at hg; first | (unfold inI64; dsimp only; omega) | (dsimp only; omega)) | decide +kernel, ?_⟩)
  conv => whnf
  refine cI9 ?_ ?_<;>intro h6
  ·have h7 : eqTB (ns, ms) = false := by
    unfold eqTB
    refine dF9 fun hx => ?_
    have hx : ns = ms := hx
    subst hx
    have h8 : (!samN (ndAt ns i, ndAt ns i)) = false := by rw [sam_eq.2 rfl]; rfl
    exact Bool.noConfusion (h8.symm.trans h6)
   rw [h7]
   repeat ((conv => whnf); refine ⟨by first | (unfold inI64; omega) | omega | exact ⟨by omega, by omega⟩ | exact rfl | decide +kernel, ?_⟩)
   conv => whnf
   exact eR9
  have h7 : ns.getD i ndC.dflt = ms.getD i ndC.dflt := by
   have h8 : (!samN (ndAt ns i, ndAt ms i)) = false := h6
   refine sam_eq.1 (show samN (ndAt ns i, ndAt ms i) = true from ?_)
   cases h9 : samN (ndAt ns i, ndAt ms i) with
   | true => rfl
   | false => rw [h9] at h8; cases h8
  repeat ((conv => whnf); refine ⟨by first | (unfold inI64; omega) | omega | exact ⟨by omega, by omega⟩ | exact rfl | decide +kernel, ?_⟩)
  conv => whnf
  refine kI9 (i + 1) [] rfl (nK9) rfl ?_ ⟨h5, fun j hj => ?_⟩ (show ns.length - (i + 1) < ns.length - i by omega)
  ·repeat first|exact kN9|refine kD9 ?_|refine kR9 rfl ?_
  ·by_cases hji : j = i
   ·rw [hji]; exact h7
   ·exact hall j (by omega)
 ·have hge := ge_of_dec h4
  obtain rfl : i = ns.length := by omega
  have h9 : eqTB (ns, ms) = true := by
   unfold eqTB
   exact dT9 (eq_prefix (α := Nd) _ h3 hall)
  rw [h9]
  repeat ((conv => whnf); refine ⟨by first | (unfold inI64; omega) | omega | exact ⟨by omega, by omega⟩ | exact rfl | decide +kernel, ?_⟩)
  conv => whnf
  exact eR9
def N4 : Table := ext N3 15 (saysG daTT eaTT fun a => (some (TTOk a), .bool (eqTB a)))
theorem n4 : TS9 N4 := by
 refine extG n3 15 (fn := Tryz.f15) rfl rfl daTT eaTT _ (fun _ => nB9 rfl) [0, 1, 2, 3, 4] fun a hok => ?_
 obtain ⟨ns, ms⟩ := a
 have hok : TTOk (ns, ms) := hok
 show runF _ _ _ [] [.agg [.p (.l ndC ns)], .agg [.p (.l ndC ms)]] [] fun r H => Ends r H (.bool (eqTB (ns, ms))) []
 repeat ((conv => whnf); refine ⟨by first | exact ⟨rfl, hok⟩ | (unfold inI64; omega) | omega | exact ⟨by omega, by omega⟩ | (intro hg; first | (unfold inI64; omega) | omega | exact ⟨by omega, by omega⟩ | (simp [lit] at hg; unfold inI64; omega) | (simp [lit] at hg; omega) | (simp [lit] at hg; exact ⟨by omega, by omega⟩)) | (show (_ : Nat) + 1 ≤ 1000000000000; omega) | exact rfl | (unfold inI64; dsimp only; omega) | (dsimp only; omega) | (intro hg; simp [lit] at hg; first | (unfold inI64; dsimp only; omega) | (dsimp only; omega)) | decide +kernel, ?_⟩)
 conv => whnf
 exact eR9
def rFindV (a : List Nd × ByteArray) : Int × Bool := if rchk a.1 = 0 then ((if rfV a.1 a.2 < 0 then 0 else rfV a.1 a.2), decide (0 ≤ rfV a.1 a.2)) else (0, false)
def N5 : Table := ext N4 28 (saysG daTS eaTS fun a => (none, fndR (rFindV a)))
theorem n5 : TS9 N5 := by
 refine extG n4 28 (fn := Tryz.f28) rfl rfl daTS eaTS _ (fun _ => nB9 rfl) [0, 1, 2, 4, 5, 6, 9] fun a _ => ?_
 obtain ⟨ns, s⟩ := a
 show runF _ _ _ [] [.agg [.p (.l ndC ns)], .c (.str s)] [] fun r H => Ends r H (fndR (rFindV (ns, s))) []
 unfold rFindV
 dsimp only
 repeat ((conv => whnf); refine ⟨by first | exact ⟨rfl, trivial⟩ | (unfold inI64; omega) | omega | exact ⟨by omega, by omega⟩ | (intro hg; first | (unfold inI64; omega) | omega | exact ⟨by omega, by omega⟩ | (simp [lit] at hg; unfold inI64; omega) | (simp [lit] at hg; omega) | (simp [lit] at hg; exact ⟨by omega, by omega⟩)) | (show (_ : Nat) + 1 ≤ 1000000000000; omega) | exact rfl | (unfold inI64; dsimp only; omega) | (dsimp only; omega) | (intro hg; simp [lit] at hg; first | (unfold inI64; dsimp only; omega) | (dsimp only; omega)) | decide +kernel, ?_⟩)
 conv => whnf
 refine cI9 ?_ ?_<;>intro h
 ·have h1 : ¬ rchk ns = 0 := by
   have h2 : (!decide (rchk ns = 0)) = true := h
   simpa using h2
  rw [if_neg h1]
  repeat ((conv => whnf); refine ⟨by first | (unfold inI64; omega) | omega | exact ⟨by omega, by omega⟩ | exact rfl | decide +kernel, ?_⟩)
  conv => whnf
  exact eR9
 have h1 : rchk ns = 0 := by
  have h2 : (!decide (rchk ns = 0)) = false := h
  simpa using h2
 rw [if_pos h1]
 have hf := rchk_frm h1
 repeat ((conv => whnf); refine ⟨by first | exact ⟨rfl, hf⟩ | (unfold inI64; omega) | omega | exact ⟨by omega, by omega⟩ | (intro hg; first | (unfold inI64; omega) | omega | exact ⟨by omega, by omega⟩ | (simp [lit] at hg; unfold inI64; omega) | (simp [lit] at hg; omega) | (simp [lit] at hg; exact ⟨by omega, by omega⟩)) | (show (_ : Nat) + 1 ≤ 1000000000000; omega) | exact rfl | (unfold inI64; dsimp only; omega) | (dsimp only; omega) | (intro hg; simp [lit] at hg; first | (unfold inI64; dsimp only; omega) | (dsimp only; omega)) | decide +kernel, ?_⟩)
 conv => whnf
 exact eR9
def FrzL : Env → Env → Prop
 | [], [] => True
 | (t, x) :: r, (u, y) :: q => t = u ∧ (x = .s .none ∨ x = y ∨ (∃ c zs, x = .s (.a (.c (.p (.l c zs)))) ∧ ∃ j, y = .s (.a (.c (.own j c zs)))) ∨ ∃ c, x = .s (.a (.c (.p (.l c [])))) ∧ y = .s (.v (.slice none 0 0))) ∧ FrzL r q
 | _, _ => False
theorem FrzL.nil : FrzL [] [] := trivial
theorem FrzL.drop {t : Nat} {y : XV} {r q : Env} (h : FrzL r q) : FrzL ((t, .s .none) :: r) ((t, y) :: q) := ⟨rfl, .inl rfl, h⟩
theorem FrzL.same {t : Nat} {x : XV} {r q : Env} (h : FrzL r q) : FrzL ((t, x) :: r) ((t, x) :: q) := ⟨rfl, .inr (.inl rfl), h⟩
theorem FrzL.own {t j : Nat} {c : CT} {zs : List c.den} {r q : Env} (h : FrzL r q) : FrzL ((t, .s (.a (.c (.p (.l c zs))))) :: r) ((t, .s (.a (.c (.own j c zs)))) :: q) := ⟨rfl, .inr (.inr (.inl ⟨c, zs, rfl, j, rfl⟩)), h⟩
theorem FrzL.no {t : Nat} {c : CT} {r q : Env} (h : FrzL r q) : FrzL ((t, .s (.a (.c (.p (.l c []))))) :: r) ((t, .s (.v (.slice none 0 0))) :: q) := ⟨rfl, .inr (.inr (.inr ⟨c, rfl, rfl⟩)), h⟩
theorem FrzL.get : ∀ {e e' : Env}, FrzL e e' → ∀ t, e.get t = .s .none ∨ e.get t = e'.get t ∨ (∃ c zs, e.get t = .s (.a (.c (.p (.l c zs)))) ∧ ∃ j, e'.get t = .s (.a (.c (.own j c zs)))) ∨ ∃ c, e.get t = .s (.a (.c (.p (.l c [])))) ∧ e'.get t = .s (.v (.slice none 0 0))
 | [], [], _, _ => .inr (.inl rfl)
 | (a, x) :: r, (b, y) :: q, h, t => by
  obtain ⟨rfl, h2, h3⟩ := h
  rw [Env.get_cons, Env.get_cons]
  by_cases he : a = t
  ·rw [if_pos he, if_pos he]; exact h2
  ·rw [if_neg he, if_neg he]; exact FrzL.get h3 t
 | [], _ :: _, h, _ => h.elim
 | _ :: _, [], h, _ => h.elim
abbrev N6 : Table := N5
theorem n6 : TS9 N6 := n5
end Go.Ab
namespace Go.Ab
open Go.Proofs Go.Shelf Go.RowKit Go.Lib
set_option linter.unusedSectionVars false
variable [Base]
theorem frzG {G : View} (hS : Sim G) {id : Nat} {t : TypeId} {c : CT} {zs zs' : List c.den} {i k ver : Nat} {x : AC} (ho : G.H[id]? = some (.gvec t c zs i k x ver)) (hz : holeFix c zs i k x = some zs') :
  ∃ G', G'.w = G.w ∧ Ext G G' ∧ Sim G' ∧ G'.H = G.H.set id .dead ∧ ∀ v, RepC G (.gs id ver zs.length) v → Rep G'.I G'.w (.list c) zs' [v] := by
 obtain ⟨vs, rest, v1, hheap, hno, hi, hk, hx, hrows⟩ := hS.objs id _ ho trivial
 obtain ⟨hzl, hr2⟩ := hole_rows hz hrows hi hk hx
 have hlt : G.ρ id < G.w.heap.size := (Array.getElem?_eq_some_iff.1 hheap).1
 have hpl : i * c.width + k < vs.length := by
  have : (i + 1) * c.width ≤ zs.length * c.width := Nat.mul_le_mul_right _ hi
  rw [Nat.add_mul] at this
  rw [hrows.1]; omega
 rw [List.set_append_left _ _ hpl] at hheap
 generalize vs.set (i * c.width + k) v1 = cs at *
 have g : Upd G id (G.ρ id) (.gvec t c zs i k x ver) .dead (fun x => x < zs.length * c.width) G.w := ⟨ho, trivial, nR9 _, rfl, rfl, rfl, fun _ _ _ => rfl, .inr ⟨_, ho, trivial, rfl⟩, hlt, hno⟩
 have hE := Ext.upd hS g
 refine ⟨G.upd id (G.ρ id) .dead (fun x => x < zs.length * c.width) G.w, rfl, hE, Sim.upd hS g fun h => h.elim, rfl, fun v hv => ?_⟩
 obtain ⟨_, cap, cur, rfl, _, hcap, _⟩ := gs_live hv ho
 have := Rows.list (b := G.ρ id) (off := 0) (cap := cap) (hr2.mono hE.stays) (by rw [hzl]; exact hcap) fun m u hm => by
  have hml : m < cs.length := (List.getElem?_eq_some_iff.1 hm).1
  refine ⟨.inr ⟨rfl, by rw [hr2.1, hzl] at hml; omega⟩, ?_⟩
  show G.w.cell? _ = _
  simp [World.cell?, hheap]
  rw [List.getElem?_append_left hml]
  exact hm
 rw [hzl] at this
 exact this
theorem frzT {G : View} (hS : Sim G) {id : Nat} {t : TypeId} {c : CT} {zs : List c.den} {ver : Nat} (ho : G.H[id]? = some (.arr t c zs ver)) (hpos : 0 < zs.length) {len : Nat} (hlen : len ≤ zs.length) :
  ∃ G', G'.w = G.w ∧ Ext G G' ∧ Sim G' ∧ G'.H = G.H.set id .dead ∧ ∀ v, RepC G (.sl id c ver len) v → Rep G'.I G'.w (.list c) (zs.take len) [v] := by
 obtain ⟨vs, rest, hheap, hno, hrows⟩ := hS.objs id _ ho hpos
 have hlt : G.ρ id < G.w.heap.size := (Array.getElem?_eq_some_iff.1 hheap).1
 have g : Upd G id (G.ρ id) (.arr t c zs ver) .dead (fun x => x < zs.length * c.width) G.w := ⟨ho, trivial, nR9 _, rfl, rfl, rfl, fun _ _ _ => rfl, .inr ⟨_, ho, hpos, rfl⟩, hlt, hno⟩
 have hE := Ext.upd hS g
 refine ⟨G.upd id (G.ρ id) .dead (fun x => x < zs.length * c.width) G.w, rfl, hE, Sim.upd hS g fun h => h.elim, rfl, fun v hv => ?_⟩
 obtain ⟨_, hv⟩ := sl_live hv ho
 rcases hv with ⟨h0, _⟩ | ⟨_, cap, cur, rfl, hcur, hle, hmax, hsz⟩
 ·omega
 ·have hl : (zs.take len).length = len := by rw [List.length_take]; omega
  have := Rows.list (b := G.ρ id) (off := 0) (cap := cap) ((hrows.take hlen).mono hE.stays) (by rw [hl]; omega) fun k u hk => by
   have hk2 : vs[k]? = some u := by
    rw [List.getElem?_take] at hk
    split at hk
    ·exact hk
    ·cases hk
   have hkl : k < vs.length := (List.getElem?_eq_some_iff.1 hk2).1
   refine ⟨.inr ⟨rfl, by rw [← hrows.1]; omega⟩, ?_⟩
   show G.w.cell? _ = _
   simp [World.cell?, hheap]
   rw [List.getElem?_append_left hkl]
   exact hk2
  rw [hl] at this
  exact this
theorem frzGS {G : View} (hS : Sim G) {id : Nat} {t : TypeId} {c : CT} {zs zs' : List c.den} {i k ver id2 : Nat} {t2 : TypeId} {c2 : CT} {ps : List c2.den} {ver2 : Nat} (ho : G.H[id]? = some (.gvec t c zs i k (.sl id2 c2 ver2 ps.length) ver)) (ho2 : G.H[id2]? = some (.arr t2 c2 ps ver2)) (hpos : 0 < ps.length) (hz : holeFix c zs i k (.p (.l c2 ps)) = some zs') :
  ∃ G', G'.w = G.w ∧ Ext G G' ∧ Sim G' ∧ G'.H = (G.H.set id2 .dead).set id .dead ∧ ∀ v, RepC G (.gs id ver zs.length) v → Rep G'.I G'.w (.list c) zs' [v] := by
 obtain ⟨vs0, rest0, v0, hheap0, _, hi0, hk0, hx0, hrows0⟩ := hS.objs id _ ho trivial
 obtain ⟨G1, hw1, he1, hs1, hH1, hf1⟩ := frzT hS ho2 hpos (nR9 _)
 rw [List.take_length] at hf1
 have hne : ¬ id2 = id := fun h => by rw [h, ho] at ho2; cases ho2
 have ho1 : G1.H[id]? = some (.gvec t c zs i k (.sl id2 c2 ver2 ps.length) ver) := by rw [hH1, List.getElem?_set, if_neg hne]; exact ho
 have hρ : G1.ρ id = G.ρ id := by
  obtain ⟨o', h1, h2⟩ := he1.objs id _ ho
  rw [ho1] at h1
  cases h1
  exact (h2.2.2.2 rfl).2.1
 obtain ⟨vs, rest, v1, hheap, hno, hi, hk, _, hrows⟩ := hs1.objs id _ ho1 trivial
 have hp0 : i * c.width + k < (vs0 ++ rest0).length := by
  have : (i + 1) * c.width ≤ zs.length * c.width := Nat.mul_le_mul_right _ hi0
  rw [Nat.add_mul] at this
  rw [zP9, hrows0.1]; omega
 have hp1 : i * c.width + k < (vs ++ rest).length := by
  have : (i + 1) * c.width ≤ zs.length * c.width := Nat.mul_le_mul_right _ hi
  rw [Nat.add_mul] at this
  rw [zP9, hrows.1]; omega
 have hv : v1 = v0 := by
  rw [hw1, hρ, hheap0] at hheap
  have h1 : ((vs0 ++ rest0).set (i * c.width + k) v0) = ((vs ++ rest).set (i * c.width + k) v1) := by
   have h2 := Option.some.inj hheap
   injection h2 with h3
   exact congrArg Array.toList h3
  have h2 : ((vs0 ++ rest0).set (i * c.width + k) v0)[i * c.width + k]? = some v0 := by rw [List.getElem?_set, if_pos rfl, if_pos hp0]
  rw [h1, List.getElem?_set, if_pos rfl, if_pos hp1] at h2
  exact Option.some.inj h2
 have hx1 : RepC G1 (.p (.l c2 ps)) v1 := by rw [hv]; exact hf1 _ hx0
 obtain ⟨hzl, hr2⟩ := hole_rows hz hrows hi hk hx1
 have hlt : G1.ρ id < G1.w.heap.size := (Array.getElem?_eq_some_iff.1 hheap).1
 have hpl : i * c.width + k < vs.length := by
  have : (i + 1) * c.width ≤ zs.length * c.width := Nat.mul_le_mul_right _ hi
  rw [Nat.add_mul] at this
  rw [hrows.1]; omega
 rw [List.set_append_left _ _ hpl] at hheap
 generalize vs.set (i * c.width + k) v1 = cs at *
 have g : Upd G1 id (G1.ρ id) (.gvec t c zs i k (.sl id2 c2 ver2 ps.length) ver) .dead (fun x => x < zs.length * c.width) G1.w := ⟨ho1, trivial, nR9 _, rfl, rfl, rfl, fun _ _ _ => rfl, .inr ⟨_, ho1, trivial, rfl⟩, hlt, hno⟩
 have hE := Ext.upd hs1 g
 refine ⟨G1.upd id (G1.ρ id) .dead (fun x => x < zs.length * c.width) G1.w, hw1, he1.trans hE, Sim.upd hs1 g fun h => h.elim, by show G1.H.set id .dead = _; rw [hH1], fun v hv => ?_⟩
 obtain ⟨_, cap, cur, rfl, _, hcap, _⟩ := gs_live (RepC.mono he1 hv) ho1
 have := Rows.list (b := G1.ρ id) (off := 0) (cap := cap) (hr2.mono hE.stays) (by rw [hzl]; exact hcap) fun m u hm => by
  have hml : m < cs.length := (List.getElem?_eq_some_iff.1 hm).1
  refine ⟨.inr ⟨rfl, by rw [hr2.1, hzl] at hml; omega⟩, ?_⟩
  show G1.w.cell? _ = _
  simp [World.cell?, hheap]
  rw [List.getElem?_append_left hml]
  exact hm
 rw [hzl] at this
 exact this
def Frzbl (X : AC) (H : List AO) (c : CT) (zs' : List c.den) : Prop :=
 (∃ id t zs i k x ver, X = .gs id ver zs.length ∧ H[id]? = some (.gvec t c zs i k x ver) ∧ holeFix c zs i k x = some zs') ∨
 (∃ id t zs ver len, X = .sl id c ver len ∧ H[id]? = some (.arr t c zs ver) ∧ 0 < zs.length ∧ len ≤ zs.length ∧ zs' = zs.take len) ∨
 (X = .p (.v (.slice none 0 0)) ∧ zs' = []) ∨
 (∃ id t zs i k ver id2 t2 c2 ps ver2, X = .gs id ver zs.length ∧ H[id]? = some (.gvec t c zs i k (.sl id2 c2 ver2 ps.length) ver) ∧ H[id2]? = some (.arr t2 c2 ps ver2) ∧ 0 < ps.length ∧ holeFix c zs i k (.p (.l c2 ps)) = some zs')
theorem Frzbl.go {X : AC} {c : CT} {zs' : List c.den} {G : View} (hS : Sim G) {row : List AC} {rest : List AO} (hH : G.H = .row row :: rest) (h : Frzbl X (.row row :: rest) c zs') :
  ∃ G', G'.w = G.w ∧ Ext G G' ∧ Sim G' ∧ G'.H[0]? = some (.row row) ∧ ∀ v, RepC G X v → Rep G'.I G'.w (.list c) zs' [v] := by
 rcases h with ⟨id, t, zs, i, k, x, ver, rfl, ho, hz⟩ | ⟨id, t, zs, ver, len, rfl, ho, hp, hl, rfl⟩ | ⟨rfl, rfl⟩ | ⟨id, t, zs, i, k, ver, id2, t2, c2, ps, ver2, rfl, ho, ho2, hp, hz⟩
 ·have hne : ¬ id = 0 := fun h => by subst h; cases ho
  obtain ⟨G2, hw, hx, hs, hH2, hf⟩ := frzG hS (by rw [hH]; exact ho) hz
  exact ⟨G2, hw, hx, hs, by rw [hH2, hH, List.getElem?_set, if_neg hne]; rfl, hf⟩
 ·have hne : ¬ id = 0 := fun h => by subst h; cases ho
  obtain ⟨G2, hw, hx, hs, hH2, hf⟩ := frzT hS (by rw [hH]; exact ho) hp hl
  exact ⟨G2, hw, hx, hs, by rw [hH2, hH, List.getElem?_set, if_neg hne]; rfl, hf⟩
 ·exact ⟨G, rfl, Ext.refl G, hS, by rw [hH]; rfl, fun v hv => by
   obtain ⟨_, rfl⟩ := hv
   exact .inl ⟨rfl, rfl⟩⟩
 ·have hne : ¬ id = 0 := fun h => by subst h; cases ho
  have hne2 : ¬ id2 = 0 := fun h => by subst h; cases ho2
  obtain ⟨G2, hw, hx, hs, hH2, hf⟩ := frzGS hS (by rw [hH]; exact ho) (by rw [hH]; exact ho2) hp hz
  exact ⟨G2, hw, hx, hs, by rw [hH2, hH, List.getElem?_set, if_neg hne, List.getElem?_set, if_neg hne2]; rfl, hf⟩
theorem ext_rowT {P : Program} {T : Table} {f : FuncId} {s s' : Says} (h1 : TSound P (ext T f s)) (hT : TSound P T)
  (h : ∀ args H p r H', s' args H = some (p, r, H') → holdsO p → ∃ q row0 row rest X c zs', holdsO q ∧ H = [.row row0] ∧ s args H = some (q, .a (.agg [X]), .row row :: rest) ∧ (∀ y ∈ row, ∃ z, y = .p z) ∧ Frzbl X (.row row :: rest) c zs' ∧ r = .a (.agg [.p (.l c zs')]) ∧ H' = [.row row]) : TSound P (ext T f s') :=
 ext_sound hT fun args H p r H' hs hp G hS hH cargs ha => by
  obtain ⟨q, row0, row, rest, X, c, zs', hq, rfl, hs1, hpure, hfz, rfl, rfl⟩ := h args H p r H' hs hp
  have hb : Nat.beq f f = true := Nat.beq_refl f
  refine (h1 f args _ q (.a (.agg [X])) (.row row :: rest) (by unfold ext; rw [hb]; exact hs1) hq G hS hH cargs ha).mono fun v G1 he hs1 ⟨hH1, hr⟩ => ?_
  obtain ⟨G2, hw2, hx2, hs2, hrow2, hf⟩ := hfz.go hs1 hH1
  have hren : ∀ l : List AC, (∀ y ∈ l, ∃ z, y = .p z) → renCs [0] l = some l := by
   intro l
   induction l with
   | nil => intro _; rfl
   | cons a l ih =>
    intro hl
    obtain ⟨z, rfl⟩ := hl a (List.mem_cons_self ..)
    simp only [renCs, renC, ih fun y hy => hl y (List.mem_cons_of_mem _ hy)]
  have hsub : subH [0] G2.H [0] = some [.row row] := by
   simp only [subH, hrow2, renO, hren _ hpure]
  refine ⟨G2.sub [0] _, hw2, (he.trans hx2).keep hsub rfl fun k hk => ?_, hs2.sub hsub rfl, rfl, ?_⟩
  ·rw [hH] at hk
   have : k = 0 := by simpa using hk
   subst this
   rfl
  ·obtain ⟨cs, rfl, hcs⟩ := hr
   cases hcs with
   | cons a b =>
    cases b
    exact ⟨_, rfl, .cons (hf _ a) .nil⟩
end Go.Ab
