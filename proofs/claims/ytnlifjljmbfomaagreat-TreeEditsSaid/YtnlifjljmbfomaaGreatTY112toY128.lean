/- TreeLocal: the law. -/
import Derived.Test.YtnlifjljmbfomaaGreatTY102toY117
import Derived.Test.YtnlifjljmbfomaaGreatTY108toY118
namespace Go.Ab
open Go.Proofs
set_option linter.unusedSectionVars false
set_option maxRecDepth 100000
variable [Base]
def woP (ps : List Pt) (s : ByteArray) : List Pt := ps.filter fun p => !decide (p.1 = s)
def wo1 (s : ByteArray) (p : Pt) : Bool := !decide (p.1 = s)
def G1 : Table := ext K4 93 (saysG daPS eaPS fun a => (some (a.1.length ≤ 1000000000), .a (.c (.p (.l ptC (woP a.1 a.2))))))
theorem g1 : TS9 G1 := by
 refine extG k4 93 (fn := Tryz.f93) rfl rfl daPS eaPS _ (fun _ => nB9 rfl) [0, 1, 4, 5, 7, 8, 9, 10, 11, 17] fun a hok => ?_
 obtain ⟨ps, s⟩ := a
 have hl : ps.length ≤ 1000000000 := hok
 show runF _ _ _ [] [.c (.p (.l ptC ps)), .c (.str s)] [] fun r H => Ends r H (.a (.c (.p (.l ptC (woP ps s))))) []
 repeat ((conv => whnf); refine ⟨by first | (unfold inI64; omega) | omega | exact ⟨by omega, by omega⟩ | exact rfl | decide +kernel, ?_⟩)
 conv => whnf
 refine loop_weak (σ := Nat × List Pt) (fun ⟨i, out⟩ => [(0, nX9), (1, XV.s (.str s)), (4, nX9), (5, XV.s (.a (.c (.own 0 ptC out)))), (7, nX9), (8, XV.s (.a (.c (.p (.l ptC ps))))), (9, XV.s (.int .i64 (ps.length : Nat))), (10, XV.s (.int .i64 (i : Nat))), (11, nX9), (17, nX9)])
  (fun ⟨_, out⟩ => [.tok ptT ptC out.length true]) (fun ⟨i, out⟩ => i ≤ ps.length ∧ out = woP (ps.take i) s) (fun ⟨i, _⟩ => ps.length - i) (0, []) ?_ ⟨nZ9 _, rfl⟩ ?_
 ·refine Weak.own ptT ?_
  repeat first|exact wN9|refine wD9 ?_|refine wS9 ?_|refine wO9 ?_
 rintro ⟨i, out⟩ ⟨hi, ho⟩
 conv => whnf
 refine cI9 ?_ ?_<;>intro h
 ·have hin : i < ps.length := lt_of_dec h
  have hob : (0 : Int) ≤ (i : Nat) ∧ (i : Int) < (ps.length : Nat) := ⟨by omega, by omega⟩
  have hwl : out.length ≤ i := by
   rw [ho]
   unfold woP
   refine Nat.le_trans (List.length_filter_le ..) ?_
   rw [List.length_take]
   omega
  have hcap : out.length + 1 ≤ capBound := Nat.le_trans (m := 1000000001) (by omega) (by decide)
  have hst : woP (ps.take (i + 1)) s = out ++ (if (!decide ((ps.getD i ptC.dflt).1 = s)) = true then [ps.getD i ptC.dflt] else []) := by
   rw [ho]
   unfold woP
   have e : ps.getD i ptC.dflt = ps[i] := by simp [hin]
   rw [e, List.take_succ_eq_append_getElem hin, List.filter_append, List.filter_cons, List.filter_nil]
  repeat ((conv => whnf); refine ⟨by first | exact hob | (unfold inI64; omega) | omega | exact ⟨by omega, by omega⟩ | exact rfl | decide +kernel, ?_⟩)
  conv => whnf
  refine cI9 ?_ ?_<;>intro h2
  ·have h3 : (!decide ((ps.getD i ptC.dflt).1 = s)) = true := h2
   rw [if_pos h3] at hst
   repeat ((conv => whnf); refine ⟨by first | exact hcap | (unfold inI64; omega) | omega | exact ⟨by omega, by omega⟩ | exact rfl | decide +kernel, ?_⟩)
   conv => whnf
   refine kI9 (i + 1, out ++ [ps.getD i ptC.dflt]) [0] rfl (nK9) ?_ ?_ ⟨hin, hst.symm⟩ (show ps.length - (i + 1) < ps.length - i by omega)
   ·show some [AO.tok _ _ (out.length + 1) true] = some [AO.tok _ _ (out ++ [ps.getD i ptC.dflt]).length true]
    rw [zP9]
    rfl
   ·repeat first|exact kN9|refine kD9 ?_|refine kR9 rfl ?_
  ·have h3 : (!decide ((ps.getD i ptC.dflt).1 = s)) = false := h2
   rw [if_neg (ne_t h3), List.append_nil] at hst
   repeat ((conv => whnf); refine ⟨by first | (unfold inI64; omega) | omega | exact ⟨by omega, by omega⟩ | exact rfl | decide +kernel, ?_⟩)
   conv => whnf
   refine kI9 (i + 1, out) [0] rfl (nK9) rfl ?_ ⟨hin, hst.symm⟩ (show ps.length - (i + 1) < ps.length - i by omega)
   repeat first|exact kN9|refine kD9 ?_|refine kR9 rfl ?_
 ·obtain rfl : i = ps.length := by have := ge_of_dec h; omega
  rw [List.take_length] at ho
  rw [← ho]
  repeat ((conv => whnf); refine ⟨by first | (unfold inI64; omega) | omega | exact ⟨by omega, by omega⟩ | exact rfl | decide +kernel, ?_⟩)
  conv => whnf
  exact eR9
abbrev G2 : Table := G1
theorem g2 : TS9 G2 := g1
def daTT : List AV → Option (List Nd × List Nd)
 | [.agg [.p (.l c0 ns)], .agg [.p (.l c1 ms)]] => match castD (e := ndC) (e' := c0) ns, castD (e := ndC) (e' := c1) ms with | some ns, some ms => some (ns, ms) | _, _ => none
 | _ => none
def eaTT (a : List Nd × List Nd) : List AV := [.agg [.p (.l ndC a.1)], .agg [.p (.l ndC a.2)]]
def eqTB (a : List Nd × List Nd) : Bool := decide (@Eq (List Nd) a.1 a.2)
theorem sam_eq {a b : Nd} : samN (a, b) = true ↔ a = b := by
 unfold samN
 simp only [Bool.and_eq_true, decide_eq_true_eq]
 exact ⟨fun ⟨⟨h1, h2⟩, h3⟩ => Prod.ext h1 (Prod.ext h2 h3), fun h => by rw [h]; exact ⟨⟨rfl, rfl⟩, rfl⟩⟩
def TTOk (a : List Nd × List Nd) : Prop := a.1.length ≤ 1000000000 ∧ ∀ i, i < a.1.length → (ndAt a.1 i).2.2.length ≤ 1000000000
def L1 : Table := ext K4 16 (saysG daTT eaTT fun a => (some (TTOk a), .bool (eqTB a)))
theorem l1 : TS9 L1 := by
 refine extG k4 16 (fn := Tryz.f16) rfl rfl daTT eaTT _ (fun _ => nB9 rfl) [0, 1, 2, 3, 4, 5, 12, 15, 16, 17, 30] fun a hok => ?_
 obtain ⟨ns, ms⟩ := a
 obtain ⟨hl, hps⟩ : ns.length ≤ 1000000000 ∧ ∀ i, i < ns.length → (ndAt ns i).2.2.length ≤ 1000000000 := hok
 show runF _ _ _ [] [.agg [.p (.l ndC ns)], .agg [.p (.l ndC ms)]] [] fun r H => Ends r H (.bool (eqTB (ns, ms))) []
 repeat ((conv => whnf); refine ⟨by first | (unfold inI64; omega) | omega | exact ⟨by omega, by omega⟩ | (intro hg; first | (unfold inI64; omega) | omega | exact ⟨by omega, by omega⟩ | (simp [lit] at hg; unfold inI64; omega) | (simp [lit] at hg; omega) | (simp [lit] at hg; exact ⟨by omega, by omega⟩)) | (show (_ : Nat) + 1 ≤ 1000000000000; omega) | exact rfl | (unfold inI64; dsimp only; omega) | (dsimp only; omega) | (intro hg; simp [lit] at hg; first | (unfold inI64; dsimp only; omega) | (dsimp only; omega)) | decide +kernel, ?_⟩)
 conv => whnf
 refine cI9 ?_ ?_<;>intro h
 ·have h1 : eqTB (ns, ms) = false := by
   unfold eqTB
   refine dF9 fun hx => ?_
   have hx : ns = ms := hx
   subst hx
   have h2 : (!decide (((ns.length : Nat) : Int) = (ns.length : Nat))) = true := h
   simp at h2
  rw [h1]
  repeat ((conv => whnf); refine ⟨by first | (unfold inI64; omega) | omega | exact ⟨by omega, by omega⟩ | exact rfl | decide +kernel, ?_⟩)
  conv => whnf
  exact eR9
 have h3 : ns.length = ms.length := by
  have h : (!decide (((ns.length : Nat) : Int) = (ms.length : Nat))) = false := h
  simp at h
  omega
 conv => whnf
 refine lI9 (σ := Nat) (fun i => [(0, nX9), (1, nX9), (2, XV.s (.a (.c (.ptr 0 0)))), (3, XV.s (.a (.c (.ptr 1 0)))), (4, nX9), (5, nX9), (12, nX9), (15, XV.s (.int .i64 (ns.length : Nat))), (16, XV.s (.int .i64 (i : Nat))), (17, nX9), (30, nX9)])
  (fun _ => [.row [.p (.l ndC ns)], .row [.p (.l ndC ms)]]) (fun i => i ≤ ns.length ∧ ∀ j, j < i → ns.getD j ndC.dflt = ms.getD j ndC.dflt) (fun i => ns.length - i) 0 ?_ rfl ⟨nZ9 _, fun j hj => absurd hj (nN9 j)⟩ (fun i hi => ?_)
 ·repeat first|exact lN9|refine lD9 ?_|refine lS9 ?_
 obtain ⟨hi, hall⟩ := hi
 conv => whnf
 refine cI9 ?_ ?_<;>intro h4
 ·have h5 : i < ns.length := lt_of_dec h4
  have hin : 0 ≤ (i : Int) ∧ (i : Int) < (ns.length : Nat) := by omega
  have hin2 : 0 ≤ (i : Int) ∧ (i : Int) < (ms.length : Nat) := by omega
  have hpi := hps i h5
  repeat ((conv => whnf); refine ⟨by first | exact hin | exact hin2 | exact ⟨rfl, hpi⟩ | ((conv => whnf); exact ⟨⟨rfl, rfl, rfl⟩, trivial⟩) | exact Early.one (by decide +kernel) (by (conv => whnf); exact ⟨rfl, rfl, rfl⟩) trivial | (unfold inI64; omega) | omega | exact ⟨by omega, by omega⟩ | (intro hg; first | (unfold inI64; omega) | omega | exact ⟨by omega, by omega⟩ | (simp [lit] at hg; unfold inI64; omega) | (simp [lit] at hg; omega) | (simp [lit] at hg; exact ⟨by omega, by omega⟩)) | (show (_ : Nat) + 1 ≤ 1000000000000; omega) | exact rfl | (unfold inI64; dsimp only; omega) | (dsimp only; omega) | (intro hg; simp [lit] at hg; first | (unfold inI64; dsimp only; omega) | (dsimp only; omega)) | decide +kernel, ?_⟩)
  conv => whnf
  refine cI9 ?_ ?_<;>intro h6
  ·have h7 : eqTB (ns, ms) = false := by
    unfold eqTB
    refine dF9 fun hx => ?_
    have hx : ns = ms := hx
    subst hx
    have h8 : (!samN (ndAt ns i, ndAt ns i)) = false := by rw [sam_eq.2 rfl]; rfl
    exact Bool.noConfusion (h8.symm.trans h6)
   rw [h7]
   repeat ((conv => whnf); refine ⟨by first | (unfold inI64; omega) | omega | exact ⟨by omega, by omega⟩ | exact rfl | decide +kernel, ?_⟩)
   conv => whnf
   exact eR9
  have h7 : ns.getD i ndC.dflt = ms.getD i ndC.dflt := by
   have h8 : (!samN (ndAt ns i, ndAt ms i)) = false := h6
   refine sam_eq.1 (show samN (ndAt ns i, ndAt ms i) = true from ?_)
   cases h9 : samN (ndAt ns i, ndAt ms i) with
   | true => rfl
   | false => rw [h9] at h8; cases h8
  repeat ((conv => whnf); refine ⟨by first | (unfold inI64; omega) | omega | exact ⟨by omega, by omega⟩ | exact rfl | decide +kernel, ?_⟩)
  conv => whnf
  refine hI9 (i + 1) ?_ rfl ⟨h5, fun j hj => ?_⟩ ?_
  ·repeat first|exact lN9|refine lD9 ?_|refine lS9 ?_
  ·by_cases hji : j = i
   ·rw [hji]; exact h7
   ·exact hall j (by omega)
  ·omega
 ·have hge := ge_of_dec h4
  obtain rfl : i = ns.length := by omega
  have h9 : eqTB (ns, ms) = true := by
   unfold eqTB
   exact dT9 (eq_prefix (α := Nd) _ h3 hall)
  rw [h9]
  repeat ((conv => whnf); refine ⟨by first | (unfold inI64; omega) | omega | exact ⟨by omega, by omega⟩ | exact rfl | decide +kernel, ?_⟩)
  conv => whnf
  exact eR9
def daTIS : List AV → Option (List Nd × Int × ByteArray)
 | [.agg [.p (.l c0 ns)], .c (.p (.v (.int .i64 k))), .c (.p (.v (.string s)))] => match castD (e := ndC) (e' := c0) ns with | some ns => some (ns, k, s) | _ => none
 | _ => none
def eaTIS (a : List Nd × Int × ByteArray) : List AV := [.agg [.p (.l ndC a.1)], .c (.int .i64 a.2.1), .c (.str a.2.2)]
def ValV (a : List Nd × Int × ByteArray) : ByteArray × Bool :=
 if hasB (a.1, a.2.1) = true then if fndP (ndAt a.1 a.2.1.toNat).2.2 a.2.2 = true then ((ptAt (ndAt a.1 a.2.1.toNat).2.2 (posV (ndAt a.1 a.2.1.toNat).2.2 a.2.2)).2, true) else (⟨#[]⟩, false) else (⟨#[]⟩, false)
abbrev valR (x : ByteArray × Bool) : SV := .tup [.c (.str x.1), .c (.bool x.2)]
def L2 : Table := ext L1 24 (saysG daTIS eaTIS fun a => (none, valR (ValV a)))
theorem l2 : TS9 L2 := by
 refine extG l1 24 (fn := Tryz.f24) rfl rfl daTIS eaTIS _ (fun _ => nB9 rfl) [0, 1, 2, 3, 6, 7, 8, 9, 10, 14, 28] fun a _ => ?_
 obtain ⟨ns, k, s⟩ := a
 show runF _ _ _ [] [.agg [.p (.l ndC ns)], .c (.int .i64 k), .c (.str s)] [] fun r H => Ends r H (valR (ValV (ns, k, s))) []
 unfold ValV
 dsimp only
 repeat ((conv => whnf); refine ⟨by first | exact ⟨rfl, trivial⟩ | (unfold inI64; omega) | omega | exact ⟨by omega, by omega⟩ | exact rfl | decide +kernel, ?_⟩)
 conv => whnf
 refine cI9 ?_ ?_<;>intro h
 ·have h1 : hasB (ns, k) = false := not_b h
  rw [if_neg (ne_t h1)]
  repeat ((conv => whnf); refine ⟨by first | (unfold inI64; omega) | omega | exact ⟨by omega, by omega⟩ | exact rfl | decide +kernel, ?_⟩)
  conv => whnf
  exact eR9
 have h1 : hasB (ns, k) = true := not_f h
 rw [if_pos h1]
 have hk : (0 ≤ k ∧ k < (ns.length : Nat)) ∧ chkP ns = 0 := by
  unfold hasB at h1
  simpa using h1
 obtain ⟨⟨hk0, hk1⟩, hc⟩ := hk
 have hv := chk_vld.1 hc
 have e : ndAt ns k.toNat = ns[k.toNat]'(by omega) := by unfold ndAt; simp [show k.toNat < ns.length by omega]
 have hl : (ndAt ns k.toNat).2.2.length ≤ 1000000000 := by rw [e]; exact (lim_len hv.lim).1.at (by omega)
 have hok : SrOk ((ndAt ns k.toNat).2.2, s) := ⟨hl, ord_asc hv.ord (by omega)⟩
 have hb : 0 ≤ k ∧ k < (ns.length : Nat) := ⟨hk0, hk1⟩
 repeat ((conv => whnf); refine ⟨by first | exact hb | exact ⟨rfl, hok⟩ | (unfold inI64; omega) | omega | exact ⟨by omega, by omega⟩ | (intro hg; first | (unfold inI64; omega) | omega | exact ⟨by omega, by omega⟩ | (simp [lit] at hg; unfold inI64; omega) | (simp [lit] at hg; omega) | (simp [lit] at hg; exact ⟨by omega, by omega⟩)) | (show (_ : Nat) + 1 ≤ 1000000000000; omega) | exact rfl | (unfold inI64; dsimp only; omega) | (dsimp only; omega) | (intro hg; simp [lit] at hg; first | (unfold inI64; dsimp only; omega) | (dsimp only; omega)) | decide +kernel, ?_⟩)
 conv => whnf
 refine cI9 ?_ ?_<;>intro h5
 ·have h6 : fndP (ndAt ns k.toNat).2.2 s = false := not_b h5
  rw [if_neg (ne_t h6)]
  repeat ((conv => whnf); refine ⟨by first | (unfold inI64; omega) | omega | exact ⟨by omega, by omega⟩ | exact rfl | decide +kernel, ?_⟩)
  conv => whnf
  exact eR9
 have h6 : fndP (ndAt ns k.toNat).2.2 s = true := not_f h5
 rw [if_pos h6]
 have hp : 0 ≤ ((posV (ndAt ns k.toNat).2.2 s : Nat) : Int) ∧ ((posV (ndAt ns k.toNat).2.2 s : Nat) : Int) < ((ndAt ns k.toNat).2.2.length : Nat) := by
  have h7 := h6
  unfold fndP at h7
  obtain ⟨h8, _⟩ := bA9.1 h7
  have := oT9 h8
  omega
 repeat ((conv => whnf); refine ⟨by first | exact hp | (unfold inI64; omega) | omega | exact ⟨by omega, by omega⟩ | exact rfl | decide +kernel, ?_⟩)
 conv => whnf
 exact eR9
def woQ (a : List Pt × Int × Int) : List Pt := a.1.take a.2.1.toNat ++ a.1.drop a.2.2.toNat
def daPII : List AV → Option (List Pt × Int × Int)
 | [.c (.p (.l c0 ps)), .c (.p (.v (.int .i64 k))), .c (.p (.v (.int .i64 q)))] => match castD (e := ptC) (e' := c0) ps with | some ps => some (ps, k, q) | _ => none
 | _ => none
def eaPII (a : List Pt × Int × Int) : List AV := [.c (.p (.l ptC a.1)), .c (.int .i64 a.2.1), .c (.int .i64 a.2.2)]
def L3 : Table := ext L2 133 (saysG daPII eaPII fun a => (some (a.1.length ≤ 1000000000 ∧ 0 ≤ a.2.1 ∧ a.2.1 ≤ (a.1.length : Nat) ∧ 0 ≤ a.2.2 ∧ a.2.2 ≤ (a.1.length : Nat)), .a (.c (.p (.l ptC (woQ a))))))
theorem l3 : TS9 L3 := by
 refine extG l2 133 (fn := Tryz.f133) rfl rfl daPII eaPII _ (fun _ => nB9 rfl) [0, 1, 2, 6] fun a hok => ?_
 obtain ⟨ns, k, q⟩ := a
 obtain ⟨h1, h2, h3, h4, h5⟩ : ns.length ≤ 1000000000 ∧ 0 ≤ k ∧ k ≤ (ns.length : Nat) ∧ 0 ≤ q ∧ q ≤ (ns.length : Nat) := hok
 show runF _ _ _ [] [.c (.p (.l ptC ns)), .c (.int .i64 k), .c (.int .i64 q)] [] fun r H => Ends r H (.a (.c (.p (.l ptC (woQ (ns, k, q)))))) []
 have ht : (ns.take k.toNat).length = k.toNat := by rw [List.length_take]; omega
 have hz1 : (ns.take k.toNat).length ≤ capBound := by rw [ht]; exact Nat.le_trans (m := 1000000001) (by omega) (by decide)
 have hn : (((ns.length : Nat) : Int)).toNat = ns.length := rfl
 have hz6 : ns.take (((ns.length : Nat) : Int)).toNat = ns := by rw [hn, List.take_length]
 have hz5 : (ns.drop q.toNat).length = ns.length - q.toNat := List.length_drop ..
 have hz4 : (ns.take k.toNat).length + ((ns.take (((ns.length : Nat) : Int)).toNat).drop q.toNat).length ≤ capBound := by rw [hz6, ht, hz5]; exact Nat.le_trans (m := 2000000001) (by omega) (by decide)
 repeat ((conv => whnf); refine ⟨by first | exact ⟨Int.le_refl _, h2, h3⟩ | exact hz1 | exact ⟨h4, h5, Int.le_refl _⟩ | exact hz4 | ((conv => whnf); exact ⟨⟨rfl, rfl, rfl⟩, trivial⟩) | exact Early.one (by decide +kernel) (by (conv => whnf); exact ⟨rfl, rfl, rfl⟩) trivial | (unfold inI64; omega) | omega | exact ⟨by omega, by omega⟩ | exact rfl | decide +kernel, ?_⟩)
 conv => whnf
 show Ends (.a (.c (.p (.l ptC (ns.take k.toNat ++ (ns.take (((ns.length : Nat) : Int)).toNat).drop q.toNat))))) [] _ _
 rw [hz6]
 exact eR9
def unP (ps : List Pt) (s : ByteArray) : List Pt := woQ (ps, (posV ps s : Nat), (posV ps s : Nat) + 1)
def unN (ns : List Nd) (k : Nat) (s : ByteArray) : List Nd := ns.set k ((ndAt ns k).1, (ndAt ns k).2.1, unP (ndAt ns k).2.2 s)
def saysUnX (c : List Nd → Nat → ByteArray → Prop) (r : List Nd → SV) (h : List Nd → Nat → ByteArray → List AO) : Says := fun args H => match args, H with
 | [.c (.sl _ _ _ _), .c (.p (.v (.int .i64 k))), .c (.p (.v (.string s)))], [.arr _ c0 ns _] => match castD (e := ndC) (e' := c0) ns with
  | some ns => some (some (args = [.c (.sl 0 ndC 0 ns.length), .c (.int .i64 k), .c (.str s)] ∧ H = hpN ns ∧ StOk ns k ∧ c ns k.toNat s), r ns, h ns k.toNat s)
  | none => none
 | _, _ => none
theorem un_er : TS9 (ext L3 92 (saysUnX (fun ns k s => fndP (ndAt ns k).2.2 s = false) (fun _ => .tup [.c (.p (.v (.slice none 0 0))), .c (.int .i64 4)]) fun ns _ _ => hpN ns)) := by
 refine ext_run l3 (f := 92) (fn := Tryz.f92) rfl rfl [0, 1, 2, 6, 7, 8, 9, 10, 23] fun args H p r' H' hs hp => ?_
 unfold saysUnX at hs
 split at hs
 ·split at hs
  ·rename_i k s _ _ _ _ _ ns _
   cases hs
   obtain ⟨ha, hH, hok, hf⟩ := hp
   rw [ha, hH]
   obtain ⟨h1, h2, h3, h4⟩ := hok
   obtain ⟨k, rfl⟩ : ∃ q : Nat, k = q := ⟨k.toNat, by omega⟩
   rw [Int.toNat_natCast] at h4 hf
   have hob : 0 = 0 ∧ (0 : Int) ≤ (k : Nat) ∧ (k : Int) < (ns.length : Nat) := ⟨rfl, h2, h3⟩
   refine ⟨nB9 rfl, [0], rfl, id0, ?_⟩
   dsimp only
   have h4a : SrOk ((ndAt ns k).2.2, s) := h4
   repeat ((conv => whnf); refine ⟨by first | exact hob | exact ⟨rfl, h4a⟩ | (unfold inI64; omega) | omega | exact ⟨by omega, by omega⟩ | (intro hg; first | (unfold inI64; omega) | omega | exact ⟨by omega, by omega⟩ | (simp [lit] at hg; unfold inI64; omega) | (simp [lit] at hg; omega) | (simp [lit] at hg; exact ⟨by omega, by omega⟩)) | (show (_ : Nat) + 1 ≤ 1000000000000; omega) | exact rfl | (unfold inI64; dsimp only; omega) | (dsimp only; omega) | (intro hg; simp [lit] at hg; first | (unfold inI64; dsimp only; omega) | (dsimp only; omega)) | decide +kernel, ?_⟩)
   conv => whnf
   refine cI9 ?_ ?_<;>intro h5
   ·repeat ((conv => whnf); refine ⟨by first | (unfold inI64; omega) | omega | exact ⟨by omega, by omega⟩ | exact rfl | decide +kernel, ?_⟩)
    conv => whnf
    exact eR9
   ·exact absurd (not_f h5) (ne_t hf)
  ·cases hs
 ·cases hs
theorem un_ok : TS9 (ext L3 92 (saysUnX (fun ns k s => fndP (ndAt ns k).2.2 s = true) (fun ns => .tup [.c (.sl 0 ndC 0 ns.length), .c (.int .i64 0)]) fun ns k s => hpN (unN ns k s))) := by
 refine ext_run l3 (f := 92) (fn := Tryz.f92) rfl rfl [0, 1, 2, 6, 7, 8, 9, 10, 23] fun args H p r' H' hs hp => ?_
 unfold saysUnX at hs
 split at hs
 ·split at hs
  ·rename_i k s _ _ _ _ _ ns _
   cases hs
   obtain ⟨ha, hH, hok, hf⟩ := hp
   rw [ha, hH]
   obtain ⟨h1, h2, h3, h4⟩ := hok
   obtain ⟨k, rfl⟩ : ∃ q : Nat, k = q := ⟨k.toNat, by omega⟩
   rw [Int.toNat_natCast] at h4 hf ⊢
   have hob : 0 = 0 ∧ (0 : Int) ≤ (k : Nat) ∧ (k : Int) < (ns.length : Nat) := ⟨rfl, h2, h3⟩
   refine ⟨nB9 rfl, [0], rfl, id0, ?_⟩
   dsimp only
   have h4a : SrOk ((ndAt ns k).2.2, s) := h4
   have hpl : posV (ndAt ns k).2.2 s < (ndAt ns k).2.2.length := by
    have h7 := hf
    unfold fndP at h7
    exact oT9 (bA9.1 h7).1
   have hl : (ndAt ns k).2.2.length ≤ 1000000000 := h4a.1
   have hw : (ndAt ns k).2.2.length ≤ 1000000000 ∧ (0 : Int) ≤ ((posV (ndAt ns k).2.2 s : Nat) : Int) ∧ ((posV (ndAt ns k).2.2 s : Nat) : Int) ≤ ((ndAt ns k).2.2.length : Nat) ∧ (0 : Int) ≤ ((posV (ndAt ns k).2.2 s : Nat) : Int) + 1 ∧ ((posV (ndAt ns k).2.2 s : Nat) : Int) + 1 ≤ ((ndAt ns k).2.2.length : Nat) := ⟨hl, by omega, by omega, by omega, by omega⟩
   have hi : -9223372036854775808 ≤ ((posV (ndAt ns k).2.2 s : Nat) : Int) + 1 ∧ ((posV (ndAt ns k).2.2 s : Nat) : Int) + 1 ≤ 9223372036854775807 := by omega
   repeat ((conv => whnf); refine ⟨by first | exact hob | exact ⟨rfl, h4a⟩ | exact hi | exact ⟨rfl, hw⟩ | (unfold inI64; omega) | omega | exact ⟨by omega, by omega⟩ | (intro hg; first | (unfold inI64; omega) | omega | exact ⟨by omega, by omega⟩ | (simp [lit] at hg; unfold inI64; omega) | (simp [lit] at hg; omega) | (simp [lit] at hg; exact ⟨by omega, by omega⟩)) | (show (_ : Nat) + 1 ≤ 1000000000000; omega) | exact rfl | (unfold inI64; dsimp only; omega) | (dsimp only; omega) | (intro hg; simp [lit] at hg; first | (unfold inI64; dsimp only; omega) | (dsimp only; omega)) | decide +kernel, ?_⟩)
   conv => whnf
   refine cI9 ?_ ?_<;>intro h5
   ·exact absurd hf (ne_t (not_b h5))
   repeat ((conv => whnf); refine ⟨by first | exact hob | exact ⟨rfl, h4a⟩ | exact hi | exact ⟨rfl, hw⟩ | ((conv => whnf); exact ⟨⟨rfl, rfl, rfl⟩, trivial⟩) | exact Early.one (by decide +kernel) (by (conv => whnf); exact ⟨rfl, rfl, rfl⟩) trivial | (unfold inI64; omega) | omega | exact ⟨by omega, by omega⟩ | (intro hg; first | (unfold inI64; omega) | omega | exact ⟨by omega, by omega⟩ | (simp [lit] at hg; unfold inI64; omega) | (simp [lit] at hg; omega) | (simp [lit] at hg; exact ⟨by omega, by omega⟩)) | (show (_ : Nat) + 1 ≤ 1000000000000; omega) | exact rfl | (unfold inI64; dsimp only; omega) | (dsimp only; omega) | (intro hg; simp [lit] at hg; first | (unfold inI64; dsimp only; omega) | (dsimp only; omega)) | decide +kernel, ?_⟩)
   conv => whnf
   exact eR9
  ·cases hs
 ·cases hs
def DelV (a : List Nd × ByteArray × ByteArray) : List Nd × Int :=
 if chkP a.1 = 0 then if (fndV (a.1, a.2.1)).2 = true then if fndP (ndAt a.1 (fndV (a.1, a.2.1)).1.toNat).2.2 a.2.2 = true then (unN a.1 (fndV (a.1, a.2.1)).1.toNat a.2.2, 0) else ([], 4) else ([], 4) else ([], chkP a.1)
theorem idE1 : ∀ k, k < 1 → [0, 3][k]? = some k := fun k hk => by
 obtain rfl : k = 0 := by omega
 rfl
def D0E : Table := ext L3 92 (saysUnX (fun ns k s => fndP (ndAt ns k).2.2 s = false) (fun _ => .tup [.c (.p (.v (.slice none 0 0))), .c (.int .i64 4)]) fun ns _ _ => hpN ns)
theorem d0E : TS9 D0E := un_er
def saysD1E : Says := fun args H => match args, H with
 | [.c (.sl _ _ _ _), .c (.p (.v (.int .i64 k))), .c (.ptr 1 0)], [.arr _ c0 ns _, .row [.p (.v (.string a))]] => match castD (e := ndC) (e' := c0) ns with
  | some ns => some (some (args = [.c (.sl 0 ndC 0 ns.length), .c (.int .i64 k), .c (.ptr 1 0)] ∧ H = [.arr ndT ndC ns 0, rwS a] ∧ StOk ns k ∧ fndP (ndAt ns k.toNat).2.2 a = false), .tup [.c (.p (.v (.slice none 0 0))), .c (.int .i64 4)], [.arr ndT ndC ns 0, rwS a])
  | none => none
 | _, _ => none
def D1E : Table := ext D0E 91 saysD1E
theorem d1E : TS9 D1E := by
 refine ext_run d0E (f := 91) (fn := Tryz.f91) rfl rfl [0, 1, 2, 5, 6] fun args H p r' H' hs hp => ?_
 unfold saysD1E at hs
 split at hs
 ·split at hs
  ·rename_i k _ _ _ _ a _ ns _
   cases hs
   obtain ⟨ha, hH, h1, h2⟩ := hp
   rw [ha, hH]
   refine ⟨nB9 rfl, [0, 1], rfl, id2h, ?_⟩
   repeat ((conv => whnf); refine ⟨by first | exact ⟨rfl, rfl, h1, h2⟩ | (unfold inI64; omega) | omega | exact ⟨by omega, by omega⟩ | exact rfl | decide +kernel, ?_⟩)
   conv => whnf
   exact eR9
  ·cases hs
 ·cases hs
def saysD2E : Says := fun args H => match args, H with
 | [.agg [.p (.l c0 ns)], .c (.p (.v (.string q))), .c (.clo _ _ _)], [.row [.p (.v (.string a))]] => match castD (e := ndC) (e' := c0) ns with
  | some ns => some (some (args = [.agg [.p (.l ndC ns)], .c (.str q), .c (.clo false 91 [0])] ∧ H = [rwS a] ∧ ¬ (DelV (ns, q, a)).2 = 0), treR (DelV (ns, q, a)), [rwS a])
  | none => none
 | _, _ => none
def D2E : Table := ext D1E 82 saysD2E
theorem d2E : TS9 D2E := by
 refine ext_run d1E (f := 82) (fn := Tryz.f82) rfl rfl [0, 1, 2, 3, 6, 7, 8, 9, 10, 11, 12, 16, 27] fun args H p r' H' hs hp => ?_
 unfold saysD2E at hs
 split at hs
 ·split at hs
  ·rename_i q _ _ _ a _ ns _
   cases hs
   obtain ⟨ha, hH, hc⟩ := hp
   rw [ha, hH]
   refine ⟨nB9 rfl, [0], rfl, id0, ?_⟩
   repeat ((conv => whnf); refine ⟨by first | exact ⟨rfl, trivial⟩ | (unfold inI64; omega) | omega | exact ⟨by omega, by omega⟩ | exact rfl | decide +kernel, ?_⟩)
   conv => whnf
   refine cI9 ?_ ?_<;>intro h
   ·have h1 : ¬ chkP ns = 0 := by
     have h2 : (!decide (chkP ns = 0)) = true := h
     simpa using h2
    repeat ((conv => whnf); refine ⟨by first | (unfold inI64; omega) | omega | exact ⟨by omega, by omega⟩ | exact rfl | decide +kernel, ?_⟩)
    conv => whnf
    exact ends_nil (by unfold DelV; rw [if_neg h1])
   have h1 : chkP ns = 0 := by
    have h2 : (!decide (chkP ns = 0)) = false := h
    simpa using h2
   have hv := chk_vld.1 h1
   repeat ((conv => whnf); refine ⟨by first | exact ⟨rfl, hv⟩ | (unfold inI64; omega) | omega | exact ⟨by omega, by omega⟩ | exact rfl | decide +kernel, ?_⟩)
   conv => whnf
   refine cI9 ?_ ?_<;>intro h3
   ·have h4 : ¬ (fndV (ns, q)).2 = true := ne_t (not_b h3)
    repeat ((conv => whnf); refine ⟨by first | (unfold inI64; omega) | omega | exact ⟨by omega, by omega⟩ | exact rfl | decide +kernel, ?_⟩)
    conv => whnf
    exact ends_nil (by unfold DelV; rw [if_pos h1, if_neg h4])
   have h4 : (fndV (ns, q)).2 = true := not_f h3
   have hok := vld_st hv h4
   obtain ⟨hl, hp0, _⟩ := lim_len hv.lim
   have he : fndP (ndAt ns (fndV (ns, q)).1.toNat).2.2 a = false := by
    cases h5 : fndP (ndAt ns (fndV (ns, q)).1.toNat).2.2 a with
    | false => rfl
    | true => exact absurd (by unfold DelV; dsimp only; rw [if_pos h1, if_pos h4, if_pos h5]) hc
   repeat ((conv => whnf); refine ⟨by first | exact ⟨rfl, hl, hp0⟩ | exact ⟨rfl, rfl, hok, he⟩ | (unfold inI64; omega) | omega | exact ⟨by omega, by omega⟩ | exact rfl | decide +kernel, ?_⟩)
   conv => whnf
   exact ends_nil (by unfold DelV; dsimp only; rw [if_pos h1, if_pos h4, if_neg (ne_t he)])
  ·cases hs
 ·cases hs
def saysD3E : Says := fun args H => match H with
 | [] => match daTSS args with
  | some a => some (some (args = eaTSS a ∧ ¬ (DelV a).2 = 0), treR (DelV a), [])
  | none => none
 | _ => none
theorem d3E : TS9 (ext D2E 39 saysD3E) := by
 refine ext_run d2E (f := 39) (fn := Tryz.f39) rfl rfl [0, 1, 2, 3, 5, 6, 7] fun args H p r' H' hs hp => ?_
 unfold saysD3E at hs
 split at hs
 ·split at hs
  ·rename_i a _
   cases hs
   obtain ⟨ha, hc⟩ := hp
   rw [ha]
   obtain ⟨ns, q, a⟩ := a
   refine ⟨nB9 rfl, [], rfl, nK9, ?_⟩
   show runF _ _ _ _ [.agg [.p (.l ndC ns)], .c (.str q), .c (.str a)] [] _
   repeat ((conv => whnf); refine ⟨by first | exact ⟨rfl, rfl, hc⟩ | ((conv => whnf); exact ⟨⟨rfl, rfl, rfl⟩, trivial⟩) | exact Early.one (by decide +kernel) (by (conv => whnf); exact ⟨rfl, rfl, rfl⟩) trivial | (unfold inI64; omega) | omega | exact ⟨by omega, by omega⟩ | exact rfl | decide +kernel, ?_⟩)
   conv => whnf
   exact eR9
  ·cases hs
 ·cases hs
def D0N : Table := ext L3 92 (saysUnX (fun ns k s => fndP (ndAt ns k).2.2 s = true) (fun ns => .tup [.c (.sl 0 ndC 0 ns.length), .c (.int .i64 0)]) fun ns k s => hpN (unN ns k s))
theorem d0N : TS9 D0N := un_ok
def saysD1N : Says := fun args H => match args, H with
 | [.c (.sl _ _ _ _), .c (.p (.v (.int .i64 k))), .c (.ptr 1 0)], [.arr _ c0 ns _, .row [.p (.v (.string a))]] => match castD (e := ndC) (e' := c0) ns with
  | some ns => some (some (args = [.c (.sl 0 ndC 0 ns.length), .c (.int .i64 k), .c (.ptr 1 0)] ∧ H = [.arr ndT ndC ns 0, rwS a] ∧ StOk ns k ∧ fndP (ndAt ns k.toNat).2.2 a = true), .tup [.c (.sl 0 ndC 0 ns.length), .c (.int .i64 0)], [.arr ndT ndC (unN ns k.toNat a) 0, rwS a])
  | none => none
 | _, _ => none
def D1N : Table := ext D0N 91 saysD1N
theorem d1N : TS9 D1N := by
 refine ext_run d0N (f := 91) (fn := Tryz.f91) rfl rfl [0, 1, 2, 5, 6] fun args H p r' H' hs hp => ?_
 unfold saysD1N at hs
 split at hs
 ·split at hs
  ·rename_i k _ _ _ _ a _ ns _
   cases hs
   obtain ⟨ha, hH, h1, h2⟩ := hp
   rw [ha, hH]
   refine ⟨nB9 rfl, [0, 1], rfl, id2h, ?_⟩
   repeat ((conv => whnf); refine ⟨by first | exact ⟨rfl, rfl, h1, h2⟩ | (unfold inI64; omega) | omega | exact ⟨by omega, by omega⟩ | exact rfl | decide +kernel, ?_⟩)
   conv => whnf
   exact eR9
  ·cases hs
 ·cases hs
def saysD2N : Says := fun args H => match args, H with
 | [.agg [.p (.l c0 ns)], .c (.p (.v (.string q))), .c (.clo _ _ _)], [.row [.p (.v (.string a))]] => match castD (e := ndC) (e' := c0) ns with
  | some ns => some (some (args = [.agg [.p (.l ndC ns)], .c (.str q), .c (.clo false 91 [0])] ∧ H = [rwS a] ∧ chkP ns = 0 ∧ (fndV (ns, q)).2 = true ∧ fndP (ndAt ns (fndV (ns, q)).1.toNat).2.2 a = true), .tup [.agg [.sl 1 ndC 0 ns.length], .c (.int .i64 0)], [rwS a, .arr ndT ndC (unN ns (fndV (ns, q)).1.toNat a) 0])
  | none => none
 | _, _ => none
def D2N : Table := ext D1N 82 saysD2N
theorem d2N : TS9 D2N := by
 refine ext_run d1N (f := 82) (fn := Tryz.f82) rfl rfl [0, 1, 2, 3, 6, 7, 8, 9, 10, 11, 12, 16, 27] fun args H p r' H' hs hp => ?_
 unfold saysD2N at hs
 split at hs
 ·split at hs
  ·rename_i q _ _ _ a _ ns _
   cases hs
   obtain ⟨ha, hH, hc⟩ := hp
   rw [ha, hH]
   refine ⟨nB9 rfl, [0, 3], rfl, idE1, ?_⟩
   obtain ⟨h1, h4, hf⟩ := hc
   have hv := chk_vld.1 h1
   have hok := vld_st hv h4
   obtain ⟨hl, hp0, _⟩ := lim_len hv.lim
   repeat ((conv => whnf); refine ⟨by first | exact ⟨rfl, trivial⟩ | (unfold inI64; omega) | omega | exact ⟨by omega, by omega⟩ | exact rfl | decide +kernel, ?_⟩)
   conv => whnf
   refine cI9 ?_ ?_<;>intro h
   ·have h2 : (!decide (chkP ns = 0)) = true := h
    exact absurd h1 (by simpa using h2)
   repeat ((conv => whnf); refine ⟨by first | exact ⟨rfl, hv⟩ | (unfold inI64; omega) | omega | exact ⟨by omega, by omega⟩ | exact rfl | decide +kernel, ?_⟩)
   conv => whnf
   refine cI9 ?_ ?_<;>intro h3
   ·exact absurd h4 (ne_t (not_b h3))
   repeat ((conv => whnf); refine ⟨by first | exact ⟨rfl, hl, hp0⟩ | exact ⟨rfl, rfl, hok, hf⟩ | (unfold inI64; omega) | omega | exact ⟨by omega, by omega⟩ | exact rfl | decide +kernel, ?_⟩)
   conv => whnf
   exact eR9
  ·cases hs
 ·cases hs
def saysD3N : Says := fun args H => match H with
 | [] => match daTSS args with
  | some a => some (some (args = eaTSS a ∧ chkP a.1 = 0 ∧ (fndV (a.1, a.2.1)).2 = true ∧ fndP (ndAt a.1 (fndV (a.1, a.2.1)).1.toNat).2.2 a.2.2 = true), .tup [.agg [.sl 0 ndC 0 a.1.length], .c (.int .i64 0)], [.arr ndT ndC (unN a.1 (fndV (a.1, a.2.1)).1.toNat a.2.2) 0])
  | none => none
 | _ => none
theorem d3N : TS9 (ext D2N 39 saysD3N) := by
 refine ext_run d2N (f := 39) (fn := Tryz.f39) rfl rfl [0, 1, 2, 3, 5, 6, 7] fun args H p r' H' hs hp => ?_
 unfold saysD3N at hs
 split at hs
 ·split at hs
  ·rename_i a _
   cases hs
   obtain ⟨ha, hc⟩ := hp
   rw [ha]
   obtain ⟨ns, q, a⟩ := a
   refine ⟨nB9 rfl, [3], rfl, nK9, ?_⟩
   show runF _ _ _ _ [.agg [.p (.l ndC ns)], .c (.str q), .c (.str a)] [] _
   repeat ((conv => whnf); refine ⟨by first | exact ⟨rfl, rfl, hc⟩ | ((conv => whnf); exact ⟨⟨rfl, rfl, rfl⟩, trivial⟩) | exact Early.one (by decide +kernel) (by (conv => whnf); exact ⟨rfl, rfl, rfl⟩) trivial | (unfold inI64; omega) | omega | exact ⟨by omega, by omega⟩ | exact rfl | decide +kernel, ?_⟩)
   conv => whnf
   exact eR9
  ·cases hs
 ·cases hs
def saysD4N : Says := fun args H => match H with
 | [] => match daTSS args with
  | some a => some (some (args = eaTSS a ∧ chkP a.1 = 0 ∧ (fndV (a.1, a.2.1)).2 = true ∧ fndP (ndAt a.1 (fndV (a.1, a.2.1)).1.toNat).2.2 a.2.2 = true), .tup [.agg [.p (.l ndC (unN a.1 (fndV (a.1, a.2.1)).1.toNat a.2.2))], .c (.int .i64 0)], [])
  | none => none
 | _ => none
theorem unN_len (ns : List Nd) (k : Nat) (s : ByteArray) : (unN ns k s).length = ns.length := List.length_set ..
theorem d4N : TS9 (ext L3 39 saysD4N) := by
 refine ext_only (?_ : TS9 (ext D2N 39 saysD4N)) l3
 refine ext_frz2 d3N d2N fun args H p r H' hs hp => ?_
 unfold saysD4N at hs
 split at hs
 ·split at hs
  ·rename_i a ha
   cases hs
   obtain ⟨h0, h1, h2, h3⟩ := hp
   refine ⟨rfl, rfl, some (args = eaTSS a ∧ chkP a.1 = 0 ∧ (fndV (a.1, a.2.1)).2 = true ∧ fndP (ndAt a.1 (fndV (a.1, a.2.1)).1.toNat).2.2 a.2.2 = true), ndT, ndC, unN a.1 (fndV (a.1, a.2.1)).1.toNat a.2.2, 0, .v (.int .i64 0), ?_, by rw [unN_len]; exact vld_pos h1, ?_, rfl⟩
   rotate_left
   ·unfold saysD3N
    dsimp only
    rw [ha]
    dsimp only
    rw [unN_len]
   ·exact ⟨h0, h1, h2, h3⟩
  ·cases hs
 ·cases hs
theorem del_some {a : List Nd × ByteArray × ByteArray} (h : (DelV a).2 = 0) : chkP a.1 = 0 ∧ (fndV (a.1, a.2.1)).2 = true ∧ fndP (ndAt a.1 (fndV (a.1, a.2.1)).1.toNat).2.2 a.2.2 = true ∧ DelV a = (unN a.1 (fndV (a.1, a.2.1)).1.toNat a.2.2, 0) := by
 unfold DelV at *
 split at h
 ·rename_i h1
  rw [if_pos h1]
  split at h
  ·rename_i h2
   rw [if_pos h2]
   split at h
   ·rename_i h3
    rw [if_pos h3]
    exact ⟨h1, h2, h3, rfl⟩
   ·cases h
  ·cases h
 ·rename_i h1
  exact absurd h h1
def L4 : Table := ext L3 39 (saysG daTSS eaTSS fun a => (none, treR (DelV a)))
theorem l4 : TS9 L4 := by
 refine ext_case d4N (ext_only d3E l3) l3 fun args H p r H' hs hp => ?_
 unfold saysG at hs
 split at hs
 ·split at hs
  ·rename_i a ha
   cases hs
   obtain ⟨h1, _⟩ := hp
   by_cases h0 : (DelV a).2 = 0
   ·obtain ⟨g1, g2, g3, g4⟩ := del_some h0
    refine .inl ⟨_, ?_, by unfold saysD4N; dsimp only; rw [ha]; dsimp only; rw [g4]⟩
    exact ⟨h1, g1, g2, g3⟩
   ·refine .inr ⟨_, ?_, by unfold saysD3E; dsimp only; rw [ha]⟩
    exact ⟨h1, h0⟩
  ·cases hs
 ·cases hs
theorem any_no {p : Nat → Bool} : ∀ m i, (∀ j, i ≤ j → j < i + m → p j = false) → anyGo p m i = false := by
 intro m
 induction m with
 | zero => intro i _; rfl
 | succ m ih =>
  intro i h
  show (p i || anyGo p m (i + 1)) = false
  rw [h i (nR9 _) (by omega), ih (i + 1) fun j h1 h2 => h j (by omega) (by omega)]
  rfl
structure AddF (ns : List Nd) (k : Nat) (s : ByteArray) : Prop where
 nam : namB s = true
 no : ∀ j, j < ns.length → samB ns (k : Int) s j = false
 dep : dpV ns k < 8
 len : ns.length < 120
theorem add_f {ns : List Nd} {k : Nat} {s : ByteArray} (h : adbV (ns, (k : Int), s) = 0) : AddF ns k s := by
 unfold adbV at h
 split at h
 ·cases h
 ·rename_i h1
  split at h
  ·cases h
  ·rename_i h2
   split at h
   ·cases h
   ·rename_i h3
    split at h
    ·cases h
    ·rename_i h4
     refine ⟨by simpa using h1, fun j hj => ?_, Nat.lt_of_not_le h3, Nat.lt_of_not_le h4⟩
     have h5 := (skGo_spec (samB ns (k : Int) s) ns.length 0).1 j (nZ9 _)
     refine h5 ?_
     have h6 : skV (samB ns (k : Int) s) ns.length = skGo (samB ns (k : Int) s) ns.length 0 := rfl
     have h2 : ¬ skV (samB ns (k : Int) s) ns.length < ns.length := h2
     omega
theorem dst_app {ns : List Nd} (hv : Vl ns) {k : Nat} {s : ByteArray} (hno : ∀ j, j < ns.length → samB ns (k : Int) s j = false) : Dst (ns ++ [((k : Int), s, [])]) := by
 have hf := hv.f
 have hpl : paN (ns ++ [((k : Int), s, [])]) ns.length = k := by
  unfold paN paI
  rw [app_last]
  rfl
 have hnew : ∀ b, 0 < b → b < ns.length → paN ns b = k → (ndAt ns b).2.1 = s → False := by
  intro b b0 b1 hp hn
  have h2 := (par_lt hf.par b0 b1).2
  have h3 := hno b b1
  unfold samB at h3
  have h5 : (ndAt ns b).1 = (k : Int) := by rw [← h2, hp]
  rw [dT9 h5, dT9 hn] at h3
  cases h3
 intro a b a0 a1 b0 b1 hp hn
 rw [app_len] at a1 b1
 rcases Nat.lt_or_eq_of_le (Nat.le_of_lt_succ a1) with ha | ha
 ·rcases Nat.lt_or_eq_of_le (Nat.le_of_lt_succ b1) with hb | hb
  ·rw [app_pa ha, app_pa hb] at hp
   rw [app_at ha, app_at hb] at hn
   exact hv.d a b a0 ha b0 hb hp hn
  ·exfalso
   subst hb
   rw [app_pa ha, hpl] at hp
   rw [app_at ha, app_last] at hn
   exact hnew a a0 ha hp hn
 ·rcases Nat.lt_or_eq_of_le (Nat.le_of_lt_succ b1) with hb | hb
  ·exfalso
   subst ha
   rw [app_pa hb, hpl] at hp
   rw [app_at hb, app_last] at hn
   exact hnew b b0 hb hp.symm hn.symm
  ·rw [ha, hb]
theorem wk_place {T : List Nd} (hf : FrmT T) : ∃ f : Nat → Nat, ∀ i, i < T.length → ∃ h : f i < (wkT T).length, (wkT T)[f i] = (i : Int) := by
 refine ⟨fun i => (wkT T).idxOf (i : Int), fun i hi => ?_⟩
 have h1 := wkT_all hf hi
 exact ⟨List.idxOf_lt_length_iff.2 h1, List.getElem_idxOf _⟩
structure AdF (ns ms : List Nd) (k a : Nat) (s : ByteArray) : Prop where
 v : Vl ms
 len : ms.length = ns.length + 1
 le : a ≤ ns.length
 kt : k < a
 lo : ∀ i, i < a → ndAt ms i = ndAt ns i
 at' : ndAt ms a = ((k : Int), s, [])
 hi : ∀ i, a < i → i < ms.length → ndAt ms i = mvGo (a : Int) 1 (ndAt ns (i - 1))
 back : woV (ms.map (mvGo ((a + 1 : Nat) : Int) (-1)), (a : Int), ((a + 1 : Nat) : Int)) = ns
theorem Sm.pathGo {ns ms : List Nd} (h : Sm ns ms) : ∀ k j s, Ab.pathGo ms k j s = Ab.pathGo ns k j s := by
 intro k
 induction k with
 | zero => intro j s; rfl
 | succ k ih =>
  intro j s
  unfold Ab.pathGo
  rw [h.paN, h.nm, ih]
theorem Sm.path {ns ms : List Nd} (h : Sm ns ms) (i : Nat) : pathV ms i = pathV ns i := by
 unfold pathV
 rw [h.pathGo]
theorem ltC_app {nm : ByteArray} : ∀ (A B : List Pt), (∀ q ∈ A, bLt q.1 nm = true) → (∀ q r, B = q :: r → bLt q.1 nm = false) → ltC nm (A ++ B) = A.length := by
 intro A
 induction A with
 | nil =>
  intro B _ h
  cases B with
  | nil => rfl
  | cons q r =>
   show ltC nm (q :: r) = 0
   unfold ltC
   rw [if_neg (ne_t (h q r rfl))]
 | cons a A ih =>
  intro B h1 h2
  show ltC nm (a :: (A ++ B)) = _
  unfold ltC
  rw [if_pos (h1 a (List.mem_cons_self ..)), ih B (fun q hq => h1 q (List.mem_cons_of_mem _ hq)) h2]
  rfl
section
variable {A B r : List Pt} {s o v : ByteArray} (hA : ∀ q ∈ A, bLt q.1 s = true)
include hA
theorem pos_at : posV (A ++ (s, o) :: r) s = A.length := by
 rw [pos_ltC]
 refine ltC_app A _ hA fun q r' h => ?_
 rw [← (List.cons.inj h).1]
 exact bLt_irrefl s
theorem pt_app : ptAt (A ++ (s, o) :: r) A.length = (s, o) := by
 unfold ptAt
 rw [List.getD_eq_getElem?_getD, List.getElem?_append_right (nR9 _), Nat.sub_self]
 rfl
theorem fnd_at : fndP (A ++ (s, o) :: r) s = true := by
 unfold fndP
 rw [pos_at hA, pt_app hA]
 rw [dT9 (show A.length < (A ++ (s, o) :: r).length by rw [zP9, zC9]; omega)]
 simp
theorem st_at : stP (A ++ (s, o) :: r) (s, v) = A ++ (s, v) :: r := by
 unfold stP
 dsimp only
 rw [if_pos (fnd_at hA), pos_at hA, List.set_append_right _ _ (nR9 _), Nat.sub_self]
 rfl
theorem un_at : unP (A ++ (s, o) :: r) s = A ++ r := by
 unfold unP woQ
 dsimp only
 rw [pos_at hA, Int.toNat_natCast, show (((A.length : Nat) : Int) + 1).toNat = A.length + 1 by omega, List.take_left, List.drop_append]
 rw [List.drop_of_length_le (by omega), show A.length + 1 - A.length = 1 by omega]
 rfl
variable (hB : ∀ q r', B = q :: r' → bLt q.1 s = false ∧ ¬ q.1 = s)
include hB
theorem pos_no : posV (A ++ B) s = A.length := by
 rw [pos_ltC]
 exact ltC_app A _ hA fun q r' h => (hB q r' h).1
theorem fnd_no : fndP (A ++ B) s = false := by
 unfold fndP
 rw [pos_no hA hB]
 cases B with
 | nil =>
  rw [List.append_nil, dF9 (Nat.lt_irrefl _)]
  rfl
 | cons q r' =>
  have e : ptAt (A ++ q :: r') A.length = q := by
   unfold ptAt
   rw [List.getD_eq_getElem?_getD, List.getElem?_append_right (nR9 _), Nat.sub_self]
   rfl
  rw [e, dF9 (hB q r' rfl).2, Bool.and_false]
theorem st_no : stP (A ++ B) (s, v) = A ++ (s, v) :: B := by
 unfold stP
 dsimp only
 rw [if_neg (ne_t (fnd_no hA hB)), pos_no hA hB]
 unfold wiP
 dsimp only
 rw [Int.toNat_natCast, List.take_left, List.drop_left]
end
theorem pt_cases {ps : List Pt} (ha : Asc ps) (s : ByteArray) : ∃ A B, ps = A ++ B ∧ (∀ q ∈ A, bLt q.1 s = true) ∧ ((∀ q r', B = q :: r' → bLt q.1 s = false ∧ ¬ q.1 = s) ∨ ∃ o r, B = (s, o) :: r ∧ ∀ q r', r = q :: r' → bLt q.1 s = false ∧ ¬ q.1 = s) := by
 refine ⟨ps.take (ltC s ps), ps.drop (ltC s ps), (List.take_append_drop ..).symm, lt_take ps, ?_⟩
 have h1 := lt_drop (nm := s) ps
 have h0 : Asc (ps.take (ltC s ps) ++ ps.drop (ltC s ps)) := by rw [List.take_append_drop]; exact ha
 obtain ⟨_, h2, _⟩ := List.pairwise_append.1 h0
 generalize ps.drop (ltC s ps) = B at h1 h2
 cases B with
 | nil => exact .inl fun q r' h => by cases h
 | cons p r =>
  by_cases hp : p.1 = s
  ·refine .inr ⟨p.2, r, by rw [← hp], fun q r' h => ?_⟩
   have h3 := (List.pairwise_cons.1 h2).1 q (by rw [h]; exact List.mem_cons_self ..)
   rw [hp] at h3
   refine ⟨?_, fun h4 => ?_⟩
   ·cases h5 : bLt q.1 s with
    | false => rfl
    | true =>
     have h6 := bLt_trans h3 h5
     rw [bLt_irrefl] at h6
     cases h6
   ·rw [h4, bLt_irrefl] at h3
    cases h3
  ·exact .inl fun q r' h => by
    obtain ⟨rfl, rfl⟩ := List.cons.inj h
    exact ⟨h1 p r rfl, hp⟩
end Go.Ab
