/- Package tree: Same, as one line; Find of the reference. -/
import Derived.Test.YtnlifjljmbfomaaGreatTY122toY132
import Derived.Test.YtnlifjljmbfomaaGreatTY121toY107
import Derived.Test.YtnlifjljmbfomaaGreatTX0toY61
import Derived.Test.YtnlifjljmbfomaaGreatTY64toU6
namespace Go.Ab
open Go.Proofs
set_option linter.unusedSectionVars false
set_option maxRecDepth 100000
variable [Base]
def daNNF : List AV → Option (List Nd × List Nd)
 | [.c (.p (.l c0 ns)), .c (.p (.l c1 ms)), .c (.p (.v (.func _ _ _)))] => match castD (e := ndC) (e' := c0) ns, castD (e := ndC) (e' := c1) ms with | some ns, some ms => some (ns, ms) | _, _ => none
 | _ => none
def eaNNF (a : List Nd × List Nd) : List AV := [.c (.p (.l ndC a.1)), .c (.p (.l ndC a.2)), .c (.p (.v (.func (.func 66) #[] #[])))]
def N3 : Table := ext N2 65 (saysG daNNF eaNNF fun a => (some (TTOk a), .bool (eqTB a)))
theorem n3 : TS9 N3 := by
 refine extG n2 65 (fn := Tryz.f65) rfl rfl daNNF eaNNF _ (fun _ => nB9 rfl) [0, 1, 2, 6, 7, 8, 9, 14, 15, 16, 17, 18, 30] fun a hok => ?_
 obtain ⟨ns, ms⟩ := a
 obtain ⟨hl, hps⟩ : ns.length ≤ 1000000000 ∧ ∀ i, i < ns.length → (ndAt ns i).2.2.length ≤ 1000000000 := hok
 show runF _ _ _ [] [.c (.p (.l ndC ns)), .c (.p (.l ndC ms)), .c (.p (.v (.func (.func 66) #[] #[])))] [] fun r H => Ends r H (.bool (eqTB (ns, ms))) []
 repeat ((conv => whnf); refine ⟨by first | (unfold inI64; omega) | omega | exact ⟨by omega, by omega⟩ | (intro hg; first | (unfold inI64; omega) | omega | exact ⟨by omega, by omega⟩ | (simp [lit] at hg; unfold inI64; omega) | (simp [lit] at hg; omega) | (simp [lit] at hg; exact ⟨by omega, by omega⟩)) | (show (_ : Nat) + 1 ≤ 1000000000000; omega) | exact rfl | (unfold inI64; dsimp only; omega) | (dsimp only; omega) | (intro hg; simp [lit] at hg; first | (unfold inI64; dsimp only; omega) | (dsimp only; omega)) | decide +kernel, ?_⟩)
 conv => whnf
 refine cI9 ?_ ?_<;>intro h
 ·have h1 : eqTB (ns, ms) = false := by
   unfold eqTB
   refine dF9 fun hx => ?_
   have hx : ns = ms := hx
   subst hx
   have h2 : (!decide (((ns.length : Nat) : Int) = (ns.length : Nat))) = true := h
   simp at h2
  rw [h1]
  repeat ((conv => whnf); refine ⟨by first | (unfold inI64; omega) | omega | exact ⟨by omega, by omega⟩ | exact rfl | decide +kernel, ?_⟩)
  conv => whnf
  exact eR9
 have h3 : ns.length = ms.length := by
  have h : (!decide (((ns.length : Nat) : Int) = (ms.length : Nat))) = false := h
  simp at h
  omega
 conv => whnf
 refine lI9 (σ := Nat) (fun i => [(0, XV.s (.a (.c (.p (.l ndC ns))))), (1, XV.s (.a (.c (.p (.l ndC ms))))), (2, XV.s (.a (.c (.p (.v (.func (.func 66) #[] #[])))))), (6, nX9), (7, nX9), (8, nX9), (9, nX9), (14, nX9), (15, XV.s (.a (.c (.p (.l ndC ns))))), (16, XV.s (.int .i64 (ns.length : Nat))), (17, XV.s (.int .i64 (i : Nat))), (18, nX9), (30, nX9)])
  (fun _ => []) (fun i => i ≤ ns.length ∧ ∀ j, j < i → ns.getD j ndC.dflt = ms.getD j ndC.dflt) (fun i => ns.length - i) 0 ?_ rfl ⟨nZ9 _, fun j hj => absurd hj (nN9 j)⟩ (fun i hi => ?_)
 ·repeat first|exact lN9|refine lD9 ?_|refine lS9 ?_
 obtain ⟨hi, hall⟩ := hi
 conv => whnf
 refine cI9 ?_ ?_<;>intro h4
 ·have h5 : i < ns.length := lt_of_dec h4
  have hin : 0 ≤ (i : Int) ∧ (i : Int) < (ns.length : Nat) := by omega
  have hin2 : 0 ≤ (i : Int) ∧ (i : Int) < (ms.length : Nat) := by omega
  have hpi := hps i h5
  repeat ((conv => whnf); refine ⟨by first | exact hin | exact hin2 | exact ⟨rfl, hpi⟩ | (unfold inI64; omega) | omega | exact ⟨by omega, by omega⟩ | (intro hg; first | (unfold inI64; omega) | omega | exact ⟨by omega, by omega⟩ | (simp [lit] at hg; unfold inI64; omega) | (simp [lit] at hg; omega) | (simp [lit] at hg; exact ⟨by omega, by omega⟩)) | (show (_ : Nat) + 1 ≤ 1000000000000; omega) | exact rfl | (unfold inI64; dsimp only; omega) | (dsimp only; omega) | (intro hg; simp [lit] at hg; first | (unfold inI64; dsimp only; omega) | (dsimp only; omega)) | decide +kernel, ?_⟩)
  conv => whnf
  refine cI9 ?_ ?_<;>intro h6
  ·have h7 : eqTB (ns, ms) = false := by
    unfold eqTB
    refine dF9 fun hx => ?_
    have hx : ns = ms := hx
    subst hx
    have h8 : (!samN (ndAt ns i, ndAt ns i)) = false := by rw [sam_eq.2 rfl]; rfl
    exact Bool.noConfusion (h8.symm.trans h6)
   rw [h7]
   repeat ((conv => whnf); refine ⟨by first | (unfold inI64; omega) | omega | exact ⟨by omega, by omega⟩ | exact rfl | decide +kernel, ?_⟩)
   conv => whnf
   exact eR9
  have h7 : ns.getD i ndC.dflt = ms.getD i ndC.dflt := by
   have h8 : (!samN (ndAt ns i, ndAt ms i)) = false := h6
   refine sam_eq.1 (show samN (ndAt ns i, ndAt ms i) = true from ?_)
   cases h9 : samN (ndAt ns i, ndAt ms i) with
   | true => rfl
   | false => rw [h9] at h8; cases h8
  repeat ((conv => whnf); refine ⟨by first | (unfold inI64; omega) | omega | exact ⟨by omega, by omega⟩ | exact rfl | decide +kernel, ?_⟩)
  conv => whnf
  refine kI9 (i + 1) [] rfl (nK9) rfl ?_ ⟨h5, fun j hj => ?_⟩ (show ns.length - (i + 1) < ns.length - i by omega)
  ·repeat first|exact kN9|refine kD9 ?_|refine kR9 rfl ?_
  ·by_cases hji : j = i
   ·rw [hji]; exact h7
   ·exact hall j (by omega)
 ·have hge := ge_of_dec h4
  obtain rfl : i = ns.length := by omega
  have h9 : eqTB (ns, ms) = true := by
   unfold eqTB
   exact dT9 (eq_prefix (α := Nd) _ h3 hall)
  rw [h9]
  repeat ((conv => whnf); refine ⟨by first | (unfold inI64; omega) | omega | exact ⟨by omega, by omega⟩ | exact rfl | decide +kernel, ?_⟩)
  conv => whnf
  exact eR9
def N4 : Table := ext N3 15 (saysG daTT eaTT fun a => (some (TTOk a), .bool (eqTB a)))
theorem n4 : TS9 N4 := by
 refine extG n3 15 (fn := Tryz.f15) rfl rfl daTT eaTT _ (fun _ => nB9 rfl) [0, 1, 2, 3, 4] fun a hok => ?_
 obtain ⟨ns, ms⟩ := a
 have hok : TTOk (ns, ms) := hok
 show runF _ _ _ [] [.agg [.p (.l ndC ns)], .agg [.p (.l ndC ms)]] [] fun r H => Ends r H (.bool (eqTB (ns, ms))) []
 repeat ((conv => whnf); refine ⟨by first | exact ⟨rfl, hok⟩ | (unfold inI64; omega) | omega | exact ⟨by omega, by omega⟩ | (intro hg; first | (unfold inI64; omega) | omega | exact ⟨by omega, by omega⟩ | (simp [lit] at hg; unfold inI64; omega) | (simp [lit] at hg; omega) | (simp [lit] at hg; exact ⟨by omega, by omega⟩)) | (show (_ : Nat) + 1 ≤ 1000000000000; omega) | exact rfl | (unfold inI64; dsimp only; omega) | (dsimp only; omega) | (intro hg; simp [lit] at hg; first | (unfold inI64; dsimp only; omega) | (dsimp only; omega)) | decide +kernel, ?_⟩)
 conv => whnf
 exact eR9
def rFindV (a : List Nd × ByteArray) : Int × Bool := if rchk a.1 = 0 then ((if rfV a.1 a.2 < 0 then 0 else rfV a.1 a.2), decide (0 ≤ rfV a.1 a.2)) else (0, false)
def N5 : Table := ext N4 28 (saysG daTS eaTS fun a => (none, fndR (rFindV a)))
theorem n5 : TS9 N5 := by
 refine extG n4 28 (fn := Tryz.f28) rfl rfl daTS eaTS _ (fun _ => nB9 rfl) [0, 1, 2, 4, 5, 6, 9] fun a _ => ?_
 obtain ⟨ns, s⟩ := a
 show runF _ _ _ [] [.agg [.p (.l ndC ns)], .c (.str s)] [] fun r H => Ends r H (fndR (rFindV (ns, s))) []
 unfold rFindV
 dsimp only
 repeat ((conv => whnf); refine ⟨by first | exact ⟨rfl, trivial⟩ | (unfold inI64; omega) | omega | exact ⟨by omega, by omega⟩ | (intro hg; first | (unfold inI64; omega) | omega | exact ⟨by omega, by omega⟩ | (simp [lit] at hg; unfold inI64; omega) | (simp [lit] at hg; omega) | (simp [lit] at hg; exact ⟨by omega, by omega⟩)) | (show (_ : Nat) + 1 ≤ 1000000000000; omega) | exact rfl | (unfold inI64; dsimp only; omega) | (dsimp only; omega) | (intro hg; simp [lit] at hg; first | (unfold inI64; dsimp only; omega) | (dsimp only; omega)) | decide +kernel, ?_⟩)
 conv => whnf
 refine cI9 ?_ ?_<;>intro h
 ·have h1 : ¬ rchk ns = 0 := by
   have h2 : (!decide (rchk ns = 0)) = true := h
   simpa using h2
  rw [if_neg h1]
  repeat ((conv => whnf); refine ⟨by first | (unfold inI64; omega) | omega | exact ⟨by omega, by omega⟩ | exact rfl | decide +kernel, ?_⟩)
  conv => whnf
  exact eR9
 have h1 : rchk ns = 0 := by
  have h2 : (!decide (rchk ns = 0)) = false := h
  simpa using h2
 rw [if_pos h1]
 have hf := rchk_frm h1
 repeat ((conv => whnf); refine ⟨by first | exact ⟨rfl, hf⟩ | (unfold inI64; omega) | omega | exact ⟨by omega, by omega⟩ | (intro hg; first | (unfold inI64; omega) | omega | exact ⟨by omega, by omega⟩ | (simp [lit] at hg; unfold inI64; omega) | (simp [lit] at hg; omega) | (simp [lit] at hg; exact ⟨by omega, by omega⟩)) | (show (_ : Nat) + 1 ≤ 1000000000000; omega) | exact rfl | (unfold inI64; dsimp only; omega) | (dsimp only; omega) | (intro hg; simp [lit] at hg; first | (unfold inI64; dsimp only; omega) | (dsimp only; omega)) | decide +kernel, ?_⟩)
 conv => whnf
 exact eR9
def FrzL : Env → Env → Prop
 | [], [] => True
 | (t, x) :: r, (u, y) :: q => t = u ∧ (x = .s .none ∨ x = y ∨ (∃ c zs, x = .s (.a (.c (.p (.l c zs)))) ∧ ∃ j, y = .s (.a (.c (.own j c zs)))) ∨ ∃ c, x = .s (.a (.c (.p (.l c [])))) ∧ y = .s (.v (.slice none 0 0))) ∧ FrzL r q
 | _, _ => False
theorem FrzL.nil : FrzL [] [] := trivial
theorem FrzL.drop {t : Nat} {y : XV} {r q : Env} (h : FrzL r q) : FrzL ((t, .s .none) :: r) ((t, y) :: q) := ⟨rfl, .inl rfl, h⟩
theorem FrzL.same {t : Nat} {x : XV} {r q : Env} (h : FrzL r q) : FrzL ((t, x) :: r) ((t, x) :: q) := ⟨rfl, .inr (.inl rfl), h⟩
theorem FrzL.own {t j : Nat} {c : CT} {zs : List c.den} {r q : Env} (h : FrzL r q) : FrzL ((t, .s (.a (.c (.p (.l c zs))))) :: r) ((t, .s (.a (.c (.own j c zs)))) :: q) := ⟨rfl, .inr (.inr (.inl ⟨c, zs, rfl, j, rfl⟩)), h⟩
theorem FrzL.no {t : Nat} {c : CT} {r q : Env} (h : FrzL r q) : FrzL ((t, .s (.a (.c (.p (.l c []))))) :: r) ((t, .s (.v (.slice none 0 0))) :: q) := ⟨rfl, .inr (.inr (.inr ⟨c, rfl, rfl⟩)), h⟩
theorem FrzL.get : ∀ {e e' : Env}, FrzL e e' → ∀ t, e.get t = .s .none ∨ e.get t = e'.get t ∨ (∃ c zs, e.get t = .s (.a (.c (.p (.l c zs)))) ∧ ∃ j, e'.get t = .s (.a (.c (.own j c zs)))) ∨ ∃ c, e.get t = .s (.a (.c (.p (.l c [])))) ∧ e'.get t = .s (.v (.slice none 0 0))
 | [], [], _, _ => .inr (.inl rfl)
 | (a, x) :: r, (b, y) :: q, h, t => by
  obtain ⟨rfl, h2, h3⟩ := h
  rw [Env.get_cons, Env.get_cons]
  by_cases he : a = t
  ·rw [if_pos he, if_pos he]; exact h2
  ·rw [if_neg he, if_neg he]; exact FrzL.get h3 t
 | [], _ :: _, h, _ => h.elim
 | _ :: _, [], h, _ => h.elim
abbrev N6 : Table := N5
theorem n6 : TS9 N6 := n5
end Go.Ab
namespace Go.Ab
open Go.Proofs Go.Shelf Go.RowKit Go.Lib
set_option linter.unusedSectionVars false
variable [Base]
theorem frzG {G : View} (hS : Sim G) {id : Nat} {t : TypeId} {c : CT} {zs zs' : List c.den} {i k ver : Nat} {x : AC} (ho : G.H[id]? = some (.gvec t c zs i k x ver)) (hz : holeFix c zs i k x = some zs') :
  ∃ G', G'.w = G.w ∧ Ext G G' ∧ Sim G' ∧ G'.H = G.H.set id .dead ∧ ∀ v, RepC G (.gs id ver zs.length) v → Rep G'.I G'.w (.list c) zs' [v] := by
 obtain ⟨vs, rest, v1, hheap, hno, hi, hk, hx, hrows⟩ := hS.objs id _ ho trivial
 obtain ⟨hzl, hr2⟩ := hole_rows hz hrows hi hk hx
 have hlt : G.ρ id < G.w.heap.size := (Array.getElem?_eq_some_iff.1 hheap).1
 have hpl : i * c.width + k < vs.length := by
  have : (i + 1) * c.width ≤ zs.length * c.width := Nat.mul_le_mul_right _ hi
  rw [Nat.add_mul] at this
  rw [hrows.1]; omega
 rw [List.set_append_left _ _ hpl] at hheap
 generalize vs.set (i * c.width + k) v1 = cs at *
 have g : Upd G id (G.ρ id) (.gvec t c zs i k x ver) .dead (fun x => x < zs.length * c.width) G.w := ⟨ho, trivial, nR9 _, rfl, rfl, rfl, fun _ _ _ => rfl, .inr ⟨_, ho, trivial, rfl⟩, hlt, hno⟩
 have hE := Ext.upd hS g
 refine ⟨G.upd id (G.ρ id) .dead (fun x => x < zs.length * c.width) G.w, rfl, hE, Sim.upd hS g fun h => h.elim, rfl, fun v hv => ?_⟩
 obtain ⟨_, cap, cur, rfl, _, hcap, _⟩ := gs_live hv ho
 have := Rows.list (b := G.ρ id) (off := 0) (cap := cap) (hr2.mono hE.stays) (by rw [hzl]; exact hcap) fun m u hm => by
  have hml : m < cs.length := (List.getElem?_eq_some_iff.1 hm).1
  refine ⟨.inr ⟨rfl, by rw [hr2.1, hzl] at hml; omega⟩, ?_⟩
  show G.w.cell? _ = _
  simp [World.cell?, hheap]
  rw [List.getElem?_append_left hml]
  exact hm
 rw [hzl] at this
 exact this
theorem frzT {G : View} (hS : Sim G) {id : Nat} {t : TypeId} {c : CT} {zs : List c.den} {ver : Nat} (ho : G.H[id]? = some (.arr t c zs ver)) (hpos : 0 < zs.length) {len : Nat} (hlen : len ≤ zs.length) :
  ∃ G', G'.w = G.w ∧ Ext G G' ∧ Sim G' ∧ G'.H = G.H.set id .dead ∧ ∀ v, RepC G (.sl id c ver len) v → Rep G'.I G'.w (.list c) (zs.take len) [v] := by
 obtain ⟨vs, rest, hheap, hno, hrows⟩ := hS.objs id _ ho hpos
 have hlt : G.ρ id < G.w.heap.size := (Array.getElem?_eq_some_iff.1 hheap).1
 have g : Upd G id (G.ρ id) (.arr t c zs ver) .dead (fun x => x < zs.length * c.width) G.w := ⟨ho, trivial, nR9 _, rfl, rfl, rfl, fun _ _ _ => rfl, .inr ⟨_, ho, hpos, rfl⟩, hlt, hno⟩
 have hE := Ext.upd hS g
 refine ⟨G.upd id (G.ρ id) .dead (fun x => x < zs.length * c.width) G.w, rfl, hE, Sim.upd hS g fun h => h.elim, rfl, fun v hv => ?_⟩
 obtain ⟨_, hv⟩ := sl_live hv ho
 rcases hv with ⟨h0, _⟩ | ⟨_, cap, cur, rfl, hcur, hle, hmax, hsz⟩
 ·omega
 ·have hl : (zs.take len).length = len := by rw [List.length_take]; omega
  have := Rows.list (b := G.ρ id) (off := 0) (cap := cap) ((hrows.take hlen).mono hE.stays) (by rw [hl]; omega) fun k u hk => by
   have hk2 : vs[k]? = some u := by
    rw [List.getElem?_take] at hk
    split at hk
    ·exact hk
    ·cases hk
   have hkl : k < vs.length := (List.getElem?_eq_some_iff.1 hk2).1
   refine ⟨.inr ⟨rfl, by rw [← hrows.1]; omega⟩, ?_⟩
   show G.w.cell? _ = _
   simp [World.cell?, hheap]
   rw [List.getElem?_append_left hkl]
   exact hk2
  rw [hl] at this
  exact this
theorem frzGS {G : View} (hS : Sim G) {id : Nat} {t : TypeId} {c : CT} {zs zs' : List c.den} {i k ver id2 : Nat} {t2 : TypeId} {c2 : CT} {ps : List c2.den} {ver2 : Nat} (ho : G.H[id]? = some (.gvec t c zs i k (.sl id2 c2 ver2 ps.length) ver)) (ho2 : G.H[id2]? = some (.arr t2 c2 ps ver2)) (hpos : 0 < ps.length) (hz : holeFix c zs i k (.p (.l c2 ps)) = some zs') :
  ∃ G', G'.w = G.w ∧ Ext G G' ∧ Sim G' ∧ G'.H = (G.H.set id2 .dead).set id .dead ∧ ∀ v, RepC G (.gs id ver zs.length) v → Rep G'.I G'.w (.list c) zs' [v] := by
 obtain ⟨vs0, rest0, v0, hheap0, _, hi0, hk0, hx0, hrows0⟩ := hS.objs id _ ho trivial
 obtain ⟨G1, hw1, he1, hs1, hH1, hf1⟩ := frzT hS ho2 hpos (nR9 _)
 rw [List.take_length] at hf1
 have hne : ¬ id2 = id := fun h => by rw [h, ho] at ho2; cases ho2
 have ho1 : G1.H[id]? = some (.gvec t c zs i k (.sl id2 c2 ver2 ps.length) ver) := by rw [hH1, List.getElem?_set, if_neg hne]; exact ho
 have hρ : G1.ρ id = G.ρ id := by
  obtain ⟨o', h1, h2⟩ := he1.objs id _ ho
  rw [ho1] at h1
  cases h1
  exact (h2.2.2.2 rfl).2.1
 obtain ⟨vs, rest, v1, hheap, hno, hi, hk, _, hrows⟩ := hs1.objs id _ ho1 trivial
 have hp0 : i * c.width + k < (vs0 ++ rest0).length := by
  have : (i + 1) * c.width ≤ zs.length * c.width := Nat.mul_le_mul_right _ hi0
  rw [Nat.add_mul] at this
  rw [zP9, hrows0.1]; omega
 have hp1 : i * c.width + k < (vs ++ rest).length := by
  have : (i + 1) * c.width ≤ zs.length * c.width := Nat.mul_le_mul_right _ hi
  rw [Nat.add_mul] at this
  rw [zP9, hrows.1]; omega
 have hv : v1 = v0 := by
  rw [hw1, hρ, hheap0] at hheap
  have h1 : ((vs0 ++ rest0).set (i * c.width + k) v0) = ((vs ++ rest).set (i * c.width + k) v1) := by
   have h2 := Option.some.inj hheap
   injection h2 with h3
   exact congrArg Array.toList h3
  have h2 : ((vs0 ++ rest0).set (i * c.width + k) v0)[i * c.width + k]? = some v0 := by rw [List.getElem?_set, if_pos rfl, if_pos hp0]
  rw [h1, List.getElem?_set, if_pos rfl, if_pos hp1] at h2
  exact Option.some.inj h2
 have hx1 : RepC G1 (.p (.l c2 ps)) v1 := by rw [hv]; exact hf1 _ hx0
 obtain ⟨hzl, hr2⟩ := hole_rows hz hrows hi hk hx1
 have hlt : G1.ρ id < G1.w.heap.size := (Array.getElem?_eq_some_iff.1 hheap).1
 have hpl : i * c.width + k < vs.length := by
  have : (i + 1) * c.width ≤ zs.length * c.width := Nat.mul_le_mul_right _ hi
  rw [Nat.add_mul] at this
  rw [hrows.1]; omega
 rw [List.set_append_left _ _ hpl] at hheap
 generalize vs.set (i * c.width + k) v1 = cs at *
 have g : Upd G1 id (G1.ρ id) (.gvec t c zs i k (.sl id2 c2 ver2 ps.length) ver) .dead (fun x => x < zs.length * c.width) G1.w := ⟨ho1, trivial, nR9 _, rfl, rfl, rfl, fun _ _ _ => rfl, .inr ⟨_, ho1, trivial, rfl⟩, hlt, hno⟩
 have hE := Ext.upd hs1 g
 refine ⟨G1.upd id (G1.ρ id) .dead (fun x => x < zs.length * c.width) G1.w, hw1, he1.trans hE, Sim.upd hs1 g fun h => h.elim, by show G1.H.set id .dead = _; rw [hH1], fun v hv => ?_⟩
 obtain ⟨_, cap, cur, rfl, _, hcap, _⟩ := gs_live (RepC.mono he1 hv) ho1
 have := Rows.list (b := G1.ρ id) (off := 0) (cap := cap) (hr2.mono hE.stays) (by rw [hzl]; exact hcap) fun m u hm => by
  have hml : m < cs.length := (List.getElem?_eq_some_iff.1 hm).1
  refine ⟨.inr ⟨rfl, by rw [hr2.1, hzl] at hml; omega⟩, ?_⟩
  show G1.w.cell? _ = _
  simp [World.cell?, hheap]
  rw [List.getElem?_append_left hml]
  exact hm
 rw [hzl] at this
 exact this
def Frzbl (X : AC) (H : List AO) (c : CT) (zs' : List c.den) : Prop :=
 (∃ id t zs i k x ver, X = .gs id ver zs.length ∧ H[id]? = some (.gvec t c zs i k x ver) ∧ holeFix c zs i k x = some zs') ∨
 (∃ id t zs ver len, X = .sl id c ver len ∧ H[id]? = some (.arr t c zs ver) ∧ 0 < zs.length ∧ len ≤ zs.length ∧ zs' = zs.take len) ∨
 (X = .p (.v (.slice none 0 0)) ∧ zs' = []) ∨
 (∃ id t zs i k ver id2 t2 c2 ps ver2, X = .gs id ver zs.length ∧ H[id]? = some (.gvec t c zs i k (.sl id2 c2 ver2 ps.length) ver) ∧ H[id2]? = some (.arr t2 c2 ps ver2) ∧ 0 < ps.length ∧ holeFix c zs i k (.p (.l c2 ps)) = some zs')
theorem Frzbl.go {X : AC} {c : CT} {zs' : List c.den} {G : View} (hS : Sim G) {row : List AC} {rest : List AO} (hH : G.H = .row row :: rest) (h : Frzbl X (.row row :: rest) c zs') :
  ∃ G', G'.w = G.w ∧ Ext G G' ∧ Sim G' ∧ G'.H[0]? = some (.row row) ∧ ∀ v, RepC G X v → Rep G'.I G'.w (.list c) zs' [v] := by
 rcases h with ⟨id, t, zs, i, k, x, ver, rfl, ho, hz⟩ | ⟨id, t, zs, ver, len, rfl, ho, hp, hl, rfl⟩ | ⟨rfl, rfl⟩ | ⟨id, t, zs, i, k, ver, id2, t2, c2, ps, ver2, rfl, ho, ho2, hp, hz⟩
 ·have hne : ¬ id = 0 := fun h => by subst h; cases ho
  obtain ⟨G2, hw, hx, hs, hH2, hf⟩ := frzG hS (by rw [hH]; exact ho) hz
  exact ⟨G2, hw, hx, hs, by rw [hH2, hH, List.getElem?_set, if_neg hne]; rfl, hf⟩
 ·have hne : ¬ id = 0 := fun h => by subst h; cases ho
  obtain ⟨G2, hw, hx, hs, hH2, hf⟩ := frzT hS (by rw [hH]; exact ho) hp hl
  exact ⟨G2, hw, hx, hs, by rw [hH2, hH, List.getElem?_set, if_neg hne]; rfl, hf⟩
 ·exact ⟨G, rfl, Ext.refl G, hS, by rw [hH]; rfl, fun v hv => by
   obtain ⟨_, rfl⟩ := hv
   exact .inl ⟨rfl, rfl⟩⟩
 ·have hne : ¬ id = 0 := fun h => by subst h; cases ho
  have hne2 : ¬ id2 = 0 := fun h => by subst h; cases ho2
  obtain ⟨G2, hw, hx, hs, hH2, hf⟩ := frzGS hS (by rw [hH]; exact ho) (by rw [hH]; exact ho2) hp hz
  exact ⟨G2, hw, hx, hs, by rw [hH2, hH, List.getElem?_set, if_neg hne, List.getElem?_set, if_neg hne2]; rfl, hf⟩
theorem ext_rowT {P : Program} {T : Table} {f : FuncId} {s s' : Says} (h1 : TSound P (ext T f s)) (hT : TSound P T)
  (h : ∀ args H p r H', s' args H = some (p, r, H') → holdsO p → ∃ q row0 row rest X c zs', holdsO q ∧ H = [.row row0] ∧ s args H = some (q, .a (.agg [X]), .row row :: rest) ∧ (∀ y ∈ row, ∃ z, y = .p z) ∧ Frzbl X (.row row :: rest) c zs' ∧ r = .a (.agg [.p (.l c zs')]) ∧ H' = [.row row]) : TSound P (ext T f s') :=
 ext_sound hT fun args H p r H' hs hp G hS hH cargs ha => by
  obtain ⟨q, row0, row, rest, X, c, zs', hq, rfl, hs1, hpure, hfz, rfl, rfl⟩ := h args H p r H' hs hp
  have hb : Nat.beq f f = true := Nat.beq_refl f
  refine (h1 f args _ q (.a (.agg [X])) (.row row :: rest) (by unfold ext; rw [hb]; exact hs1) hq G hS hH cargs ha).mono fun v G1 he hs1 ⟨hH1, hr⟩ => ?_
  obtain ⟨G2, hw2, hx2, hs2, hrow2, hf⟩ := hfz.go hs1 hH1
  have hren : ∀ l : List AC, (∀ y ∈ l, ∃ z, y = .p z) → renCs [0] l = some l := by
   intro l
   induction l with
   | nil => intro _; rfl
   | cons a l ih =>
    intro hl
    obtain ⟨z, rfl⟩ := hl a (List.mem_cons_self ..)
    simp only [renCs, renC, ih fun y hy => hl y (List.mem_cons_of_mem _ hy)]
  have hsub : subH [0] G2.H [0] = some [.row row] := by
   simp only [subH, hrow2, renO, hren _ hpure]
  refine ⟨G2.sub [0] _, hw2, (he.trans hx2).keep hsub rfl fun k hk => ?_, hs2.sub hsub rfl, rfl, ?_⟩
  ·rw [hH] at hk
   have : k = 0 := by simpa using hk
   subst this
   rfl
  ·obtain ⟨cs, rfl, hcs⟩ := hr
   cases hcs with
   | cons a b =>
    cases b
    exact ⟨_, rfl, .cons (hf _ a) .nil⟩
end Go.Ab
namespace Go.Ab
open Go.Proofs
set_option linter.unusedSectionVars false
set_option maxRecDepth 100000
variable [Base]
def zzS : ByteArray := ⟨#[122, 122]⟩
def bnL1 : List ByteArray := [⟨#[]⟩, ⟨#[97]⟩, ⟨#[122]⟩, ⟨#[49]⟩, ⟨#[97, 32, 98]⟩, ⟨#[35, 97]⟩, ⟨#[97, 50, 51, 52, 53, 54, 55, 56, 57, 48, 49, 50, 51, 52, 53, 54, 55, 56, 57, 48, 49, 50, 51, 52, 53, 54, 55, 56, 57, 48, 49]⟩, ⟨#[97, 50, 51, 52, 53, 54, 55, 56, 57, 48, 49, 50, 51, 52, 53, 54, 55, 56, 57, 48, 49, 50, 51, 52, 53, 54, 55, 56, 57, 48, 49, 50]⟩]
def bnL3 : List ByteArray := [⟨#[]⟩, ⟨#[97, 64, 49]⟩, ⟨#[49]⟩, ⟨#[122, 122]⟩]
def pkI (l : List Int) (zs : List Int) (n : Int) : Int := l.getD (modV (rawV zs n) l.length).toNat 0
def bnK (zs : List Int) (n : Int) (ns : List Nd) : Nat := (modV (rawV zs n) ns.length).toNat
def bnC (zs : List Int) (n : Int) : Int := modV (rawV zs (rawN zs n)) 9
def bnN (zs : List Int) (n : Int) : Int := rawN zs (rawN zs n)
def bnP (ns : List Nd) (k : Nat) (ps : List Pt) : List Nd := ns.set k ((ndAt ns k).1, (ndAt ns k).2.1, ps)
def prSw : List Pt → List Pt
 | a :: b :: r => b :: a :: r
 | l => l
def bnV (zs : List Int) (n : Int) (ns : List Nd) : List Nd × Int :=
 if ns.length = 0 then ([], n)
 else if bnC zs n = 0 then (ns.set (bnK zs n ns) (pkI [-1, 0, (bnK zs n ns : Nat), (bnK zs n ns : Nat) - 1, 200] zs (bnN zs n), (ndAt ns (bnK zs n ns)).2), rawN zs (bnN zs n))
 else if bnC zs n = 1 then (ns.set (bnK zs n ns) ((ndAt ns (bnK zs n ns)).1, pickS bnL1 zs (bnN zs n), (ndAt ns (bnK zs n ns)).2.2), rawN zs (bnN zs n))
 else if bnC zs n = 2 then (bnP ns (bnK zs n ns) ((ndAt ns (bnK zs n ns)).2.2 ++ [(pickS propL zs (bnN zs n), ByteArray.empty)]), rawN zs (bnN zs n))
 else if bnC zs n = 3 then (bnP ns (bnK zs n ns) ((ndAt ns (bnK zs n ns)).2.2 ++ [(pickS bnL3 zs (bnN zs n), ByteArray.empty)]), rawN zs (bnN zs n))
 else if bnC zs n = 4 then (ns ++ [ndAt ns (bnK zs n ns)], bnN zs n)
 else if bnC zs n = 5 then (ns ++ [(((bnK zs n ns : Nat) : Int), zzS, ([] : List Pt))], bnN zs n)
 else if bnC zs n = 6 then (bnP ns (bnK zs n ns) ((ndAt ns (bnK zs n ns)).2.2 ++ [(zzS, bytesOf (List.replicate (pkI [256, 257] zs (bnN zs n)).toNat 0))]), rawN zs (bnN zs n))
 else if bnC zs n = 7 then (bnP ns (bnK zs n ns) (prSw (ndAt ns (bnK zs n ns)).2.2), bnN zs n)
 else (ns.take (bnK zs n ns), bnN zs n)
def bnPl (zs : List Int) (n : Int) (ns : List Nd) : Prop := bnC zs n ≠ 2 ∧ bnC zs n ≠ 3 ∧ bnC zs n ≠ 6 ∧ (bnC zs n = 7 → (ndAt ns (bnK zs n ns)).2.2.length ≤ 1)
def saysBnP : Says := fun args H => match args, H with
 | [.c (.ptr 0 0), .agg [.p (.l (.pair (.int .i64) (.pair .str (.list (.pair .str .str)))) ns)]], [.row [.p (.l (.int .i64) zs), .p (.v (.int .i64 n))]] =>
  some (some (tapeOk zs n ∧ LenN ns ∧ 0 < ns.length ∧ ns.length ≤ 1000 ∧ bnPl zs n ns), .a (.agg [.sl 1 ndC (if bnC zs n = 4 ∨ bnC zs n = 5 then ns.length else ns.length - 1) (bnV zs n ns).1.length]), [tapeO zs (bnV zs n ns).2, .arr ndT ndC (if bnC zs n = 8 then ns else (bnV zs n ns).1) (if bnC zs n = 4 ∨ bnC zs n = 5 then ns.length else ns.length - 1)])
 | _, _ => none
theorem bn_p : TS9 (ext N6 12 saysBnP) := by
 refine ext_run n6 (f := 12) (fn := Tryz.f12) rfl rfl [0, 1, 3, 4, 5, 7, 8, 9, 10, 12, 13, 14, 15, 33, 45, 51, 62, 72, 86, 103, 115, 124, 142, 149] fun args H p r' H' hs hp => ?_
 unfold saysBnP at hs
 split at hs
 ·rename_i ns zs n
  cases hs
  obtain ⟨ht, hl, hpos, hle, hc⟩ := hp
  have hlen := hl.len
  refine ⟨nB9 rfl, [0, 4], rfl, fun k hk => by obtain rfl : k = 0 := Nat.lt_one_iff.1 hk; rfl, ?_⟩
  have hk0 := mN9 (rawV zs n) ns.length
  have hk1 := modV_lt (rawV zs n) ns.length (by omega)
  obtain ⟨k, hk⟩ : ∃ k : Nat, modV (rawV zs n) ns.length = k := ⟨(modV (rawV zs n) ns.length).toNat, by omega⟩
  have hbk : bnK zs n ns = k := by unfold bnK; rw [hk, Int.toNat_natCast]
  have hkl : k < ns.length := by omega
  obtain ⟨V, hV⟩ : ∃ V, bnV zs n ns = V := ⟨_, rfl⟩
  obtain ⟨W, hW⟩ : ∃ W, (if bnC zs n = 4 ∨ bnC zs n = 5 then ns.length else ns.length - 1) = W := ⟨_, rfl⟩
  obtain ⟨A, hA⟩ : ∃ A, (if bnC zs n = 8 then ns else (bnV zs n ns).1) = A := ⟨_, rfl⟩
  rw [hV] at hA
  rw [hV, hW, hA]
  repeat ((conv => whnf); refine ⟨by first | (unfold inI64; omega) | omega | exact ⟨by omega, by omega⟩ | exact rfl | decide +kernel, ?_⟩)
  conv => whnf
  refine lI9 (fun i : Nat => [(0, XV.s (.a (.c (.ptr 0 0)))), (1, nX9), (3, XV.s (.a (.c (.ptr 1 0)))), (4, XV.s (.a (.c (.ptr 2 0)))), (5, XV.s (.a (.c (.ptr 3 0)))), (7, nX9), (8, nX9), (9, nX9), (10, nX9), (12, XV.s (.a (.c (.p (.l ndC ns))))), (13, XV.s (.int .i64 (ns.length : Nat))), (14, XV.s (.int .i64 (i : Nat))), (15, nX9), (33, nX9), (45, nX9), (51, nX9), (62, nX9), (72, nX9), (86, nX9), (103, nX9), (115, nX9), (124, nX9), (142, nX9), (149, nX9)])
   (fun i => match i with
    | 0 => [tapeO zs n, .row [.p (.l ndC ns)], .row [.p (.v (.slice none 0 0))], .row [.p (.v (.slice none 0 0))]]
    | i + 1 => [tapeO zs n, .row [.p (.l ndC ns)], .row [.p (.v (.slice none 0 0))], .row [.sl 4 ndC i (i + 1)], hpV (ns.take (i + 1)) i]) (fun i => i ≤ ns.length) (fun i => ns.length - i) 0 ?_ rfl (nZ9 _) fun i hi => ?_
  ·repeat first|exact lN9|refine lD9 ?_|refine lS9 ?_
  have hids : ∀ k, k < 4 → [0, 1, 2, 3, 7][k]? = some k := fun k hk => by
   obtain rfl | rfl | rfl | rfl : k = 0 ∨ k = 1 ∨ k = 2 ∨ k = 3 := by omega
   all_goals rfl
  have hids2 : ∀ k, k < 4 → [0, 1, 2, 3, 4][k]? = some k := fun k hk => by
   obtain rfl | rfl | rfl | rfl : k = 0 ∨ k = 1 ∨ k = 2 ∨ k = 3 := by omega
   all_goals rfl
  have hcl : ∀ i, (hin : i < ns.length) → 0 + (ns.getD i ndC.dflt).2.2.length ≤ capBound := by
   intro i hin
   have he : ns.getD i ndC.dflt = ns[i] := by simp [hin]
   rw [he, Nat.zero_add]
   exact Nat.le_trans (hl.at hin) (by decide)
  cases i with
  | zero =>
   have hob : (0 : Int) ≤ 0 ∧ (0 : Int) < (ns.length : Nat) := by omega
   have hc0 := hcl 0 hpos
   repeat ((conv => whnf); refine ⟨by first | (unfold inI64; omega) | omega | exact ⟨by omega, by omega⟩ | exact rfl | decide +kernel, ?_⟩)
   conv => whnf
   refine cI9 ?_ ?_<;>intro h
   ·repeat ((conv => whnf); refine ⟨by first | exact hob | (unfold inI64; omega) | omega | exact ⟨by omega, by omega⟩ | exact rfl | decide +kernel, ?_⟩)
    conv => whnf
    refine Or.inl ?_
    repeat ((conv => whnf); refine ⟨by first | exact hc0 | (unfold inI64; omega) | omega | exact ⟨by omega, by omega⟩ | exact rfl | decide +kernel, ?_⟩)
    conv => whnf
    refine Or.inl ?_
    repeat ((conv => whnf); refine ⟨by first | (unfold inI64; omega) | omega | exact ⟨by omega, by omega⟩ | exact rfl | decide +kernel, ?_⟩)
    conv => whnf
    refine Or.inr ?_
    have hone : 1 ≤ capBound := by decide
    repeat ((conv => whnf); refine ⟨by first | exact hone | (unfold inI64; omega) | omega | exact ⟨by omega, by omega⟩ | exact rfl | decide +kernel, ?_⟩)
    conv => whnf
    have he : [((ns.getD 0 ndC.dflt).1, (ns.getD 0 ndC.dflt).2.1, ([] : List Pt) ++ (ns.getD 0 ndC.dflt).2.2)] = ns.take 1 := by
     rw [List.nil_append, List.take_succ_eq_append_getElem hpos]
     have he : ns.getD 0 ndC.dflt = ns[0] := by simp [hpos]
     rw [he]
     rfl
    refine kI9 1 [0, 1, 2, 3, 7] rfl hids ?_ ?_ (by show 1 ≤ _; omega) (by show ns.length - 1 < ns.length - 0; omega)
    ·show some [tapeO zs n, AO.row _, AO.row _, AO.row [.sl 4 ndC 0 1], AO.arr ndT ndC [((ns.getD 0 ndC.dflt).1, (ns.getD 0 ndC.dflt).2.1, ([] : List Pt) ++ (ns.getD 0 ndC.dflt).2.2)] 0] = some [tapeO zs n, AO.row _, AO.row _, AO.row [.sl 4 ndC 0 1], AO.arr ndT ndC (ns.take 1) 0]
     rw [he]
    ·repeat first|exact kN9|refine kD9 ?_|refine kR9 rfl ?_
   ·exfalso
    have := ge_of_dec (i := 0) h
    omega
  | succ i =>
   repeat ((conv => whnf); refine ⟨by first | (unfold inI64; omega) | omega | exact ⟨by omega, by omega⟩ | exact rfl | decide +kernel, ?_⟩)
   conv => whnf
   refine cI9 ?_ ?_<;>intro h
   ·have hin : i + 1 < ns.length := by
     have h9 : ((i : Int) + 1) < (ns.length : Nat) := oT9 h
     omega
    have hob : (0 : Int) ≤ (i : Int) + 1 ∧ (i : Int) + 1 < (ns.length : Nat) := by omega
    have hc0 := hcl (i + 1) hin
    have h01 : 0 < 1 := Nat.zero_lt_one
    have hcap : i + 1 + 1 ≤ capBound := Nat.le_trans (m := 1000000001) (by omega) (by decide)
    repeat ((conv => whnf); refine ⟨by first | exact hob | (unfold inI64; omega) | omega | exact ⟨by omega, by omega⟩ | exact rfl | decide +kernel, ?_⟩)
    conv => whnf
    refine Or.inl ?_
    repeat ((conv => whnf); refine ⟨by first | exact hc0 | (unfold inI64; omega) | omega | exact ⟨by omega, by omega⟩ | exact rfl | decide +kernel, ?_⟩)
    conv => whnf
    refine Or.inl ?_
    repeat ((conv => whnf); refine ⟨by first | exact h01 | exact hcap | (unfold inI64; omega) | omega | exact ⟨by omega, by omega⟩ | exact rfl | decide +kernel, ?_⟩)
    conv => whnf
    have he : (ns.take (i + 1)).take (i + 1) ++ [((ns.getD (i + 1) ndC.dflt).1, (ns.getD (i + 1) ndC.dflt).2.1, ([] : List Pt) ++ (ns.getD (i + 1) ndC.dflt).2.2)] = ns.take (i + 1 + 1) := by
     rw [List.nil_append, List.take_succ_eq_append_getElem hin, List.take_take, Nat.min_self]
     have he : ns.getD (i + 1) ndC.dflt = ns[i + 1] := by simp [hin]
     rw [he]
    refine kI9 (i + 1 + 1) [0, 1, 2, 3, 4] rfl hids2 ?_ ?_ hin (by show ns.length - (i + 1 + 1) < ns.length - (i + 1); omega)
    ·show some [tapeO zs n, AO.row _, AO.row _, AO.row [.sl 4 ndC (i + 1) (i + 1 + 1)], AO.arr ndT ndC ((ns.take (i + 1)).take (i + 1) ++ [((ns.getD (i + 1) ndC.dflt).1, (ns.getD (i + 1) ndC.dflt).2.1, ([] : List Pt) ++ (ns.getD (i + 1) ndC.dflt).2.2)]) (i + 1)] = some [tapeO zs n, AO.row _, AO.row _, AO.row [.sl 4 ndC (i + 1) (i + 1 + 1)], AO.arr ndT ndC (ns.take (i + 1 + 1)) (i + 1)]
     rw [he]
    ·repeat first|exact kN9|refine kD9 ?_|refine kR9 rfl ?_
   ·have hie : i + 1 = ns.length := by
     have h9 : ¬ ((i : Int) + 1) < (ns.length : Nat) := oF9 h
     omega
    have hie2 : ns.length - 1 = i := by omega
    rw [List.take_of_length_le (by omega)]
    have hk' : modV (rawV zs n) ((i + 1 : Nat) : Int) = k := by rw [hie]; exact hk
    repeat ((conv => whnf); refine ⟨by first | (unfold inI64; omega) | omega | exact ⟨by omega, by omega⟩ | exact rfl | decide +kernel, ?_⟩)
    conv => whnf
    rw [hk']
    have hbi : i = i ∧ (0 : Int) ≤ (k : Int) ∧ (k : Int) < ((i + 1 : Nat) : Int) := ⟨rfl, by omega, by omega⟩
    have ht9 : tapeOk zs (rawN zs n) ∧ (9 : Int) ≤ 4611686018427387904 := ⟨rawN_ok9 ht, by decide⟩
    repeat ((conv => whnf); refine ⟨by first | exact hbi | exact ht9 | (unfold inI64; omega) | omega | exact ⟨by omega, by omega⟩ | exact rfl | decide +kernel, ?_⟩)
    conv => whnf
    have hc0 := mN9 (rawV zs (rawN zs n)) 9
    have hc1 := modV_lt (rawV zs (rawN zs n)) 9 (by decide)
    obtain ⟨c, hcc⟩ : ∃ c, modV (rawV zs (rawN zs n)) 9 = c := ⟨_, rfl⟩
    rw [hcc] at hc0 hc1
    have hbc : bnC zs n = c := hcc
    rw [hbc] at hA hW
    unfold bnPl at hc
    rw [hbc, hbk] at hc
    have ht3 : tapeOk zs (bnN zs n) := rawN_ok9 (rawN_ok9 ht)
    have hn0 : ¬ ns.length = 0 := by omega
    rw [hcc]
    obtain ⟨q2, q3, q6, q7⟩ := hc
    have hcs : c = 0 ∨ c = 1 ∨ c = 4 ∨ c = 5 ∨ c = 7 ∨ c = 8 := by omega
    rcases hcs with rfl | rfl | rfl | rfl | rfl | rfl
    ·have hV' : V = (ns.set k (pkI [-1, 0, (k : Nat), (k : Nat) - 1, 200] zs (bnN zs n), (ndAt ns k).2), rawN zs (bnN zs n)) := by
      rw [← hV]
      unfold bnV
      rw [if_neg hn0, if_pos hbc, hbk]
     have o1 : tapeOk zs (bnN zs n) ∧ 1 ≤ ([-1, 0, (k : Int), (k : Int) - 1, 200] : List Int).length ∧ ([-1, 0, (k : Int), (k : Int) - 1, 200] : List Int).length ≤ 1000 := ⟨ht3, by show 1 ≤ 5; decide, by show 5 ≤ 1000; decide⟩
     have o2 : inI64 ((k : Int) - 1) := by unfold inI64; omega
     repeat ((conv => whnf); refine ⟨by first | exact o1 | exact o2 | (unfold inI64; omega) | omega | exact ⟨by omega, by omega⟩ | exact rfl | decide +kernel, ?_⟩)
     conv => whnf
     have hW' : W = i := by rw [← hW, if_neg (by omega), hie2]
     have hA' : A = V.1 := by rw [← hA, if_neg (by omega)]
     rw [hA', hW', hV']
     refine eT9 ?_
     show SV.a (.agg [.sl 1 ndC _ _]) = .a (.agg [.sl 1 ndC _ _])
     rw [List.length_set, ← hie]
    ·have hV' : V = (ns.set k ((ndAt ns k).1, pickS bnL1 zs (bnN zs n), (ndAt ns k).2.2), rawN zs (bnN zs n)) := by
      rw [← hV]
      unfold bnV
      rw [if_neg hn0, if_neg (by omega), if_pos hbc, hbk]
     have o1 : tapeOk zs (bnN zs n) ∧ (8 : Int) ≤ 4611686018427387904 := ⟨ht3, by decide⟩
     have m0 := mN9 (rawV zs (bnN zs n)) 8
     have m1 := modV_lt (rawV zs (bnN zs n)) 8 (by decide)
     have o2 : 0 ≤ modV (rawV zs (bnN zs n)) 8 ∧ modV (rawV zs (bnN zs n)) 8 < (bnL1.length : Nat) := ⟨m0, m1⟩
     repeat ((conv => whnf); refine ⟨by first | exact o1 | exact o2 | (unfold inI64; omega) | omega | exact ⟨by omega, by omega⟩ | exact rfl | decide +kernel, ?_⟩)
     conv => whnf
     have hW' : W = i := by rw [← hW, if_neg (by omega), hie2]
     have hA' : A = V.1 := by rw [← hA, if_neg (by omega)]
     rw [hA', hW', hV']
     refine eT9 ?_
     show SV.a (.agg [.sl 1 ndC _ _]) = .a (.agg [.sl 1 ndC _ _])
     rw [List.length_set, ← hie]
    ·have hV' : V = (ns ++ [ndAt ns k], bnN zs n) := by
      rw [← hV]
      unfold bnV
      rw [if_neg hn0, if_neg (by omega), if_neg (by omega), if_neg (by omega), if_neg (by omega), if_pos hbc, hbk]
     have o1 : 0 < 1 := Nat.zero_lt_one
     have o2 : i + 1 + 1 ≤ capBound := by unfold capBound; omega
     repeat ((conv => whnf); refine ⟨by first | exact o1 | exact o2 | ((conv => whnf); exact ⟨⟨rfl, rfl, rfl⟩, trivial⟩) | exact Early.one (by decide +kernel) (by (conv => whnf); exact ⟨rfl, rfl, rfl⟩) trivial | (unfold inI64; omega) | omega | exact ⟨by omega, by omega⟩ | exact rfl | decide +kernel, ?_⟩)
     conv => whnf
     have hW' : W = i + 1 := by rw [← hW, if_pos (by omega), ← hie]
     have hA' : A = V.1 := by rw [← hA, if_neg (by omega)]
     rw [hA', hW', hV']
     have ht5 : ns.take (i + 1) = ns := List.take_of_length_le (by omega)
     refine eE9 ⟨?_, by rw [ht5]; rfl⟩
     show SV.a (.agg [.sl 1 ndC _ _]) = .a (.agg [.sl 1 ndC _ _])
     rw [zP9, ← hie]
     rfl
    ·have hV' : V = (ns ++ [((k : Int), zzS, ([] : List Pt))], bnN zs n) := by
      rw [← hV]
      unfold bnV
      rw [if_neg hn0, if_neg (by omega), if_neg (by omega), if_neg (by omega), if_neg (by omega), if_neg (by omega), if_pos hbc, hbk]
     have o1 : 0 < 1 := Nat.zero_lt_one
     have o2 : i + 1 + 1 ≤ capBound := by unfold capBound; omega
     repeat ((conv => whnf); refine ⟨by first | exact o1 | exact o2 | ((conv => whnf); exact ⟨⟨rfl, rfl, rfl⟩, trivial⟩) | exact Early.one (by decide +kernel) (by (conv => whnf); exact ⟨rfl, rfl, rfl⟩) trivial | (unfold inI64; omega) | omega | exact ⟨by omega, by omega⟩ | exact rfl | decide +kernel, ?_⟩)
     conv => whnf
     have hW' : W = i + 1 := by rw [← hW, if_pos (by omega), ← hie]
     have hA' : A = V.1 := by rw [← hA, if_neg (by omega)]
     rw [hA', hW', hV']
     have ht5 : ns.take (i + 1) = ns := List.take_of_length_le (by omega)
     refine eE9 ⟨?_, by rw [ht5]; rfl⟩
     show SV.a (.agg [.sl 1 ndC _ _]) = .a (.agg [.sl 1 ndC _ _])
     rw [zP9, ← hie]
     rfl
    ·have hV' : V = (ns, bnN zs n) := by
      rw [← hV]
      unfold bnV
      rw [if_neg hn0, if_neg (by omega), if_neg (by omega), if_neg (by omega), if_neg (by omega), if_neg (by omega), if_neg (by omega), if_neg (by omega), if_pos hbc, hbk]
      have h1 := q7 rfl
      have h2 : prSw (ndAt ns k).2.2 = (ndAt ns k).2.2 := by
       cases h3 : (ndAt ns k).2.2 with
       | nil => rfl
       | cons x r =>
        cases r with
        | nil => rfl
        | cons y r => rw [h3] at h1; simp at h1
      have h3 : bnP ns k (ndAt ns k).2.2 = ns := by
       unfold bnP
       rw [nd_at' hkl]
       exact List.set_getElem_self hkl
      rw [h2, h3]
     repeat ((conv => whnf); refine ⟨by first | (unfold inI64; omega) | omega | exact ⟨by omega, by omega⟩ | exact rfl | decide +kernel, ?_⟩)
     conv => whnf
     refine cI9 ?_ ?_<;>intro h5
     ·exfalso
      have h6 : (1 : Int) < (((ndAt ns k).2.2.length : Nat) : Int) := oT9 h5
      have := q7 rfl
      omega
     repeat ((conv => whnf); refine ⟨by first | (unfold inI64; omega) | omega | exact ⟨by omega, by omega⟩ | exact rfl | decide +kernel, ?_⟩)
     conv => whnf
     have hW' : W = i := by rw [← hW, if_neg (by omega), hie2]
     have hA' : A = V.1 := by rw [← hA, if_neg (by omega)]
     rw [hA', hW', hV']
     refine eT9 ?_
     show SV.a (.agg [.sl 1 ndC _ _]) = .a (.agg [.sl 1 ndC _ _])
     rw [← hie]
    ·have hV' : V = (ns.take k, bnN zs n) := by
      rw [← hV]
      unfold bnV
      rw [if_neg hn0, if_neg (by omega), if_neg (by omega), if_neg (by omega), if_neg (by omega), if_neg (by omega), if_neg (by omega), if_neg (by omega), if_neg (by omega), hbk]
     repeat ((conv => whnf); refine ⟨by first | (unfold inI64; omega) | omega | exact ⟨by omega, by omega⟩ | exact rfl | decide +kernel, ?_⟩)
     conv => whnf
     have hW' : W = i := by rw [← hW, if_neg (by omega), hie2]
     have hA' : A = ns := by rw [← hA, if_pos rfl]
     rw [hA', hW', hV']
     refine eT9 ?_
     show SV.a (.agg [.sl 1 ndC _ _]) = .a (.agg [.sl 1 ndC _ _])
     rw [List.length_take, Nat.min_eq_left (by omega), Int.toNat_natCast]
 ·cases hs
end Go.Ab
