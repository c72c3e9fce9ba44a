/- SameNode of the reference. -/
import Derived.Test.YtnlifjljmbfomaaGreatTY90toY101
import Derived.Test.YtnlifjljmbfomaaGreatTY64toU6
import Derived.Test.YtnlifjljmbfomaaGreatTY102toY117
namespace Go.Ab
open Go.Proofs
set_option linter.unusedSectionVars false
set_option maxRecDepth 100000
variable [Base]
def daNN : List AV → Option (Nd × Nd)
 | [.agg [.p (.v (.int .i64 a)), .p (.v (.string s)), .p (.l c0 ps)], .agg [.p (.v (.int .i64 b)), .p (.v (.string t)), .p (.l c1 qs)]] => match castD (e := ptC) (e' := c0) ps, castD (e := ptC) (e' := c1) qs with | some ps, some qs => some ((a, s, ps), (b, t, qs)) | _, _ => none
 | _ => none
def eaNN (a : Nd × Nd) : List AV := [.agg [.int .i64 a.1.1, .str a.1.2.1, .p (.l ptC a.1.2.2)], .agg [.int .i64 a.2.1, .str a.2.2.1, .p (.l ptC a.2.2.2)]]
def samN (a : Nd × Nd) : Bool := decide (a.1.1 = a.2.1) && decide (a.1.2.1 = a.2.2.1) && decide (@Eq (List Pt) a.1.2.2 a.2.2.2)
theorem eq_prefix {α : Type} {l m : List α} (d : α) (hl : l.length = m.length) (h : ∀ j, j < l.length → l.getD j d = m.getD j d) : l = m := by
 apply List.ext_getElem hl
 intro j h1 h2
 have := h j h1
 rw [List.getD_eq_getElem?_getD, List.getD_eq_getElem?_getD, List.getElem?_eq_getElem h1, List.getElem?_eq_getElem h2] at this
 exact this
def E6 : Table := ext E5 68 (saysG daNN eaNN fun a => (some (a.1.2.2.length ≤ 1000000000), .bool (samN a)))
theorem e6 : TS9 E6 := by
 refine extG e5 68 (fn := Tryz.f68) rfl rfl daNN eaNN _ (fun _ => nB9 rfl) [0, 1, 2, 3, 4, 5, 26, 29, 30, 31, 43] fun a hok => ?_
 obtain ⟨⟨a, s, ps⟩, b, t, qs⟩ := a
 have hl : ps.length ≤ 1000000000 := hok
 show runF _ _ _ [] [.agg [.int .i64 a, .str s, .p (.l ptC ps)], .agg [.int .i64 b, .str t, .p (.l ptC qs)]] [] fun r H => Ends r H (.bool (samN ((a, s, ps), b, t, qs))) []
 repeat ((conv => whnf); refine ⟨by first | (unfold inI64; omega) | omega | exact ⟨by omega, by omega⟩ | (intro hg; first | (unfold inI64; omega) | omega | exact ⟨by omega, by omega⟩ | (simp [lit] at hg; unfold inI64; omega) | (simp [lit] at hg; omega) | (simp [lit] at hg; exact ⟨by omega, by omega⟩)) | (show (_ : Nat) + 1 ≤ 1000000000000; omega) | exact rfl | (unfold inI64; dsimp only; omega) | (dsimp only; omega) | (intro hg; simp [lit] at hg; first | (unfold inI64; dsimp only; omega) | (dsimp only; omega)) | decide +kernel, ?_⟩)
 conv => whnf
 refine cI9 ?_ ?_<;>intro h
 ·have h1 : samN ((a, s, ps), b, t, qs) = false := by
   revert h
   unfold samN
   simp
   rintro ((h1 | h1) | h1) h2 h3 h4
   ·exact h1 h2
   ·exact h1 h3
   ·exact h1 (by rw [h4])
  rw [h1]
  repeat ((conv => whnf); refine ⟨by first | (unfold inI64; omega) | omega | exact ⟨by omega, by omega⟩ | exact rfl | decide +kernel, ?_⟩)
  conv => whnf
  exact eR9
 have h : ((!decide (a = b) || !decide (s = t)) || !decide (((ps.length : Nat) : Int) = (qs.length : Nat))) = false := h
 obtain ⟨h1, h2, h3⟩ : a = b ∧ s = t ∧ ps.length = qs.length := by
  simp at h
  obtain ⟨⟨h1, h2⟩, h3⟩ := h
  exact ⟨h1, h2, by omega⟩
 subst h1
 subst h2
 have eqg : eqGood Tryz.prog 76 := ⟨by decide +kernel, by decide +kernel⟩
 conv => whnf
 refine lI9 (σ := Nat) (fun i => [(0, nX9), (1, nX9), (2, XV.s (.a (.c (.ptr 0 0)))), (3, XV.s (.a (.c (.ptr 1 0)))), (4, nX9), (5, nX9), (26, nX9), (29, XV.s (.int .i64 (ps.length : Nat))), (30, XV.s (.int .i64 (i : Nat))), (31, nX9), (43, nX9)])
  (fun _ => [.row [.int .i64 a, .str s, .p (.l ptC ps)], .row [.int .i64 a, .str s, .p (.l ptC qs)]]) (fun i => i ≤ ps.length ∧ ∀ j, j < i → ps.getD j ptC.dflt = qs.getD j ptC.dflt) (fun i => ps.length - i) 0 ?_ rfl ⟨nZ9 _, fun j hj => absurd hj (nN9 j)⟩ (fun i hi => ?_)
 ·repeat first|exact lN9|refine lD9 ?_|refine lS9 ?_
 obtain ⟨hi, hall⟩ := hi
 conv => whnf
 refine cI9 ?_ ?_<;>intro h4
 ·have h5 : i < ps.length := lt_of_dec h4
  have hin : 0 ≤ (i : Int) ∧ (i : Int) < (ps.length : Nat) := by omega
  have hin2 : 0 ≤ (i : Int) ∧ (i : Int) < (qs.length : Nat) := by omega
  repeat ((conv => whnf); refine ⟨by first | exact hin | exact hin2 | exact eqg | exact fun _ => eqg | ((conv => whnf); exact ⟨⟨rfl, rfl, rfl⟩, trivial⟩) | exact Early.one (by decide +kernel) (by (conv => whnf); exact ⟨rfl, rfl, rfl⟩) trivial | (unfold inI64; omega) | omega | exact ⟨by omega, by omega⟩ | exact rfl | decide +kernel, ?_⟩)
  conv => whnf
  refine cI9 ?_ ?_<;>intro h6
  ·have h7 : ¬ ps.getD i ptC.dflt = qs.getD i ptC.dflt := by
    have h8 : (!(decide ((ps.getD ((i : Int)).toNat ptC.dflt).1 = (qs.getD ((i : Int)).toNat ptC.dflt).1) && decide ((ps.getD ((i : Int)).toNat ptC.dflt).2 = (qs.getD ((i : Int)).toNat ptC.dflt).2))) = true := h6
    intro hx
    rw [Int.toNat_natCast, hx] at h8
    simp at h8
   have h9 : samN ((a, s, ps), a, s, qs) = false := by
    unfold samN
    simp only [decide_true, Bool.true_and]
    exact dF9 fun hx => h7 (by rw [hx])
   rw [h9]
   repeat ((conv => whnf); refine ⟨by first | (unfold inI64; omega) | omega | exact ⟨by omega, by omega⟩ | exact rfl | decide +kernel, ?_⟩)
   conv => whnf
   exact eR9
  have h7 : ps.getD i ptC.dflt = qs.getD i ptC.dflt := by
   have h8 : (!(decide ((ps.getD ((i : Int)).toNat ptC.dflt).1 = (qs.getD ((i : Int)).toNat ptC.dflt).1) && decide ((ps.getD ((i : Int)).toNat ptC.dflt).2 = (qs.getD ((i : Int)).toNat ptC.dflt).2))) = false := h6
   rw [Int.toNat_natCast] at h8
   simp at h8
   exact Prod.ext h8.1 h8.2
  repeat ((conv => whnf); refine ⟨by first | (unfold inI64; omega) | omega | exact ⟨by omega, by omega⟩ | exact rfl | decide +kernel, ?_⟩)
  conv => whnf
  refine hI9 (i + 1) ?_ rfl ⟨h5, fun j hj => ?_⟩ ?_
  ·repeat first|exact lN9|refine lD9 ?_|refine lS9 ?_
  ·by_cases hji : j = i
   ·rw [hji]; exact h7
   ·exact hall j (by omega)
  ·omega
 ·have hge := ge_of_dec h4
  obtain rfl : i = ps.length := by omega
  have h9 : samN ((a, s, ps), a, s, qs) = true := by
   unfold samN
   simp only [decide_true, Bool.true_and]
   exact dT9 (eq_prefix _ h3 hall)
  rw [h9]
  repeat ((conv => whnf); refine ⟨by first | (unfold inI64; omega) | omega | exact ⟨by omega, by omega⟩ | exact rfl | decide +kernel, ?_⟩)
  conv => whnf
  exact eR9
end Go.Ab
namespace Go.Ab
open Go.Proofs Go.Shelf Go.RowKit Go.Lib
set_option linter.unusedSectionVars false
variable [Base]
theorem fill {G : View} (hS : Sim G) {t t2 : TypeId} {c c2 : CT} {zs : List c.den} {ps : List c2.den} {i k ver : Nat} {z : c.den} (h0 : G.H[0]? = some (.vec t c zs i k (.sl 1 c2 ver ps.length))) (h1 : G.H[1]? = some (.arr t2 c2 ps ver)) (hpos : 0 < ps.length)
  (hz : dec c ((enc c (zs.getD i c.dflt)).take k ++ [.l c2 ps] ++ (enc c (zs.getD i c.dflt)).drop (k + 1)) = some (z, [])) :
  ∃ G', G'.w = G.w ∧ Ext G G' ∧ Sim G' ∧ ∀ v, RepC G (.vs 0 zs.length) v → Rep G'.I G'.w (.list c) (zs.set i z) [v] := by
 obtain ⟨G2, hw2, hx2, hs2, hH2, hf⟩ := frz hS h1 hpos
 have h02 : G2.H[0]? = some (.vec t c zs i k (.sl 1 c2 ver ps.length)) := by
  rw [hH2, List.getElem?_set, if_neg (by decide)]
  exact h0
 obtain ⟨l1, l2, v1, hheap1, _, hi1, hk1, hsl, hr1⟩ := hS.objs 0 _ h0 trivial
 obtain ⟨vs, rest, v', hheap, hno, hi, hk, _, hrows⟩ := hs2.objs 0 _ h02 trivial
 have hlt : G2.ρ 0 < G2.w.heap.size := (Array.getElem?_eq_some_iff.1 hheap).1
 have hρ2 : G2.ρ 0 = G.ρ 0 := by
  obtain ⟨o', ho', hn⟩ := hx2.objs 0 _ h0
  rw [h02] at ho'
  cases ho'
  exact hn.2.2.2
 have hvl := hrows.1
 have hiw : (i + 1) * c.width ≤ zs.length * c.width := Nat.mul_le_mul_right _ hi
 rw [Nat.add_mul, Nat.one_mul] at hiw
 have hplt : i * c.width + k < (vs ++ rest).length := by rw [zP9]; omega
 have hplt1 : i * c.width + k < (l1 ++ l2).length := by rw [zP9, hr1.1]; omega
 have hvv : v1 = v' := by
  have hh := hheap
  rw [hw2, hρ2, hheap1] at hh
  have h3 := (Obj.cells.inj (Option.some.inj hh)).1
  have h4 : ((l1 ++ l2).set (i * c.width + k) v1)[i * c.width + k]? = ((vs ++ rest).set (i * c.width + k) v')[i * c.width + k]? := congrArg (fun a : Array Value => a.toList[i * c.width + k]?) h3
  rw [List.getElem?_set_self hplt1, List.getElem?_set_self hplt] at h4
  exact Option.some.inj h4
 subst hvv
 have hlist : Rep G2.I G2.w (.list c2) ps [v1] := hf _ hsl
 have hget : zs[i]? = some (zs.getD i c.dflt) := by simp [hi]
 obtain ⟨us, hu, hj⟩ := hrows.2 i _ hget
 have hul := Rep.length _ _ _ hu
 have henc := enc_rep c _ us hu
 have hone : All2 (RepV G2.I G2.w) [.l c2 ps] [v1] := .cons hlist .nil
 have hall := ((henc.take k).append hone).append (henc.drop (k + 1))
 obtain ⟨xs, ys, e1, e2, e3⟩ := dec_rep c _ z [] _ hall hz
 cases e3
 simp only [List.append_nil] at e1
 have hsl2 : us = (vs.drop (i * c.width)).take c.width := by
  apply List.ext_getElem?
  intro m
  rcases Nat.lt_or_ge m us.length with hlt | hge
  ·obtain ⟨u, hu'⟩ : ∃ u, us[m]? = some u := ⟨us[m], List.getElem?_eq_getElem hlt⟩
   rw [hu', List.getElem?_take, if_pos (by omega), List.getElem?_drop, hj m u hu']
  ·rw [List.getElem?_eq_none hge, List.getElem?_eq_none (by rw [List.length_take]; omega)]
 have hnew : (vs ++ rest).set (i * c.width + k) v1 = (vs.take (i * c.width) ++ xs ++ vs.drop ((i + 1) * c.width)) ++ rest := by
  have h3 := splice_one (L := vs ++ rest) (v := (vs ++ rest)[i * c.width + k]) (y := v1) hplt
  rw [List.set_getElem_self] at h3
  rw [← h3]
  have e4 : (vs ++ rest).take (i * c.width + k) = vs.take (i * c.width) ++ us.take k := by
   rw [List.take_append_of_le_length (by omega), List.take_add, hsl2, List.take_take, Nat.min_eq_left (by omega)]
  have e5 : (vs ++ rest).drop (i * c.width + k + 1) = us.drop (k + 1) ++ vs.drop ((i + 1) * c.width) ++ rest := by
   rw [List.drop_append_of_le_length (by omega)]
   congr 1
   have e6 : vs.drop (i * c.width + k + 1) = (vs.drop (i * c.width)).drop (k + 1) := by rw [List.drop_drop]; congr 1
   have e7 : vs.drop (i * c.width) = us ++ vs.drop ((i + 1) * c.width) := by
    rw [hsl2, Nat.add_mul, Nat.one_mul, ← List.drop_drop, List.take_append_drop]
   rw [e6, e7, List.drop_append_of_le_length (by omega)]
  rw [e4, e5, ← e1]
  simp only [List.append_assoc]
 have hrows2 := hrows.set hi e2
 have hxl := Rep.length _ _ _ e2
 rw [hnew] at hheap
 have g : Upd G2 0 (G2.ρ 0) (.vec t c zs i k (.sl 1 c2 ver ps.length)) .dead (fun x => x < zs.length * c.width) G2.w := ⟨h02, trivial, nR9 _, rfl, rfl, rfl, fun _ _ _ => rfl, .inr ⟨_, h02, trivial, rfl⟩, hlt, hno⟩
 have hE := Ext.upd hs2 g
 refine ⟨G2.upd 0 (G2.ρ 0) .dead (fun x => x < zs.length * c.width) G2.w, hw2, hx2.trans hE, Sim.upd hs2 g fun h => h.elim, fun v hv => ?_⟩
 have hv := RepC.mono hx2 hv
 obtain ⟨hle, cap, rfl, hcap⟩ := vs_live hv h02
 have hzl : (zs.set i z).length = zs.length := List.length_set ..
 have hlen : (vs.take (i * c.width) ++ xs ++ vs.drop ((i + 1) * c.width)).length = zs.length * c.width := by rw [hrows2.1, hzl]
 have := Rows.list (b := G2.ρ 0) (off := 0) (cap := cap) (hrows2.mono hE.stays) (by rw [hzl]; exact hcap) fun m u hm => by
  have hml : m < (vs.take (i * c.width) ++ xs ++ vs.drop ((i + 1) * c.width)).length := (List.getElem?_eq_some_iff.1 hm).1
  refine ⟨.inr ⟨rfl, by rw [← hlen]; omega⟩, ?_⟩
  show G2.w.cell? _ = _
  simp [World.cell?, hheap]
  rw [← List.append_assoc, ← List.append_assoc, List.getElem?_append_left hml]
  exact hm
 rw [hzl] at this
 exact this
theorem ext_frzV {P : Program} {T : Table} {f : FuncId} {s s' : Says} (h1 : TSound P (ext T f s)) (hT : TSound P T)
  (h : ∀ args H p r H', s' args H = some (p, r, H') → holdsO p → H = [] ∧ H' = [] ∧ ∃ q t t2 c c2 zs ps i k ver y z, holdsO q ∧ 0 < ps.length ∧ dec c ((enc c (zs.getD i c.dflt)).take k ++ [.l c2 ps] ++ (enc c (zs.getD i c.dflt)).drop (k + 1)) = some (z, []) ∧
   s args [] = some (q, .tup [.agg [.vs 0 zs.length], .c (.p y)], [.vec t c zs i k (.sl 1 c2 ver ps.length), .arr t2 c2 ps ver]) ∧ r = .tup [.agg [.p (.l c (zs.set i z))], .c (.p y)]) : TSound P (ext T f s') :=
 ext_sound hT fun args H p r H' hs hp G hS hH cargs ha => by
  obtain ⟨rfl, rfl, q, t, t2, c, c2, zs, ps, i, k, ver, y, z, hq, hpos, hz, hs1, rfl⟩ := h args H p r H' hs hp
  have hb : Nat.beq f f = true := Nat.beq_refl f
  refine (h1 f args [] q (.tup [.agg [.vs 0 zs.length], .c (.p y)]) [.vec t c zs i k (.sl 1 c2 ver ps.length), .arr t2 c2 ps ver] (by unfold ext; rw [hb]; exact hs1) hq G hS hH cargs ha).mono fun v G1 he hs1 ⟨hH1, hr⟩ => ?_
  obtain ⟨G2, hw, hx, hs2, hf⟩ := fill hs1 (by rw [hH1]; rfl) (by rw [hH1]; rfl) hpos hz
  have hsub : subH [] G2.H [] = some [] := rfl
  refine ⟨G2.sub [] [], hw, (he.trans hx).keep hsub rfl fun k hk => ?_, hs2.sub hsub rfl, rfl, ?_⟩
  ·rw [hH] at hk
   exact absurd hk (nN9 k)
  ·obtain ⟨vs, rfl, hvs⟩ := hr
   cases hvs with
   | cons a b =>
    cases b with
    | cons b1 b2 =>
     cases b2
     obtain ⟨cs, rfl, hcs⟩ := a
     cases hcs with
     | cons c1 c2 =>
      cases c2
      exact ⟨_, rfl, .cons ⟨_, rfl, .cons (hf _ c1) .nil⟩ (.cons (RepV.mono hx.stays b1) .nil)⟩
theorem ext_fam {P : Program} {T : Table} {f : FuncId} {α : Type} {s1 : α → Says} {s' : Says} (h1 : ∀ i, TSound P (ext T f (s1 i))) (hT : TSound P T)
  (h : ∀ args H p r H', s' args H = some (p, r, H') → holdsO p → ∃ i q, holdsO q ∧ s1 i args H = some (q, r, H')) : TSound P (ext T f s') := by
 intro g args H p r H' hg hp G hS hH cargs ha
 unfold ext at hg
 split at hg
 ·rename_i hb
  have hb' : Nat.beq g f = true := hb
  obtain ⟨i, q, hq, hs⟩ := h args H p r H' hg hp
  exact h1 i g args H q r H' (by unfold ext; rw [hb']; exact hs) hq G hS hH cargs ha
 ·exact hT g args H p r H' hg hp G hS hH cargs ha
end Go.Ab
namespace Go.Ab
open Go.Proofs
set_option linter.unusedSectionVars false
set_option maxRecDepth 100000
variable [Base]
def cmpV (a b : ByteArray) : Int := Lib.compareBytes a.data.toList b.data.toList
theorem u8_eq {x y : UInt8} (h1 : ¬ x < y) (h2 : ¬ y < x) : x = y := UInt8.le_antisymm (UInt8.not_lt.1 h2) (UInt8.not_lt.1 h1)
theorem cmp_lt : ∀ (a b : List UInt8), Lib.compareBytes a b < 0 ↔ Op.bytesLess a b = true := by
 intro a
 induction a with
 | nil =>
  intro b
  cases b with
  | nil => decide
  | cons y b => exact ⟨fun _ => rfl, fun _ => (by decide : (-1 : Int) < 0)⟩
 | cons x a ih =>
  intro b
  cases b with
  | nil => exact ⟨fun h => absurd (show (1 : Int) < 0 from h) (by decide), fun h => by cases h⟩
  | cons y b =>
   unfold Lib.compareBytes Op.bytesLess
   by_cases h1 : x < y
   ·rw [if_pos h1, dT9 h1]
    exact ⟨fun _ => rfl, fun _ => by decide⟩
   ·rw [if_neg h1, dF9 h1, Bool.false_or]
    by_cases h2 : y < x
    ·rw [if_pos h2]
     refine ⟨fun h => absurd h (by decide), fun h => ?_⟩
     obtain ⟨h3, _⟩ := bA9.1 h
     have h3 : x = y := by simpa using h3
     subst h3
     exact absurd h2 h1
    ·rw [if_neg h2, u8_eq h1 h2]
     simp [ih]
theorem cmp_zero : ∀ (a b : List UInt8), Lib.compareBytes a b = 0 ↔ a = b := by
 intro a
 induction a with
 | nil =>
  intro b
  cases b with
  | nil => exact ⟨fun _ => rfl, fun _ => rfl⟩
  | cons y b => exact ⟨fun h => absurd (show (-1 : Int) = 0 from h) (by decide), fun h => by cases h⟩
 | cons x a ih =>
  intro b
  cases b with
  | nil => exact ⟨fun h => absurd (show (1 : Int) = 0 from h) (by decide), fun h => by cases h⟩
  | cons y b =>
   unfold Lib.compareBytes
   by_cases h1 : x < y
   ·rw [if_pos h1]
    refine ⟨fun h => absurd h (by decide), fun h => ?_⟩
    rw [(List.cons.inj h).1] at h1
    exact absurd h1 (UInt8.lt_irrefl _)
   ·rw [if_neg h1]
    by_cases h2 : y < x
    ·rw [if_pos h2]
     refine ⟨fun h => absurd h (by decide), fun h => ?_⟩
     rw [(List.cons.inj h).1] at h2
     exact absurd h2 (UInt8.lt_irrefl _)
    ·rw [if_neg h2, ih, u8_eq h1 h2]
     simp
theorem cmpV_lt {a b : ByteArray} : cmpV a b < 0 ↔ bLt a b = true := by
 unfold cmpV bLt
 rw [cmp_lt, ByteArray.toList_eq, ByteArray.toList_eq]
theorem cmpV_zero {a b : ByteArray} : cmpV a b = 0 ↔ a = b := by
 unfold cmpV
 rw [cmp_zero]
 exact ⟨fun h => ba_ext9 h, fun h => by rw [h]⟩
abbrev ptAt (ps : List Pt) (i : Nat) : Pt := ps.getD i ptC.dflt
def posV (ps : List Pt) (s : ByteArray) : Nat := skV (fun i => !bLt (ptAt ps i).1 s) ps.length
def fndP (ps : List Pt) (s : ByteArray) : Bool := decide (posV ps s < ps.length) && decide ((ptAt ps (posV ps s)).1 = s)
theorem posV_le (ps : List Pt) (s : ByteArray) : posV ps s ≤ ps.length := skV_le _ _
theorem pt_at' {ps : List Pt} {i : Nat} (h : i < ps.length) : ptAt ps i = ps[i] := by unfold ptAt; simp [h]
theorem asc_pw {ps : List Pt} (h : ascV ps = true) : ∀ i j, i < j → j < ps.length → bLt (ptAt ps i).1 (ptAt ps j).1 = true := by
 intro i j h1 h2
 have key : ∀ n i j, j - i ≤ n → i < j → j < ps.length → bLt (ptAt ps i).1 (ptAt ps j).1 = true := by
  intro n
  induction n with
  | zero => intro i j a b; omega
  | succ n ih =>
   intro i j a b c
   have hs : ∀ (m : Nat), m + 1 < ps.length → bLt (ptAt ps m).1 (ptAt ps (m + 1)).1 = true := by
    intro m hm
    have hall : ∀ q, q ≤ m → ascV (ps.drop q) = true := by
     intro q
     induction q with
     | zero => intro _; exact h
     | succ q ihq =>
      intro hq
      have := ihq (by omega)
      rw [asc_drop (by omega)] at this
      exact (bA9.1 this).2
    have := hall m (nR9 _)
    rw [asc_drop hm] at this
    rw [pt_at' (by omega), pt_at' hm]
    exact (bA9.1 this).1
   by_cases hij : j = i + 1
   ·subst hij
    exact hs i c
   ·exact bLt_trans (hs i (by omega)) (ih (i + 1) j (by omega) (by omega) c)
 exact key _ i j (nR9 _) h1 h2
theorem pos_lo {ps : List Pt} {s : ByteArray} {i : Nat} (h : i < posV ps s) : bLt (ptAt ps i).1 s = true := by
 have := (skGo_spec (fun i => !bLt (ptAt ps i).1 s) ps.length 0).1 i (nZ9 _) h
 simpa using this
theorem pos_hi {ps : List Pt} {s : ByteArray} (ha : ascV ps = true) {i : Nat} (h : posV ps s ≤ i) (hi : i < ps.length) : bLt (ptAt ps i).1 s = false := by
 have h1 := (skGo_spec (fun i => !bLt (ptAt ps i).1 s) ps.length 0).2 (by show posV ps s < _; omega)
 have h1 : bLt (ptAt ps (posV ps s)).1 s = false := by
  have h2 : (!bLt (ptAt ps (posV ps s)).1 s) = true := h1
  simpa using h2
 rcases Nat.lt_or_eq_of_le h with h2 | h2
 ·cases h3 : bLt (ptAt ps i).1 s with
  | false => rfl
  | true =>
   have := bLt_trans (asc_pw ha _ _ h2 hi) h3
   rw [h1] at this
   cases this
 ·rw [← h2]
  exact h1
def F1 : Table := ext E6 118 (fun args H => match args, H with | [.c (.p (.v (.string a))), .c (.p (.v (.string b)))], [] => some (none, .int .i64 (cmpV a b), []) | _, _ => none)
theorem f1 : TS9 F1 := by
 refine ext_calls e6 118 (fn := Tryz.f118) rfl rfl rfl fun args H p r H' hs hp => ?_
 split at hs
 ·cases hs
  refine ⟨rfl, fun G hS hH cargs ha => ?_⟩
  cases ha with
  | cons h1 t1 =>
   cases t1 with
   | cons h2 t2 =>
    cases t2
    obtain ⟨_, rfl⟩ := h1
    obtain ⟨_, rfl⟩ := h2
    exact ⟨_, ⟨rfl, rfl⟩, Tryz.strings_Compare _ _ _⟩
 ·cases hs
def saysSr1 : Says := fun args H => match args, H with
 | [.agg [.p (.v (.string a)), .p (.v (.string _))], .c (.p (.v (.string b)))], [] => some (none, .int .i64 (cmpV a b), [])
 | _, _ => none
def F2 : Table := ext F1 117 saysSr1
theorem f2 : TS9 F2 := by
 refine ext_run f1 (f := 117) (fn := Tryz.f117) rfl rfl [0, 1, 2, 4] fun args H p r' H' hs hp => ?_
 unfold saysSr1 at hs
 split at hs
 ·cases hs
  refine ⟨nB9 rfl, [], rfl, nK9, ?_⟩
  repeat ((conv => whnf); refine ⟨by first | (unfold inI64; omega) | omega | exact ⟨by omega, by omega⟩ | exact rfl | decide +kernel, ?_⟩)
  conv => whnf
  exact eR9
 ·cases hs
def daPS : List AV → Option (List Pt × ByteArray)
 | [.c (.p (.l c0 ps)), .c (.p (.v (.string s)))] => match castD (e := ptC) (e' := c0) ps with | some ps => some (ps, s) | none => none
 | _ => none
def eaPS (a : List Pt × ByteArray) : List AV := [.c (.p (.l ptC a.1)), .c (.str a.2)]
theorem daPS_at (a : List Pt × ByteArray) : daPS (eaPS a) = some a := by
 unfold daPS eaPS
 dsimp only
 rw [castD_self]
def daPSF : List AV → Option (List Pt × ByteArray)
 | [.c (.p (.l c0 ps)), .c (.p (.v (.string s))), .c (.p (.v (.func _ _ _)))] => match castD (e := ptC) (e' := c0) ps with | some ps => some (ps, s) | none => none
 | _ => none
def eaPSF (a : List Pt × ByteArray) : List AV := [.c (.p (.l ptC a.1)), .c (.str a.2), .c (.p (.v (.func (.func 117) #[] #[])))]
abbrev srR (a : List Pt × ByteArray) : SV := .tup [.c (.int .i64 (posV a.1 a.2 : Nat)), .c (.bool (fndP a.1 a.2))]
abbrev SrOk (a : List Pt × ByteArray) : Prop := a.1.length ≤ 1000000000 ∧ ascV a.1 = true
def F3 : Table := ext F2 116 (saysG daPSF eaPSF fun a => (some (SrOk a), srR a))
theorem f3 : TS9 F3 := by
 refine extG f2 116 (fn := Tryz.f116) rfl rfl daPSF eaPSF _ (fun _ => nB9 rfl) [0, 1, 2, 6, 7, 8, 9, 10, 11, 17, 31] fun a hok => ?_
 obtain ⟨ps, s⟩ := a
 obtain ⟨hl, ha⟩ : ps.length ≤ 1000000000 ∧ ascV ps = true := hok
 show runF _ _ _ [] [.c (.p (.l ptC ps)), .c (.str s), .c (.p (.v (.func (.func 117) #[] #[])))] [] fun r H => Ends r H (srR (ps, s)) []
 have hpl := posV_le ps s
 repeat ((conv => whnf); refine ⟨by first | (unfold inI64; omega) | omega | exact ⟨by omega, by omega⟩ | exact rfl | decide +kernel, ?_⟩)
 conv => whnf
 refine lI9 (σ := Nat × Nat) (fun ⟨i, j⟩ => [(0, XV.s (.a (.c (.p (.l ptC ps))))), (1, XV.s (.str s)), (2, XV.s (.a (.c (.p (.v (.func (.func 117) #[] #[])))))), (6, nX9), (7, nX9), (8, XV.s (.int .i64 (ps.length : Nat))), (9, XV.s (.int .i64 (i : Nat))), (10, XV.s (.int .i64 (j : Nat))), (11, nX9), (17, nX9), (31, nX9)])
  (fun _ => []) (fun ⟨i, j⟩ => i ≤ posV ps s ∧ posV ps s ≤ j ∧ j ≤ ps.length) (fun ⟨i, j⟩ => j - i) (0, ps.length) ?_ rfl ⟨nZ9 _, hpl, nR9 _⟩ ?_
 ·repeat first|exact lN9|refine lD9 ?_|refine lS9 ?_
 rintro ⟨i, j⟩ ⟨h1, h2, h3⟩
 repeat ((conv => whnf); refine ⟨by first | (unfold inI64; omega) | omega | exact ⟨by omega, by omega⟩ | exact rfl | decide +kernel, ?_⟩)
 conv => whnf
 refine cI9 ?_ ?_<;>intro h
 ·have hij : i < j := lt_of_dec h
  obtain ⟨m, hm⟩ : ∃ m : Nat, (i + j) / 2 = m := ⟨_, rfl⟩
  have hm1 : i ≤ m ∧ m < j := by omega
  have hu : IntKind.wrap .u64 ((i : Int) + (j : Int)) = (i : Int) + (j : Int) := by
   unfold IntKind.wrap
   show ((i : Int) + (j : Int)) % 18446744073709551616 = _
   omega
  have hf : Int.fdiv ((i : Int) + (j : Int)) (2 ^ min (Int.toNat 1) 64) = (m : Int) := by
   show Int.fdiv ((i : Int) + (j : Int)) 2 = (m : Int)
   rw [Int.fdiv_eq_ediv_of_nonneg _ (by decide)]
   omega
  have hf2 : Int.fdiv (IntKind.wrap .u64 ((i : Int) + (j : Int))) (2 ^ min (Int.toNat 1) IntKind.u64.bits) = (m : Int) := by
   rw [hu]
   exact hf
  have hin : 0 ≤ (m : Int) ∧ (m : Int) < (ps.length : Nat) := by omega
  repeat ((conv => whnf); refine ⟨by first | (unfold inI64; omega) | omega | exact ⟨by omega, by omega⟩ | (intro hg; first | (unfold inI64; omega) | omega | exact ⟨by omega, by omega⟩ | (simp [lit] at hg; unfold inI64; omega) | (simp [lit] at hg; omega) | (simp [lit] at hg; exact ⟨by omega, by omega⟩)) | (show (_ : Nat) + 1 ≤ 1000000000000; omega) | exact rfl | (unfold inI64; dsimp only; omega) | (dsimp only; omega) | (intro hg; simp [lit] at hg; first | (unfold inI64; dsimp only; omega) | (dsimp only; omega)) | decide +kernel, ?_⟩)
  conv => whnf
  rw [hf2]
  repeat ((conv => whnf); refine ⟨by first | exact hin | (unfold inI64; omega) | omega | exact ⟨by omega, by omega⟩ | (intro hg; first | (unfold inI64; omega) | omega | exact ⟨by omega, by omega⟩ | (simp [lit] at hg; unfold inI64; omega) | (simp [lit] at hg; omega) | (simp [lit] at hg; exact ⟨by omega, by omega⟩)) | (show (_ : Nat) + 1 ≤ 1000000000000; omega) | exact rfl | (unfold inI64; dsimp only; omega) | (dsimp only; omega) | (intro hg; simp [lit] at hg; first | (unfold inI64; dsimp only; omega) | (dsimp only; omega)) | decide +kernel, ?_⟩)
  conv => whnf
  refine cI9 ?_ ?_<;>intro h5
  ·have h6 : bLt (ptAt ps m).1 s = true := cmpV_lt.1 (oT9 h5)
   have h7 : m < posV ps s := by
    rcases Nat.lt_or_ge m (posV ps s) with h8 | h8
    ·exact h8
    ·rw [pos_hi ha h8 (by omega)] at h6
     cases h6
   repeat ((conv => whnf); refine ⟨by first | (unfold inI64; omega) | omega | exact ⟨by omega, by omega⟩ | (intro hg; first | (unfold inI64; omega) | omega | exact ⟨by omega, by omega⟩ | (simp [lit] at hg; unfold inI64; omega) | (simp [lit] at hg; omega) | (simp [lit] at hg; exact ⟨by omega, by omega⟩)) | (show (_ : Nat) + 1 ≤ 1000000000000; omega) | exact rfl | (unfold inI64; dsimp only; omega) | (dsimp only; omega) | (intro hg; simp [lit] at hg; first | (unfold inI64; dsimp only; omega) | (dsimp only; omega)) | decide +kernel, ?_⟩)
   conv => whnf
   refine hI9 (m + 1, j) ?_ rfl ⟨h7, h2, h3⟩ (show j - (m + 1) < j - i by omega)
   repeat first|exact lN9|refine lD9 ?_|refine lS9 ?_
  ·have h6 : ¬ bLt (ptAt ps m).1 s = true := fun h8 => oF9 h5 (cmpV_lt.2 h8)
   have h7 : posV ps s ≤ m := by
    rcases Nat.lt_or_ge m (posV ps s) with h8 | h8
    ·exact absurd (pos_lo h8) h6
    ·exact h8
   repeat ((conv => whnf); refine ⟨by first | (unfold inI64; omega) | omega | exact ⟨by omega, by omega⟩ | (intro hg; first | (unfold inI64; omega) | omega | exact ⟨by omega, by omega⟩ | (simp [lit] at hg; unfold inI64; omega) | (simp [lit] at hg; omega) | (simp [lit] at hg; exact ⟨by omega, by omega⟩)) | (show (_ : Nat) + 1 ≤ 1000000000000; omega) | exact rfl | (unfold inI64; dsimp only; omega) | (dsimp only; omega) | (intro hg; simp [lit] at hg; first | (unfold inI64; dsimp only; omega) | (dsimp only; omega)) | decide +kernel, ?_⟩)
   conv => whnf
   refine hI9 (i, m) ?_ rfl ⟨h1, h7, by show m ≤ ps.length; omega⟩ (show m - i < j - i by omega)
   repeat first|exact lN9|refine lD9 ?_|refine lS9 ?_
 ·have hij : i = j := by have := ge_of_dec h; omega
  obtain rfl : i = posV ps s := by omega
  subst hij
  repeat ((conv => whnf); refine ⟨by first | (unfold inI64; omega) | omega | exact ⟨by omega, by omega⟩ | (intro hg; first | (unfold inI64; omega) | omega | exact ⟨by omega, by omega⟩ | (simp [lit] at hg; unfold inI64; omega) | (simp [lit] at hg; omega) | (simp [lit] at hg; exact ⟨by omega, by omega⟩)) | (show (_ : Nat) + 1 ≤ 1000000000000; omega) | exact rfl | (unfold inI64; dsimp only; omega) | (dsimp only; omega) | (intro hg; simp [lit] at hg; first | (unfold inI64; dsimp only; omega) | (dsimp only; omega)) | decide +kernel, ?_⟩)
  conv => whnf
  refine eT9 ?_
  have e : (decide ((((posV ps s : Nat) : Nat) : Int) < ((ps.length : Nat) : Int)) && decide (cmpV (ptAt ps (posV ps s)).1 s = 0)) = fndP ps s := by
   unfold fndP
   congr 1
   ·exact decide_eq_decide.2 (by omega)
   ·exact decide_eq_decide.2 cmpV_zero
  show SV.tup [.c (.int .i64 (posV ps s : Nat)), .c (.bool (decide ((((posV ps s : Nat) : Nat) : Int) < ((ps.length : Nat) : Int)) && decide (cmpV (ptAt ps (posV ps s)).1 s = 0)))] = _
  rw [e]
def F4 : Table := ext F3 72 (saysG daPS eaPS fun a => (some (SrOk a), srR a))
theorem f4 : TS9 F4 := by
 refine extG f3 72 (fn := Tryz.f72) rfl rfl daPS eaPS _ (fun _ => nB9 rfl) [0, 1, 4, 5] fun a hok => ?_
 obtain ⟨ps, s⟩ := a
 have hok : SrOk (ps, s) := hok
 show runF _ _ _ [] [.c (.p (.l ptC ps)), .c (.str s)] [] fun r H => Ends r H (srR (ps, s)) []
 repeat ((conv => whnf); refine ⟨by first | exact ⟨rfl, hok⟩ | (unfold inI64; omega) | omega | exact ⟨by omega, by omega⟩ | exact rfl | decide +kernel, ?_⟩)
 conv => whnf
 exact eR9
abbrev ptT : TypeId := 76
def saysSrS : Says := fun args H => match args, H with
 | [.c (.sl _ _ _ _), .c (.p (.v (.string s)))], [.arr _ c0 ps _] => match castD (e := ptC) (e' := c0) ps with
  | some ps => some (some (args = [.c (.sl 0 ptC 0 ps.length), .c (.str s)] ∧ H = [.arr ptT ptC ps 0] ∧ 0 < ps.length ∧ SrOk (ps, s)), srR (ps, s), [.arr ptT ptC ps 0])
  | none => none
 | _, _ => none
theorem srS : TS9 (ext F4 72 saysSrS) := by
 refine ext_ro (ext_only f4 f4) f4 fun args H p r H' hs hp => ?_
 unfold saysSrS at hs
 split at hs
 ·split at hs
  ·rename_i s _ _ _ _ _ ps _
   cases hs
   obtain ⟨ha, hH, h0, h1⟩ := hp
   refine ⟨ptT, ptC, ps, 0, eaPS (ps, s), hH, rfl, h0, ?_, saysG_at (daPS_at _) h1, fun v hv => ?_⟩
   ·rw [ha]
    exact .cons .sl (.cons (.p _) .nil)
   ·rcases List.mem_cons.1 hv with rfl | hv
    ·trivial
    ·rcases List.mem_cons.1 hv with rfl | hv
     ·trivial
     ·cases hv
  ·cases hs
 ·cases hs
abbrev ptA (p : Pt) : AV := .agg [.str p.1, .str p.2]
def wiP (a : List Pt × Int × Pt) : List Pt := a.1.take a.2.1.toNat ++ a.2.2 :: a.1.drop a.2.1.toNat
def daPIP : List AV → Option (List Pt × Int × Pt)
 | [.c (.p (.l c0 ps)), .c (.p (.v (.int .i64 k))), .agg [.p (.v (.string a)), .p (.v (.string b))]] => match castD (e := ptC) (e' := c0) ps with | some ps => some (ps, k, (a, b)) | _ => none
 | _ => none
def eaPIP (a : List Pt × Int × Pt) : List AV := [.c (.p (.l ptC a.1)), .c (.int .i64 a.2.1), ptA a.2.2]
def F5 : Table := ext F4 132 (saysG daPIP eaPIP fun a => (some (a.1.length ≤ 1000000000 ∧ 0 ≤ a.2.1 ∧ a.2.1 ≤ (a.1.length : Nat)), .a (.c (.p (.l ptC (wiP a))))))
theorem f5 : TS9 F5 := by
 refine extG f4 132 (fn := Tryz.f132) rfl rfl daPIP eaPIP _ (fun _ => nB9 rfl) [0, 1, 2, 5, 6] fun a hok => ?_
 obtain ⟨ps, k, q, s⟩ := a
 obtain ⟨h1, h2, h3⟩ : ps.length ≤ 1000000000 ∧ 0 ≤ k ∧ k ≤ (ps.length : Nat) := hok
 show runF _ _ _ [] [.c (.p (.l ptC ps)), .c (.int .i64 k), .agg [.str q, .str s]] [] fun r H => Ends r H (.a (.c (.p (.l ptC (wiP (ps, k, q, s)))))) []
 have ht : (ps.take k.toNat).length = k.toNat := by rw [List.length_take]; omega
 have hz1 : 0 < 1 := Nat.zero_lt_one
 have hz2 : (ps.take k.toNat).length + 1 ≤ capBound := by rw [ht]; exact Nat.le_trans (m := 1000000001) (by omega) (by decide)
 have hz3 : (ps.take k.toNat).length + 1 = (ps.take k.toNat ++ [(q, s)]).length := by rw [zP9]; rfl
 have hz5 : (ps.drop k.toNat).length = ps.length - k.toNat := List.length_drop ..
 have hn : (((ps.length : Nat) : Int)).toNat = ps.length := rfl
 have hz6 : ps.take (((ps.length : Nat) : Int)).toNat = ps := by rw [hn, List.take_length]
 have hz4 : (ps.take k.toNat).length + 1 + ((ps.take (((ps.length : Nat) : Int)).toNat).drop k.toNat).length ≤ capBound := by rw [hz6, ht, hz5]; exact Nat.le_trans (m := 1000000001) (by omega) (by decide)
 repeat ((conv => whnf); refine ⟨by first | exact ⟨h2, rfl, h3⟩ | ((conv => whnf); exact ⟨⟨rfl, rfl, rfl⟩, trivial⟩) | exact Early.one (by decide +kernel) (by (conv => whnf); exact ⟨rfl, rfl, rfl⟩) trivial | (unfold inI64; omega) | omega | exact ⟨by omega, by omega⟩ | exact rfl | decide +kernel, ?_⟩)
 conv => whnf
 refine Or.inl (Or.inl ?_)
 repeat ((conv => whnf); refine ⟨by first | exact hz1 | exact hz3 | exact hz4 | exact hz2 | exact ⟨h2, h3, Int.le_refl _⟩ | ((conv => whnf); exact ⟨⟨rfl, rfl, rfl⟩, trivial⟩) | exact Early.one (by decide +kernel) (by (conv => whnf); exact ⟨rfl, rfl, rfl⟩) trivial | (unfold inI64; omega) | omega | exact ⟨by omega, by omega⟩ | exact rfl | decide +kernel, ?_⟩)
 conv => whnf
 show Ends (.a (.c (.p (.l ptC (ps.take k.toNat ++ [(q, s)] ++ (ps.take (((ps.length : Nat) : Int)).toNat).drop k.toNat))))) [] _ _
 rw [hz6, List.append_assoc]
 exact eR9
abbrev hpV2 (ns : List Nd) (h : Nat) (ps : List Pt) : List AO := [.vec ndT ndC ns h 2 (.sl 1 ptC 0 ps.length), .arr ptT ptC ps 0]
def saysCpH (h : Nat) : Says := fun args H => match H with
 | [] => match daN args with
  | some ns => some (some (args = eaN ns ∧ LenN ns ∧ h < ns.length ∧ 0 < (ndAt ns h).2.2.length), .a (.c (.vs 0 ns.length)), hpV2 ns h (ndAt ns h).2.2)
  | none => none
 | _ => none
def F6 (h : Nat) : Table := ext F5 126 (saysCpH h)
theorem f6 (h : Nat) : TS9 (F6 h) := by
 refine ext_run f5 (f := 126) (fn := Tryz.f126) rfl rfl [0, 2, 3, 4, 8, 9, 10] fun args H p r' H' hs hp => ?_
 unfold saysCpH at hs
 split at hs
 ·split at hs
  ·rename_i ns _
   cases hs
   obtain ⟨rfl, hl, hh, hpos⟩ := hp
   have hlen := hl.1
   have hgh : ns.getD h ndC.dflt = ndAt ns h := rfl
   have hy : (enc ndC (ns.getD h ndC.dflt))[2]? = some (.l ptC (ndAt ns h).2.2) := rfl
   refine ⟨nB9 rfl, [0, 1], rfl, nK9, ?_⟩
   conv => whnf
   refine Or.inl (Or.inr ?_)
   conv => whnf
   refine ⟨Nat.le_trans hlen (by decide), h, 2, .l ptC (ndAt ns h).2.2, hh, hy, ?_⟩
   repeat ((conv => whnf); refine ⟨by first | (unfold inI64; omega) | omega | exact ⟨by omega, by omega⟩ | exact rfl | decide +kernel, ?_⟩)
   conv => whnf
   refine lI9 (σ := Bool × Nat) (fun ⟨_, i⟩ => [(0, nX9), (2, nX9), (3, XV.s (.a (.c (.vs 0 ns.length)))), (4, nX9), (8, XV.s (.int .i64 (ns.length : Nat))), (9, XV.s (.int .i64 (i : Nat))), (10, nX9)])
    (fun ⟨b, _⟩ => match b with | false => [.vec ndT ndC ns h 2 (.p (.l ptC (ndAt ns h).2.2))] | true => hpV2 ns h (ndAt ns h).2.2) (fun ⟨b, i⟩ => match b with | false => i ≤ h | true => h < i ∧ i ≤ ns.length) (fun ⟨_, i⟩ => ns.length - i) (false, 0) ?_ rfl (nZ9 _) ?_
   ·repeat first|exact lN9|refine lD9 ?_|refine lS9 ?_
   have hcap : ∀ i, i < ns.length → (ns.getD i ndC.dflt).2.2.length ≤ capBound := by
    intro i hin
    have he : ns.getD i ndC.dflt = ns[i] := by simp [hin]
    rw [he]
    exact Nat.le_trans (hl.at hin) (by decide)
   have hcap2 : (ndAt ns h).2.2.length ≤ capBound := hcap h hh
   rintro ⟨b, i⟩ hI
   cases b
   ·have hI : i ≤ h := hI
    conv => whnf
    refine cI9 ?_ ?_<;>intro h1
    ·have hin : i < ns.length := lt_of_dec h1
     have hob : (0 : Int) ≤ (i : Nat) ∧ (i : Int) < (ns.length : Nat) := ⟨by omega, by omega⟩
     have hc := hcap i hin
     by_cases hih : i = h
     ·subst hih
      repeat ((conv => whnf); refine ⟨by first | exact hob | (unfold inI64; omega) | omega | exact ⟨by omega, by omega⟩ | exact rfl | decide +kernel, ?_⟩)
      conv => whnf
      refine Or.inr ⟨⟨rfl, rfl⟩, ?_⟩
      conv => whnf
      refine Or.inr ?_
      repeat ((conv => whnf); refine ⟨by first | exact hob | exact hcap2 | (unfold inI64; omega) | omega | exact ⟨by omega, by omega⟩ | exact rfl | decide +kernel, ?_⟩)
      conv => whnf
      refine Or.inr ⟨⟨rfl, rfl, rfl⟩, ?_⟩
      repeat ((conv => whnf); refine ⟨by first | (unfold inI64; omega) | omega | exact ⟨by omega, by omega⟩ | exact rfl | decide +kernel, ?_⟩)
      conv => whnf
      refine hI9 (true, i + 1) ?_ rfl (show i < i + 1 ∧ i + 1 ≤ ns.length by omega) (show ns.length - (i + 1) < ns.length - i by omega)
      repeat first|exact lN9|refine lD9 ?_|refine lS9 ?_
     ·repeat ((conv => whnf); refine ⟨by first | exact hob | (unfold inI64; omega) | omega | exact ⟨by omega, by omega⟩ | exact rfl | decide +kernel, ?_⟩)
      conv => whnf
      refine Or.inl ⟨hih, ?_⟩
      conv => whnf
      refine Or.inl ?_
      repeat ((conv => whnf); refine ⟨by first | exact hob | exact hc | (unfold inI64; omega) | omega | exact ⟨by omega, by omega⟩ | exact rfl | decide +kernel, ?_⟩)
      conv => whnf
      refine Or.inl ⟨hih, ?_⟩
      repeat ((conv => whnf); refine ⟨by first | (unfold inI64; omega) | omega | exact ⟨by omega, by omega⟩ | exact rfl | decide +kernel, ?_⟩)
      conv => whnf
      refine kI9 (false, i + 1) [0] rfl (fun k hk => ?_) ?_ ?_ (show i + 1 ≤ h by omega) (show ns.length - (i + 1) < ns.length - i by omega)
      ·have hk : k < 1 := hk
       obtain rfl : k = 0 := by omega
       rfl
      ·show some [AO.vec _ ndC (ns.set i (ns.getD i ndC.dflt)) h 2 _] = _
       rw [nd_set hin]
      ·repeat first|exact kN9|refine kD9 ?_|refine kR9 rfl ?_
    ·exfalso
     have := ge_of_dec h1
     omega
   ·obtain ⟨hI, hI2⟩ : h < i ∧ i ≤ ns.length := hI
    conv => whnf
    refine cI9 ?_ ?_<;>intro h1
    ·have hin : i < ns.length := lt_of_dec h1
     have hob : (0 : Int) ≤ (i : Nat) ∧ (i : Int) < (ns.length : Nat) := ⟨by omega, by omega⟩
     have hc := hcap i hin
     have hih : ¬ i = h := by omega
     repeat ((conv => whnf); refine ⟨by first | exact hob | (unfold inI64; omega) | omega | exact ⟨by omega, by omega⟩ | exact rfl | decide +kernel, ?_⟩)
     conv => whnf
     refine Or.inl ⟨hih, ?_⟩
     conv => whnf
     refine Or.inl ?_
     repeat ((conv => whnf); refine ⟨by first | exact hob | exact hc | (unfold inI64; omega) | omega | exact ⟨by omega, by omega⟩ | exact rfl | decide +kernel, ?_⟩)
     conv => whnf
     refine Or.inl ⟨hih, ?_⟩
     repeat ((conv => whnf); refine ⟨by first | (unfold inI64; omega) | omega | exact ⟨by omega, by omega⟩ | exact rfl | decide +kernel, ?_⟩)
     conv => whnf
     refine kI9 (true, i + 1) [0, 1] rfl (fun k hk => ?_) ?_ ?_ (show h < i + 1 ∧ i + 1 ≤ ns.length by omega) (show ns.length - (i + 1) < ns.length - i by omega)
     ·have hk : k < 1 := hk
      obtain rfl : k = 0 := by omega
      rfl
     ·show some [AO.vec _ ndC (ns.set i (ns.getD i ndC.dflt)) h 2 _, AO.arr _ _ _ _] = _
      rw [nd_set hin]
     ·repeat first|exact kN9|refine kD9 ?_|refine kR9 rfl ?_
    ·repeat ((conv => whnf); refine ⟨by first | (unfold inI64; omega) | omega | exact ⟨by omega, by omega⟩ | exact rfl | decide +kernel, ?_⟩)
     conv => whnf
     exact eR9
  ·cases hs
 ·cases hs
end Go.Ab
