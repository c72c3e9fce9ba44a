/- A tree that a function has made, one of whose lists it has written: it is written no more. -/
import Derived.Test.YtnlifjljmbfomaaTY64toU6
import Derived.Test.YtnlifjljmbfomaaTX0toY60
import Derived.Test.YtnlifjljmbfomaaTY158toY161
namespace Go.Ab
open Go.Proofs Go.Shelf Go.RowKit Go.Lib
set_option linter.unusedSectionVars false
variable [Base]

/-- The list is part of the array again. -/
theorem fill {G : View} (hS : Sim G) {t t2 : TypeId} {c c2 : CT} {zs : List c.den} {ps : List c2.den} {i k ver : Nat} {z : c.den} (h0 : G.H[0]? = some (.vec t c zs i k (.sl 1 c2 ver ps.length))) (h1 : G.H[1]? = some (.arr t2 c2 ps ver)) (hpos : 0 < ps.length)
    (hz : dec c ((enc c (zs.getD i c.dflt)).take k ++ [.l c2 ps] ++ (enc c (zs.getD i c.dflt)).drop (k + 1)) = some (z, [])) :
    ∃ G', G'.w = G.w ∧ Ext G G' ∧ Sim G' ∧ ∀ v, RepC G (.vs 0 zs.length) v → Rep G'.I G'.w (.list c) (zs.set i z) [v] := by
  obtain ⟨G2, hw2, hx2, hs2, hH2, hf⟩ := frz hS h1 hpos
  have h02 : G2.H[0]? = some (.vec t c zs i k (.sl 1 c2 ver ps.length)) := by
    rw [hH2, List.getElem?_set, if_neg (by decide)]
    exact h0
  obtain ⟨l1, l2, v1, hheap1, _, hi1, hk1, hsl, hr1⟩ := hS.objs 0 _ h0 trivial
  obtain ⟨vs, rest, v', hheap, hno, hi, hk, _, hrows⟩ := hs2.objs 0 _ h02 trivial
  have hlt : G2.ρ 0 < G2.w.heap.size := (Array.getElem?_eq_some_iff.1 hheap).1
  have hρ2 : G2.ρ 0 = G.ρ 0 := by
    obtain ⟨o', ho', hn⟩ := hx2.objs 0 _ h0
    rw [h02] at ho'
    cases ho'
    exact hn.2.2.2
  have hvl := hrows.1
  have hiw : (i + 1) * c.width ≤ zs.length * c.width := Nat.mul_le_mul_right _ hi
  rw [Nat.add_mul, Nat.one_mul] at hiw
  have hplt : i * c.width + k < (vs ++ rest).length := by rw [List.length_append]; omega
  have hplt1 : i * c.width + k < (l1 ++ l2).length := by rw [List.length_append, hr1.1]; omega
  have hvv : v1 = v' := by
    have hh := hheap
    rw [hw2, hρ2, hheap1] at hh
    have h3 := (Obj.cells.inj (Option.some.inj hh)).1
    have h4 : ((l1 ++ l2).set (i * c.width + k) v1)[i * c.width + k]? = ((vs ++ rest).set (i * c.width + k) v')[i * c.width + k]? := congrArg (fun a : Array Value => a.toList[i * c.width + k]?) h3
    rw [List.getElem?_set_self hplt1, List.getElem?_set_self hplt] at h4
    exact Option.some.inj h4
  subst hvv
  have hlist : Rep G2.I G2.w (.list c2) ps [v1] := hf _ hsl
  have hget : zs[i]? = some (zs.getD i c.dflt) := by simp [hi]
  obtain ⟨us, hu, hj⟩ := hrows.2 i _ hget
  have hul := Rep.length _ _ _ hu
  have henc := enc_rep c _ us hu
  have hone : All2 (RepV G2.I G2.w) [.l c2 ps] [v1] := .cons hlist .nil
  have hall := ((henc.take k).append hone).append (henc.drop (k + 1))
  obtain ⟨xs, ys, e1, e2, e3⟩ := dec_rep c _ z [] _ hall hz
  cases e3
  simp only [List.append_nil] at e1
  have hsl2 : us = (vs.drop (i * c.width)).take c.width := by
    apply List.ext_getElem?
    intro m
    rcases Nat.lt_or_ge m us.length with hlt | hge
    · obtain ⟨u, hu'⟩ : ∃ u, us[m]? = some u := ⟨us[m], List.getElem?_eq_getElem hlt⟩
      rw [hu', List.getElem?_take, if_pos (by omega), List.getElem?_drop, hj m u hu']
    · rw [List.getElem?_eq_none hge, List.getElem?_eq_none (by rw [List.length_take]; omega)]
  have hnew : (vs ++ rest).set (i * c.width + k) v1 = (vs.take (i * c.width) ++ xs ++ vs.drop ((i + 1) * c.width)) ++ rest := by
    have h3 := splice_one (L := vs ++ rest) (v := (vs ++ rest)[i * c.width + k]) (y := v1) hplt
    rw [List.set_getElem_self] at h3
    rw [← h3]
    have e4 : (vs ++ rest).take (i * c.width + k) = vs.take (i * c.width) ++ us.take k := by
      rw [List.take_append_of_le_length (by omega), List.take_add, hsl2, List.take_take, Nat.min_eq_left (by omega)]
    have e5 : (vs ++ rest).drop (i * c.width + k + 1) = us.drop (k + 1) ++ vs.drop ((i + 1) * c.width) ++ rest := by
      rw [List.drop_append_of_le_length (by omega)]
      congr 1
      have e6 : vs.drop (i * c.width + k + 1) = (vs.drop (i * c.width)).drop (k + 1) := by rw [List.drop_drop]; congr 1
      have e7 : vs.drop (i * c.width) = us ++ vs.drop ((i + 1) * c.width) := by
        rw [hsl2, Nat.add_mul, Nat.one_mul, ← List.drop_drop, List.take_append_drop]
      rw [e6, e7, List.drop_append_of_le_length (by omega)]
    rw [e4, e5, ← e1]
    simp only [List.append_assoc]
  have hrows2 := hrows.set hi e2
  have hxl := Rep.length _ _ _ e2
  rw [hnew] at hheap
  have g : Upd G2 0 (G2.ρ 0) (.vec t c zs i k (.sl 1 c2 ver ps.length)) .dead (fun x => x < zs.length * c.width) G2.w := ⟨h02, trivial, Nat.le_refl _, rfl, rfl, rfl, fun _ _ _ => rfl, .inr ⟨_, h02, trivial, rfl⟩, hlt, hno⟩
  have hE := Ext.upd hs2 g
  refine ⟨G2.upd 0 (G2.ρ 0) .dead (fun x => x < zs.length * c.width) G2.w, hw2, hx2.trans hE, Sim.upd hs2 g fun h => h.elim, fun v hv => ?_⟩
  have hv := RepC.mono hx2 hv
  obtain ⟨hle, cap, rfl, hcap⟩ := vs_live hv h02
  have hzl : (zs.set i z).length = zs.length := List.length_set ..
  have hlen : (vs.take (i * c.width) ++ xs ++ vs.drop ((i + 1) * c.width)).length = zs.length * c.width := by rw [hrows2.1, hzl]
  have := Rows.list (b := G2.ρ 0) (off := 0) (cap := cap) (hrows2.mono hE.stays) (by rw [hzl]; exact hcap) fun m u hm => by
    have hml : m < (vs.take (i * c.width) ++ xs ++ vs.drop ((i + 1) * c.width)).length := (List.getElem?_eq_some_iff.1 hm).1
    refine ⟨.inr ⟨rfl, by rw [← hlen]; omega⟩, ?_⟩
    show G2.w.cell? _ = _
    simp [World.cell?, hheap]
    rw [← List.append_assoc, ← List.append_assoc, List.getElem?_append_left hml]
    exact hm
  rw [hzl] at this
  exact this

theorem ext_frzV {P : Program} {T : Table} {f : FuncId} {s s' : Says} (h1 : TSound P (ext T f s)) (hT : TSound P T)
    (h : ∀ args H p r H', s' args H = some (p, r, H') → holdsO p → H = [] ∧ H' = [] ∧ ∃ q t t2 c c2 zs ps i k ver y z, holdsO q ∧ 0 < ps.length ∧ dec c ((enc c (zs.getD i c.dflt)).take k ++ [.l c2 ps] ++ (enc c (zs.getD i c.dflt)).drop (k + 1)) = some (z, []) ∧
      s args [] = some (q, .tup [.agg [.vs 0 zs.length], .c (.p y)], [.vec t c zs i k (.sl 1 c2 ver ps.length), .arr t2 c2 ps ver]) ∧ r = .tup [.agg [.p (.l c (zs.set i z))], .c (.p y)]) : TSound P (ext T f s') :=
  ext_sound hT fun args H p r H' hs hp G hS hH cargs ha => by
    obtain ⟨rfl, rfl, q, t, t2, c, c2, zs, ps, i, k, ver, y, z, hq, hpos, hz, hs1, rfl⟩ := h args H p r H' hs hp
    have hb : Nat.beq f f = true := Nat.beq_refl f
    refine (h1 f args [] q (.tup [.agg [.vs 0 zs.length], .c (.p y)]) [.vec t c zs i k (.sl 1 c2 ver ps.length), .arr t2 c2 ps ver] (by unfold ext; rw [hb]; exact hs1) hq G hS hH cargs ha).mono fun v G1 he hs1 ⟨hH1, hr⟩ => ?_
    obtain ⟨G2, hw, hx, hs2, hf⟩ := fill hs1 (by rw [hH1]; rfl) (by rw [hH1]; rfl) hpos hz
    have hsub : subH [] G2.H [] = some [] := rfl
    refine ⟨G2.sub [] [], hw, (he.trans hx).keep hsub rfl fun k hk => ?_, hs2.sub hsub rfl, rfl, ?_⟩
    · rw [hH] at hk
      exact absurd hk (Nat.not_lt_zero k)
    · obtain ⟨vs, rfl, hvs⟩ := hr
      cases hvs with
      | cons a b =>
        cases b with
        | cons b1 b2 =>
          cases b2
          obtain ⟨cs, rfl, hcs⟩ := a
          cases hcs with
          | cons c1 c2 =>
            cases c2
            exact ⟨_, rfl, .cons ⟨_, rfl, .cons (hf _ c1) .nil⟩ (.cons (RepV.mono hx.stays b1) .nil)⟩

/-- A line for each of many values of something, put together. -/
theorem ext_fam {P : Program} {T : Table} {f : FuncId} {α : Type} {s1 : α → Says} {s' : Says} (h1 : ∀ i, TSound P (ext T f (s1 i))) (hT : TSound P T)
    (h : ∀ args H p r H', s' args H = some (p, r, H') → holdsO p → ∃ i q, holdsO q ∧ s1 i args H = some (q, r, H')) : TSound P (ext T f s') := by
  intro g args H p r H' hg hp G hS hH cargs ha
  unfold ext at hg
  split at hg
  · rename_i hb
    have hb' : Nat.beq g f = true := hb
    obtain ⟨i, q, hq, hs⟩ := h args H p r H' hg hp
    exact h1 i g args H q r H' (by unfold ext; rw [hb']; exact hs) hq G hS hH cargs ha
  · exact hT g args H p r H' hg hp G hS hH cargs ha

theorem frzG {G : View} (hS : Sim G) {id : Nat} {t : TypeId} {c : CT} {zs zs' : List c.den} {i k ver : Nat} {x : AC} (ho : G.H[id]? = some (.gvec t c zs i k x ver)) (hz : holeFix c zs i k x = some zs') :
    ∃ G', G'.w = G.w ∧ Ext G G' ∧ Sim G' ∧ G'.H = G.H.set id .dead ∧ ∀ v, RepC G (.gs id ver zs.length) v → Rep G'.I G'.w (.list c) zs' [v] := by
  obtain ⟨vs, rest, v1, hheap, hno, hi, hk, hx, hrows⟩ := hS.objs id _ ho trivial
  obtain ⟨hzl, hr2⟩ := hole_rows hz hrows hi hk hx
  have hlt : G.ρ id < G.w.heap.size := (Array.getElem?_eq_some_iff.1 hheap).1
  have hpl : i * c.width + k < vs.length := by
    have : (i + 1) * c.width ≤ zs.length * c.width := Nat.mul_le_mul_right _ hi
    rw [Nat.add_mul] at this
    rw [hrows.1]; omega
  rw [List.set_append_left _ _ hpl] at hheap
  generalize vs.set (i * c.width + k) v1 = cs at *
  have g : Upd G id (G.ρ id) (.gvec t c zs i k x ver) .dead (fun x => x < zs.length * c.width) G.w := ⟨ho, trivial, Nat.le_refl _, rfl, rfl, rfl, fun _ _ _ => rfl, .inr ⟨_, ho, trivial, rfl⟩, hlt, hno⟩
  have hE := Ext.upd hS g
  refine ⟨G.upd id (G.ρ id) .dead (fun x => x < zs.length * c.width) G.w, rfl, hE, Sim.upd hS g fun h => h.elim, rfl, fun v hv => ?_⟩
  obtain ⟨_, cap, cur, rfl, _, hcap, _⟩ := gs_live hv ho
  have := Rows.list (b := G.ρ id) (off := 0) (cap := cap) (hr2.mono hE.stays) (by rw [hzl]; exact hcap) fun m u hm => by
    have hml : m < cs.length := (List.getElem?_eq_some_iff.1 hm).1
    refine ⟨.inr ⟨rfl, by rw [hr2.1, hzl] at hml; omega⟩, ?_⟩
    show G.w.cell? _ = _
    simp [World.cell?, hheap]
    rw [List.getElem?_append_left hml]
    exact hm
  rw [hzl] at this
  exact this

/-- A row with a list that grew in one of its cells, behind a call: the list is written no more. -/
theorem ext_rowG {P : Program} {T : Table} {f : FuncId} {s s' : Says} (h1 : TSound P (ext T f s)) (hT : TSound P T)
    (h : ∀ args H p r H', s' args H = some (p, r, H') → holdsO p → ∃ q row0 row t c zs i k x ver j zs' rest, holdsO q ∧ H = [.row row0] ∧ row[j]? = some (.gs 1 ver zs.length) ∧ holeFix c zs i k x = some zs' ∧ ScS r ∧
      s args H = some (q, r, .row row :: .gvec t c zs i k x ver :: rest) ∧ (∀ y ∈ row.set j (.p (.l c zs')), ∃ z, y = .p z) ∧ H' = [.row (row.set j (.p (.l c zs')))]) : TSound P (ext T f s') :=
  ext_sound hT fun args H p r H' hs hp G hS hH cargs ha => by
    obtain ⟨q, row0, row, t, c, zs, i, k, x, ver, j, zs', rest, hq, rfl, hj, hz, hsc, hs1, hpure, rfl⟩ := h args H p r H' hs hp
    have hb : Nat.beq f f = true := Nat.beq_refl f
    refine (h1 f args _ q r (.row row :: .gvec t c zs i k x ver :: rest) (by unfold ext; rw [hb]; exact hs1) hq G hS hH cargs ha).mono fun v G1 he hs1 ⟨hH1, hr⟩ => ?_
    have hrow : G1.H[0]? = some (.row row) := by rw [hH1]; rfl
    have hvec : G1.H[1]? = some (.gvec t c zs i k x ver) := by rw [hH1]; rfl
    obtain ⟨vs0, T0, hheap0, _, hall0⟩ := hs1.objs 0 _ hrow trivial
    obtain ⟨G2, hw2, hx2, hs2, hH2, hf⟩ := frzG hs1 hvec hz
    have hrow2 : G2.H[0]? = some (.row row) := by
      rw [hH2, List.getElem?_set, if_neg (by decide)]
      exact hrow
    have hρ2 : G2.ρ 0 = G1.ρ 0 := by
      obtain ⟨o', ho', hn⟩ := hx2.objs 0 _ hrow
      rw [hrow2] at ho'
      cases ho'
      exact hn.1
    obtain ⟨G3, hw3, hx3, hs3, hH3⟩ := set_cell hs2 hrow2 j (.p (.l c zs')) fun vs T v h1 h2 => by
      rw [hw2, hρ2, hheap0] at h1
      cases h1
      exact hf _ (all2_get' hall0 hj h2)
    have hlen : G3.H[0]? = some (.row (row.set j (.p (.l c zs')))) := by
      rw [hH3, List.getElem?_set, if_pos rfl, if_pos (List.getElem?_eq_some_iff.1 hrow2).1]
    have hren : ∀ l : List AC, (∀ y ∈ l, ∃ z, y = .p z) → renCs [0] l = some l := by
      intro l
      induction l with
      | nil => intro _; rfl
      | cons a l ih =>
        intro hl
        obtain ⟨z, rfl⟩ := hl a (List.mem_cons_self ..)
        simp only [renCs, renC, ih fun y hy => hl y (List.mem_cons_of_mem _ hy)]
    have hsub : subH [0] G3.H [0] = some [.row (row.set j (.p (.l c zs')))] := by
      simp only [subH, hlen, renO, hren _ hpure]
    refine ⟨G3.sub [0] _, hw3.trans hw2, ((he.trans hx2).trans hx3).keep hsub rfl fun k hk => ?_, hs3.sub hsub rfl, rfl, ScS.rep hsc hr⟩
    rw [hH] at hk
    have : k = 0 := by simpa using hk
    subst this
    rfl
end Go.Ab
namespace Go.Ab
open Go.Proofs
set_option linter.unusedSectionVars false
set_option maxRecDepth 100000
variable [Base]

/-- The nodes so far, the last of them with a list of properties that may be appended to. -/
abbrev gvO (v : Nat) (ns : List Nd) (ps : List Pt) : AO := .gvec ndT ndC ns (ns.length - 1) 2 (.own 2 ptC ps) v
abbrev ptO (ps : List Pt) : AO := .tok 43 ptC ps.length true
def GsOk (v n : Nat) (o1 o2 : AO) : Prop := ∃ ns ps, n = ns.length ∧ 0 < n ∧ o1 = gvO v ns ps ∧ o2 = ptO ps
abbrev hqG (b : List Int) (a : Int) (nm : ByteArray) (v n : Nat) (op lv pl e : Int) (o1 o2 : AO) : List AO := [.row [.p (.l u8C b), .int .i64 a, .str nm, .gs 1 v n, .int .i64 op, .int .i64 lv, .int .i64 pl, .int .i64 e], o1, o2]
def saysRnG : Says := fun args H => match args, H with
  | [.c (.ptr 0 0)], [.row [.p (.l (.int .u8) b), .p (.v (.int .i64 a)), .p (.v (.string nm)), .gs 1 v n, .p (.v (.int .i64 op)), .p (.v (.int .i64 lv)), .p (.v (.int .i64 pl)), .p (.v (.int .i64 e))], o1, o2] => some (some (NumOk b a ∧ GsOk v n o1 o2), numRes b a, hqG b (a + 4) nm v n op lv pl e o1 o2)
  | _, _ => none
theorem rn_g : TSound Try.prog (ext BA23 67 saysRnG) := by
  refine ext_run bA23 (f := 67) (fn := Try.f67) rfl rfl [0, 2, 3, 13] fun args H p r H' hs hp => ?_
  unfold saysRnG at hs
  split at hs
  · rename_i b a nm v n op lv pl e o1 o2
    cases hs
    obtain ⟨hn, ns, ps, rfl, hpos, rfl, rfl⟩ := hp
    have h0 := hn.ge
    have h1 := hn.le
    have h2 := hn.len
    refine ⟨Nat.le_of_ble_eq_true rfl, [0, 1, 2], rfl, id3, ?_⟩
    repeat ((conv => whnf); refine ⟨by first | (unfold inI64; omega) | omega | exact ⟨by omega, by omega⟩ | exact rfl | decide +kernel, ?_⟩)
    conv => whnf
    refine cond_intro (fun h => ?_) (fun h => ?_)
    · exfalso
      have : a = (b.length : Nat) := of_decide_eq_true h
      omega
    have e1 : a + 4 - 4 = a := by omega
    have hi : inI64 (a + 4 - 4) := by unfold inI64; omega
    have hq : [AV.c (.p (.l u8C b)), AV.c (.int .i64 (a + 4 - 4))] = eaBI (b, a + 4 - 4) ∧ (0 ≤ a + 4 - 4 ∧ a + 4 - 4 + 4 ≤ (b.length : Nat) ∧ b.length ≤ 1000000000 ∧ BtL b) := ⟨rfl, by omega, by omega, h2, hn.byt⟩
    repeat ((conv => whnf); refine ⟨by first | exact hi | exact hq | ((conv => whnf); exact ⟨⟨rfl, rfl, rfl⟩, trivial⟩) | exact Early.one (by decide +kernel) (by (conv => whnf); exact ⟨rfl, rfl, rfl⟩) trivial | (unfold inI64; omega) | omega | exact ⟨by omega, by omega⟩ | exact rfl | decide +kernel, ?_⟩)
    conv => whnf
    refine ends_eq ⟨?_, rfl⟩
    show SV.tup [AV.c (.int .i64 (bnV b (a + 4 - 4).toNat)), _] = _
    rw [e1]
    rfl
  · cases hs
def BD1 : Table := ext BA23 67 (orS (orS saysRnN saysRnO) saysRnG)
theorem bD1 : TSound Try.prog BD1 := ext_or (ext_only (U := BA11) bA12 bA23) rn_g
def saysExG : Says := fun args H => match args, H with
  | [.c (.ptr 0 0), .c (.p (.v (.int .i64 w)))], [.row [.p (.l (.int .u8) b), .p (.v (.int .i64 a)), .p (.v (.string nm)), .gs 1 v n, .p (.v (.int .i64 op)), .p (.v (.int .i64 lv)), .p (.v (.int .i64 pl)), .p (.v (.int .i64 e))], o1, o2] => some (some ((NumOk b a ∧ bnV b a.toNat = w) ∧ GsOk v n o1 o2), .bool true, hqG b (a + 4) nm v n op lv pl e o1 o2)
  | _, _ => none
theorem ex_g : TSound Try.prog (ext BD1 47 saysExG) := by
  refine ext_run bD1 (f := 47) (fn := Try.f47) rfl rfl [0, 1, 4, 5, 6, 17] fun args H p r H' hs hp => ?_
  unfold saysExG at hs
  split at hs
  · rename_i w b a nm v n op lv pl e o1 o2
    cases hs
    obtain ⟨⟨hn, hw⟩, hg⟩ := hp
    have hg0 := hg
    obtain ⟨ns, ps, rfl, hpos, rfl, rfl⟩ := hg
    refine ⟨Nat.le_of_ble_eq_true rfl, [0, 1, 2], rfl, id3, ?_⟩
    repeat ((conv => whnf); refine ⟨by first | exact ⟨hn, hg0⟩ | (unfold inI64; omega) | omega | exact ⟨by omega, by omega⟩ | exact rfl | decide +kernel, ?_⟩)
    conv => whnf
    rw [hw]
    repeat ((conv => whnf); refine ⟨by first | (unfold inI64; omega) | omega | exact ⟨by omega, by omega⟩ | exact rfl | decide +kernel, ?_⟩)
    conv => whnf
    refine cond_intro (fun h => ?_) (fun h => ?_)
    · exfalso
      simp at h
    repeat ((conv => whnf); refine ⟨by first | (unfold inI64; omega) | omega | exact ⟨by omega, by omega⟩ | exact rfl | decide +kernel, ?_⟩)
    conv => whnf
    exact ends_eq ⟨rfl, rfl⟩
  · cases hs
def BD2 : Table := ext BD1 47 (orS (orS saysExN saysExO) saysExG)
theorem bD2 : TSound Try.prog BD2 := ext_or (ext_only (U := BA12) bA13 bD1) ex_g

theorem al_le2 (n : Nat) : n ≤ alN n ∧ alN n ≤ n + 3 := by unfold alN; omega
/-- A text of so many bytes, behind which there are zero bytes. -/
structure PdOk (b : List Int) (a l z : Int) : Prop where
  ge : 0 ≤ a
  l0 : 0 ≤ l
  z0 : 0 ≤ z
  z1 : z ≤ 1
  le : alN (a + l + z).toNat ≤ b.length
  len : b.length ≤ 1000000000
  zs : ∀ i, (a + l).toNat ≤ i → i < alN (a + l + z).toNat → b.getD i 0 = 0
def pdT (b : List Int) (a l : Int) : ByteArray := bytesOf ((b.take (a + l).toNat).drop a.toNat)

def saysPdN : Says := fun args H => match args, H with
  | [.c (.ptr 0 0), .c (.p (.v (.int .i64 l))), .c (.p (.v (.int .i64 z)))], [.row [.p (.l (.int .u8) b), .p (.v (.int .i64 a)), .p (.v (.string nm)), .p (.v (.slice none 0 0)), .p (.v (.int .i64 op)), .p (.v (.int .i64 lv)), .p (.v (.int .i64 pl)), .p (.v (.int .i64 e))]] => some (some (PdOk b a l z ∧ True), .tup [.c (.str (pdT b a l)), .c (.bool true)], hqN b ((alN (a + l + z).toNat : Nat)) nm op lv pl e)
  | _, _ => none
theorem pd_N : TSound Try.prog (ext BD2 81 saysPdN) := by
  refine ext_run bD2 (f := 81) (fn := Try.f81) rfl rfl [0, 1, 2, 6, 7, 8, 9, 11, 38, 55, 56, 57, 58, 62] fun args H p r H' hs hp => ?_
  unfold saysPdN at hs
  split at hs
  · rename_i l z b a nm op lv pl e
    cases hs
    obtain ⟨hz, _⟩ := hp
    have h0 := hz.ge
    have h1 := hz.le
    have h2 := hz.len
    have h3 := hz.l0
    have h4 := hz.z0
    have h5 := hz.z1
    have h6 := al_le2 (a + l + z).toNat
    refine ⟨Nat.le_of_ble_eq_true rfl, [0], rfl, id0, ?_⟩
    have hi1 : inI64 (a + l) := by unfold inI64; omega
    have hi2 : inI64 (a + l + z) := by unfold inI64; omega
    have hq : [AV.c (.int .i64 (a + l + z))] = eaI1 (a + l + z) ∧ (0 ≤ a + l + z ∧ a + l + z ≤ 1000000000000) := ⟨rfl, by omega, by omega⟩
    obtain ⟨m, hm⟩ : ∃ m, alN (a + l + z).toNat = m := ⟨_, rfl⟩
    have hzs := hz.zs
    rw [hm] at h1 h6 hzs
    rw [hm]
    repeat ((conv => whnf); refine ⟨by first | exact hq | exact hi1 | exact hi2 | ((conv => whnf); exact ⟨⟨rfl, rfl, rfl⟩, trivial⟩) | exact Early.one (by decide +kernel) (by (conv => whnf); exact ⟨rfl, rfl, rfl⟩) trivial | (unfold inI64; omega) | omega | exact ⟨by omega, by omega⟩ | exact rfl | decide +kernel, ?_⟩)
    conv => whnf
    rw [hm]
    refine cond_intro (fun h => ?_) (fun h => ?_)
    · exfalso
      have : (b.length : Int) < (m : Int) := of_decide_eq_true h
      omega
    have hb1 : 0 ≤ a + l ∧ a + l ≤ (m : Int) ∧ (m : Int) ≤ (b.length : Nat) := by omega
    have hb2 : 0 ≤ a ∧ a ≤ a + l ∧ a + l ≤ (b.length : Nat) := by omega
    repeat ((conv => whnf); refine ⟨by first | exact hb1 | ((conv => whnf); exact ⟨⟨rfl, rfl, rfl⟩, trivial⟩) | exact Early.one (by decide +kernel) (by (conv => whnf); exact ⟨rfl, rfl, rfl⟩) trivial | (unfold inI64; omega) | omega | exact ⟨by omega, by omega⟩ | exact rfl | decide +kernel, ?_⟩)
    conv => whnf
    obtain ⟨d, hd⟩ : ∃ d, (b.take ((m : Nat) : Int).toNat).drop (a + l).toNat = d := ⟨_, rfl⟩
    have hlz : ∀ i, i < d.length → d.getD i 0 = 0 := fun i hi => by
      have hi' : i < m - (a + l).toNat := by
        rw [← hd, List.length_drop, List.length_take, Int.toNat_natCast] at hi
        omega
      have := hzs ((a + l).toNat + i) (Nat.le_add_right _ _) (by omega)
      rw [← hd, List.getD_eq_getElem?_getD, List.getElem?_drop, Int.toNat_natCast, List.getElem?_take, if_pos (by omega), ← List.getD_eq_getElem?_getD]
      exact this
    have hdl : d.length ≤ b.length := by rw [← hd, List.length_drop, List.length_take]; omega
    rw [hd]
    refine loop_intro (σ := Nat) (fun i => [(0, XV.s (.a (.c (.ptr 0 0)))), (1, XV.s .none), (2, XV.s .none), (6, XV.s .none), (7, XV.s .none), (8, XV.s (.int .i64 a)), (9, XV.s (.int .i64 (a + l))), (11, XV.s .none), (38, XV.s .none), (55, XV.s (.a (.c (.p (.l (.int .u8) d))))), (56, XV.s (.int .i64 (d.length : Nat))), (57, XV.s (.int .i64 (i : Nat))), (58, XV.s .none), (62, XV.s .none)])
      (fun _ => hqN b ((m : Nat)) nm op lv pl e) (fun i => i ≤ d.length) (fun i => d.length - i) 0 ?_ rfl (Nat.zero_le _) (fun i hi => ?_)
    · repeat (first | exact LeL.nil | refine LeL.drop ?_ | refine LeL.same ?_)
    repeat ((conv => whnf); refine ⟨by first | (unfold inI64; omega) | omega | exact ⟨by omega, by omega⟩ | exact rfl | decide +kernel, ?_⟩)
    conv => whnf
    refine cond_intro (fun h7 => ?_) (fun h7 => ?_)
    · have hlt : i < d.length := lt_of_dec h7
      have hin : 0 ≤ (i : Int) ∧ (i : Int) < (d.length : Nat) := by omega
      have hi3 : inI64 ((i : Int) + 1) := by unfold inI64; omega
      have hi0 : d.getD ((i : Int)).toNat (CT.int IntKind.u8).dflt = (0 : Int) := hlz i hlt
      repeat ((conv => whnf); refine ⟨by first | exact hin | (unfold inI64; omega) | omega | exact ⟨by omega, by omega⟩ | exact rfl | decide +kernel, ?_⟩)
      conv => whnf
      rw [hi0]
      repeat ((conv => whnf); refine ⟨by first | exact hi3 | (unfold inI64; omega) | omega | exact ⟨by omega, by omega⟩ | exact rfl | decide +kernel, ?_⟩)
      conv => whnf
      refine head_intro (i + 1) ?_ rfl hlt (by show d.length - (i + 1) < d.length - i; omega)
      repeat (first | exact LeL.nil | refine LeL.drop ?_ | refine LeL.same ?_)
    · repeat ((conv => whnf); refine ⟨by first | exact hb2 | (unfold inI64; omega) | omega | exact ⟨by omega, by omega⟩ | exact rfl | decide +kernel, ?_⟩)
      conv => whnf
      exact ends_eq ⟨rfl, rfl⟩
  · cases hs

def saysPdG : Says := fun args H => match args, H with
  | [.c (.ptr 0 0), .c (.p (.v (.int .i64 l))), .c (.p (.v (.int .i64 z)))], [.row [.p (.l (.int .u8) b), .p (.v (.int .i64 a)), .p (.v (.string nm)), .gs 1 v n, .p (.v (.int .i64 op)), .p (.v (.int .i64 lv)), .p (.v (.int .i64 pl)), .p (.v (.int .i64 e))], o1, o2] => some (some (PdOk b a l z ∧ GsOk v n o1 o2), .tup [.c (.str (pdT b a l)), .c (.bool true)], hqG b ((alN (a + l + z).toNat : Nat)) nm v n op lv pl e o1 o2)
  | _, _ => none
theorem pd_G : TSound Try.prog (ext BD2 81 saysPdG) := by
  refine ext_run bD2 (f := 81) (fn := Try.f81) rfl rfl [0, 1, 2, 6, 7, 8, 9, 11, 38, 55, 56, 57, 58, 62] fun args H p r H' hs hp => ?_
  unfold saysPdG at hs
  split at hs
  · rename_i l z b a nm v n op lv pl e o1 o2
    cases hs
    obtain ⟨hz, ⟨ns, ps, rfl, hpos, rfl, rfl⟩⟩ := hp
    have h0 := hz.ge
    have h1 := hz.le
    have h2 := hz.len
    have h3 := hz.l0
    have h4 := hz.z0
    have h5 := hz.z1
    have h6 := al_le2 (a + l + z).toNat
    refine ⟨Nat.le_of_ble_eq_true rfl, [0, 1, 2], rfl, id3, ?_⟩
    have hi1 : inI64 (a + l) := by unfold inI64; omega
    have hi2 : inI64 (a + l + z) := by unfold inI64; omega
    have hq : [AV.c (.int .i64 (a + l + z))] = eaI1 (a + l + z) ∧ (0 ≤ a + l + z ∧ a + l + z ≤ 1000000000000) := ⟨rfl, by omega, by omega⟩
    obtain ⟨m, hm⟩ : ∃ m, alN (a + l + z).toNat = m := ⟨_, rfl⟩
    have hzs := hz.zs
    rw [hm] at h1 h6 hzs
    rw [hm]
    repeat ((conv => whnf); refine ⟨by first | exact hq | exact hi1 | exact hi2 | ((conv => whnf); exact ⟨⟨rfl, rfl, rfl⟩, trivial⟩) | exact Early.one (by decide +kernel) (by (conv => whnf); exact ⟨rfl, rfl, rfl⟩) trivial | (unfold inI64; omega) | omega | exact ⟨by omega, by omega⟩ | exact rfl | decide +kernel, ?_⟩)
    conv => whnf
    rw [hm]
    refine cond_intro (fun h => ?_) (fun h => ?_)
    · exfalso
      have : (b.length : Int) < (m : Int) := of_decide_eq_true h
      omega
    have hb1 : 0 ≤ a + l ∧ a + l ≤ (m : Int) ∧ (m : Int) ≤ (b.length : Nat) := by omega
    have hb2 : 0 ≤ a ∧ a ≤ a + l ∧ a + l ≤ (b.length : Nat) := by omega
    repeat ((conv => whnf); refine ⟨by first | exact hb1 | ((conv => whnf); exact ⟨⟨rfl, rfl, rfl⟩, trivial⟩) | exact Early.one (by decide +kernel) (by (conv => whnf); exact ⟨rfl, rfl, rfl⟩) trivial | (unfold inI64; omega) | omega | exact ⟨by omega, by omega⟩ | exact rfl | decide +kernel, ?_⟩)
    conv => whnf
    obtain ⟨d, hd⟩ : ∃ d, (b.take ((m : Nat) : Int).toNat).drop (a + l).toNat = d := ⟨_, rfl⟩
    have hlz : ∀ i, i < d.length → d.getD i 0 = 0 := fun i hi => by
      have hi' : i < m - (a + l).toNat := by
        rw [← hd, List.length_drop, List.length_take, Int.toNat_natCast] at hi
        omega
      have := hzs ((a + l).toNat + i) (Nat.le_add_right _ _) (by omega)
      rw [← hd, List.getD_eq_getElem?_getD, List.getElem?_drop, Int.toNat_natCast, List.getElem?_take, if_pos (by omega), ← List.getD_eq_getElem?_getD]
      exact this
    have hdl : d.length ≤ b.length := by rw [← hd, List.length_drop, List.length_take]; omega
    rw [hd]
    refine loop_intro (σ := Nat) (fun i => [(0, XV.s (.a (.c (.ptr 0 0)))), (1, XV.s .none), (2, XV.s .none), (6, XV.s .none), (7, XV.s .none), (8, XV.s (.int .i64 a)), (9, XV.s (.int .i64 (a + l))), (11, XV.s .none), (38, XV.s .none), (55, XV.s (.a (.c (.p (.l (.int .u8) d))))), (56, XV.s (.int .i64 (d.length : Nat))), (57, XV.s (.int .i64 (i : Nat))), (58, XV.s .none), (62, XV.s .none)])
      (fun _ => hqG b ((m : Nat)) nm v ns.length op lv pl e (gvO v ns ps) (ptO ps)) (fun i => i ≤ d.length) (fun i => d.length - i) 0 ?_ rfl (Nat.zero_le _) (fun i hi => ?_)
    · repeat (first | exact LeL.nil | refine LeL.drop ?_ | refine LeL.same ?_)
    repeat ((conv => whnf); refine ⟨by first | (unfold inI64; omega) | omega | exact ⟨by omega, by omega⟩ | exact rfl | decide +kernel, ?_⟩)
    conv => whnf
    refine cond_intro (fun h7 => ?_) (fun h7 => ?_)
    · have hlt : i < d.length := lt_of_dec h7
      have hin : 0 ≤ (i : Int) ∧ (i : Int) < (d.length : Nat) := by omega
      have hi3 : inI64 ((i : Int) + 1) := by unfold inI64; omega
      have hi0 : d.getD ((i : Int)).toNat (CT.int IntKind.u8).dflt = (0 : Int) := hlz i hlt
      repeat ((conv => whnf); refine ⟨by first | exact hin | (unfold inI64; omega) | omega | exact ⟨by omega, by omega⟩ | exact rfl | decide +kernel, ?_⟩)
      conv => whnf
      rw [hi0]
      repeat ((conv => whnf); refine ⟨by first | exact hi3 | (unfold inI64; omega) | omega | exact ⟨by omega, by omega⟩ | exact rfl | decide +kernel, ?_⟩)
      conv => whnf
      refine head_intro (i + 1) ?_ rfl hlt (by show d.length - (i + 1) < d.length - i; omega)
      repeat (first | exact LeL.nil | refine LeL.drop ?_ | refine LeL.same ?_)
    · repeat ((conv => whnf); refine ⟨by first | exact hb2 | (unfold inI64; omega) | omega | exact ⟨by omega, by omega⟩ | exact rfl | decide +kernel, ?_⟩)
      conv => whnf
      exact ends_eq ⟨rfl, rfl⟩
  · cases hs

def BD3 : Table := ext BD2 81 (orS saysPdN saysPdG)
theorem bD3 : TSound Try.prog BD3 := ext_or pd_N pd_G

/-- How long a text is that begins there. -/
def txL (b : List Int) (a : Int) : Int := Lib.indexByte (Lib.bytesOf (b.drop a.toNat)) (Int.toNat 0).toUInt8
structure TxOk (b : List Int) (a : Int) : Prop where
  lt : a ≤ (b.length : Nat)
  pd : PdOk b a (txL b a) 1

def saysTxN : Says := fun args H => match args, H with
  | [.c (.ptr 0 0)], [.row [.p (.l (.int .u8) b), .p (.v (.int .i64 a)), .p (.v (.string nm)), .p (.v (.slice none 0 0)), .p (.v (.int .i64 op)), .p (.v (.int .i64 lv)), .p (.v (.int .i64 pl)), .p (.v (.int .i64 e))]] => some (some (TxOk b a ∧ True), .tup [.c (.str (pdT b a (txL b a))), .c (.bool true)], hqN b ((alN (a + txL b a + 1).toNat : Nat)) nm op lv pl e)
  | _, _ => none
theorem tx_N : TSound Try.prog (ext BD3 69 saysTxN) := by
  refine ext_run bD3 (f := 69) (fn := Try.f69) rfl rfl [0, 2, 3, 4, 16] fun args H p r H' hs hp => ?_
  unfold saysTxN at hs
  split at hs
  · rename_i b a nm op lv pl e
    cases hs
    obtain ⟨hz, hc⟩ := hp
    have hc0 := hc
    obtain _ := hc
    have h0 := hz.pd.ge
    have h1 := hz.pd.le
    have h6 := al_le2 (a + txL b a + 1).toNat
    have h3 := hz.pd.l0
    have h9 := hz.lt
    refine ⟨Nat.le_of_ble_eq_true rfl, [0], rfl, id0, ?_⟩
    have hb : 0 ≤ a ∧ a ≤ (b.length : Nat) ∧ ((b.length : Nat) : Int) ≤ (b.length : Nat) := by omega
    have hi : Lib.indexByte (Lib.bytesOf ((b.take ((b.length : Nat) : Int).toNat).drop a.toNat)) (Int.toNat 0).toUInt8 = txL b a := by
      rw [Int.toNat_natCast, List.take_length]
      rfl
    repeat ((conv => whnf); refine ⟨by first | exact hb | ((conv => whnf); exact ⟨⟨rfl, rfl, rfl⟩, trivial⟩) | exact Early.one (by decide +kernel) (by (conv => whnf); exact ⟨rfl, rfl, rfl⟩) trivial | (unfold inI64; omega) | omega | exact ⟨by omega, by omega⟩ | exact rfl | decide +kernel, ?_⟩)
    conv => whnf
    rw [hi]
    refine cond_intro (fun h => ?_) (fun h => ?_)
    · exfalso
      have : txL b a < 0 := of_decide_eq_true h
      omega
    repeat ((conv => whnf); refine ⟨by first | exact ⟨hz.pd, hc0⟩ | ((conv => whnf); exact ⟨⟨rfl, rfl, rfl⟩, trivial⟩) | exact Early.one (by decide +kernel) (by (conv => whnf); exact ⟨rfl, rfl, rfl⟩) trivial | (unfold inI64; omega) | omega | exact ⟨by omega, by omega⟩ | exact rfl | decide +kernel, ?_⟩)
    conv => whnf
    exact ends_eq ⟨rfl, rfl⟩
  · cases hs

def saysTxG : Says := fun args H => match args, H with
  | [.c (.ptr 0 0)], [.row [.p (.l (.int .u8) b), .p (.v (.int .i64 a)), .p (.v (.string nm)), .gs 1 v n, .p (.v (.int .i64 op)), .p (.v (.int .i64 lv)), .p (.v (.int .i64 pl)), .p (.v (.int .i64 e))], o1, o2] => some (some (TxOk b a ∧ GsOk v n o1 o2), .tup [.c (.str (pdT b a (txL b a))), .c (.bool true)], hqG b ((alN (a + txL b a + 1).toNat : Nat)) nm v n op lv pl e o1 o2)
  | _, _ => none
theorem tx_G : TSound Try.prog (ext BD3 69 saysTxG) := by
  refine ext_run bD3 (f := 69) (fn := Try.f69) rfl rfl [0, 2, 3, 4, 16] fun args H p r H' hs hp => ?_
  unfold saysTxG at hs
  split at hs
  · rename_i b a nm v n op lv pl e o1 o2
    cases hs
    obtain ⟨hz, hc⟩ := hp
    have hc0 := hc
    obtain ⟨ns, ps, rfl, hpos, rfl, rfl⟩ := hc
    have h0 := hz.pd.ge
    have h1 := hz.pd.le
    have h6 := al_le2 (a + txL b a + 1).toNat
    have h3 := hz.pd.l0
    have h9 := hz.lt
    refine ⟨Nat.le_of_ble_eq_true rfl, [0, 1, 2], rfl, id3, ?_⟩
    have hb : 0 ≤ a ∧ a ≤ (b.length : Nat) ∧ ((b.length : Nat) : Int) ≤ (b.length : Nat) := by omega
    have hi : Lib.indexByte (Lib.bytesOf ((b.take ((b.length : Nat) : Int).toNat).drop a.toNat)) (Int.toNat 0).toUInt8 = txL b a := by
      rw [Int.toNat_natCast, List.take_length]
      rfl
    repeat ((conv => whnf); refine ⟨by first | exact hb | ((conv => whnf); exact ⟨⟨rfl, rfl, rfl⟩, trivial⟩) | exact Early.one (by decide +kernel) (by (conv => whnf); exact ⟨rfl, rfl, rfl⟩) trivial | (unfold inI64; omega) | omega | exact ⟨by omega, by omega⟩ | exact rfl | decide +kernel, ?_⟩)
    conv => whnf
    rw [hi]
    refine cond_intro (fun h => ?_) (fun h => ?_)
    · exfalso
      have : txL b a < 0 := of_decide_eq_true h
      omega
    repeat ((conv => whnf); refine ⟨by first | exact ⟨hz.pd, hc0⟩ | ((conv => whnf); exact ⟨⟨rfl, rfl, rfl⟩, trivial⟩) | exact Early.one (by decide +kernel) (by (conv => whnf); exact ⟨rfl, rfl, rfl⟩) trivial | (unfold inI64; omega) | omega | exact ⟨by omega, by omega⟩ | exact rfl | decide +kernel, ?_⟩)
    conv => whnf
    exact ends_eq ⟨rfl, rfl⟩
  · cases hs

def BD4 : Table := ext BD3 69 (orS saysTxN saysTxG)
theorem bD4 : TSound Try.prog BD4 := ext_or tx_N tx_G
end Go.Ab
namespace Go.Ab
open Go.Proofs Go.Shelf Go.RowKit Go.Lib
set_option linter.unusedSectionVars false
variable [Base]

theorem tokG {G : View} (hS : Sim G) {id : Nat} {t : TypeId} {c : CT} {zs : List c.den} {i k ver : Nat} (t2 : TypeId) (c2 : CT) (ho : G.H[id]? = some (.gvec t c zs i k (.p (.v (.slice none 0 0))) ver)) :
    ∃ G' : View, G'.w = G.w ∧ Ext G G' ∧ Sim G' ∧ G'.H = G.H.set id (.gvec t c zs i k (.own G.H.length c2 []) ver) ++ [.tok t2 c2 0 true] := by
  have hnb : ¬ (AO.tok t2 c2 0 true).blocked := by intro hb; rcases hb with hb | hb <;> simp at hb
  have hx : Ext G (G.obj G.w.heap.size (.tok t2 c2 0 true)) := Ext.obj_self G fun hb => absurd hb hnb
  have s1 : Sim (G.obj G.w.heap.size (.tok t2 c2 0 true)) := hS.obj (fun id hid => absurd (hS.lt hid) (Nat.lt_irrefl _)) fun hb => absurd hb hnb
  have hid : id < G.H.length := (List.getElem?_eq_some_iff.1 ho).1
  have ho1 := (View.obj_get (b := G.w.heap.size) (o := .tok t2 c2 0 true) ho).1
  have hlast := (G.obj_last G.w.heap.size (.tok t2 c2 0 true)).1
  have hw : (G.obj G.w.heap.size (.tok t2 c2 0 true)).w = G.w := rfl
  have hH1 : (G.obj G.w.heap.size (.tok t2 c2 0 true)).H = G.H ++ [.tok t2 c2 0 true] := rfl
  generalize G.obj G.w.heap.size (.tok t2 c2 0 true) = G1 at *
  obtain ⟨vs, rest, v, hh, hno, hi, hk, hv, hrows⟩ := s1.objs id _ ho1 trivial
  obtain ⟨_, rfl⟩ := hv
  have hlt : G1.ρ id < G1.w.heap.size := (Array.getElem?_eq_some_iff.1 hh).1
  have hρ : (G1.upd id (G1.ρ id) (.gvec t c zs i k (.own G.H.length c2 []) ver) (fun _ => False) G1.w).ρ id = G1.ρ id := by rw [View.upd_ρ, if_pos rfl]
  have g : Upd G1 id (G1.ρ id) (.gvec t c zs i k (.p (.v (.slice none 0 0))) ver) (.gvec t c zs i k (.own G.H.length c2 []) ver) (fun _ => False) G1.w :=
    ⟨ho1, ⟨rfl, rfl, Nat.le_refl _, fun _ => ⟨rfl, hρ, fun cur hc => ⟨cur, hc, rfl⟩⟩⟩, Nat.le_refl _, rfl, rfl, rfl, fun _ _ _ => rfl, .inr ⟨_, ho1, trivial, rfl⟩, hlt, hno⟩
  have he := Ext.upd s1 g
  have hH2 : (G1.upd id (G1.ρ id) (.gvec t c zs i k (.own G.H.length c2 []) ver) (fun _ => False) G1.w).H = G1.H.set id (.gvec t c zs i k (.own G.H.length c2 []) ver) := rfl
  refine ⟨_, ?_, hx.trans he, Sim.upd s1 g fun _ => ⟨vs, rest, .slice none 0 0, by rw [hρ]; exact hh, ?_, hi, hk, ⟨.inl ⟨rfl, rfl⟩, t2, 0, true, ?_, Nat.le_refl _, fun _ => .inl ⟨rfl, rfl, rfl⟩⟩, hrows.mono he.stays⟩, ?_⟩
  · exact hw
  · intro o hI
    rw [hρ] at hI
    rcases hI with hI | ⟨_, hI⟩
    · exact hno o hI
    · exact hI
  · rw [hH2, List.getElem?_set, if_neg (by omega)]
    exact hlast
  · rw [hH2, hH1, List.set_append_left _ _ hid]

theorem ext_tokG {P : Program} {T : Table} {f : FuncId} {s s' : Says} (t2 : TypeId) (c2 : CT) (h1 : TSound P (ext T f s)) (hT : TSound P T)
    (h : ∀ args H p r H', s' args H = some (p, r, H') → holdsO p → ∃ q row t c zs i k ver rest, holdsO q ∧ ScS r ∧ s args H = some (q, r, .row row :: .gvec t c zs i k (.p (.v (.slice none 0 0))) ver :: rest) ∧
      H' = .row row :: .gvec t c zs i k (.own (rest.length + 2) c2 []) ver :: (rest ++ [.tok t2 c2 0 true])) : TSound P (ext T f s') :=
  ext_sound hT fun args H p r H' hs hp G hS hH cargs ha => by
    obtain ⟨q, row, t, c, zs, i, k, ver, rest, hq, hsc, hs1, rfl⟩ := h args H p r H' hs hp
    have hb : Nat.beq f f = true := Nat.beq_refl f
    refine (h1 f args H q r (.row row :: .gvec t c zs i k (.p (.v (.slice none 0 0))) ver :: rest) (by unfold ext; rw [hb]; exact hs1) hq G hS hH cargs ha).mono fun v G1 he hs1 ⟨hH1, hr⟩ => ?_
    have hvec : G1.H[1]? = some (.gvec t c zs i k (.p (.v (.slice none 0 0))) ver) := by rw [hH1]; rfl
    obtain ⟨G2, hw2, hx2, hs2, hH2⟩ := tokG hs1 t2 c2 hvec
    refine ⟨G2, hw2, he.trans hx2, hs2, ?_, ScS.rep hsc hr⟩
    rw [hH2, hH1]
    rfl
end Go.Ab
