/- Arrays that grow and one of whose cells is something else: the machine's operations are the model's. -/
import Derived.Test.YtnlifjljmbfomaaGreatTI3
namespace Go.Ab
set_option linter.unusedSectionVars false
variable [Base]
theorem hole_rows {G : View} {c : CT} {zs zs' : List c.den} {i k : Nat} {x : AC} (h : holeFix c zs i k x = some zs') {vs : List Value} {v : Value} (hr : Rows G.I G.w c zs vs) (hi : i < zs.length) (hk : k < c.width) (hx : RepC G x v) :
  zs'.length = zs.length ∧ Rows G.I G.w c zs' (vs.set (i * c.width + k) v) := by
 unfold holeFix at h
 split at h
 ·rename_i p hp
  split at h
  ·rename_i z hz
   cases h
   refine ⟨by simp, ?_⟩
   have hpv : RepV G.I G.w p v := by
    have := pureCells_sound (G := G) [x] [p] [v] (by simp only [pureCells, hp]) (.cons hx .nil)
    cases this; assumption
   have hget : zs[i]? = some (zs.getD i c.dflt) := by simp [hi]
   obtain ⟨us, hu, hj⟩ := hr.2 i _ hget
   have hul := Rep.length _ _ _ hu
   obtain ⟨xs, ys, h1, h2, h3⟩ := dec_rep c _ z [] _ ((enc_rep c _ us hu).set k hpv) hz
   cases h3
   simp only [List.append_nil] at h1
   subst h1
   have hiw : (i + 1) * c.width ≤ zs.length * c.width := Nat.mul_le_mul_right _ hi
   rw [Nat.add_mul, Nat.one_mul] at hiw
   have hsl : us = (vs.drop (i * c.width)).take c.width := by
    apply List.ext_getElem?
    intro m
    rcases Nat.lt_or_ge m us.length with hlt | hge
    ·obtain ⟨u, hu'⟩ : ∃ u, us[m]? = some u := ⟨us[m], List.getElem?_eq_getElem hlt⟩
     rw [hu', List.getElem?_take, if_pos (by omega), List.getElem?_drop, hj m u hu']
    ·rw [List.getElem?_eq_none hge, List.getElem?_eq_none (by rw [List.length_take]; omega)]
   have hvl := hr.1
   have e4 : vs = vs.take (i * c.width) ++ us ++ vs.drop ((i + 1) * c.width) := by
    have : vs.drop (i * c.width) = us ++ vs.drop ((i + 1) * c.width) := by
     rw [hsl, Nat.add_mul, Nat.one_mul, ← List.drop_drop, List.take_append_drop]
    rw [List.append_assoc, ← this, List.take_append_drop]
   have hlt : (vs.take (i * c.width)).length = i * c.width := by rw [List.length_take]; omega
   have e5 : vs.set (i * c.width + k) v = vs.take (i * c.width) ++ us.set k v ++ vs.drop ((i + 1) * c.width) := by
    conv => lhs; rw [e4]
    rw [List.append_assoc, List.set_append_right (i * c.width + k) v (by omega), hlt, List.set_append_left (i * c.width + k - i * c.width) v (by omega), List.append_assoc]
    congr 3
    omega
   rw [e5]
   exact hr.set hi h2
  ·cases h
 ·cases h
theorem appended_nl {c c' : CT} {z' : c'.den} {k : Nat} {ys : List c.den} (h : appended c (.a (.c (.nl c' z' k))) = some ys) : c' = c := by
 have e : appended c (.a (.c (.nl c' z' k))) = castD [z'] := by cases c <;> first | rfl | (rename_i q; cases q <;> rfl)
 rw [e] at h
 unfold castD at h
 split at h
 ·assumption
 ·cases h
theorem nl_cell {P : Program} {G : View} {c : CT} {z : c.den} {k : Nat} {v : Value} (h : RepC G (.nl c z k) v) {n : Nat} (hn : n = c.width) {us : List Value}
  (hf : (Builtin.firstCells n 1 v).run P G.w = .ok us.toArray G.w) (hk : k < n) : us[k]? = some (.slice none 0 0) := by
 obtain ⟨hrep, b, o, a, hv, hI, hat⟩ := h
 rcases hrep.rows with ⟨h0, _⟩ | ⟨⟨b2, off, sp⟩, cap, us2, hv2, hc, hr2, hm⟩
 ·cases h0
 ·rw [hv] at hv2
  cases hv2
  have h1 := run_firstCells_some (P := P) G.w n 1 ⟨b, o, none⟩ 1 a us2 (by rw [hr2.1, hn]; rfl) fun j u hj => by
   obtain ⟨_, _, this⟩ := hm j u hj
   rw [addr_add]
   simpa [World.at', World.cell?] using this
  rw [hv] at hf
  rw [h1] at hf
  have hus : us = us2 := by
   have := (Result.ok.inj hf).1
   have h2 := congrArg Array.toList this
   simpa using h2.symm
  subst hus
  have hlt : k < us.length := by rw [hr2.1]; simp; omega
  have hget := List.getElem?_eq_getElem hlt
  obtain ⟨_, _, h3⟩ := hm k _ hget
  rw [hget, ← h3]
  exact hat
theorem g_grown {P : Program} {G : View} (hS : Sim G) {id : Nat} {t : TypeId} {c : CT} {zs zs' : List c.den} {i k i' k' ver : Nat} {x : AC} (ho : G.H[id]? = some (.gvec t c zs i k x ver)) {b cap : Nat} {w' : World} {vs rest : List Value} (hvs : Rows G.I G.w c zs' vs)
  (hi' : i' < zs'.length) (hk' : k' < c.width) (hnil : vs[i' * c.width + k']? = some (.slice none 0 0))
  (hsize : G.w.heap.size ≤ w'.heap.size) (hos : w'.os = G.w.os) (htape : w'.tape = G.w.tape) (hout : w'.output = G.w.output) (hrest : ∀ k, k < G.w.heap.size → k ≠ b → w'.heap[k]? = G.w.heap[k]?)
  (hb : G.w.heap.size ≤ b ∨ G.holds id b) (hh : w'.heap[b]? = some (.cells (vs ++ rest).toArray t (0, 0))) (hcap : zs'.length ≤ cap) (hcm : cap ≤ maxLen) (hsz : (vs ++ rest).length = cap * c.width) {m : Sem Value}
  (hrun : m.run P G.w = .ok (.slice (some ⟨b, 0, none⟩) zs'.length cap) w') :
  ∃ G' u, m.run P G.w = .ok u G'.w ∧ Ext G G' ∧ Sim G' ∧ G'.H = G.H.set id (.gvec t c zs' i' k' (.p (.v (.slice none 0 0))) (ver + 1)) ∧ RepC G' (.gs id (ver + 1) zs'.length) u := by
 have hno : ∀ x, ¬ G.I b x := by
  intro x hx
  rcases hb with h | ⟨o, h1, h2, h3⟩
  ·exact absurd (hS.ilt _ _ hx) (Nat.not_lt.2 h)
  ·rw [ho] at h1
   cases h1
   obtain ⟨_, _, _, _, h4, _⟩ := hS.objs id _ ho h2
   exact h4 x (h3 ▸ hx)
 have g : Upd G id b (.gvec t c zs i k x ver) (.gvec t c zs' i' k' (.p (.v (.slice none 0 0))) (ver + 1)) (fun _ => False) w' :=
  ⟨ho, ⟨rfl, rfl, Nat.le_succ _, fun h => absurd h (by omega)⟩, hsize, hos, htape, hout, hrest, hb, (Array.getElem?_eq_some_iff.1 hh).1, hno⟩
 have he := Ext.upd hS g
 have hρ : (G.upd id b (.gvec t c zs' i' k' (.p (.v (.slice none 0 0))) (ver + 1)) (fun _ => False) w').ρ id = b := by rw [View.upd_ρ, if_pos rfl]
 have hpl := (List.getElem?_eq_some_iff.1 hnil).1
 have hself : (vs ++ rest).set (i' * c.width + k') (.slice none 0 0) = vs ++ rest := by
  apply List.ext_getElem?
  intro m
  rw [List.getElem?_set]
  split
  ·rename_i hm
   subst hm
   rw [if_pos (by rw [zP9]; omega), List.getElem?_append_left hpl, hnil]
  ·rfl
 refine ⟨_, _, hrun, he, Sim.upd hS g fun _ => ⟨vs, rest, .slice none 0 0, by rw [hρ, hself]; exact hh, ?_, hi', hk', ⟨rfl, rfl⟩, hvs.mono he.stays⟩, rfl, rfl, .inr ⟨t, c, zs', i', k', .p (.v (.slice none 0 0)), ver + 1, ?_, nR9 _, fun _ => ⟨rfl, cap, _, by rw [hρ], by rw [hρ]; exact hh, hcap, hcm, by simpa using hsz⟩⟩⟩
 ·intro o hI
  rw [hρ] at hI
  rcases hI with hI | ⟨_, hI⟩
  ·exact hno o hI
  ·exact hI
 ·rw [View.upd_get ho]; simp
theorem appendGs_sound {P : Program} {G : View} (hS : Sim G) {t tx ty : TypeId} {id ver len : Nat} {x : SV} {K : SV → List AO → Prop} (h : appendGs P t tx id ver len x G.H K) {vs vx : Value} (rs : RepC G (.gs id ver len) vs) (rx : RepS G x vx) :
  ∃ r G' u, (Builtin.append_ #[t, tx] ty #[vs, vx]).run P G.w = .ok u G'.w ∧ Ext G G' ∧ Sim G' ∧ K r G'.H ∧ RepS G' r u := by
 unfold appendGs at h
 split at h
 ·rename_i e dx c1 z1 k1 hu hx
  split at h
  ·rename_i n info z e' c zs i k y ver' hn hi hz ho
   split at h
   ·rename_i hb
    simp only [Bool.and_eq_true, Nat.beq_eq, Nat.ble_eq] at hb
    obtain ⟨⟨⟨⟨⟨⟨hw, hzl⟩, hpos⟩, hby⟩, hkn⟩, hde⟩, hdx⟩ := hb
    have he' : e' = e := by simpa using hde
    subst he'
    have hkn : k1 < n := by simpa [Nat.blt_eq] using hkn
    have hd : dx = .string ∨ ∃ d, dx = .slice d := by cases dx <;> simp_all
    obtain ⟨i', v0, hi', hz0, hrep, _⟩ := zeroCells_cases hz
    rw [hi] at hi'
    cases hi'
    have hzs : v0.cells.size = n := by
     have := (hrep G).length
     simp only [Array.length_toList] at this
     omega
    split at h
    ·rename_i zs' q hzs' hq
     obtain ⟨hver, hbound, hK⟩ := h
     subst hver
     have hcc := appended_nl hq
     subst hcc
     obtain ⟨us, hl, hus, hf⟩ := appended_sound (P := P) hq rx n hw
     simp only [zC9, zN9, Nat.zero_add] at hl hf
     have hnilu := nl_cell rx hw (hf _ rfl) hkn
     obtain ⟨hle, cap, cur, hvv, hcur, hcap, hcm, hcs⟩ := gs_live rs ho
     obtain ⟨vs0, rest, v1, hh, hno, hil, hkl, hy, hrows⟩ := hS.objs id _ ho trivial
     obtain ⟨hzl', hcsr⟩ := hole_rows hzs' hrows hil hkl hy
     have hpl : i * c1.width + k < vs0.length := by
      have : (i + 1) * c1.width ≤ zs.length * c1.width := Nat.mul_le_mul_right _ hil
      rw [Nat.add_mul] at this
      rw [hrows.1]; omega
     rw [List.set_append_left _ _ hpl] at hh
     generalize hcsd : vs0.set (i * c1.width + k) v1 = cs at *
     have hcsl : cs.length = len * c1.width := by rw [hcsr.1, hzl', hle]
     have hlen : (zs' ++ [q]).length = len + 1 := by simp [hzl', hle]
     have hul : us.length = c1.width := by rw [hus.1]; simp
     have hnew : Rows G.I G.w c1 (zs' ++ [q]) (cs ++ us) := hcsr.append hus
     have hnilv : (cs ++ us)[len * c1.width + k1]? = some (.slice none 0 0) := by
      rw [List.getElem?_append_right (by omega), hcsl, Nat.add_sub_cancel_left]
      exact hnilu
     have fin : (∃ G' u, (Builtin.append_ #[t, tx] ty #[vs, vx]).run P G.w = .ok u G'.w ∧ Ext G G' ∧ Sim G' ∧ G'.H = G.H.set id (.gvec e' c1 (zs' ++ [q]) len k1 (.p (.v (.slice none 0 0))) (ver' + 1)) ∧ RepC G' (.gs id (ver' + 1) (zs' ++ [q]).length) u) →
       ∃ r G' u, (Builtin.append_ #[t, tx] ty #[vs, vx]).run P G.w = .ok u G'.w ∧ Ext G G' ∧ Sim G' ∧ K r G'.H ∧ RepS G' r u := by
      rintro ⟨G', u, h1, h2, h3, h4, h5⟩
      rw [hlen] at h5
      exact ⟨.a (.c (.gs id (ver' + 1) (len + 1))), G', u, h1, h2, h3, h4 ▸ hK, h5⟩
     have hmax : len + 1 ≤ maxLen := by simp only [capBound] at hbound; simp only [maxLen]; omega
     refine fin ?_
     have hheap : cur = (cs ++ rest).toArray := by
      rw [hcur] at hh
      cases hh
      rfl
     by_cases hroom : len + 1 ≤ cap
     ·have hroomw : (len + 1) * c1.width ≤ cap * c1.width := Nat.mul_le_mul_right _ hroom
      rw [Nat.add_mul, Nat.one_mul] at hroomw
      have hst := run_storeCells_at P (G.ρ id) (len * n) e' us 0 cur G.w hcur (by rw [hul, hcs, hw]; exact hroomw) hus.oneCell
      simp only [Nat.add_zero] at hst
      have hrun := run_append_in (P := P) (w := G.w) (ty := ty) (base := some ⟨G.ρ id, 0, none⟩) (sCap := cap) hd hu hx hn hl (hf _ rfl) hroom (by
       simp only [addr_add, Nat.zero_add]
       exact hst)
      have hcl : cur.toList = cs ++ rest := by rw [hheap]
      have htake : cur.toList.take (len * n) = cs := by
       rw [hcl, hw, List.take_append_of_le_length (by omega), List.take_of_length_le (by omega)]
      rw [htake] at hrun
      have hheap' := setRow_heap G.w (G.ρ id) cur (cs ++ us ++ cur.toList.drop (len * n + us.length)).toArray e' (0, 0) hcur
      have hsz : ((cs ++ us) ++ cur.toList.drop (len * n + us.length)).length = cap * c1.width := by
       simp only [zP9, List.length_drop, Array.length_toList, hcs, hcsl, hul, hw]
       omega
      rw [← hvv] at hrun
      refine g_grown hS ho (w' := G.w.setRow (G.ρ id) (cs ++ us ++ cur.toList.drop (len * n + us.length)).toArray) hnew (by rw [hlen]; omega) (by omega) hnilv ?_ rfl rfl rfl (fun k _ hk => setRow_other _ _ _ _ hk) (.inr ⟨_, ho, trivial, rfl⟩) hheap' (by rw [hlen]; exact hroom) hcm hsz (by rw [hlen]; exact hrun)
      simp
     ·have hold : (Builtin.firstCells n len (.slice (some ⟨G.ρ id, 0, none⟩) len cap)).run P G.w.drew = .ok cs.toArray G.w.drew := by
       refine run_firstCells_some G.w.drew n len ⟨G.ρ id, 0, none⟩ _ _ _ (by rw [hcsl, hw]) fun j u hj => ?_
       rw [addr_add]
       have h1 : (cs ++ rest)[j]? = some u := by
        rw [List.getElem?_append_left (List.getElem?_eq_some_iff.1 hj).1]; exact hj
       have h2 : G.w.drew.heap[G.ρ id]? = some (.cells cur e' (0, 0)) := hcur
       simp only [Nat.zero_add]
       rw [cell_of_row G.w.drew (G.ρ id) j cur e' (0, 0) h2, hheap]
       simpa using h1
      have hrun := run_append_out (P := P) (w := G.w) (ty := ty) hd hu hx hn hi hz0 hby hl (hf _ rfl) hold (by omega) hbound
      have hge := grownCap_ge G.w (len + 1) cap e'
      have hgm := grownCap_le_maxLen G.w (len + 1) cap e' hmax
      have hzc : (Builtin.zeroCells v0.cells (grownCap G.w (len + 1) cap e' - (len + 1))).size = (grownCap G.w (len + 1) cap e' - (len + 1)) * c1.width := by
       rw [size_zeroCells, hzs, hw]
      have harr : (cs.toArray ++ us.toArray ++ Builtin.zeroCells v0.cells (grownCap G.w (len + 1) cap e' - (len + 1))) =
        ((cs ++ us) ++ (Builtin.zeroCells v0.cells (grownCap G.w (len + 1) cap e' - (len + 1))).toList).toArray := by
       apply Array.ext'
       simp
      have hsz : ((cs ++ us) ++ (Builtin.zeroCells v0.cells (grownCap G.w (len + 1) cap e' - (len + 1))).toList).length = grownCap G.w (len + 1) cap e' * c1.width := by
       simp only [zP9, hcsl, hul, Array.length_toList, hzc]
       rw [← Nat.succ_mul, Nat.succ_eq_add_one, ← Nat.add_mul]
       congr 1
       omega
      rw [← hvv] at hrun
      rw [harr] at hrun
      refine g_grown hS ho (w' := G.w.drew.alloc (.cells ((cs ++ us) ++ (Builtin.zeroCells v0.cells (grownCap G.w (len + 1) cap e' - (len + 1))).toList).toArray e')) hnew (by rw [hlen]; omega) (by omega) hnilv ?_ rfl rfl rfl (fun k hk _ => alloc_heap_old G.w.drew _ k hk) (.inl (nR9 _)) (alloc_heap_new G.w.drew _) (by rw [hlen]; exact hge) hgm hsz (by rw [hlen]; exact hrun)
      simp
    ·exact h.elim
   ·exact h.elim
  ·exact h.elim
 ·exact h.elim
theorem appendG0_sound {P : Program} {G : View} (hS : Sim G) {t tx ty : TypeId} {x : SV} {K : SV → List AO → Prop} (h : appendG0 P t tx x G.H K) {vx : Value} (rx : RepS G x vx) :
  ∃ r G' u, (Builtin.append_ #[t, tx] ty #[.slice none 0 0, vx]).run P G.w = .ok u G'.w ∧ Ext G G' ∧ Sim G' ∧ K r G'.H ∧ RepS G' r u := by
 unfold appendG0 at h
 split at h
 ·rename_i e dx c1 z1 k hu hx
  split at h
  ·rename_i n info z c hn hi hz hc
   split at h
   ·rename_i hb
    simp only [Bool.and_eq_true, Nat.beq_eq, Nat.ble_eq] at hb
    obtain ⟨⟨⟨⟨⟨hw, hzl⟩, hpos⟩, hby⟩, hkn⟩, hdx⟩ := hb
    have hkn : k < n := by simpa [Nat.blt_eq] using hkn
    have hd : dx = .string ∨ ∃ d, dx = .slice d := by cases dx <;> simp_all
    obtain ⟨i', v0, hi', hz0, hrep, _⟩ := zeroCells_cases hz
    rw [hi] at hi'
    cases hi'
    have hzs : v0.cells.size = n := by
     have := (hrep G).length
     simp only [Array.length_toList] at this
     omega
    split at h
    ·rename_i y hys
     have hK := h
     have hcc := appended_nl hys
     subst hcc
     obtain ⟨us, hl, hus, hf⟩ := appended_sound (P := P) hys rx n hw
     simp only [zC9, zN9, Nat.zero_add] at hl hf
     have hnilu := nl_cell rx hw (hf _ rfl) hkn
     have hul : us.length = c1.width := by rw [hus.1]; simp
     have hrun := run_append_out (P := P) (w := G.w) (ty := ty) (base := none) (sLen := 0) (sCap := 0) (vs := []) hd hu hx hn hi hz0 hby hl (hf _ rfl) rfl (by omega) (by simp [capBound])
     simp only [Nat.zero_add] at hrun
     have hge := grownCap_ge G.w 1 0 e
     have hgm := grownCap_le_maxLen G.w 1 0 e (by simp [maxLen])
     have hzc : (Builtin.zeroCells v0.cells (grownCap G.w 1 0 e - 1)).size = (grownCap G.w 1 0 e - 1) * c1.width := by
      rw [size_zeroCells, hzs, hw]
     generalize hcap : grownCap G.w 1 0 e = cap at *
     generalize hrest : Builtin.zeroCells v0.cells (cap - 1) = rest at *
     have hpl := (List.getElem?_eq_some_iff.1 hnilu).1
     have hset : (us ++ rest.toList).set (0 * c1.width + k) (.slice none 0 0) = us ++ rest.toList := by
      rw [Nat.zero_mul, Nat.zero_add]
      apply List.ext_getElem?
      intro m
      rw [List.getElem?_set]
      split
      ·rename_i hm
       subst hm
       rw [if_pos (by rw [zP9]; omega), List.getElem?_append_left hpl, hnilu]
      ·rfl
     have harr : (([] : List Value).toArray ++ us.toArray ++ rest) = (us ++ rest.toList).toArray := by
      apply Array.ext'
      simp
     rw [harr] at hrun
     let G1 := (G.drew).push (fun _ => False) (.cells (us ++ rest.toList).toArray e)
     have s0 : Sim G.drew := hS.drew
     have e1 : Ext G G1 := (Ext.drew G).trans (Ext.push s0 _ _)
     have s1 : Sim G1 := Sim.push s0 _ _
     have hfree : ∀ id, ¬ G1.holds id G.w.heap.size := fun id h => by
      have : G.holds id G.w.heap.size := h
      exact absurd (hS.lt this) (Nat.lt_irrefl _)
     let G2 := G1.obj G.w.heap.size (.gvec e c1 [y] 0 k (.p (.v (.slice none 0 0))) 0)
     have e2 : Ext G G2 := e1.obj (fun _ => nR9 _)
     have hlast := G1.obj_last G.w.heap.size (.gvec e c1 [y] 0 k (.p (.v (.slice none 0 0))) 0)
     have hheap : G2.w.heap[G.w.heap.size]? = some (.cells (us ++ rest.toList).toArray e (0, 0)) := alloc_heap_new G.w.drew _
     have hρ : G2.ρ G.H.length = G.w.heap.size := hlast.2
     refine ⟨.a (.c (.gs G.H.length 0 1)), G2, .slice (some ⟨G.w.heap.size, 0, none⟩) 1 cap, hrun, e2, ?_, hK, rfl, .inr ⟨e, c1, [y], 0, k, _, 0, hlast.1, nR9 _, fun _ => ⟨rfl, cap, _, by rw [hρ], by rw [hρ]; exact hheap, hge, hgm, ?_⟩⟩⟩
     ·refine Sim.obj s1 hfree fun _ => ⟨us, rest.toList, .slice none 0 0, ?_, ?_, by simp, by omega, ⟨rfl, rfl⟩, hus.mono e2.stays⟩
      ·rw [hlast.2, hset]; exact hheap
      ·intro o ho
       rw [hlast.2] at ho
       rcases ho with ho | ⟨_, ho⟩
       ·exact absurd (hS.ilt _ _ ho) (Nat.lt_irrefl _)
       ·exact ho
     ·simp only [zS9, zP9, hul, Array.length_toList, hzc]
      have : cap = (cap - 1) + 1 := by omega
      conv => rhs; rw [this, Nat.add_mul, Nat.one_mul]
      omega
    ·exact h.elim
   ·exact h.elim
  ·exact h.elim
 ·exact h.elim
theorem loadGe_sound {P : Program} {G : View} (hS : Sim G) {t : TypeId} {id ver j l : Nat} {K : SV → List AO → Prop} (h : loadGe P t id ver j l G.H K) {va : Value} (ra : RepC G (.ge id ver j l) va) :
  ∃ r u, (Instr.loadAt t va).run P G.w = .ok u G.w ∧ K r G.H ∧ RepS G r u := by
 unfold loadGe at h
 split at h
 ·rename_i T e zs i k x ver' ho
  obtain ⟨hver, h⟩ := h
  subst hver
  obtain ⟨hjl, hva⟩ := ge_live ra ho
  obtain ⟨vs, rest, v, hh, hno, hi, hk, hx, hrows⟩ := hS.objs id _ ho trivial
  have hget : zs[j]? = some (zs.getD j e.dflt) := by simp [hjl]
  obtain ⟨us, hu, hj⟩ := hrows.2 j _ hget
  have hul := Rep.length _ _ _ hu
  have hjw : (j + 1) * e.width ≤ zs.length * e.width := Nat.mul_le_mul_right _ hjl
  rw [Nat.add_mul, Nat.one_mul] at hjw
  have hall : All2 (RepC G) ((enc e (zs.getD j e.dflt)).map AC.p) us := All2.map_left (enc_rep e _ us hu)
  rcases h with ⟨hji, h⟩ | ⟨rfl, h⟩
  ·split at h
   ·rename_i a ha
    obtain ⟨u, hu', hru⟩ := load_sound (P := P) (b := G.ρ id) (base := j * e.width) ha (All2.map_left (enc_rep e _ us hu)) (fun m u hm => by
     show G.w.cell? _ = _
     rw [cell_of_row G.w (G.ρ id) _ _ T (0, 0) hh]
     have h1 := hj m u hm
     have h2 := (List.getElem?_eq_some_iff.1 h1).1
     have hm' := (List.getElem?_eq_some_iff.1 hm).1
     simp only [List.getElem?_toArray]
     refine vec_cell (fun he => ?_) (by rw [List.getElem?_append_left h2, h1])
     rcases Nat.lt_or_gt_of_ne hji with h3 | h3
     ·have : (j + 1) * e.width ≤ i * e.width := Nat.mul_le_mul_right _ h3
      rw [Nat.add_mul] at this
      omega
     ·have : (i + 1) * e.width ≤ j * e.width := Nat.mul_le_mul_right _ h3
      rw [Nat.add_mul] at this
      omega)
    refine ⟨_, u, ?_, h, hru⟩
    simp [Instr.loadAt, hva, Instr.sureAddr, hu']
   ·exact h.elim
  ·split at h
   ·rename_i a ha
    obtain ⟨u, hu', hru⟩ := load_sound (P := P) (b := G.ρ id) (base := j * e.width) (vs := us.set k v) ha (hall.set k hx) (fun m u hm => by
     show G.w.cell? _ = _
     rw [cell_of_row G.w (G.ρ id) _ _ T (0, 0) hh]
     have hm' := (List.getElem?_eq_some_iff.1 hm).1
     rw [List.length_set] at hm'
     simp only [List.getElem?_toArray]
     rw [List.getElem?_set] at hm
     split at hm
     ·rename_i hkm
      subst hkm
      rw [if_pos hm'] at hm
      rw [List.getElem?_set, if_pos rfl, if_pos (by rw [zP9, hrows.1]; omega)]
      exact hm
     ·rename_i hkm
      have h1 := hj m u hm
      have h2 := (List.getElem?_eq_some_iff.1 h1).1
      exact vec_cell (fun he => by omega) (by rw [List.getElem?_append_left h2, h1]))
    refine ⟨_, u, ?_, h, hru⟩
    simp [Instr.loadAt, hva, Instr.sureAddr, hu']
   ·exact h.elim
 ·exact h.elim
theorem storeGe_sound {P : Program} {G : View} (hS : Sim G) {t : TypeId} {id ver j l : Nat} {x : SV} {K : SV → List AO → Prop} (h : storeGe P t id ver j l x G.H K) {va vx : Value} (ra : RepC G (.ge id ver j l) va) (rx : RepS G x vx) :
  ∃ G', (Instr.storeAt t va vx).run P G.w = .ok () G'.w ∧ Ext G G' ∧ Sim G' ∧ K .none G'.H := by
 unfold storeGe at h
 split at h
 ·rename_i v n T e zs i k y ver' hn ho
  obtain ⟨hver, h⟩ := h
  subst hver
  obtain ⟨hjl, hva⟩ := ge_live ra ho
  obtain ⟨vs, rest, w0, hh, hno, hi, hk, hy, hrows⟩ := hS.objs id _ ho trivial
  have hv := AV.cells_rep' rx
  have hiw : (i + 1) * e.width ≤ zs.length * e.width := Nat.mul_le_mul_right _ hi
  have hjw : (j + 1) * e.width ≤ zs.length * e.width := Nat.mul_le_mul_right _ hjl
  rw [Nat.add_mul, Nat.one_mul] at hiw hjw
  have fin : ∀ (zs' : List e.den) (x' : AC) (w1 : Value) (vs' : List Value), zs'.length = zs.length → vs'.length = vs.length → Rows G.I G.w e zs' vs' → RepC G x' w1 →
    (((vs ++ rest).set (i * e.width + k) w0).take (j * e.width + l) ++ vx.cells.toList ++ ((vs ++ rest).set (i * e.width + k) w0).drop (j * e.width + l + vx.cells.toList.length)) = (vs' ++ rest).set (i * e.width + k) w1 →
    vx.cells.size = n → l + n ≤ e.width → K .none (G.H.set id (.gvec T e zs' i k x' ver')) →
    ∃ G', (Instr.storeAt t va vx).run P G.w = .ok () G'.w ∧ Ext G G' ∧ Sim G' ∧ K .none G'.H := by
   intro zs' x' w1 vs' hzl hvl hr' hx' hnew hsz hln hK
   have hcurl : (j * e.width + l) + vx.cells.toList.length ≤ ((vs ++ rest).set (i * e.width + k) w0).toArray.size := by
    simp only [zS9, List.length_set, zP9, hrows.1, Array.length_toList]
    omega
   have hrun := run_storeCells_at P (G.ρ id) (j * e.width + l) T vx.cells.toList 0 ((vs ++ rest).set (i * e.width + k) w0).toArray G.w hh (by simpa using hcurl) (all_oneCell hv)
   simp only [Nat.add_zero] at hrun
   rw [hnew] at hrun
   have hw' := setRow_heap G.w (G.ρ id) ((vs ++ rest).set (i * e.width + k) w0).toArray ((vs' ++ rest).set (i * e.width + k) w1).toArray T (0, 0) hh
   let w' := G.w.setRow (G.ρ id) ((vs' ++ rest).set (i * e.width + k) w1).toArray
   have hρ : (G.upd id (G.ρ id) (.gvec T e zs' i k x' ver') (fun _ => False) w').ρ id = G.ρ id := by rw [View.upd_ρ, if_pos rfl]
   have g : Upd G id (G.ρ id) (.gvec T e zs i k y ver') (.gvec T e zs' i k x' ver') (fun _ => False) w' :=
    ⟨ho, ⟨rfl, rfl, nR9 _, fun _ => ⟨hzl, hρ, fun cur hc => ⟨_, hw', by rw [hh] at hc; cases hc; simp [hvl]⟩⟩⟩, by simp [w'], rfl, rfl, rfl, fun k _ hk => setRow_other _ _ _ _ hk, .inr ⟨_, ho, trivial, rfl⟩, (Array.getElem?_eq_some_iff.1 hw').1, hno⟩
   have he := Ext.upd hS g
   refine ⟨_, ?_, he, Sim.upd hS g fun _ => ⟨vs', rest, w1, by rw [hρ]; exact hw', ?_, by omega, hk, RepC.mono he hx', hr'.mono he.stays⟩, hK⟩
   ·simp [Instr.storeAt, hva, Instr.sureAddr, storeVar, rS9 hn, hsz]
    exact hrun
   ·intro o hI
    rw [hρ] at hI
    rcases hI with hI | ⟨_, hI⟩
    ·exact hno o hI
    ·exact hI
  rcases h with ⟨hji, h⟩ | ⟨⟨rfl, rfl, rfl⟩, h⟩
  ·split at h
   ·rename_i ps hps
    split at h
    ·rename_i hb
     simp only [Bool.and_eq_true, Nat.beq_eq, Nat.ble_eq] at hb
     obtain ⟨hpl, hkn⟩ := hb
     split at h
     ·rename_i z hz
      have hget : zs[j]? = some (zs.getD j e.dflt) := by simp [hjl]
      obtain ⟨us, hu, hj⟩ := hrows.2 j _ hget
      have hul := Rep.length _ _ _ hu
      have hpv := pureCells_sound _ _ _ hps hv
      have hlv := hpv.length
      simp only [Array.length_toList] at hlv
      have henc := enc_rep e _ us hu
      have hall := ((henc.take l).append hpv).append (henc.drop (l + n))
      obtain ⟨xs, ys, h1, h2, h3⟩ := dec_rep e _ z [] _ hall hz
      cases h3
      simp only [List.append_nil] at h1
      have hxl := Rep.length _ _ _ h2
      have hcl : vx.cells.toList.length = n := by simp; omega
      have hsl : us = (vs.drop (j * e.width)).take e.width := by
       apply List.ext_getElem?
       intro m
       rcases Nat.lt_or_ge m us.length with hlt | hge
       ·obtain ⟨u, hu'⟩ : ∃ u, us[m]? = some u := ⟨us[m], List.getElem?_eq_getElem hlt⟩
        rw [hu', List.getElem?_take, if_pos (by omega), List.getElem?_drop, hj m u hu']
       ·rw [List.getElem?_eq_none hge, List.getElem?_eq_none (by rw [List.length_take]; omega)]
      have hvl := hrows.1
      have hnew : (vs ++ rest).take (j * e.width + l) ++ vx.cells.toList ++ (vs ++ rest).drop (j * e.width + l + vx.cells.toList.length) =
        (vs.take (j * e.width) ++ xs ++ vs.drop ((j + 1) * e.width)) ++ rest := by
       rw [hcl]
       have e1 : (vs ++ rest).take (j * e.width + l) = vs.take (j * e.width) ++ us.take l := by
        rw [List.take_append_of_le_length (by omega), List.take_add, hsl, List.take_take, Nat.min_eq_left (by omega)]
       have e2 : (vs ++ rest).drop (j * e.width + l + n) = us.drop (l + n) ++ vs.drop ((j + 1) * e.width) ++ rest := by
        rw [List.drop_append_of_le_length (by omega)]
        congr 1
        have e3 : vs.drop (j * e.width + l + n) = (vs.drop (j * e.width)).drop (l + n) := by rw [List.drop_drop]; congr 1; omega
        have e4 : vs.drop (j * e.width) = us ++ vs.drop ((j + 1) * e.width) := by
         rw [hsl, Nat.add_mul, Nat.one_mul, ← List.drop_drop, List.take_append_drop]
        rw [e3, e4, List.drop_append_of_le_length (by omega)]
       rw [e1, e2, ← h1]
       simp only [List.append_assoc]
      refine fin (zs.set j z) y w0 (vs.take (j * e.width) ++ xs ++ vs.drop ((j + 1) * e.width)) (by simp) ?_ (hrows.set hjl h2) hy ?_ (by simpa using hcl) hkn h
      ·simp only [zP9, List.length_take, List.length_drop, hxl, hvl]
       rw [Nat.add_mul, Nat.one_mul]
       omega
      ·rw [splice_set ?_ (by rw [zP9, hcl]; omega), hnew]
       rw [hcl]
       rcases Nat.lt_or_gt_of_ne hji with h4 | h4
       ·have : (j + 1) * e.width ≤ i * e.width := Nat.mul_le_mul_right _ h4
        rw [Nat.add_mul] at this
        omega
       ·have : (i + 1) * e.width ≤ j * e.width := Nat.mul_le_mul_right _ h4
        rw [Nat.add_mul] at this
        omega
     ·exact h.elim
    ·exact h.elim
   ·exact h.elim
  ·split at h
   ·rename_i z
    have hone : vx.cells.toList = [vx] := by
     have hz : RepC G z vx := rx
     have this := RepC.oneCell hz
     have hc : vx.cells = #[vx] := by cases vx <;> first | rfl | simp [Value.oneCell'] at this
     rw [hc]
    have hlen : j * e.width + l < (vs ++ rest).length := by
     rw [zP9, hrows.1]
     omega
    refine fin zs z vx vs rfl rfl hrows rx ?_ (by have := congrArg List.length hone; simpa using this) (by omega) h
    rw [hone]
    exact splice_one hlen
   ·exact h.elim
 ·exact h.elim
theorem buildFl_sound {P : Program} {G : View} (hS : Sim G) {t : TypeId} {len : Nat} {parts : List (Nat × SV)} {K : SV → List AO → Prop} (h : buildFl P t len parts G.H K)
  {qs : Array (Nat × Value)} (hq : All2 (PartRep G) parts qs.toList) :
  ∃ r G' u, (Instr.buildSlice t len qs).run P G.w = .ok u G'.w ∧ Ext G G' ∧ Sim G' ∧ K r G'.H ∧ RepS G' r u := by
 unfold buildFl at h
 obtain ⟨r, G', u, h1, _, _, ⟨c, hr, hK⟩, h5, hu, G1, g1, g2, g3, g4, g5, _⟩ := buildSliceA_sound2 hS h hq
 have h6 := g5 c [] hr
 have hl : len = 0 := by
  subst hr
  obtain ⟨hrep, _⟩ := h5
  rcases hrep.rows with ⟨_, hv⟩ | ⟨ad, cap', vs, hv, _, _, _⟩
  ·rw [hu] at hv; cases hv
  ·rw [hu] at hv; cases hv; rfl
 subst hl
 exact ⟨.a (.c (.fl c [])), G1, u, by rw [g1]; exact h1, g2, g3, g4.symm ▸ hK, h6, _, hu⟩
theorem appendFl_sound {P : Program} {G : View} (hS : Sim G) {t tx ty : TypeId} {c : CT} {zs : List c.den} {x : SV} {K : SV → List AO → Prop} (h : appendFl P t tx c zs x G.H K) {vs vx : Value} (rs : RepC G (.fl c zs) vs) (rx : RepS G x vx) :
  ∃ r G' u, (Builtin.append_ #[t, tx] ty #[vs, vx]).run P G.w = .ok u G'.w ∧ Ext G G' ∧ Sim G' ∧ K r G'.H ∧ RepS G' r u := by
 unfold appendFl at h
 split at h
 ·rename_i e dx hu hx
  split at h
  ·rename_i n info z hn hi hz
   split at h
   ·rename_i hb
    simp only [Bool.and_eq_true, Nat.beq_eq, Nat.ble_eq] at hb
    obtain ⟨⟨⟨⟨hw, hzl⟩, hpos⟩, hby⟩, hdx⟩ := hb
    have hd : dx = .string ∨ ∃ d, dx = .slice d := by cases dx <;> simp_all
    obtain ⟨i', v0, hi', hz0, hrep, _⟩ := zeroCells_cases hz
    rw [hi] at hi'
    cases hi'
    have hzs : v0.cells.size = n := by
     have := (hrep G).length
     simp only [Array.length_toList] at this
     omega
    split at h
    ·rename_i ys hys
     obtain ⟨⟨rfl, h0, hbound⟩, hK⟩ := h
     obtain ⟨us, hl, hus, hf⟩ := appended_sound (P := P) hys rx n hw
     obtain ⟨hrp, base, rfl⟩ := rs
     have hfc : ∀ w' : World, (Builtin.firstCells n 0 (.slice base 0 0)).run P w' = .ok ([] : List Value).toArray w' := fun w' => by
      cases base with
      | none => rfl
      | some ad =>
       obtain ⟨bb, oo, ss⟩ := ad
       exact run_firstCells_some w' n 0 ⟨bb, oo, ss⟩ _ _ [] (by simp) fun j u hj => by cases hj
     have hmax : ys.length ≤ maxLen := by simp only [capBound] at hbound; simp only [maxLen]; omega
     have hrun := run_append_out (P := P) (w := G.w) (ty := ty) (base := base) (sLen := 0) (sCap := 0) (vs := []) hd hu hx hn hi hz0 hby hl (hf _ rfl) (hfc _) (by omega) (by simpa using hbound)
     simp only [Nat.zero_add] at hrun
     have hge := grownCap_ge G.w ys.length 0 e
     have hgm := grownCap_le_maxLen G.w ys.length 0 e hmax
     have hzc : (Builtin.zeroCells v0.cells (grownCap G.w ys.length 0 e - ys.length)).size = (grownCap G.w ys.length 0 e - ys.length) * c.width := by
      rw [size_zeroCells, hzs, hw]
     generalize hcap : grownCap G.w ys.length 0 e = cap at *
     generalize hrest : Builtin.zeroCells v0.cells (cap - ys.length) = rest at *
     have harr : (([] : List Value).toArray ++ us.toArray ++ rest) = (us ++ rest.toList).toArray := by
      apply Array.ext'
      simp
     rw [harr] at hrun
     let G1 := (G.drew).push (fun _ => False) (.cells (us ++ rest.toList).toArray e)
     have s0 : Sim G.drew := hS.drew
     have e1 : Ext G G1 := (Ext.drew G).trans (Ext.push s0 _ _)
     have s1 : Sim G1 := Sim.push s0 _ _
     have hfree : ∀ id, ¬ G1.holds id G.w.heap.size := fun id h => by
      have : G.holds id G.w.heap.size := h
      exact absurd (hS.lt this) (Nat.lt_irrefl _)
     let G2 := G1.obj G.w.heap.size (.arr e c ys 0)
     have e2 : Ext G G2 := e1.obj (fun _ => nR9 _)
     have hlast := G1.obj_last G.w.heap.size (.arr e c ys 0)
     have hheap : G2.w.heap[G.w.heap.size]? = some (.cells (us ++ rest.toList).toArray e (0, 0)) := alloc_heap_new G.w.drew _
     have hρ : G2.ρ G.H.length = G.w.heap.size := hlast.2
     refine ⟨.a (.c (.sl G.H.length c 0 ys.length)), G2, .slice (some ⟨G.w.heap.size, 0, none⟩) ys.length cap, hrun, e2, ?_, hK, rfl, .inr ⟨e, ys, 0, hlast.1, nR9 _, fun _ => ⟨nR9 _, .inr ⟨by omega, cap, _, by rw [hρ], by rw [hρ]; exact hheap, hge, hgm, ?_⟩⟩⟩⟩
     ·refine Sim.obj s1 hfree fun _ => ⟨us, rest.toList, ?_, ?_, hus.mono e2.stays⟩
      ·rw [hlast.2]; exact hheap
      ·intro o ho
       rw [hlast.2] at ho
       rcases ho with ho | ⟨_, ho⟩
       ·exact absurd (hS.ilt _ _ ho) (Nat.lt_irrefl _)
       ·exact ho
     ·simp only [zS9, zP9, Array.length_toList, hus.1, hzc, ← Nat.add_mul]
      congr 1
      omega
    ·exact h.elim
   ·exact h.elim
  ·exact h.elim
 ·exact h.elim
end Go.Ab
