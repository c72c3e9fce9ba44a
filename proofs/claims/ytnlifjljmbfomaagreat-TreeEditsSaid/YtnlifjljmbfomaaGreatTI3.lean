/- The abstract machine's operations that write elements and maps are the model's. -/
import Derived.Test.YtnlifjljmbfomaaGreatTI2
namespace Go.Ab
set_option linter.unusedSectionVars false
variable [Base]
theorem Rows.take {I w} {e : CT} {zs : List e.den} {vs : List Value} (h : Rows I w e zs vs) {n : Nat} (hn : n ≤ zs.length) : Rows I w e (zs.take n) (vs.take (n * e.width)) := by
 refine ⟨?_, fun i z hz => ?_⟩
 ·have := Nat.mul_le_mul_right e.width hn
  rw [List.length_take, List.length_take, h.1]
  rw [Nat.min_eq_left hn, Nat.min_eq_left this]
 ·rw [List.getElem?_take] at hz
  split at hz
  ·rename_i hi
   obtain ⟨us, hu, hj⟩ := h.2 i z hz
   refine ⟨us, hu, fun j u hju => ?_⟩
   have hl := Rep.length _ _ _ hu
   have hlt : j < e.width := by rw [← hl]; exact (List.getElem?_eq_some_iff.1 hju).1
   have h1 : (i + 1) * e.width ≤ n * e.width := Nat.mul_le_mul_right _ hi
   rw [Nat.add_mul] at h1
   rw [List.getElem?_take, if_pos (by omega)]
   exact hj j u hju
  ·cases hz
theorem Rows.set {I w} {e : CT} {zs : List e.den} {vs : List Value} (h : Rows I w e zs vs) {i : Nat} (hi : i < zs.length) {z : e.den} {us : List Value} (hz : Rep I w e z us) :
  Rows I w e (zs.set i z) (vs.take (i * e.width) ++ us ++ vs.drop ((i + 1) * e.width)) := by
 have hl := Rep.length _ _ _ hz
 have h1 : (i + 1) * e.width ≤ zs.length * e.width := Nat.mul_le_mul_right _ hi
 have h1' := h1
 rw [Nat.add_mul, Nat.one_mul] at h1'
 have hlt : (vs.take (i * e.width)).length = i * e.width := by rw [List.length_take, h.1]; omega
 refine ⟨?_, fun j y hj => ?_⟩
 ·simp only [zP9, hlt, hl, List.length_drop, h.1, List.length_set]
  rw [Nat.add_mul, Nat.one_mul]
  omega
 ·rw [List.getElem?_set] at hj
  by_cases hji : i = j
  ·subst hji
   simp only [if_true, hi] at hj
   cases hj
   refine ⟨us, hz, fun k u hk => ?_⟩
   have hk' := (List.getElem?_eq_some_iff.1 hk).1
   rw [List.append_assoc, List.getElem?_append_right (by rw [hlt]; omega), hlt, List.getElem?_append_left (by omega)]
   rw [← hk]; congr 1; omega
  ·simp only [hji, if_false] at hj
   obtain ⟨xs, hx, hxs⟩ := h.2 j y hj
   refine ⟨xs, hx, fun k u hk => ?_⟩
   have hk' : k < e.width := by rw [← Rep.length _ _ _ hx]; exact (List.getElem?_eq_some_iff.1 hk).1
   have hold := hxs k u hk
   rcases Nat.lt_or_gt_of_ne hji with hlt' | hlt'
   ·have h2 : (i + 1) * e.width ≤ j * e.width := Nat.mul_le_mul_right _ hlt'
    have h2' := h2
    rw [Nat.add_mul, Nat.one_mul] at h2'
    rw [List.getElem?_append_right (by simp only [zP9, hlt, hl]; omega)]
    simp only [zP9, hlt, hl]
    rw [List.getElem?_drop, ← hold]
    congr 1
    rw [Nat.add_mul, Nat.one_mul]
    omega
   ·have h2 : (j + 1) * e.width ≤ i * e.width := Nat.mul_le_mul_right _ hlt'
    rw [Nat.add_mul, Nat.one_mul] at h2
    rw [List.append_assoc, List.getElem?_append_left (by rw [hlt]; omega), List.getElem?_take, if_pos (by omega)]
    exact hold
theorem arr_grown {P : Program} {G : View} (hS : Sim G) {id : Nat} {t : TypeId} {c : CT} {zs zs' : List c.den} {ver : Nat} (ho : G.H[id]? = some (.arr t c zs ver)) {b cap : Nat} {w' : World} {vs rest : List Value} (hvs : Rows G.I G.w c zs' vs)
  (hpos : 0 < zs'.length) (hsize : G.w.heap.size ≤ w'.heap.size) (hos : w'.os = G.w.os) (htape : w'.tape = G.w.tape) (hout : w'.output = G.w.output) (hrest : ∀ k, k < G.w.heap.size → k ≠ b → w'.heap[k]? = G.w.heap[k]?)
  (hb : G.w.heap.size ≤ b ∨ G.holds id b) (hh : w'.heap[b]? = some (.cells (vs ++ rest).toArray t (0, 0))) (hcap : zs'.length ≤ cap) (hcm : cap ≤ maxLen) (hsz : (vs ++ rest).length = cap * c.width) {m : Sem Value}
  (hrun : m.run P G.w = .ok (.slice (some ⟨b, 0, none⟩) zs'.length cap) w') :
  ∃ G' u, m.run P G.w = .ok u G'.w ∧ Ext G G' ∧ Sim G' ∧ G'.H = G.H.set id (.arr t c zs' (ver + 1)) ∧ RepC G' (.sl id c (ver + 1) zs'.length) u := by
 have hno : ∀ x, ¬ G.I b x := by
  intro x hx
  rcases hb with h | ⟨o, h1, h2, h3⟩
  ·exact absurd (hS.ilt _ _ hx) (Nat.not_lt.2 h)
  ·rw [ho] at h1
   cases h1
   obtain ⟨_, _, _, h4, _⟩ := hS.objs id _ ho h2
   exact h4 x (h3 ▸ hx)
 have g : Upd G id b (.arr t c zs ver) (.arr t c zs' (ver + 1)) (fun _ => False) w' :=
  ⟨ho, ⟨rfl, rfl, Nat.le_succ _, fun h => absurd h (by omega)⟩, hsize, hos, htape, hout, hrest, hb, (Array.getElem?_eq_some_iff.1 hh).1, hno⟩
 have he := Ext.upd hS g
 have hρ : (G.upd id b (.arr t c zs' (ver + 1)) (fun _ => False) w').ρ id = b := by rw [View.upd_ρ, if_pos rfl]
 refine ⟨_, _, hrun, he, Sim.upd hS g fun _ => ⟨vs, rest, by rw [hρ]; exact hh, ?_, hvs.mono he.stays⟩, rfl, rfl, .inr ⟨t, zs', ver + 1, ?_, nR9 _, fun _ => ⟨nR9 _, .inr ⟨hpos, cap, _, by rw [hρ], by rw [hρ]; exact hh, hcap, hcm, by simpa using hsz⟩⟩⟩⟩
 ·intro o hI
  rw [hρ] at hI
  rcases hI with hI | ⟨_, hI⟩
  ·exact hno o hI
  ·exact hI
 ·rw [View.upd_get ho]; simp
theorem appendSl_sound {P : Program} {G : View} (hS : Sim G) {t tx ty : TypeId} {id : Nat} {c : CT} {ver len : Nat} {x : SV} {K : SV → List AO → Prop} (h : appendSl P t tx id c ver len x G.H K) {vs vx : Value} (rs : RepC G (.sl id c ver len) vs) (rx : RepS G x vx) :
  ∃ r G' u, (Builtin.append_ #[t, tx] ty #[vs, vx]).run P G.w = .ok u G'.w ∧ Ext G G' ∧ Sim G' ∧ K r G'.H ∧ RepS G' r u := by
 unfold appendSl at h
 split at h
 ·rename_i e dx hu hx
  split at h
  ·rename_i n info z hn hi hz
   split at h
   ·rename_i hb
    simp only [Bool.and_eq_true, Nat.beq_eq, Nat.ble_eq] at hb
    obtain ⟨⟨⟨⟨hw, hzl⟩, hpos⟩, hby⟩, hdx⟩ := hb
    have hd : dx = .string ∨ ∃ d, dx = .slice d := by cases dx <;> simp_all
    obtain ⟨i', v0, hi', hz0, hrep, _⟩ := zeroCells_cases hz
    rw [hi] at hi'
    cases hi'
    have hzs : v0.cells.size = n := by
     have := (hrep G).length
     simp only [Array.length_toList] at this
     omega
    split at h
    ·rename_i e' c' zs ver' ho
     split at h
     ·rename_i hde hdc
      have he' : e' = e := by simpa using hde
      have hc' : c' = c := by simpa using hdc
      subst he'
      subst hc'
      split at h
      ·rename_i ys hys
       obtain ⟨hver, hyl, hbound, hK⟩ := h
       subst hver
       obtain ⟨us, hl, hus, hf⟩ := appended_sound (P := P) hys rx n hw
       obtain ⟨hle, hv⟩ := sl_live rs ho
       have hlen : (zs.take len ++ ys).length = len + ys.length := by simp; omega
       have fin : (∃ G' u, (Builtin.append_ #[t, tx] ty #[vs, vx]).run P G.w = .ok u G'.w ∧ Ext G G' ∧ Sim G' ∧ G'.H = G.H.set id (.arr e' c' (zs.take len ++ ys) (ver' + 1)) ∧ RepC G' (.sl id c' (ver' + 1) (zs.take len ++ ys).length) u) →
         ∃ r G' u, (Builtin.append_ #[t, tx] ty #[vs, vx]).run P G.w = .ok u G'.w ∧ Ext G G' ∧ Sim G' ∧ K r G'.H ∧ RepS G' r u := by
        rintro ⟨G', u, h1, h2, h3, h4, h5⟩
        rw [hlen] at h5
        exact ⟨.a (.c (.sl id c' (ver' + 1) (len + ys.length))), G', u, h1, h2, h3, h4 ▸ hK, h5⟩
       have hmax : len + ys.length ≤ maxLen := by simp only [capBound] at hbound; simp only [maxLen]; omega
       have out : ∀ (base : Option Addr) (sCap : Nat) (os : List Value), vs = .slice base len sCap → Rows G.I G.w c' (zs.take len) os → sCap < len + ys.length →
         (∀ w' : World, w'.heap = G.w.heap → (Builtin.firstCells n len (.slice base len sCap)).run P w' = .ok os.toArray w') →
         ∃ G' u, (Builtin.append_ #[t, tx] ty #[vs, vx]).run P G.w = .ok u G'.w ∧ Ext G G' ∧ Sim G' ∧ G'.H = G.H.set id (.arr e' c' (zs.take len ++ ys) (ver' + 1)) ∧ RepC G' (.sl id c' (ver' + 1) (zs.take len ++ ys).length) u := by
        intro base sCap os hvs hos hroom hold
        have hrun := run_append_out (P := P) (w := G.w) (ty := ty) hd hu hx hn hi hz0 hby hl (hf _ rfl) (hold G.w.drew rfl) hroom hbound
        have hge := grownCap_ge G.w (len + ys.length) sCap e'
        have hgm := grownCap_le_maxLen G.w (len + ys.length) sCap e' hmax
        have hzc : (Builtin.zeroCells v0.cells (grownCap G.w (len + ys.length) sCap e' - (len + ys.length))).size = (grownCap G.w (len + ys.length) sCap e' - (len + ys.length)) * c'.width := by
         rw [size_zeroCells, hzs, hw]
        have harr : (os.toArray ++ us.toArray ++ Builtin.zeroCells v0.cells (grownCap G.w (len + ys.length) sCap e' - (len + ys.length))) =
          ((os ++ us) ++ (Builtin.zeroCells v0.cells (grownCap G.w (len + ys.length) sCap e' - (len + ys.length))).toList).toArray := by
         apply Array.ext'
         simp
        have hsz : ((os ++ us) ++ (Builtin.zeroCells v0.cells (grownCap G.w (len + ys.length) sCap e' - (len + ys.length))).toList).length = grownCap G.w (len + ys.length) sCap e' * c'.width := by
         have h0 : os.length = len * c'.width := by rw [hos.1, List.length_take, Nat.min_eq_left hle]
         simp only [zP9, h0, hus.1, Array.length_toList, hzc, ← Nat.add_mul]
         congr 1
         omega
        rw [← hvs] at hrun
        rw [harr] at hrun
        refine arr_grown hS ho (w' := G.w.drew.alloc (.cells ((os ++ us) ++ (Builtin.zeroCells v0.cells (grownCap G.w (len + ys.length) sCap e' - (len + ys.length))).toList).toArray e')) (hos.append hus) (by rw [hlen]; omega) ?_ rfl rfl rfl (fun k hk _ => alloc_heap_old G.w.drew _ k hk) (.inl (nR9 _)) (alloc_heap_new G.w.drew _) (by rw [hlen]; exact hge) hgm hsz (by rw [hlen]; exact hrun)
        simp
       refine fin ?_
       rcases hv with ⟨h0, hvv⟩ | ⟨h0, cap, cur, hvv, hcur, hcap, hcm, hcs⟩
       ·have hl0 : len = 0 := by omega
        subst hl0
        have : zs.take 0 = [] := rfl
        exact out none 0 [] hvv Rows.nil (by omega) fun w' _ => rfl
       ·obtain ⟨cs, rest, hh, hno, hrows⟩ := hS.objs id _ ho h0
        have hheap : cur = (cs ++ rest).toArray := by
         rw [hcur] at hh
         cases hh
         rfl
        have hos := hrows.take hle
        have hcsl : cs.length = zs.length * c'.width := hrows.1
        have hol : (cs.take (len * c'.width)).length = len * c'.width := by
         have := Nat.mul_le_mul_right c'.width hle
         rw [List.length_take, hcsl]; omega
        by_cases hroom : len + ys.length ≤ cap
        ·have hroomw : (len + ys.length) * c'.width ≤ cap * c'.width := Nat.mul_le_mul_right _ hroom
         rw [Nat.add_mul] at hroomw
         have hst := run_storeCells_at P (G.ρ id) (len * n) e' us 0 cur G.w hcur (by rw [hus.1, hcs, ← hw]; rw [← hw] at hroomw; omega) hus.oneCell
         simp only [Nat.add_zero] at hst
         have hrun := run_append_in (P := P) (w := G.w) (ty := ty) (base := some ⟨G.ρ id, 0, none⟩) (sCap := cap) hd hu hx hn hl (hf _ rfl) hroom (by
          simp only [addr_add, Nat.zero_add]
          exact hst)
         have hcl : cur.toList = cs ++ rest := by rw [hheap]
         have htake : cur.toList.take (len * n) = cs.take (len * c'.width) := by
          have := Nat.mul_le_mul_right c'.width hle
          rw [hcl, hw, List.take_append_of_le_length (by rw [hcsl]; exact this)]
         rw [htake] at hrun
         have hheap' := setRow_heap G.w (G.ρ id) cur (cs.take (len * c'.width) ++ us ++ cur.toList.drop (len * n + us.length)).toArray e' (0, 0) hcur
         have hsz : ((cs.take (len * c'.width) ++ us) ++ cur.toList.drop (len * n + us.length)).length = cap * c'.width := by
          simp only [zP9, List.length_drop, Array.length_toList, hcs, hol, hus.1, hw]
          omega
         rw [← hvv] at hrun
         refine arr_grown hS ho (w' := G.w.setRow (G.ρ id) (cs.take (len * c'.width) ++ us ++ cur.toList.drop (len * n + us.length)).toArray) (hos.append hus) (by rw [hlen]; omega) ?_ rfl rfl rfl (fun k _ hk => setRow_other _ _ _ _ hk) (.inr ⟨_, ho, h0, rfl⟩) hheap' (by rw [hlen]; exact hroom) hcm hsz (by rw [hlen]; exact hrun)
         simp
        ·refine out _ cap _ hvv hos (by omega) fun w' hw' => ?_
         refine run_firstCells_some w' n len ⟨G.ρ id, 0, none⟩ _ _ _ (by rw [hol, hw]) fun j u hj => ?_
         rw [addr_add]
         have h1 : (cs ++ rest)[j]? = some u := by
          rw [List.getElem?_take] at hj
          split at hj
          ·rw [List.getElem?_append_left (List.getElem?_eq_some_iff.1 hj).1]; exact hj
          ·cases hj
         have h2 : w'.heap[G.ρ id]? = some (.cells cur e' (0, 0)) := by rw [hw']; exact hcur
         simp only [Nat.zero_add]
         rw [cell_of_row w' (G.ρ id) j cur e' (0, 0) h2, hheap]
         simpa using h1
      ·exact h.elim
     ·exact h.elim
    ·exact h.elim
   ·exact h.elim
  ·exact h.elim
 ·exact h.elim
theorem storeEp_sound {P : Program} {G : View} (hS : Sim G) {t : TypeId} {id : Nat} {c : CT} {ver i k : Nat} {x : SV} {K : SV → List AO → Prop} (h : storeEp P t id c ver i k x G.H K) {va vx : Value} (ra : RepC G (.ep id c ver i k) va) (rx : RepS G x vx) :
  ∃ G', (Instr.storeAt t va vx).run P G.w = .ok () G'.w ∧ Ext G G' ∧ Sim G' ∧ K .none G'.H := by
 unfold storeEp at h
 split at h
 ·rename_i v n e' c' zs ver' hn ho
  split at h
  ·rename_i ps hdc hps
   have hc' : c' = c := by simpa using hdc
   subst hc'
   split at h
   ·rename_i hb
    simp only [Bool.and_eq_true, Nat.beq_eq, Nat.ble_eq] at hb
    obtain ⟨hpl, hkn⟩ := hb
    split at h
    ·rename_i z hz
     obtain ⟨hver, hK⟩ := h
     subst hver
     obtain ⟨hi, hva⟩ := ep_live ra ho
     have hpos : 0 < zs.length := by omega
     obtain ⟨vs, rest, hh, hno, hrows⟩ := hS.objs id _ ho hpos
     have hget : zs[i]? = some (zs.getD i c'.dflt) := by simp [hi]
     obtain ⟨us, hu, hj⟩ := hrows.2 i _ hget
     have hul := Rep.length _ _ _ hu
     have hv := AV.cells_rep' rx
     have hpv := pureCells_sound _ _ _ hps hv
     have hlv := hpv.length
     simp only [Array.length_toList] at hlv
     have henc := enc_rep c' _ us hu
     have hall := ((henc.take k).append hpv).append (henc.drop (k + n))
     obtain ⟨xs, ys, h1, h2, h3⟩ := dec_rep c' _ z [] _ hall hz
     cases h3
     simp only [List.append_nil] at h1
     have hiw : (i + 1) * c'.width ≤ zs.length * c'.width := Nat.mul_le_mul_right _ hi
     rw [Nat.add_mul, Nat.one_mul] at hiw
     have hsl : us = (vs.drop (i * c'.width)).take c'.width := by
      apply List.ext_getElem?
      intro j
      rcases Nat.lt_or_ge j us.length with hlt | hge
      ·obtain ⟨u, hu'⟩ : ∃ u, us[j]? = some u := ⟨us[j], List.getElem?_eq_getElem hlt⟩
       rw [hu', List.getElem?_take, if_pos (by omega), List.getElem?_drop, hj j u hu']
      ·rw [List.getElem?_eq_none hge, List.getElem?_eq_none (by rw [List.length_take]; omega)]
     have hcurl : (i * c'.width + k) + vx.cells.toList.length ≤ (vs ++ rest).toArray.size := by
      simp only [zS9, zP9, hrows.1, Array.length_toList]
      omega
     have hrun := run_storeCells_at P (G.ρ id) (i * c'.width + k) e' vx.cells.toList 0 (vs ++ rest).toArray G.w hh (by simpa using hcurl) (all_oneCell hv)
     simp only [Nat.add_zero] at hrun
     have hnew : (vs ++ rest).take (i * c'.width + k) ++ vx.cells.toList ++ (vs ++ rest).drop (i * c'.width + k + vx.cells.toList.length) =
       (vs.take (i * c'.width) ++ xs ++ vs.drop ((i + 1) * c'.width)) ++ rest := by
      have hvl := hrows.1
      have hcl : vx.cells.toList.length = n := by simp; omega
      rw [hcl]
      have e1 : (vs ++ rest).take (i * c'.width + k) = vs.take (i * c'.width) ++ us.take k := by
       rw [List.take_append_of_le_length (by omega), List.take_add, hsl, List.take_take, Nat.min_eq_left (by omega)]
      have e2 : (vs ++ rest).drop (i * c'.width + k + n) = us.drop (k + n) ++ vs.drop ((i + 1) * c'.width) ++ rest := by
       rw [List.drop_append_of_le_length (by omega)]
       congr 1
       have e3 : vs.drop (i * c'.width + k + n) = (vs.drop (i * c'.width)).drop (k + n) := by rw [List.drop_drop]; congr 1; omega
       have e4 : vs.drop (i * c'.width) = us ++ vs.drop ((i + 1) * c'.width) := by
        rw [hsl, Nat.add_mul, Nat.one_mul, ← List.drop_drop, List.take_append_drop]
       rw [e3, e4, List.drop_append_of_le_length (by omega)]
      rw [e1, e2, ← h1]
      simp only [List.append_assoc]
     rw [hnew] at hrun
     have hw' := setRow_heap G.w (G.ρ id) (vs ++ rest).toArray ((vs.take (i * c'.width) ++ xs ++ vs.drop ((i + 1) * c'.width)) ++ rest).toArray e' (0, 0) hh
     let w' := G.w.setRow (G.ρ id) ((vs.take (i * c'.width) ++ xs ++ vs.drop ((i + 1) * c'.width)) ++ rest).toArray
     have hρ : (G.upd id (G.ρ id) (.arr e' c' (zs.set i z) ver') (fun _ => False) w').ρ id = G.ρ id := by rw [View.upd_ρ, if_pos rfl]
     have hxl := Rep.length _ _ _ h2
     have hsame : ((vs.take (i * c'.width) ++ xs ++ vs.drop ((i + 1) * c'.width)) ++ rest).toArray.size = (vs ++ rest).toArray.size := by
      simp only [zS9, zP9, List.length_take, List.length_drop, hrows.1, hxl]
      rw [Nat.add_mul, Nat.one_mul]
      omega
     have g : Upd G id (G.ρ id) (.arr e' c' zs ver') (.arr e' c' (zs.set i z) ver') (fun _ => False) w' := by
      refine ⟨ho, ⟨rfl, rfl, nR9 _, fun _ => ⟨by simp, fun _ => ⟨hρ, fun cur hcur => ?_⟩⟩⟩, by simp [w'], rfl, rfl, rfl, fun k _ hk => setRow_other _ _ _ _ hk, .inr ⟨_, ho, hpos, rfl⟩, ?_, hno⟩
      ·rw [hh] at hcur
       cases hcur
       exact ⟨_, hw', hsame⟩
      ·exact (Array.getElem?_eq_some_iff.1 hw').1
     have he := Ext.upd hS g
     refine ⟨_, ?_, he, Sim.upd hS g fun _ => ⟨_, rest, by rw [hρ]; exact hw', ?_, (hrows.set hi h2).mono he.stays⟩, hK⟩
     ·have hsz : vx.cells.size = n := by omega
      simp [Instr.storeAt, hva, Instr.sureAddr, storeVar, rS9 hn, hsz]
      exact hrun
     ·intro o hI
      rw [hρ] at hI
      rcases hI with hI | ⟨_, hI⟩
      ·exact hno o hI
      ·exact hI
    ·exact h.elim
   ·exact h.elim
  ·exact h.elim
 ·exact h.elim
theorem run_mapUpdate_at {P : Program} {w : World} {t kt et : TypeId} (ht : P.underlying t = some (.map kt et)) {b : Nat} {ens : Array MapEntry} {clock : Nat} (hb : w.heap[b]? = some (.map ens clock)) {key val : Value} (hc : (Instr.checkKey false 10000 kt key).run P w = .ok () w)
  {r : Option (Nat × Value)} (hf : (Instr.findKey kt key ens.toList).run P w = .ok r w) (hs : ∀ p, r = some p → (ens[p.1]?).map (·.key) = some key) (hst : (Instr.keyThatStays key key).run P w = .ok key w) :
  (Instr.mapUpdate t (.map (some b)) key val).run P w = .ok () { w with heap := w.heap.setIfInBounds b (match r with | some p => .map (ens.modify p.1 fun e => { e with key := key, val := val }) clock | none => .map (ens.push { key := key, val := val, born := clock }) (clock + 1)) } := by
 have hset : ∀ o, (setObj b o).run P w = .ok () { w with heap := w.heap.setIfInBounds b o } := fun o => by simp [setObj, Sem.run, hb]
 cases r with
 | none => simp [Instr.mapUpdate, rU9 ht, getMap hb, hc, hf, hset]
 | some p => simp [Instr.mapUpdate, rU9 ht, getMap hb, hc, hf, hset, hs p rfl, hst]
theorem Entries.set {I w} {k v : CT} {es : List (k.den × v.den)} {ens : Array MapEntry} (h : Entries I w k v es ens) {i : Nat} {en : MapEntry} (hi : ens[i]? = some en) {key : k.den} {x : v.den} {us xs : List Value} (hk : Rep I w k key us) (hx : Rep I w v x xs) :
  Entries I w k v (es.set i (key, x)) (ens.modify i fun e => { e with key := packV k us, val := packV v xs }) := by
 refine ⟨by simp [h.1], fun j kv hj => ?_⟩
 rw [List.getElem?_set] at hj
 by_cases hji : i = j
 ·subst hji
  simp only [if_true] at hj
  split at hj
  ·cases hj
   exact ⟨{ en with key := packV k us, val := packV v xs }, us, xs, by rw [Array.getElem?_modify]; simp [hi], hk, hx, rfl, rfl⟩
  ·cases hj
 ·simp only [hji, if_false] at hj
  obtain ⟨en', us', xs', h1, h2⟩ := h.2 j kv hj
  exact ⟨en', us', xs', by rw [Array.getElem?_modify]; simp [hji, h1], h2⟩
theorem Entries.push {I w} {k v : CT} {es : List (k.den × v.den)} {ens : Array MapEntry} (h : Entries I w k v es ens) (born : Nat) {key : k.den} {x : v.den} {us xs : List Value} (hk : Rep I w k key us) (hx : Rep I w v x xs) :
  Entries I w k v (es ++ [(key, x)]) (ens.push { key := packV k us, val := packV v xs, born }) := by
 refine ⟨by simp [h.1], fun j kv hj => ?_⟩
 rcases Nat.lt_trichotomy j es.length with hlt | he | hgt
 ·rw [List.getElem?_append_left hlt] at hj
  obtain ⟨en', us', xs', h1, h2⟩ := h.2 j kv hj
  exact ⟨en', us', xs', by rw [Array.getElem?_push, if_neg (by rw [h.1]; omega), h1], h2⟩
 ·subst he
  simp at hj
  subst hj
  exact ⟨_, us, xs, by rw [Array.getElem?_push, if_pos h.1.symm], hk, hx, rfl, rfl⟩
 ·rw [List.getElem?_eq_none (by simp; omega)] at hj
  cases hj
theorem mapSetA_sound {P : Program} {G : View} (hS : Sim G) {t : TypeId} {m k x : SV} {K : SV → List AO → Prop} (h : mapSetA P t m k x G.H K) {vm vk vx : Value} (rm : RepS G m vm) (rk : RepS G k vk) (rx : RepS G x vx) :
  ∃ G', (Instr.mapUpdate t vm vk vx).run P G.w = .ok () G'.w ∧ Ext G G' ∧ Sim G' ∧ K .none G'.H := by
 unfold mapSetA at h
 split at h
 ·rename_i kt et id ht
  split at h
  ·rename_i kc vc es ho
   split at h
   ·rename_i key d hck hkey hd
    simp only [Bool.and_eq_true, decide_eq_true_eq] at hck
    obtain ⟨hko, h⟩ := andO_iff.1 h
    have hkt := key_of hck.1 hko
    have hkb := keyT_keyable hkt
    obtain rfl := keyOf_sound hkb hkey rk
    obtain ⟨xs, hx, rfl, _⟩ := keyOf_rep hd rx
    obtain ⟨_, h1 | ⟨k2, t2, es2, h1, rfl⟩⟩ := rm
    ·rw [ho] at h1; cases h1
    ·obtain ⟨ens, clock, hb, hno, he⟩ := hS.objs id _ ho trivial
     obtain ⟨r, hf, hfound⟩ := find_key G.w hkt key es ens.toList (he.keys hkb)
     have hkr := lit_rep (I := G.I) (w := G.w) kc key hkb
     have hrun := run_mapUpdate_at (P := P) (val := packV vc xs) ht hb (key_check G.w false hkt key) hf (fun p hp => by
      rcases hfound with ⟨rfl, _⟩ | ⟨i, en, kv, rfl, h2, h3, h4, _, _⟩
      ·cases hp
      ·cases hp
       obtain ⟨en', us, ys, h5, h6, _, h7, _⟩ := he.2 i kv h3
       have hk1 := keyEq_eq kc key kv.1 h4
       simp only [Nat.zero_add, h5, Option.map_some, h7]
       rw [← hk1] at h6
       rw [rep_lit kc key us hkb h6]
       rfl) (key_stays G.w hkb key)
     have hlt : G.ρ id < G.w.heap.size := (Array.getElem?_eq_some_iff.1 hb).1
     have key' : ∀ (ens' : Array MapEntry) (clock' : Nat), Entries G.I G.w kc vc (setE key d es) ens' →
       (Instr.mapUpdate t (.map (some (G.ρ id))) (keyV kc key) (packV vc xs)).run P G.w = .ok () { G.w with heap := G.w.heap.setIfInBounds (G.ρ id) (.map ens' clock') } →
       ∃ G', (Instr.mapUpdate t (.map (some (G.ρ id))) (keyV kc key) (packV vc xs)).run P G.w = .ok () G'.w ∧ Ext G G' ∧ Sim G' ∧ K .none G'.H := by
      intro ens' clock' hent hr
      have hρ : (G.upd id (G.ρ id) (.map kc vc (setE key d es)) (fun _ => False) { G.w with heap := G.w.heap.setIfInBounds (G.ρ id) (.map ens' clock') }).ρ id = G.ρ id := by rw [View.upd_ρ, if_pos rfl]
      have g : Upd G id (G.ρ id) (.map kc vc es) (.map kc vc (setE key d es)) (fun _ => False) { G.w with heap := G.w.heap.setIfInBounds (G.ρ id) (.map ens' clock') } :=
       ⟨ho, ⟨rfl, rfl, hρ⟩, by simp, rfl, rfl, rfl, fun c _ hc => by simp [Ne.symm hc], .inr ⟨_, ho, trivial, rfl⟩, by simpa using hlt, hno⟩
      have hE := Ext.upd hS g
      refine ⟨_, hr, hE, Sim.upd hS g fun _ => ⟨ens', clock', ?_, ?_, hent.mono hE.stays⟩, h⟩
      ·rw [hρ]
       show (G.w.heap.setIfInBounds (G.ρ id) _)[G.ρ id]? = _
       simp [hlt]
      ·intro o hI
       rw [hρ] at hI
       rcases hI with hI | ⟨_, hI⟩
       ·exact hno o hI
       ·exact hI
     rcases hfound with ⟨rfl, _, h3⟩ | ⟨i, en, kv, rfl, h2, h3, h4, _, h6⟩
     ·rw [h3] at key'
      exact key' _ _ (he.push clock hkr hx) hrun
     ·rw [h6] at key'
      simp only [Nat.zero_add] at hrun
      exact key' _ _ (he.set (i := i) (by simpa using h2) hkr hx) hrun
   ·exact h.elim
  ·exact h.elim
 ·exact h.elim
theorem makeMapA_sound {P : Program} {G : View} (hS : Sim G) {t : TypeId} {K : SV → List AO → Prop} (h : makeMapA P t G.H K) :
  ∃ r G' u, (Instr.makeMap t none).run P G.w = .ok u G'.w ∧ Ext G G' ∧ Sim G' ∧ K r G'.H ∧ RepS G' r u := by
 unfold makeMapA at h
 split at h
 ·rename_i kt et ht
  split at h
  ·rename_i k v hk hv
   let G1 := G.push (fun _ => False) (.map #[] 0)
   have e1 : Ext G G1 := Ext.push hS _ _
   have s1 : Sim G1 := Sim.push hS _ _
   have hfree : ∀ id, ¬ G1.holds id G.w.heap.size := fun id h => by
    have : G.holds id G.w.heap.size := h
    exact absurd (hS.lt this) (Nat.lt_irrefl _)
   let G2 := G1.obj G.w.heap.size (.map k v [])
   have e2 : Ext G G2 := e1.obj (fun _ => nR9 _)
   have hlast := G1.obj_last G.w.heap.size (.map k v [])
   refine ⟨.a (.c (.mp G.H.length)), G2, .map (some G.w.heap.size), rfl, e2, ?_, h, rfl, .inr ⟨k, v, [], hlast.1, ?_⟩⟩
   ·refine Sim.obj s1 hfree fun _ => ⟨#[], 0, ?_, ?_, rfl, fun i kv hi => by simp at hi⟩
    ·rw [hlast.2]
     exact alloc_heap_new _ _
    ·intro o ho
     rw [hlast.2] at ho
     rcases ho with ho | ⟨_, ho⟩
     ·exact absurd (hS.ilt _ _ ho) (Nat.lt_irrefl _)
     ·exact ho
   ·have : G2.ρ G.H.length = G.w.heap.size := hlast.2
    rw [this]
  ·exact h.elim
 ·exact h.elim
theorem allocArr_sound {P : Program} {G : View} (hS : Sim G) {t : TypeId} {n : Nat} {e : TypeId} {K : SV → List AO → Prop} (h : allocArr P t n e G.H K) :
  ∃ i v, P.info? t = some i ∧ i.zero = some v ∧ ∃ r G' u, (do pure (.pointer (some (← newVar t v))) : Sem Value).run P G.w = .ok u G'.w ∧ Ext G G' ∧ Sim G' ∧ K r G'.H ∧ RepS G' r u := by
 unfold allocArr at h
 split at h
 ·rename_i c m z hc hm hz
  split at h
  ·rename_i ps hb hps
   split at h
   ·rename_i zs hzs
    simp only [Bool.and_eq_true, Nat.beq_eq, Nat.ble_eq] at hb
    obtain ⟨i, v, hi, hzv, hrep, _⟩ := zeroCells_cases hz
    let G1 := G.push (fun _ => False) (.cells v.cells t)
    have e1 : Ext G G1 := Ext.push hS _ _
    have s1 : Sim G1 := Sim.push hS _ _
    have hfree : ∀ id, ¬ G1.holds id G.w.heap.size := fun id h => by
     have : G.holds id G.w.heap.size := h
     exact absurd (hS.lt this) (Nat.lt_irrefl _)
    let G2 := G1.obj G.w.heap.size (.arr t c zs 0)
    have e2 : Ext G G2 := e1.obj (fun _ => nR9 _)
    have hlast := G1.obj_last G.w.heap.size (.arr t c zs 0)
    have hpc := pureCells_sound _ _ _ hps (hrep G2)
    have hlz : ps.length = n * c.width := by rw [← hb.1]; exact (hpc.length.trans (hrep G2).length.symm)
    obtain ⟨hrows, hlen⟩ := rowsOf_sound n ps zs v.cells.toList hzs hlz hpc
    refine ⟨i, v, hi, hzv, _, G2, .pointer (some ⟨G.w.heap.size, 0, none⟩), rfl, e2, ?_, h, rfl, .inr ⟨t, zs, 0, hlast.1, nR9 _, fun _ => ⟨by omega, ?_⟩⟩⟩
    ·refine Sim.obj s1 hfree fun _ => ⟨v.cells.toList, [], ?_, ?_, hrows⟩
     ·rw [hlast.2]
      rw [List.append_nil, Array.toArray_toList]
      exact alloc_heap_new _ _
     ·intro o ho
      rw [hlast.2] at ho
      rcases ho with ho | ⟨_, ho⟩
      ·exact absurd (hS.ilt _ _ ho) (Nat.lt_irrefl _)
      ·exact ho
    ·have : G2.ρ G.H.length = G.w.heap.size := hlast.2
     rw [this]
     simp
   ·exact h.elim
  ·exact h.elim
 ·exact h.elim
theorem sliceArr_sound {P : Program} {G : View} (hS : Sim G) {t : TypeId} {x : SV} {lo hi : Option SV} {K : SV → List AO → Prop} (h : sliceArr P t x lo hi G.H K) {vx : Value} {vlo vhi : Option Value} (rx : RepS G x vx) (rl : All1 G lo vlo) (rh : All1 G hi vhi) :
  ∃ r G', ∃ u, (Instr.sliceAt t vx vlo vhi none).run P G.w = .ok u G'.w ∧ Ext G G' ∧ Sim G' ∧ K r G'.H ∧ RepS G' r u := by
 unfold sliceArr at h
 split at h
 ·rename_i n e id c ver a k hu
  split at h
  ·rename_i l w T c' zs ver' hl hw ho
   have rh' : All1 G none vhi := rh
   split at h
   ·rename_i hc hb
    obtain rfl := oT9 hc
    simp only [Bool.and_eq_true, Nat.beq_eq] at hb
    obtain ⟨⟨hw', rfl⟩, rfl⟩ := hb
    obtain ⟨⟨rfl, h0, h1, hn⟩, hK⟩ := h
    obtain ⟨hpos, hv⟩ := ep_live rx ho
    obtain ⟨vs, rest, hheap, hno, hrows⟩ := hS.objs id _ ho (by show 0 < zs.length; omega)
    have hlt : G.ρ id < G.w.heap.size := (Array.getElem?_eq_some_iff.1 hheap).1
    have g : Upd G id (G.ρ id) (.arr T c' zs ver') .dead (fun x => x < n * c'.width) G.w := ⟨ho, trivial, nR9 _, rfl, rfl, rfl, fun _ _ _ => rfl, .inr ⟨_, ho, (by show 0 < zs.length; omega), rfl⟩, hlt, hno⟩
    have hE := Ext.upd hS g
    have hb := bounds_sound (P := P) (w := G.w) rl rh' (len := n) (cap := n) false hl (h := (n : Int)) rfl h0 (by omega) (by omega) (nR9 _)
    have hv' : vx = .pointer (some ⟨G.ρ id, 0, none⟩) := by simpa using hv
    refine ⟨_, G.upd id (G.ρ id) .dead (fun x => x < n * c'.width) G.w, .slice (some ⟨G.ρ id, l.toNat * c'.width, none⟩) (n - l.toNat) (n - l.toNat), ?_, hE, Sim.upd hS g fun h => h.elim, hK, ?_⟩
    ·simp [Instr.sliceAt, rU9 hu, hv', Instr.sureAddr, hb, rS9 hw, addr_add, hw']
     exact ⟨fun e => by omega, rfl⟩
    ·refine .inr (.inl ⟨G.ρ id, l.toNat * c'.width, n - l.toNat, ?_, ?_, fun i z hz => ?_⟩)
     ·rw [List.length_drop, ← hn]
     ·rw [List.length_drop, ← hn]; exact nR9 _
     ·rw [List.getElem?_drop] at hz
      obtain ⟨us, hus, hj⟩ := hrows.2 _ z hz
      refine ⟨us, Rep.mono hE.stays _ _ _ hus, fun j u hju => ?_⟩
      have hj' := hj j u hju
      have hjl : j < c'.width := by rw [← Rep.length _ _ _ hus]; exact (List.getElem?_eq_some_iff.1 hju).1
      have hil : l.toNat + i < zs.length := (List.getElem?_eq_some_iff.1 hz).1
      have hm : (l.toNat + i + 1) * c'.width ≤ zs.length * c'.width := Nat.mul_le_mul_right _ hil
      have e1 : l.toNat * c'.width + i * c'.width + j = (l.toNat + i) * c'.width + j := by rw [Nat.add_mul]
      rw [e1]
      rw [Nat.add_mul, Nat.one_mul] at hm
      refine ⟨.inr ⟨rfl, by rw [hn]; omega⟩, ?_⟩
      show G.w.cell? _ = _
      have hlen : (l.toNat + i) * c'.width + j < vs.length := by rw [hrows.1]; omega
      simp [World.cell?, hheap]
      rw [List.getElem?_append_left hlen]
      exact hj'
   ·exact h.elim
  ·exact h.elim
 ·exact h.elim
theorem freezeK_sound : ∀ (parts : List (Nat × SV)) {G : View} (_ : Sim G) {K : List (Nat × SV) → List AO → Prop} (_ : freezeK parts G.H K) {qs : List (Nat × Value)} (_ : All2 (PartRep G) parts qs),
  ∃ parts' G', G'.w = G.w ∧ Ext G G' ∧ Sim G' ∧ K parts' G'.H ∧ All2 (PartRep G') parts' qs := by
 intro parts
 induction parts with
 | nil =>
  intro G hS K h qs hq
  cases hq
  exact ⟨[], G, rfl, Ext.refl G, hS, h, .nil⟩
 | cons pt parts ih =>
  intro G hS K h qs hq
  obtain ⟨i, x⟩ := pt
  cases hq with
  | cons hpq ht =>
   rename_i q qs
   have mono : ∀ {G' : View} {ps : List (Nat × SV)} {qs : List (Nat × Value)}, Ext G G' → All2 (PartRep G) ps qs → All2 (PartRep G') ps qs := fun he h => h.mono fun _ _ ⟨h1, h2⟩ => ⟨h1, RepS.mono he h2⟩
   have other : freezeK parts G.H (fun r H => K ((i, x) :: r) H) → ∃ parts' G', G'.w = G.w ∧ Ext G G' ∧ Sim G' ∧ K parts' G'.H ∧ All2 (PartRep G') parts' (q :: qs) := by
    intro h
    obtain ⟨ps, G', h1, h2, h3, h4, h5⟩ := ih hS h ht
    exact ⟨_, G', h1, h2, h3, h4, .cons ⟨hpq.1, RepS.mono h2 hpq.2⟩ h5⟩
   unfold freezeK at h
   split at h
   ·rename_i id
    split at h
    ·rename_i k v es ho
     obtain ⟨hi, hx⟩ := hpq
     obtain ⟨_, h1 | ⟨k2, t2, es2, h1, hv⟩⟩ := hx
     ·rw [ho] at h1; cases h1
     ·obtain ⟨ens, clock, hb, hno, he⟩ := hS.objs id _ ho trivial
      have hlt : G.ρ id < G.w.heap.size := (Array.getElem?_eq_some_iff.1 hb).1
      have g : Upd G id (G.ρ id) (.map k v es) .dead (fun x => x = 0) G.w := ⟨ho, trivial, nR9 _, rfl, rfl, rfl, fun _ _ _ => rfl, .inr ⟨_, ho, trivial, rfl⟩, hlt, hno⟩
      have hE := Ext.upd hS g
      have hS' := Sim.upd hS g fun h => h.elim
      obtain ⟨ps, G', h1, h2, h3, h4, h5⟩ := ih hS' h (mono hE ht)
      refine ⟨_, G', h1, hE.trans h2, h3, h4, .cons ⟨hi, ?_⟩ h5⟩
      refine RepS.mono (x := .a (.c (.p (.m k v es)))) h2 ?_
      refine ⟨G.ρ id, ens, clock, by rw [hv], .inr ⟨rfl, rfl⟩, hb, ?_⟩
      exact he.mono hE.stays
    ·exact h.elim
   ·exact other h
theorem appendNew_sound {P : Program} {G : View} (hS : Sim G) {t tx ty : TypeId} {x : SV} {K : SV → List AO → Prop} (h : appendNew P t tx x G.H K) {vx : Value} (rx : RepS G x vx) :
  ∃ r G' u, (Builtin.append_ #[t, tx] ty #[.slice none 0 0, vx]).run P G.w = .ok u G'.w ∧ Ext G G' ∧ Sim G' ∧ K r G'.H ∧ RepS G' r u := by
 unfold appendNew at h
 split at h
 ·rename_i e dx hu hx
  split at h
  ·rename_i n info z c hn hi hz hc
   split at h
   ·rename_i hb
    simp only [Bool.and_eq_true, Nat.beq_eq, Nat.ble_eq] at hb
    obtain ⟨⟨⟨⟨hw, hzl⟩, hpos⟩, hby⟩, hdx⟩ := hb
    have hd : dx = .string ∨ ∃ d, dx = .slice d := by cases dx <;> simp_all
    obtain ⟨i', v0, hi', hz0, hrep, _⟩ := zeroCells_cases hz
    rw [hi] at hi'
    cases hi'
    have hzs : v0.cells.size = n := by
     have := (hrep G).length
     simp only [Array.length_toList] at this
     omega
    split at h
    ·rename_i ys hys
     obtain ⟨hbound, hK⟩ := h
     obtain ⟨us, hl, hus, hf⟩ := appended_sound (P := P) hys rx n hw
     by_cases h0 : ys.length = 0
     ·have hy0 : ys = [] := List.eq_nil_of_length_eq_zero h0
      subst hy0
      have hu0 : us = [] := List.eq_nil_of_length_eq_zero (by simpa using hus.1)
      subst hu0
      have hnb : ¬ (AO.arr e c [] 0).blocked := by simp [AO.blocked]
      have hfree : ∀ id, ¬ G.holds id G.w.heap.size := fun id h => absurd (hS.lt h) (Nat.lt_irrefl _)
      have hlast := G.obj_last G.w.heap.size (.arr e c [] 0)
      refine ⟨.a (.c (.sl G.H.length c 0 0)), G.obj G.w.heap.size (.arr e c [] 0), .slice none 0 0, ?_, Ext.obj_self G fun h => absurd h hnb, Sim.obj hS hfree fun h => absurd h hnb, hK, rfl, .inr ⟨e, [], 0, hlast.1, nR9 _, fun _ => ⟨nR9 _, .inl ⟨rfl, rfl⟩⟩⟩⟩
      exact run_append_in (P := P) (w := G.w) (t := t) (tx := tx) (ty := ty) (base := none) (sLen := 0) (sCap := 0) (w' := G.w) hd hu hx hn hl (hf _ rfl) (nR9 _) rfl
     ·have hmax : ys.length ≤ maxLen := by simp only [capBound] at hbound; simp only [maxLen]; omega
      have hrun := run_append_out (P := P) (w := G.w) (ty := ty) (base := none) (sLen := 0) (sCap := 0) (vs := []) hd hu hx hn hi hz0 hby hl (hf _ rfl) rfl (by omega) (by simpa using hbound)
      simp only [Nat.zero_add] at hrun
      have hge := grownCap_ge G.w ys.length 0 e
      have hgm := grownCap_le_maxLen G.w ys.length 0 e hmax
      have hzc : (Builtin.zeroCells v0.cells (grownCap G.w ys.length 0 e - ys.length)).size = (grownCap G.w ys.length 0 e - ys.length) * c.width := by
       rw [size_zeroCells, hzs, hw]
      generalize hcap : grownCap G.w ys.length 0 e = cap at *
      generalize hrest : Builtin.zeroCells v0.cells (cap - ys.length) = rest at *
      have harr : (([] : List Value).toArray ++ us.toArray ++ rest) = (us ++ rest.toList).toArray := by
       apply Array.ext'
       simp
      rw [harr] at hrun
      let G1 := (G.drew).push (fun _ => False) (.cells (us ++ rest.toList).toArray e)
      have s0 : Sim G.drew := hS.drew
      have e1 : Ext G G1 := (Ext.drew G).trans (Ext.push s0 _ _)
      have s1 : Sim G1 := Sim.push s0 _ _
      have hfree : ∀ id, ¬ G1.holds id G.w.heap.size := fun id h => by
       have : G.holds id G.w.heap.size := h
       exact absurd (hS.lt this) (Nat.lt_irrefl _)
      let G2 := G1.obj G.w.heap.size (.arr e c ys 0)
      have e2 : Ext G G2 := e1.obj (fun _ => nR9 _)
      have hlast := G1.obj_last G.w.heap.size (.arr e c ys 0)
      have hheap : G2.w.heap[G.w.heap.size]? = some (.cells (us ++ rest.toList).toArray e (0, 0)) := alloc_heap_new G.w.drew _
      have hρ : G2.ρ G.H.length = G.w.heap.size := hlast.2
      refine ⟨.a (.c (.sl G.H.length c 0 ys.length)), G2, .slice (some ⟨G.w.heap.size, 0, none⟩) ys.length cap, hrun, e2, ?_, hK, rfl, .inr ⟨e, ys, 0, hlast.1, nR9 _, fun _ => ⟨nR9 _, .inr ⟨by omega, cap, _, by rw [hρ], by rw [hρ]; exact hheap, hge, hgm, ?_⟩⟩⟩⟩
      ·refine Sim.obj s1 hfree fun _ => ⟨us, rest.toList, ?_, ?_, hus.mono e2.stays⟩
       ·rw [hlast.2]; exact hheap
       ·intro o ho
        rw [hlast.2] at ho
        rcases ho with ho | ⟨_, ho⟩
        ·exact absurd (hS.ilt _ _ ho) (Nat.lt_irrefl _)
        ·exact ho
      ·simp only [zS9, zP9, Array.length_toList, hus.1, hzc, ← Nat.add_mul]
       congr 1
       omega
    ·exact h.elim
   ·exact h.elim
  ·exact h.elim
 ·exact h.elim
theorem vec_cell {L : List Value} {p : Nat} {v : Value} {j : Nat} {u : Value} (hj : ¬ j = p) (h : L[j]? = some u) : (L.set p v)[j]? = some u := by
 rw [List.getElem?_set, if_neg (fun h => hj h.symm)]
 exact h
theorem splice_set {L cs : List Value} {p a : Nat} {v : Value} (h : p < a ∨ a + cs.length ≤ p) (hl : a + cs.length ≤ L.length) :
  (L.set p v).take a ++ cs ++ (L.set p v).drop (a + cs.length) = (L.take a ++ cs ++ L.drop (a + cs.length)).set p v := by
 have hta : (L.take a).length = a := by rw [List.length_take]; omega
 apply List.ext_getElem?
 intro j
 rw [List.getElem?_set]
 rcases Nat.lt_or_ge j a with h1 | h1
 ·rw [List.append_assoc, List.append_assoc, List.getElem?_append_left (by rw [List.length_take, List.length_set]; omega), List.getElem?_take, if_pos h1, List.getElem?_set]
  rw [List.getElem?_append_left (by omega), List.getElem?_take, if_pos h1]
  by_cases hp : p = j
  ·rw [if_pos hp, if_pos hp, if_pos (by omega), if_pos (by simp only [zP9, hta, List.length_drop]; omega)]
  ·rw [if_neg hp, if_neg hp]
 ·rcases Nat.lt_or_ge j (a + cs.length) with h2 | h2
  ·have key : ∀ M : List Value, M.length = L.length → (M.take a ++ cs ++ M.drop (a + cs.length))[j]? = cs[j - a]? := by
    intro M hM
    have hm : (M.take a).length = a := by rw [List.length_take]; omega
    rw [List.append_assoc, List.getElem?_append_right (by omega), hm, List.getElem?_append_left (by omega)]
   rw [key _ (List.length_set ..), key _ rfl, if_neg (by omega)]
  ·rw [List.getElem?_append_right (by simp only [zP9, List.length_take, List.length_set]; omega), List.getElem?_append_right (by simp only [zP9, hta]; omega)]
   rw [List.getElem?_drop, List.getElem?_drop, List.getElem?_set]
   simp only [zP9, List.length_take, List.length_set]
   rw [show a + cs.length + (j - (min a L.length + cs.length)) = j by omega]
   by_cases hp : p = j
   ·rw [if_pos hp, if_pos hp]
    by_cases hj : j < L.length
    ·rw [if_pos (by omega), if_pos (by simp only [List.length_drop]; omega)]
    ·rw [if_neg (by omega), if_neg (by simp only [List.length_drop]; omega)]
   ·rw [if_neg hp, if_neg hp]
theorem splice_one {L : List Value} {p : Nat} {v y : Value} (h : p < L.length) : (L.set p v).take p ++ [y] ++ (L.set p v).drop (p + 1) = L.set p y := by
 apply List.ext_getElem?
 intro j
 rw [List.getElem?_set]
 have hta : ((L.set p v).take p).length = p := by rw [List.length_take, List.length_set]; omega
 rw [List.append_assoc]
 rcases Nat.lt_trichotomy j p with h1 | h1 | h1
 ·rw [List.getElem?_append_left (by omega), List.getElem?_take, if_pos h1, List.getElem?_set, if_neg (by omega), if_neg (by omega)]
 ·subst h1
  rw [List.getElem?_append_right (by omega), hta, Nat.sub_self, if_pos rfl, if_pos h]
  rfl
 ·rw [List.getElem?_append_right (by omega), hta, if_neg (by omega)]
  obtain ⟨m, rfl⟩ : ∃ m, j = p + 1 + m := ⟨j - p - 1, by omega⟩
  rw [show p + 1 + m - p = m + 1 by omega]
  show ((L.set p v).drop (p + 1))[m]? = _
  rw [List.getElem?_drop, List.getElem?_set, if_neg (by omega)]
theorem loadVe_sound {P : Program} {G : View} (hS : Sim G) {t : TypeId} {id j l : Nat} {K : SV → List AO → Prop} (h : loadVe P t id j l G.H K) {va : Value} (ra : RepC G (.ve id j l) va) :
  ∃ r u, (Instr.loadAt t va).run P G.w = .ok u G.w ∧ K r G.H ∧ RepS G r u := by
 unfold loadVe at h
 split at h
 ·rename_i T e zs i k x ho
  obtain ⟨hjl, hva⟩ := ve_live ra ho
  obtain ⟨vs, rest, v, hh, hno, hi, hk, hx, hrows⟩ := hS.objs id _ ho trivial
  rcases h with ⟨hji, h⟩ | ⟨⟨rfl, rfl⟩, h⟩
  ·split at h
   ·rename_i a ha
    have hget : zs[j]? = some (zs.getD j e.dflt) := by simp [hjl]
    obtain ⟨us, hu, hj⟩ := hrows.2 j _ hget
    have hul := Rep.length _ _ _ hu
    obtain ⟨u, hu', hru⟩ := load_sound (P := P) (b := G.ρ id) (base := j * e.width) ha (All2.map_left (enc_rep e _ us hu)) (fun m u hm => by
     show G.w.cell? _ = _
     rw [cell_of_row G.w (G.ρ id) _ _ T (0, 0) hh]
     have h1 := hj m u hm
     have h2 := (List.getElem?_eq_some_iff.1 h1).1
     have hm' := (List.getElem?_eq_some_iff.1 hm).1
     simp only [List.getElem?_toArray]
     refine vec_cell (fun he => ?_) (by rw [List.getElem?_append_left h2, h1])
     rcases Nat.lt_or_gt_of_ne hji with h3 | h3
     ·have : (j + 1) * e.width ≤ i * e.width := Nat.mul_le_mul_right _ h3
      rw [Nat.add_mul] at this
      omega
     ·have : (i + 1) * e.width ≤ j * e.width := Nat.mul_le_mul_right _ h3
      rw [Nat.add_mul] at this
      omega)
    refine ⟨_, u, ?_, h, hru⟩
    simp [Instr.loadAt, hva, Instr.sureAddr, hu']
   ·exact h.elim
  ·split at h
   ·rename_i a ha
    have hlen : j * e.width + l < (vs ++ rest).length := by
     have h1 : (j + 1) * e.width ≤ zs.length * e.width := Nat.mul_le_mul_right _ hi
     rw [Nat.add_mul] at h1
     rw [zP9, hrows.1]
     omega
    obtain ⟨u, hu', hru⟩ := load_sound (P := P) (b := G.ρ id) (base := j * e.width + l) (vs := [v]) ha (.cons hx .nil) (fun m u hm => by
     cases m with
     | succ m => cases hm
     | zero =>
      cases hm
      show G.w.cell? _ = _
      rw [cell_of_row G.w (G.ρ id) _ _ T (0, 0) hh]
      simp only [List.getElem?_toArray, Nat.add_zero]
      rw [List.getElem?_set, if_pos rfl, if_pos hlen])
    refine ⟨_, u, ?_, h, hru⟩
    rw [Nat.add_zero] at hu'
    simp [Instr.loadAt, hva, Instr.sureAddr, hu']
   ·exact h.elim
 ·exact h.elim
theorem storeVe_sound {P : Program} {G : View} (hS : Sim G) {t : TypeId} {id j l : Nat} {x : SV} {K : SV → List AO → Prop} (h : storeVe P t id j l x G.H K) {va vx : Value} (ra : RepC G (.ve id j l) va) (rx : RepS G x vx) :
  ∃ G', (Instr.storeAt t va vx).run P G.w = .ok () G'.w ∧ Ext G G' ∧ Sim G' ∧ K .none G'.H := by
 unfold storeVe at h
 split at h
 ·rename_i v n T e zs i k y hn ho
  obtain ⟨hjl, hva⟩ := ve_live ra ho
  obtain ⟨vs, rest, w0, hh, hno, hi, hk, hy, hrows⟩ := hS.objs id _ ho trivial
  have hv := AV.cells_rep' rx
  have hiw : (i + 1) * e.width ≤ zs.length * e.width := Nat.mul_le_mul_right _ hi
  have hjw : (j + 1) * e.width ≤ zs.length * e.width := Nat.mul_le_mul_right _ hjl
  rw [Nat.add_mul, Nat.one_mul] at hiw hjw
  have fin : ∀ (zs' : List e.den) (x' : AC) (w1 : Value) (vs' : List Value), zs'.length = zs.length → vs'.length = vs.length → Rows G.I G.w e zs' vs' → RepC G x' w1 →
    (((vs ++ rest).set (i * e.width + k) w0).take (j * e.width + l) ++ vx.cells.toList ++ ((vs ++ rest).set (i * e.width + k) w0).drop (j * e.width + l + vx.cells.toList.length)) = (vs' ++ rest).set (i * e.width + k) w1 →
    vx.cells.size = n → l + n ≤ e.width → K .none (G.H.set id (.vec T e zs' i k x')) →
    ∃ G', (Instr.storeAt t va vx).run P G.w = .ok () G'.w ∧ Ext G G' ∧ Sim G' ∧ K .none G'.H := by
   intro zs' x' w1 vs' hzl hvl hr' hx' hnew hsz hln hK
   have hcurl : (j * e.width + l) + vx.cells.toList.length ≤ ((vs ++ rest).set (i * e.width + k) w0).toArray.size := by
    simp only [zS9, List.length_set, zP9, hrows.1, Array.length_toList]
    omega
   have hrun := run_storeCells_at P (G.ρ id) (j * e.width + l) T vx.cells.toList 0 ((vs ++ rest).set (i * e.width + k) w0).toArray G.w hh (by simpa using hcurl) (all_oneCell hv)
   simp only [Nat.add_zero] at hrun
   rw [hnew] at hrun
   have hw' := setRow_heap G.w (G.ρ id) ((vs ++ rest).set (i * e.width + k) w0).toArray ((vs' ++ rest).set (i * e.width + k) w1).toArray T (0, 0) hh
   let w' := G.w.setRow (G.ρ id) ((vs' ++ rest).set (i * e.width + k) w1).toArray
   have hρ : (G.upd id (G.ρ id) (.vec T e zs' i k x') (fun _ => False) w').ρ id = G.ρ id := by rw [View.upd_ρ, if_pos rfl]
   have g : Upd G id (G.ρ id) (.vec T e zs i k y) (.vec T e zs' i k x') (fun _ => False) w' :=
    ⟨ho, ⟨rfl, rfl, hzl, hρ⟩, by simp [w'], rfl, rfl, rfl, fun k _ hk => setRow_other _ _ _ _ hk, .inr ⟨_, ho, trivial, rfl⟩, (Array.getElem?_eq_some_iff.1 hw').1, hno⟩
   have he := Ext.upd hS g
   refine ⟨_, ?_, he, Sim.upd hS g fun _ => ⟨vs', rest, w1, by rw [hρ]; exact hw', ?_, by omega, hk, RepC.mono he hx', hr'.mono he.stays⟩, hK⟩
   ·simp [Instr.storeAt, hva, Instr.sureAddr, storeVar, rS9 hn, hsz]
    exact hrun
   ·intro o hI
    rw [hρ] at hI
    rcases hI with hI | ⟨_, hI⟩
    ·exact hno o hI
    ·exact hI
  rcases h with ⟨hji, h⟩ | ⟨⟨rfl, rfl, rfl⟩, h⟩
  ·split at h
   ·rename_i ps hps
    split at h
    ·rename_i hb
     simp only [Bool.and_eq_true, Nat.beq_eq, Nat.ble_eq] at hb
     obtain ⟨hpl, hkn⟩ := hb
     split at h
     ·rename_i z hz
      have hget : zs[j]? = some (zs.getD j e.dflt) := by simp [hjl]
      obtain ⟨us, hu, hj⟩ := hrows.2 j _ hget
      have hul := Rep.length _ _ _ hu
      have hpv := pureCells_sound _ _ _ hps hv
      have hlv := hpv.length
      simp only [Array.length_toList] at hlv
      have henc := enc_rep e _ us hu
      have hall := ((henc.take l).append hpv).append (henc.drop (l + n))
      obtain ⟨xs, ys, h1, h2, h3⟩ := dec_rep e _ z [] _ hall hz
      cases h3
      simp only [List.append_nil] at h1
      have hxl := Rep.length _ _ _ h2
      have hcl : vx.cells.toList.length = n := by simp; omega
      have hsl : us = (vs.drop (j * e.width)).take e.width := by
       apply List.ext_getElem?
       intro m
       rcases Nat.lt_or_ge m us.length with hlt | hge
       ·obtain ⟨u, hu'⟩ : ∃ u, us[m]? = some u := ⟨us[m], List.getElem?_eq_getElem hlt⟩
        rw [hu', List.getElem?_take, if_pos (by omega), List.getElem?_drop, hj m u hu']
       ·rw [List.getElem?_eq_none hge, List.getElem?_eq_none (by rw [List.length_take]; omega)]
      have hvl := hrows.1
      have hnew : (vs ++ rest).take (j * e.width + l) ++ vx.cells.toList ++ (vs ++ rest).drop (j * e.width + l + vx.cells.toList.length) =
        (vs.take (j * e.width) ++ xs ++ vs.drop ((j + 1) * e.width)) ++ rest := by
       rw [hcl]
       have e1 : (vs ++ rest).take (j * e.width + l) = vs.take (j * e.width) ++ us.take l := by
        rw [List.take_append_of_le_length (by omega), List.take_add, hsl, List.take_take, Nat.min_eq_left (by omega)]
       have e2 : (vs ++ rest).drop (j * e.width + l + n) = us.drop (l + n) ++ vs.drop ((j + 1) * e.width) ++ rest := by
        rw [List.drop_append_of_le_length (by omega)]
        congr 1
        have e3 : vs.drop (j * e.width + l + n) = (vs.drop (j * e.width)).drop (l + n) := by rw [List.drop_drop]; congr 1; omega
        have e4 : vs.drop (j * e.width) = us ++ vs.drop ((j + 1) * e.width) := by
         rw [hsl, Nat.add_mul, Nat.one_mul, ← List.drop_drop, List.take_append_drop]
        rw [e3, e4, List.drop_append_of_le_length (by omega)]
       rw [e1, e2, ← h1]
       simp only [List.append_assoc]
      refine fin (zs.set j z) y w0 (vs.take (j * e.width) ++ xs ++ vs.drop ((j + 1) * e.width)) (by simp) ?_ (hrows.set hjl h2) hy ?_ (by simpa using hcl) hkn h
      ·simp only [zP9, List.length_take, List.length_drop, hxl, hvl]
       rw [Nat.add_mul, Nat.one_mul]
       omega
      ·rw [splice_set ?_ (by rw [zP9, hcl]; omega), hnew]
       rw [hcl]
       rcases Nat.lt_or_gt_of_ne hji with h4 | h4
       ·have : (j + 1) * e.width ≤ i * e.width := Nat.mul_le_mul_right _ h4
        rw [Nat.add_mul] at this
        omega
       ·have : (i + 1) * e.width ≤ j * e.width := Nat.mul_le_mul_right _ h4
        rw [Nat.add_mul] at this
        omega
     ·exact h.elim
    ·exact h.elim
   ·exact h.elim
  ·split at h
   ·rename_i z
    have hone : vx.cells.toList = [vx] := by
     have hz : RepC G z vx := rx
     have this := RepC.oneCell hz
     have hc : vx.cells = #[vx] := by cases vx <;> first | rfl | simp [Value.oneCell'] at this
     rw [hc]
    have hlen : j * e.width + l < (vs ++ rest).length := by
     rw [zP9, hrows.1]
     omega
    refine fin zs z vx vs rfl rfl hrows rx ?_ (by have := congrArg List.length hone; simpa using this) (by omega) h
    rw [hone]
    exact splice_one hlen
   ·exact h.elim
 ·exact h.elim
theorem appendVec_sound {P : Program} {G : View} (hS : Sim G) {t tx ty : TypeId} {x : SV} {K : SV → List AO → Prop} (h : appendVec P t tx x G.H K) {vx : Value} (rx : RepS G x vx) :
  ∃ r G' u, (Builtin.append_ #[t, tx] ty #[.slice none 0 0, vx]).run P G.w = .ok u G'.w ∧ Ext G G' ∧ Sim G' ∧ K r G'.H ∧ RepS G' r u := by
 unfold appendVec at h
 split at h
 ·rename_i e dx hu hx
  split at h
  ·rename_i n info z c hn hi hz hc
   split at h
   ·rename_i hb
    simp only [Bool.and_eq_true, Nat.beq_eq, Nat.ble_eq] at hb
    obtain ⟨⟨⟨⟨hw, hzl⟩, hpos⟩, hby⟩, hdx⟩ := hb
    have hd : dx = .string ∨ ∃ d, dx = .slice d := by cases dx <;> simp_all
    obtain ⟨i', v0, hi', hz0, hrep, _⟩ := zeroCells_cases hz
    rw [hi] at hi'
    cases hi'
    have hzs : v0.cells.size = n := by
     have := (hrep G).length
     simp only [Array.length_toList] at this
     omega
    split at h
    ·rename_i ys hys
     obtain ⟨hbound, i, k, y, hil, hy, hK⟩ := h
     obtain ⟨us, hl, hus, hf⟩ := appended_sound (P := P) hys rx n hw
     have hmax : ys.length ≤ maxLen := by simp only [capBound] at hbound; simp only [maxLen]; omega
     have hrun := run_append_out (P := P) (w := G.w) (ty := ty) (base := none) (sLen := 0) (sCap := 0) (vs := []) hd hu hx hn hi hz0 hby hl (hf _ rfl) rfl (by omega) (by simpa using hbound)
     simp only [Nat.zero_add] at hrun
     have hge := grownCap_ge G.w ys.length 0 e
     generalize hcap : grownCap G.w ys.length 0 e = cap at *
     generalize hrest : Builtin.zeroCells v0.cells (cap - ys.length) = rest at *
     have hget : ys[i]? = some (ys.getD i c.dflt) := by simp [hil]
     obtain ⟨ws, hws, hwj⟩ := hus.2 i _ hget
     have hwl := Rep.length _ _ _ hws
     have henc := enc_rep c _ ws hws
     obtain ⟨q, hq, hyq⟩ := henc.get hy
     have hkw : k < c.width := by rw [← hwl]; exact (List.getElem?_eq_some_iff.1 hq).1
     have hp := hwj k q hq
     have hpl := (List.getElem?_eq_some_iff.1 hp).1
     have harr : (([] : List Value).toArray ++ us.toArray ++ rest) = ((us ++ rest.toList).set (i * c.width + k) q).toArray := by
      apply Array.ext'
      have : (us ++ rest.toList).set (i * c.width + k) q = us ++ rest.toList := by
       apply List.ext_getElem?
       intro m
       rw [List.getElem?_set]
       split
       ·rename_i hm
        subst hm
        rw [if_pos (by rw [zP9]; omega), List.getElem?_append_left hpl, hp]
       ·rfl
      rw [this]
      simp
     rw [harr] at hrun
     let G1 := (G.drew).push (fun _ => False) (.cells ((us ++ rest.toList).set (i * c.width + k) q).toArray e)
     have s0 : Sim G.drew := hS.drew
     have e1 : Ext G G1 := (Ext.drew G).trans (Ext.push s0 _ _)
     have s1 : Sim G1 := Sim.push s0 _ _
     have hfree : ∀ id, ¬ G1.holds id G.w.heap.size := fun id h => by
      have : G.holds id G.w.heap.size := h
      exact absurd (hS.lt this) (Nat.lt_irrefl _)
     let G2 := G1.obj G.w.heap.size (.vec e c ys i k (.p y))
     have e2 : Ext G G2 := e1.obj (fun _ => nR9 _)
     have hlast := G1.obj_last G.w.heap.size (.vec e c ys i k (.p y))
     have hheap : G2.w.heap[G.w.heap.size]? = some (.cells ((us ++ rest.toList).set (i * c.width + k) q).toArray e (0, 0)) := alloc_heap_new G.w.drew _
     have hρ : G2.ρ G.H.length = G.w.heap.size := hlast.2
     refine ⟨.a (.c (.vs G.H.length ys.length)), G2, .slice (some ⟨G.w.heap.size, 0, none⟩) ys.length cap, hrun, e2, ?_, hK, rfl, .inr ⟨e, c, ys, i, k, _, hlast.1, nR9 _, cap, by rw [hρ], hge⟩⟩
     refine Sim.obj s1 hfree fun _ => ⟨us, rest.toList, q, ?_, ?_, hil, hkw, RepV.mono e2.stays hyq, hus.mono e2.stays⟩
     ·rw [hlast.2]; exact hheap
     ·intro o ho
      rw [hlast.2] at ho
      rcases ho with ho | ⟨_, ho⟩
      ·exact absurd (hS.ilt _ _ ho) (Nat.lt_irrefl _)
      ·exact ho
    ·exact h.elim
   ·exact h.elim
  ·exact h.elim
 ·exact h.elim
theorem makeSl_sound {P : Program} {G : View} (hS : Sim G) {t : TypeId} {l c : SV} {K : SV → List AO → Prop} (h : makeSl P t l c G.H K) {vl vc : Value} (rl : RepS G l vl) (rc : RepS G c vc) :
  ∃ r G' u, (Instr.makeSlice t vl vc).run P G.w = .ok u G'.w ∧ Ext G G' ∧ Sim G' ∧ K r G'.H ∧ RepS G' r u := by
 unfold makeSl at h
 split at h
 ·rename_i e kl n kc m hu
  split at h
  ·rename_i i k z hi hz
   split at h
   ·rename_i hb
    simp only [Bool.and_eq_true, Nat.beq_eq, Nat.ble_eq, decide_eq_true_eq] at hb
    obtain ⟨⟨hsz, hby⟩, rfl⟩ := hb
    obtain ⟨⟨rfl, h0, h1⟩, hK⟩ := h
    obtain ⟨_, rfl⟩ : _ ∧ vl = .int kl m := rl
    obtain ⟨_, rfl⟩ : _ ∧ vc = .int kc m := rc
    obtain ⟨i', v, hi', hzv, hrep, _⟩ := zeroCells_cases hz
    rw [hi] at hi'
    cases hi'
    have hv : v.cells.toList = [.int k 0] := by
     have := hrep G
     generalize v.cells.toList = L at this
     cases this with
     | cons h1 h2 =>
      cases h2
      obtain ⟨_, rfl⟩ := h1
      rfl
    obtain ⟨q, rfl⟩ : ∃ q : Nat, m = q := ⟨m.toNat, by omega⟩
    have hrun := run_make (P := P) G.w t e i v hu hi hzv kl kc q q (by omega) (Int.le_refl _) (by
     have : i.bytes * q ≤ 100 * 1000000 := Nat.mul_le_mul hby (by omega)
     have h2 : ((i.bytes * q : Nat) : Int) ≤ 281474976710656 := by omega
     rwa [Int.natCast_mul] at h2) (by omega)
    rw [hsz, Nat.mul_one] at hrun
    simp only [Int.toNat_natCast] at hrun hK
    have hcells : (madeCells v.cells q).toList = List.replicate q (.int k 0) := by
     have hvs : v.cells = #[.int k 0] := by
      apply Array.ext'
      exact hv
     rw [hvs]
     apply List.ext_getElem
     ·simp [madeCells]
     ·intro j h1 h2
      simp [madeCells, Nat.mod_one]
    let G1 := G.push (fun _ => False) (.cells (madeCells v.cells q) e)
    have e1 : Ext G G1 := Ext.push hS _ _
    have s1 : Sim G1 := Sim.push hS _ _
    have hfree : ∀ id, ¬ G1.holds id G.w.heap.size := fun id h => by
     have : G.holds id G.w.heap.size := h
     exact absurd (hS.lt this) (Nat.lt_irrefl _)
    let zs : List (CT.int k).den := List.replicate q (0 : Int)
    let G2 := G1.obj G.w.heap.size (.arr e (.int k) zs 0)
    have e2 : Ext G G2 := e1.obj (fun _ => nR9 _)
    have hlast := G1.obj_last G.w.heap.size (.arr e (.int k) zs 0)
    have hzl : zs.length = q := List.length_replicate ..
    have hrows : Rows G2.I G2.w (.int k) zs (madeCells v.cells q).toList := by
     rw [hcells]
     refine ⟨by rw [hzl, List.length_replicate]; exact (Nat.mul_one q).symm, fun j z hj => ?_⟩
     have hj' : (List.replicate q (0 : Int))[j]? = some z := hj
     rw [List.getElem?_replicate] at hj'
     split at hj'
     ·rename_i hjq
      cases hj'
      refine ⟨[.int k 0], rfl, fun a u ha => ?_⟩
      cases a with
      | zero =>
       cases ha
       rw [Nat.add_zero, show j * CT.width (.int k) = j from Nat.mul_one j, List.getElem?_replicate, if_pos hjq]
      | succ a => cases ha
     ·cases hj'
    have hheap : G2.w.heap[G.w.heap.size]? = some (.cells (madeCells v.cells q) e (0, 0)) := alloc_heap_new _ _
    refine ⟨_, G2, _, hrun, e2, ?_, hK, rfl, .inr ⟨e, zs, 0, hlast.1, nR9 _, fun _ => ⟨by rw [hzl]; exact nR9 _, .inr ⟨by omega, q, madeCells v.cells q, ?_, ?_, ?_, ?_, ?_⟩⟩⟩⟩
    ·refine Sim.obj s1 hfree fun _ => ⟨(madeCells v.cells q).toList, [], ?_, ?_, hrows⟩
     ·rw [hlast.2]
      rw [List.append_nil, Array.toArray_toList]
      exact hheap
     ·intro o ho
      rw [hlast.2] at ho
      rcases ho with ho | ⟨_, ho⟩
      ·exact absurd (hS.ilt _ _ ho) (Nat.lt_irrefl _)
      ·exact ho
    ·have : G2.ρ G.H.length = G.w.heap.size := hlast.2
     rw [this]
    ·have : G2.ρ G.H.length = G.w.heap.size := hlast.2
     rw [this]
     exact hheap
    ·rw [hzl]
     exact nR9 _
    ·simp only [maxLen]; omega
    ·rw [size_madeCells]; exact (Nat.mul_one q).symm
   ·exact h.elim
  ·exact h.elim
 ·exact h.elim
end Go.Ab
