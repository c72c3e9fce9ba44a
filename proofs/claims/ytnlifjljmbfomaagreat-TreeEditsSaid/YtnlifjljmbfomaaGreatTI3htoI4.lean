/- Arrays that grow, in which one cell of one element is a slice of one's own: the machine's operations are the model's. -/
import Derived.Test.YtnlifjljmbfomaaGreatTI3g
namespace Go.Ab
set_option linter.unusedSectionVars false
variable [Base]
theorem appendFe_sound {P : Program} {G : View} (hS : Sim G) {t tx ty : TypeId} {c : CT} {zs : List c.den} {x : SV} {K : SV → List AO → Prop} (h : appendFe P t tx c zs x G.H K) {vs vx : Value} (rs : RepC G (.fl c zs) vs) (rx : RepS G x vx) :
  ∃ r G' u, (Builtin.append_ #[t, tx] ty #[vs, vx]).run P G.w = .ok u G'.w ∧ Ext G G' ∧ Sim G' ∧ K r G'.H ∧ RepS G' r u := by
 unfold appendFe at h
 split at h
 ·rename_i e dx hu hx
  split at h
  ·rename_i n hn
   split at h
   ·rename_i hb
    simp only [Bool.and_eq_true, Nat.beq_eq] at hb
    obtain ⟨hw, hdx⟩ := hb
    have hd : dx = .string ∨ ∃ d, dx = .slice d := by cases dx <;> simp_all
    split at h
    ·rename_i ys hys
     obtain ⟨rfl, hK⟩ := h
     obtain ⟨us, hl, hus, hf⟩ := appended_sound (P := P) hys rx n hw
     have hu0 : us = [] := List.eq_nil_of_length_eq_zero (by simpa using hus.1)
     subst hu0
     obtain ⟨hrp, base, rfl⟩ := rs
     refine ⟨.a (.c (.fl c zs)), G, .slice base zs.length zs.length, ?_, Ext.refl G, hS, hK, hrp, base, rfl⟩
     exact run_append_in (P := P) (w := G.w) (t := t) (tx := tx) (ty := ty) (base := base) (sLen := zs.length) (sCap := zs.length) (w' := G.w) hd hu hx hn hl (hf _ rfl) (nR9 _) (by
      cases base with
      | none => rfl
      | some a => rfl)
    ·exact h.elim
   ·exact h.elim
  ·exact h.elim
 ·exact h.elim
theorem holeAt_lt : ∀ (cs : List AC) (i : Nat) {k : Nat}, holeAt cs i = some k → i ≤ k ∧ k < i + cs.length := by
 intro cs
 induction cs with
 | nil => intro i k h; cases h
 | cons x r ih =>
  intro i k h
  simp only [holeAt] at h
  split at h
  ·cases h; simp
  ·cases h; simp
  ·have := ih (i + 1) h
   simp only [zC9]
   omega
theorem buildV_sound {P : Program} {G : View} (hS : Sim G) {t : TypeId} {parts : List (Nat × SV)} {K : SV → List AO → Prop} (h : buildV P t parts G.H K)
  {qs : Array (Nat × Value)} (hq : All2 (PartRep G) parts qs.toList) :
  ∃ r G' u, (Instr.buildSlice t 1 qs).run P G.w = .ok u G'.w ∧ Ext G G' ∧ Sim G' ∧ K r G'.H ∧ RepS G' r u := by
 unfold buildV at h
 split at h
 ·rename_i e hu
  split at h
  ·rename_i c n z hc hn hz
   split at h
   ·rename_i hb
    simp only [Bool.and_eq_true, Nat.beq_eq, Nat.ble_eq] at hb
    obtain ⟨⟨⟨hw, hzl⟩, hpos⟩, hlim⟩ := hb
    split at h
    ·rename_i cs hcs
     split at h
     ·rename_i k hk
      split at h
      ·rename_i x ps hx hps
       split at h
       ·rename_i zs hzs
        obtain ⟨i, v, hi, hzv, hrep, _⟩ := zeroCells_cases hz
        have hrl := (hrep G).length
        simp only [Array.length_toList] at hrl
        obtain ⟨vcs, hf, hr⟩ := fillA_sound parts (repeatCells z 1) cs _ qs.toList hcs (zeros_rep (hrep G) (by omega) 1 (1 * n) (by rw [hzl])) hq
        have hlz : (repeatCells z 1).length = n := by
         show (z ++ []).length = n
         rw [List.append_nil, hzl]
        have hcl : cs.length = n := by
         have : ∀ (parts : List (Nat × SV)) (cells cs : List AC), fillA (fun i => some (i * n, n)) cells parts = some cs → cs.length = cells.length := by
          intro parts
          induction parts with
          | nil => intro cells cs h; simp only [fillA] at h; cases h; rfl
          | cons p parts ih =>
           intro cells cs h
           simp only [fillA] at h
           split at h
           ·rename_i off size v hpl
            split at h
            ·rename_i hb
             split at h
             ·rename_i cs0 hset
              obtain ⟨hb2, rfl⟩ := setCells_eq hset
              rw [ih _ _ h]
              simp
              omega
             ·cases h
            ·cases h
           ·cases h
         rw [this _ _ _ hcs, hlz]
        have hvl : vcs.toList.length = n := by rw [← hr.length, hcl]
        have hkn : k < n := by have := (holeAt_lt cs 0 hk).2; omega
        obtain ⟨y, hy, hyr⟩ := hr.get hx
        have hset : All2 (RepC G) (cs.set k (.p (.v (.slice none 0 0)))) (vcs.toList.set k (.slice none 0 0)) := hr.set k ⟨rfl, rfl⟩
        have hpv := pureCells_sound _ ps _ hps hset
        have hpl : ps.length = 1 * c.width := by
         rw [hpv.length, List.length_set, hvl]
         omega
        obtain ⟨hrows, hlen⟩ := rowsOf_sound 1 ps zs _ hzs hpl hpv
        let G1 := G.push (fun _ => False) (.cells vcs e)
        have e1 : Ext G G1 := Ext.push hS _ _
        have s1 : Sim G1 := Sim.push hS _ _
        have hfree : ∀ id, ¬ G1.holds id G.w.heap.size := fun id h => by
         have : G.holds id G.w.heap.size := h
         exact absurd (hS.lt this) (Nat.lt_irrefl _)
        let G2 := G1.obj G.w.heap.size (.vec e c zs 0 k x)
        have e2 : Ext G G2 := e1.obj (fun _ => nR9 _)
        have hlast := G1.obj_last G.w.heap.size (.vec e c zs 0 k x)
        have hheap : G2.w.heap[G.w.heap.size]? = some (.cells vcs e (0, 0)) := alloc_heap_new _ _
        have hρ : G2.ρ G.H.length = G.w.heap.size := hlast.2
        have hback : ((vcs.toList.set k (.slice none 0 0) ++ ([] : List Value)).set (0 * c.width + k) y).toArray = vcs := by
         rw [List.append_nil, Nat.zero_mul, Nat.zero_add, List.set_set]
         have : vcs.toList.set k y = vcs.toList := by
          apply List.ext_getElem?
          intro m
          rw [List.getElem?_set]
          split
          ·rename_i hm
           subst hm
           rw [if_pos (by omega), hy]
          ·rfl
         rw [this]
        refine ⟨.a (.c (.vs G.H.length 1)), G2, .slice (some ⟨G.w.heap.size, 0, none⟩) 1 1, ?_, e2, ?_, h, rfl, .inr ⟨e, c, zs, 0, k, x, hlast.1, by rw [hlen]; exact nR9 _, 1, by rw [hρ], by rw [hlen]; exact nR9 _⟩⟩
        ·have hlim' : ¬ 1 * n > 2 ^ 24 := by omega
         have h0 : ¬ 1 * n = 0 := by omega
         simp only [Instr.buildSlice, Sem.run_bind, rU9 hu, Result.andThen_ok, rS9 hn, if_neg hlim', if_neg h0, run_zeroValue' hi hzv, Sem.run_pure]
         simp only [Nat.one_mul] at hf
         simp [hf, newRow]
         rfl
        ·refine Sim.obj s1 hfree fun _ => ⟨vcs.toList.set k (.slice none 0 0), [], y, ?_, ?_, by rw [hlen]; exact nS9 0, by omega, RepC.mono e2 hyr, hrows.mono e2.stays⟩
         ·rw [hlast.2, hback]; exact hheap
         ·intro o ho
          rw [hlast.2] at ho
          rcases ho with ho | ⟨_, ho⟩
          ·exact absurd (hS.ilt _ _ ho) (Nat.lt_irrefl _)
          ·exact ho
       ·exact h.elim
      ·exact h.elim
     ·exact h.elim
    ·exact h.elim
   ·exact h.elim
  ·exact h.elim
 ·exact h.elim
theorem buildS_sound {P : Program} {G : View} (hS : Sim G) {t : TypeId} {len : Nat} {parts : List (Nat × SV)} {K : SV → List AO → Prop} (h : buildS P t len parts G.H K)
  {qs : Array (Nat × Value)} (hq : All2 (PartRep G) parts qs.toList) :
  ∃ r G' u, (Instr.buildSlice t len qs).run P G.w = .ok u G'.w ∧ Ext G G' ∧ Sim G' ∧ K r G'.H ∧ RepS G' r u := by
 unfold buildS at h
 split at h
 ·split at h
  ·rcases h with h | h
   ·exact buildSliceA_sound hS h hq
   ·exact buildFl_sound hS h hq
  ·exact buildSliceA_sound hS h hq
 ·split at h
  ·rcases h with h | h
   ·exact buildSliceA_sound hS h hq
   ·exact buildV_sound hS h hq
  ·exact buildSliceA_sound hS h hq
 ·exact buildSliceA_sound hS h hq
theorem vec_one {P : Program} {G : View} (hS : Sim G) {id len : Nat} {v : Value} {t : TypeId} {c : CT} {zs : List c.den} {k : Nat} {y : AC} (hr : RepC G (.vs id len) v) (ho : G.H[id]? = some (.vec t c zs 0 k y)) (hl1 : zs.length = 1) (hlen : len = 1) {n : Nat} (hw : n = c.width) :
  ∃ (us : List Value) (w : Value), (Builtin.lenOf v).run P G.w = .ok 1 G.w ∧ (∀ w' : World, w'.heap = G.w.heap → (Builtin.firstCells n 1 v).run P w' = .ok (us.set k w).toArray w') ∧ RepC G y w ∧ Rows G.I G.w c zs us ∧ us.length = c.width ∧ k < c.width ∧ ∀ u ∈ us.set k w, u.oneCell' = true := by
 subst hlen
 obtain ⟨_, cap, rfl, hcap⟩ := vs_live hr ho
 obtain ⟨vs, rest, w, hh, hno, hi, hk, hy, hrows⟩ := hS.objs id _ ho trivial
 have hvl : vs.length = c.width := by rw [hrows.1, hl1, Nat.one_mul]
 rw [Nat.zero_mul, Nat.zero_add, List.set_append_left _ _ (by omega)] at hh
 refine ⟨vs, w, rfl, fun w' hw' => ?_, hy, hrows, hvl, hk, fun u hu => ?_⟩
 ·refine run_firstCells_some w' n 1 ⟨G.ρ id, 0, none⟩ _ _ _ (by rw [List.length_set, hvl, hw, Nat.one_mul]) fun j u hj => ?_
  rw [addr_add]
  have h2 : w'.heap[G.ρ id]? = some (.cells (vs.set k w ++ rest).toArray t (0, 0)) := by rw [hw']; exact hh
  simp only [Nat.zero_add]
  rw [cell_of_row w' (G.ρ id) j _ t (0, 0) h2]
  simp only [List.getElem?_toArray]
  rw [List.getElem?_append_left (List.getElem?_eq_some_iff.1 hj).1]
  exact hj
 ·rcases List.mem_or_eq_of_mem_set hu with h | h
  ·exact hrows.oneCell u h
  ·rw [h]; exact hy.oneCell
theorem g_grown2 {P : Program} {G : View} (hS : Sim G) {id : Nat} {t : TypeId} {c : CT} {zs zs' : List c.den} {i k i' k' ver : Nat} {x x' : AC} (ho : G.H[id]? = some (.gvec t c zs i k x ver)) {b cap : Nat} {w' : World} {vs rest : List Value} (hvs : Rows G.I G.w c zs' vs) {v' : Value}
  (hi' : i' < zs'.length) (hk' : k' < c.width) (hx' : RepC G x' v')
  (hsize : G.w.heap.size ≤ w'.heap.size) (hos : w'.os = G.w.os) (htape : w'.tape = G.w.tape) (hout : w'.output = G.w.output) (hrest : ∀ k, k < G.w.heap.size → k ≠ b → w'.heap[k]? = G.w.heap[k]?)
  (hb : G.w.heap.size ≤ b ∨ G.holds id b) (hh : w'.heap[b]? = some (.cells ((vs ++ rest).set (i' * c.width + k') v').toArray t (0, 0))) (hcap : zs'.length ≤ cap) (hcm : cap ≤ maxLen) (hsz : (vs ++ rest).length = cap * c.width) {m : Sem Value}
  (hrun : m.run P G.w = .ok (.slice (some ⟨b, 0, none⟩) zs'.length cap) w') :
  ∃ G' u, m.run P G.w = .ok u G'.w ∧ Ext G G' ∧ Sim G' ∧ G'.H = G.H.set id (.gvec t c zs' i' k' x' (ver + 1)) ∧ RepC G' (.gs id (ver + 1) zs'.length) u := by
 have hno : ∀ x, ¬ G.I b x := by
  intro x hx
  rcases hb with h | ⟨o, h1, h2, h3⟩
  ·exact absurd (hS.ilt _ _ hx) (Nat.not_lt.2 h)
  ·rw [ho] at h1
   cases h1
   obtain ⟨_, _, _, _, h4, _⟩ := hS.objs id _ ho h2
   exact h4 x (h3 ▸ hx)
 have g : Upd G id b (.gvec t c zs i k x ver) (.gvec t c zs' i' k' x' (ver + 1)) (fun _ => False) w' :=
  ⟨ho, ⟨rfl, rfl, Nat.le_succ _, fun h => absurd h (by omega)⟩, hsize, hos, htape, hout, hrest, hb, (Array.getElem?_eq_some_iff.1 hh).1, hno⟩
 have he := Ext.upd hS g
 have hρ : (G.upd id b (.gvec t c zs' i' k' x' (ver + 1)) (fun _ => False) w').ρ id = b := by rw [View.upd_ρ, if_pos rfl]
 refine ⟨_, _, hrun, he, Sim.upd hS g fun _ => ⟨vs, rest, v', by rw [hρ]; exact hh, ?_, hi', hk', RepC.mono he hx', hvs.mono he.stays⟩, rfl, rfl, .inr ⟨t, c, zs', i', k', x', ver + 1, ?_, nR9 _, fun _ => ⟨rfl, cap, _, by rw [hρ], by rw [hρ]; exact hh, hcap, hcm, by simpa using hsz⟩⟩⟩
 ·intro o hI
  rw [hρ] at hI
  rcases hI with hI | ⟨_, hI⟩
  ·exact hno o hI
  ·exact hI
 ·rw [View.upd_get ho]; simp
theorem appendGv0_sound {P : Program} {G : View} (hS : Sim G) {t tx ty : TypeId} {id2 len : Nat} {K : SV → List AO → Prop} (h : appendGv0 P t tx id2 len G.H K) {vx : Value} (rx : RepC G (.vs id2 len) vx) :
  ∃ r G' u, (Builtin.append_ #[t, tx] ty #[.slice none 0 0, vx]).run P G.w = .ok u G'.w ∧ Ext G G' ∧ Sim G' ∧ K r G'.H ∧ RepS G' r u := by
 unfold appendGv0 at h
 split at h
 ·rename_i e dx e2 c zs i k y hu hx ho
  split at h
  ·rename_i n info z hn hi hz
   split at h
   ·rename_i hb
    simp only [Bool.and_eq_true, Nat.beq_eq, Nat.ble_eq] at hb
    obtain ⟨⟨⟨⟨⟨⟨⟨⟨hw, hzl⟩, hpos⟩, hby⟩, hde⟩, hi0⟩, hl1⟩, hlen⟩, hdx⟩ := hb
    have hde : e2 = e := by simpa using hde
    subst hde
    subst hi0
    have hd : dx = .string ∨ ∃ d, dx = .slice d := by cases dx <;> simp_all
    obtain ⟨i', v0, hi', hz0, hrep, _⟩ := zeroCells_cases hz
    rw [hi] at hi'
    cases hi'
    have hzs : v0.cells.size = n := by
     have := (hrep G).length
     simp only [Array.length_toList] at this
     omega
    obtain ⟨vs, w, hl, hf, hy, hrows, hvl, hk, _⟩ := vec_one (P := P) hS rx ho hl1 hlen hw
    have hrun := run_append_out (P := P) (w := G.w) (ty := ty) (base := none) (sLen := 0) (sCap := 0) (vs := []) hd hu hx hn hi hz0 hby hl (hf _ rfl) rfl (by omega) (by simp [capBound])
    simp only [Nat.zero_add] at hrun
    have hge := grownCap_ge G.w 1 0 e2
    have hgm := grownCap_le_maxLen G.w 1 0 e2 (by simp [maxLen])
    have hzc : (Builtin.zeroCells v0.cells (grownCap G.w 1 0 e2 - 1)).size = (grownCap G.w 1 0 e2 - 1) * c.width := by
     rw [size_zeroCells, hzs, hw]
    generalize hcap : grownCap G.w 1 0 e2 = cap at *
    generalize hrest : Builtin.zeroCells v0.cells (cap - 1) = rest at *
    have harr : (([] : List Value).toArray ++ (vs.set k w).toArray ++ rest) = ((vs ++ rest.toList).set (0 * c.width + k) w).toArray := by
     apply Array.ext'
     rw [Nat.zero_mul, Nat.zero_add, List.set_append_left _ _ (by omega)]
     simp
    rw [harr] at hrun
    let G1 := (G.drew).push (fun _ => False) (.cells ((vs ++ rest.toList).set (0 * c.width + k) w).toArray e2)
    have s0 : Sim G.drew := hS.drew
    have e1 : Ext G G1 := (Ext.drew G).trans (Ext.push s0 _ _)
    have s1 : Sim G1 := Sim.push s0 _ _
    have hfree : ∀ id, ¬ G1.holds id G.w.heap.size := fun id h => by
     have : G.holds id G.w.heap.size := h
     exact absurd (hS.lt this) (Nat.lt_irrefl _)
    let G2 := G1.obj G.w.heap.size (.gvec e2 c zs 0 k y 0)
    have e2' : Ext G G2 := e1.obj (fun _ => nR9 _)
    have hlast := G1.obj_last G.w.heap.size (.gvec e2 c zs 0 k y 0)
    have hheap : G2.w.heap[G.w.heap.size]? = some (.cells ((vs ++ rest.toList).set (0 * c.width + k) w).toArray e2 (0, 0)) := alloc_heap_new G.w.drew _
    have hρ : G2.ρ G.H.length = G.w.heap.size := hlast.2
    refine ⟨.a (.c (.gs G.H.length 0 1)), G2, .slice (some ⟨G.w.heap.size, 0, none⟩) 1 cap, hrun, e2', ?_, h, rfl, .inr ⟨e2, c, zs, 0, k, _, 0, hlast.1, nR9 _, fun _ => ⟨hl1.symm, cap, _, by rw [hρ], by rw [hρ]; exact hheap, hge, hgm, ?_⟩⟩⟩
    ·refine Sim.obj s1 hfree fun _ => ⟨vs, rest.toList, w, ?_, ?_, by omega, hk, RepC.mono e2' hy, hrows.mono e2'.stays⟩
     ·rw [hlast.2]; exact hheap
     ·intro o ho
      rw [hlast.2] at ho
      rcases ho with ho | ⟨_, ho⟩
      ·exact absurd (hS.ilt _ _ ho) (Nat.lt_irrefl _)
      ·exact ho
    ·simp only [zS9, List.length_set, zP9, hvl, Array.length_toList, hzc]
     have : cap = (cap - 1) + 1 := by omega
     conv => rhs; rw [this, Nat.add_mul, Nat.one_mul]
     omega
   ·exact h.elim
  ·exact h.elim
 ·exact h.elim
theorem gs_app {P : Program} {G : View} (hS : Sim G) {t tx ty e : TypeId} {n : Nat} {dx : TypeDesc} (hd : dx = .string ∨ ∃ d, dx = .slice d) (hu : P.underlying t = some (.slice e)) (hx : P.underlying tx = some dx)
  (hn : sizeP P e = some n) {info : TypeInfo} (hi : P.info? e = some info) {v0 : Value} (hz0 : info.zero = some v0) (hzs : v0.cells.size = n) (hby : info.bytes ≤ 100) {c : CT} (hw : n = c.width)
  {id ver len : Nat} {zs zs' : List c.den} {i k i' k' : Nat} {y x' : AC} (ho : G.H[id]? = some (.gvec e c zs i k y ver)) {vs vx : Value} (rs : RepC G (.gs id ver len) vs)
  {us : List Value} (hl : (Builtin.lenOf vx).run P G.w = .ok 1 G.w) (hf : ∀ w' : World, w'.heap = G.w.heap → (Builtin.firstCells n 1 vx).run P w' = .ok us.toArray w') (hul : us.length = c.width) (hone : ∀ u ∈ us, u.oneCell' = true)
  (hbound : len + 1 ≤ capBound) (hzl : zs'.length = len + 1)
  (hfin : ∀ (vs0 _ : List Value) (v1 : Value), vs0.length = len * c.width → i < zs.length → k < c.width → RepC G y v1 → Rows G.I G.w c zs vs0 →
   ∃ vs2 v2, Rows G.I G.w c zs' vs2 ∧ vs2.length = (len + 1) * c.width ∧ RepC G x' v2 ∧ i' < zs'.length ∧ k' < c.width ∧ ∀ rest', (vs0.set (i * c.width + k) v1) ++ us ++ rest' = (vs2 ++ rest').set (i' * c.width + k') v2) :
  ∃ G' u, (Builtin.append_ #[t, tx] ty #[vs, vx]).run P G.w = .ok u G'.w ∧ Ext G G' ∧ Sim G' ∧ G'.H = G.H.set id (.gvec e c zs' i' k' x' (ver + 1)) ∧ RepC G' (.gs id (ver + 1) (len + 1)) u := by
 obtain ⟨hle, cap, cur, hvv, hcur, hcap, hcm, hcs⟩ := gs_live rs ho
 obtain ⟨vs0, rest, v1, hh, hno, hil, hkl, hy, hrows⟩ := hS.objs id _ ho trivial
 have hv0 : vs0.length = len * c.width := by rw [hrows.1, hle]
 obtain ⟨vs2, v2, hr2, hl2, hx2, hi2, hk2, heq⟩ := hfin vs0 rest v1 hv0 hil hkl hy hrows
 have hpl : i * c.width + k < vs0.length := by
  have : (i + 1) * c.width ≤ zs.length * c.width := Nat.mul_le_mul_right _ hil
  rw [Nat.add_mul] at this
  rw [hrows.1]; omega
 rw [List.set_append_left _ _ hpl] at hh
 generalize hcsd : vs0.set (i * c.width + k) v1 = cs at *
 have hcsl : cs.length = len * c.width := by rw [← hcsd, List.length_set, hv0]
 have hmax : len + 1 ≤ maxLen := by simp only [capBound] at hbound; simp only [maxLen]; omega
 have hheap : cur = (cs ++ rest).toArray := by
  rw [hcur] at hh
  cases hh
  rfl
 by_cases hroom : len + 1 ≤ cap
 ·have hroomw : (len + 1) * c.width ≤ cap * c.width := Nat.mul_le_mul_right _ hroom
  rw [Nat.add_mul, Nat.one_mul] at hroomw
  have hst := run_storeCells_at P (G.ρ id) (len * n) e us 0 cur G.w hcur (by rw [hul, hcs, hw]; exact hroomw) hone
  simp only [Nat.add_zero] at hst
  have hrun := run_append_in (P := P) (w := G.w) (ty := ty) (base := some ⟨G.ρ id, 0, none⟩) (sCap := cap) hd hu hx hn hl (hf _ rfl) hroom (by
   simp only [addr_add, Nat.zero_add]
   exact hst)
  have hcl : cur.toList = cs ++ rest := by rw [hheap]
  have htake : cur.toList.take (len * n) = cs := by
   rw [hcl, hw, List.take_append_of_le_length (by omega), List.take_of_length_le (by omega)]
  rw [htake] at hrun
  have hheap' := setRow_heap G.w (G.ρ id) cur (cs ++ us ++ cur.toList.drop (len * n + us.length)).toArray e (0, 0) hcur
  have hsz : (vs2 ++ cur.toList.drop (len * n + us.length)).length = cap * c.width := by
   simp only [zP9, List.length_drop, Array.length_toList, hcs, hl2, hul, hw]
   rw [Nat.add_mul, Nat.one_mul]
   omega
  rw [← hvv] at hrun
  rw [heq] at hheap'
  have := g_grown2 hS ho (w' := G.w.setRow (G.ρ id) (cs ++ us ++ cur.toList.drop (len * n + us.length)).toArray) hr2 hi2 hk2 hx2 (by simp) rfl rfl rfl (fun k _ hk => setRow_other _ _ _ _ hk) (.inr ⟨_, ho, trivial, rfl⟩) (by rw [heq]; exact hheap') (by rw [hzl]; exact hroom) hcm hsz (by rw [hzl]; exact hrun)
  rw [hzl] at this
  exact this
 ·have hold : (Builtin.firstCells n len (.slice (some ⟨G.ρ id, 0, none⟩) len cap)).run P G.w.drew = .ok cs.toArray G.w.drew := by
   refine run_firstCells_some G.w.drew n len ⟨G.ρ id, 0, none⟩ _ _ _ (by rw [hcsl, hw]) fun j u hj => ?_
   rw [addr_add]
   have h1 : (cs ++ rest)[j]? = some u := by
    rw [List.getElem?_append_left (List.getElem?_eq_some_iff.1 hj).1]; exact hj
   have h2 : G.w.drew.heap[G.ρ id]? = some (.cells cur e (0, 0)) := hcur
   simp only [Nat.zero_add]
   rw [cell_of_row G.w.drew (G.ρ id) j cur e (0, 0) h2, hheap]
   simpa using h1
  have hrun := run_append_out (P := P) (w := G.w) (ty := ty) hd hu hx hn hi hz0 hby hl (hf _ rfl) hold (by omega) hbound
  have hge := grownCap_ge G.w (len + 1) cap e
  have hgm := grownCap_le_maxLen G.w (len + 1) cap e hmax
  have hzc : (Builtin.zeroCells v0.cells (grownCap G.w (len + 1) cap e - (len + 1))).size = (grownCap G.w (len + 1) cap e - (len + 1)) * c.width := by
   rw [size_zeroCells, hzs, hw]
  have harr : (cs.toArray ++ us.toArray ++ Builtin.zeroCells v0.cells (grownCap G.w (len + 1) cap e - (len + 1))) =
    ((vs2 ++ (Builtin.zeroCells v0.cells (grownCap G.w (len + 1) cap e - (len + 1))).toList).set (i' * c.width + k') v2).toArray := by
   rw [← heq]
   apply Array.ext'
   simp
  have hsz : (vs2 ++ (Builtin.zeroCells v0.cells (grownCap G.w (len + 1) cap e - (len + 1))).toList).length = grownCap G.w (len + 1) cap e * c.width := by
   simp only [zP9, hl2, Array.length_toList, hzc]
   rw [← Nat.add_mul]
   congr 1
   omega
  rw [← hvv] at hrun
  rw [harr] at hrun
  have := g_grown2 hS ho (w' := G.w.drew.alloc (.cells ((vs2 ++ (Builtin.zeroCells v0.cells (grownCap G.w (len + 1) cap e - (len + 1))).toList).set (i' * c.width + k') v2).toArray e)) hr2 hi2 hk2 hx2 (by simp) rfl rfl rfl (fun k hk _ => alloc_heap_old G.w.drew _ k hk) (.inl (nR9 _)) (alloc_heap_new G.w.drew _) (by rw [hzl]; exact hge) hgm hsz (by rw [hzl]; exact hrun)
  rw [hzl] at this
  exact this
theorem appendGsV_sound {P : Program} {G : View} (hS : Sim G) {t tx ty : TypeId} {id ver len id2 len2 : Nat} {K : SV → List AO → Prop} (h : appendGsV P t tx id ver len id2 len2 G.H K) {vs vx : Value} (rs : RepC G (.gs id ver len) vs) (rx : RepC G (.vs id2 len2) vx) :
  ∃ r G' u, (Builtin.append_ #[t, tx] ty #[vs, vx]).run P G.w = .ok u G'.w ∧ Ext G G' ∧ Sim G' ∧ K r G'.H ∧ RepS G' r u := by
 unfold appendGsV at h
 split at h
 ·rename_i e dx hu hx
  split at h
  ·rename_i n info z e' c zs i k y ver' hn hi hz ho
   split at h
   ·rename_i e2 c2 zs2 i2 k2 y2 ho2
    split at h
    ·rename_i hdc hb
     have hc2 : c2 = c := by simpa using hdc
     subst hc2
     simp only [Bool.and_eq_true, Nat.beq_eq, Nat.ble_eq] at hb
     obtain ⟨⟨⟨⟨⟨⟨⟨⟨⟨hw, hzl⟩, hpos⟩, hby⟩, hde⟩, hde2⟩, hi0⟩, hl1⟩, hlen⟩, hdx⟩ := hb
     have hde : e' = e := by simpa using hde
     have hde2 : e2 = e := by simpa using hde2
     subst hde
     subst hde2
     subst hi0
     have hd : dx = .string ∨ ∃ d, dx = .slice d := by cases dx <;> simp_all
     obtain ⟨i', v0, hi', hz0, hrep, _⟩ := zeroCells_cases hz
     rw [hi] at hi'
     cases hi'
     have hzs : v0.cells.size = n := by
      have := (hrep G).length
      simp only [Array.length_toList] at this
      omega
     split at h
     ·rename_i zs' zs2' hzs' hzc
      have hcast : zs2' = zs2 := by
       unfold castD at hzc
       split at hzc
       ·cases hzc; rfl
       ·cases hzc
      subst hcast
      obtain ⟨⟨rfl, hbound⟩, hK⟩ := h
      obtain ⟨us, w, hl, hf, hy2, hrows2, hul, hk2, hone⟩ := vec_one (P := P) hS rx ho2 hl1 hlen hw
      have hle := (gs_live rs ho).1
      have hzl' : zs'.length = zs.length := by
       unfold holeFix at hzs'
       split at hzs'
       ·split at hzs'
        ·cases hzs'; simp
        ·cases hzs'
       ·cases hzs'
      obtain ⟨G', u, h1, h2, h3, h4, h5⟩ := gs_app (x' := y2) (i' := len) (k' := k2) (zs' := zs' ++ zs2') (ty := ty) hS hd hu hx hn hi hz0 hzs hby hw ho rs hl hf (by rw [List.length_set, hul]) hone hbound (by rw [zP9]; omega) (fun vs0 rest v1 hv0 hil hkl hyr hrows => by
       obtain ⟨_, hcsr⟩ := hole_rows hzs' hrows hil hkl hyr
       have hcl : (vs0.set (i * c2.width + k) v1).length = len * c2.width := by rw [List.length_set, hv0]
       refine ⟨vs0.set (i * c2.width + k) v1 ++ us, w, hcsr.append hrows2, ?_, hy2, by rw [zP9]; omega, hk2, fun rest' => ?_⟩
       ·rw [zP9, hcl, hul, Nat.add_mul, Nat.one_mul]
       ·rw [List.append_assoc, List.append_assoc, List.set_append_right _ _ (by omega), hcl, Nat.add_sub_cancel_left, List.set_append_left _ _ (by omega)])
      exact ⟨.a (.c (.gs id (ver' + 1) (len + 1))), G', u, h1, h2, h3, h4 ▸ hK, h5⟩
     ·exact h.elim
    ·exact h.elim
   ·exact h.elim
  ·exact h.elim
 ·exact h.elim
theorem appendGsP_sound {P : Program} {G : View} (hS : Sim G) {t tx ty : TypeId} {id ver len : Nat} {x : SV} {K : SV → List AO → Prop} (h : appendGsP P t tx id ver len x G.H K) {vs vx : Value} (rs : RepC G (.gs id ver len) vs) (rx : RepS G x vx) :
  ∃ r G' u, (Builtin.append_ #[t, tx] ty #[vs, vx]).run P G.w = .ok u G'.w ∧ Ext G G' ∧ Sim G' ∧ K r G'.H ∧ RepS G' r u := by
 unfold appendGsP at h
 split at h
 ·rename_i e dx hu hx
  split at h
  ·rename_i n info z e' c zs i k y ver' hn hi hz ho
   split at h
   ·rename_i hb
    simp only [Bool.and_eq_true, Nat.beq_eq, Nat.ble_eq] at hb
    obtain ⟨⟨⟨⟨⟨hw, hzl⟩, hpos⟩, hby⟩, hde⟩, hdx⟩ := hb
    have hde : e' = e := by simpa using hde
    subst hde
    have hd : dx = .string ∨ ∃ d, dx = .slice d := by cases dx <;> simp_all
    obtain ⟨i', v0, hi', hz0, hrep, _⟩ := zeroCells_cases hz
    rw [hi] at hi'
    cases hi'
    have hzs : v0.cells.size = n := by
     have := (hrep G).length
     simp only [Array.length_toList] at this
     omega
    split at h
    ·rename_i q hq
     obtain ⟨⟨rfl, hbound⟩, hK⟩ := h
     obtain ⟨us, hl, hus, hf⟩ := appended_sound (P := P) hq rx n hw
     simp only [zC9, zN9, Nat.zero_add] at hl hf
     have hul : us.length = c.width := by rw [hus.1]; simp
     have hle := (gs_live rs ho).1
     obtain ⟨G', u, h1, h2, h3, h4, h5⟩ := gs_app (x' := y) (i' := i) (k' := k) (zs' := zs ++ [q]) (ty := ty) hS hd hu hx hn hi hz0 hzs hby hw ho rs hl hf hul hus.oneCell hbound (by simp [hle]) (fun vs0 rest v1 hv0 hil hkl hyr hrows => by
      have hpl : i * c.width + k < vs0.length := by
       have : (i + 1) * c.width ≤ zs.length * c.width := Nat.mul_le_mul_right _ hil
       rw [Nat.add_mul] at this
       rw [hrows.1]; omega
      refine ⟨vs0 ++ us, v1, hrows.append hus, ?_, hyr, by rw [zP9]; omega, hkl, fun rest' => ?_⟩
      ·rw [zP9, hv0, hul, Nat.add_mul, Nat.one_mul]
      ·rw [List.append_assoc, List.append_assoc, List.set_append_left _ _ hpl])
     exact ⟨.a (.c (.gs id (ver' + 1) (len + 1))), G', u, h1, h2, h3, h4 ▸ hK, h5⟩
    ·exact h.elim
   ·exact h.elim
  ·exact h.elim
 ·exact h.elim
theorem heapOp_sound {M : Mach} {G : View} (hS : Sim G) {ev : Operand → SV} {cv : Operand → Value} {o : Oper} {K : SV → List AO → Prop}
  (h : heapOp M ev G.H o.op K) (hr : ∀ x ∈ o.op.operands.toList, RepS G (ev x) (cv x)) :
  ∃ r G' nx u, (execOp cv o).run M.P G.w = .ok nx G'.w ∧ (nx = .value u ∨ nx = .skip ∧ u = undef) ∧ Ext G G' ∧ Sim G' ∧ K r G'.H ∧ RepS G' r u := by
 have old : heapOp0 M ev G.H o.op K → _ := fun h => heapOp0_sound hS h hr
 obtain ⟨dst, op, ty, pos, after, guard⟩ := o
 simp only at h hr old ⊢
 unfold heapOp at h
 split at h
 ·rename_i t r
  split at h
  ·obtain ⟨r, G', u, h1, h2, h3, h4, h5⟩ := makeMapA_sound (P := M.P) hS h
   exact ⟨r, G', .value u, u, by simp [execOp, h1], .inl rfl, h2, h3, h4, h5⟩
  ·exact h.elim
 ·rename_i t l c
  obtain ⟨r, G', u, h1, h2, h3, h4, h5⟩ := makeSl_sound (P := M.P) hS h (hr l (by simp [Op.operands])) (hr c (by simp [Op.operands]))
  exact ⟨r, G', .value u, u, by simp [execOp, h1], .inl rfl, h2, h3, h4, h5⟩
 ·rename_i t
  split at h
  ·split at h
   ·exact old h
   obtain ⟨i, v, hi, hzv, r, G', u, h1, h2, h3, h4, h5⟩ := allocArr_sound (P := M.P) hS h
   have fin : ∀ {s : Sem Value}, (execOp cv { dst, op := .alloc t, type := ty, pos, after, guard } = (do pure (.value (← s)))) → s.run M.P G.w = .ok u G'.w →
     (execOp cv { dst, op := .alloc t, type := ty, pos, after, guard }).run M.P G.w = .ok (.value u) G'.w := by
    intro s he h
    rw [he]; simp [h]
   refine ⟨r, G', .value u, u, fin rfl ?_, .inl rfl, h2, h3, h4, h5⟩
   simp only [Instr.alloc, Sem.run_bind, run_zeroValue' hi hzv, Result.andThen_ok]
   simpa using h1
  ·exact old h
 ·rename_i t x lo hi mx
  split at h
  ·have opt : ∀ (y : Option Operand), (∀ z, y = some z → RepS G (ev z) (cv z)) → All1 G (y.map ev) (y.map cv) := by
    intro y hy
    cases y with
    | none => trivial
    | some z => exact hy z rfl
   obtain ⟨r, G', u, h1, h2, h3, h4, h5⟩ := sliceArr_sound (P := M.P) hS h (hr x (by simp [Op.operands])) (opt lo fun z hz => hr z (by subst hz; simp [Op.operands])) (opt hi fun z hz => hr z (by subst hz; simp [Op.operands]))
   exact ⟨r, G', .value u, u, by simp [execOp, h1], .inl rfl, h2, h3, h4, h5⟩
  ·exact h.elim
 ·rename_i t m k x
  obtain ⟨G', h1, h2, h3, h4⟩ := mapSetA_sound (P := M.P) hS h (hr m (by simp [Op.operands])) (hr k (by simp [Op.operands])) (hr x (by simp [Op.operands]))
  exact ⟨.none, G', .skip, undef, by simp [execOp, h1], .inr ⟨rfl, rfl⟩, h2, h3, h4, trivial⟩
 ·rename_i t m k x
  obtain ⟨G', h1, h2, h3, h4⟩ := mapSetA_sound (P := M.P) hS h (hr m (by simp [Op.operands])) (hr k (by simp [Op.operands])) (hr x (by simp [Op.operands]))
  exact ⟨.none, G', .skip, undef, by simp [execOp, h1], .inr ⟨rfl, rfl⟩, h2, h3, h4, trivial⟩
 ·rename_i t a x
  split at h
  ·rename_i id c ver i k ha
   have hx := hr a (by simp [Op.operands])
   rw [ha] at hx
   obtain ⟨G', h1, h2, h3, h4⟩ := storeEp_sound (P := M.P) hS h hx (hr x (by simp [Op.operands]))
   exact ⟨.none, G', .skip, undef, by simp [execOp, h1], .inr ⟨rfl, rfl⟩, h2, h3, h4, trivial⟩
  ·rename_i id i k ha
   have hx := hr a (by simp [Op.operands])
   rw [ha] at hx
   obtain ⟨G', h1, h2, h3, h4⟩ := storeVe_sound (P := M.P) hS h hx (hr x (by simp [Op.operands]))
   exact ⟨.none, G', .skip, undef, by simp [execOp, h1], .inr ⟨rfl, rfl⟩, h2, h3, h4, trivial⟩
  ·rename_i id ver i k ha
   have hx := hr a (by simp [Op.operands])
   rw [ha] at hx
   obtain ⟨G', h1, h2, h3, h4⟩ := storeGe_sound (P := M.P) hS h hx (hr x (by simp [Op.operands]))
   exact ⟨.none, G', .skip, undef, by simp [execOp, h1], .inr ⟨rfl, rfl⟩, h2, h3, h4, trivial⟩
  ·exact old h
 ·rename_i t a
  split at h
  ·rename_i id i k ha
   have hx := hr a (by simp [Op.operands])
   rw [ha] at hx
   obtain ⟨r, u, h1, h2, h3⟩ := loadVe_sound (P := M.P) hS h hx
   exact ⟨r, G, .value u, u, by simp [execOp, h1], .inl rfl, Ext.refl G, hS, h2, h3⟩
  ·rename_i id ver i k ha
   have hx := hr a (by simp [Op.operands])
   rw [ha] at hx
   obtain ⟨r, u, h1, h2, h3⟩ := loadGe_sound (P := M.P) hS h hx
   exact ⟨r, G, .value u, u, by simp [execOp, h1], .inl rfl, Ext.refl G, hS, h2, h3⟩
  ·exact h.elim
 ·rename_i t len parts
  have : ∀ (l : List (Nat × Operand)), (∀ x ∈ l, RepS G (ev x.2) (cv x.2)) → All2 (PartRep G) (l.map fun p => (p.1, ev p.2)) (l.map fun p => (p.1, cv p.2)) := by
   intro l hl
   induction l with
   | nil => exact .nil
   | cons a l ih => exact .cons ⟨rfl, hl a (by simp)⟩ (ih fun x hx => hl x (by simp [hx]))
  have h2 := this parts.toList (fun x hx => hr x.2 (by simp only [Op.operands]; exact List.mem_map.2 ⟨x, hx, rfl⟩))
  obtain ⟨ps, G1, hw, he, hs, hK, hq⟩ := freezeK_sound _ hS h h2
  obtain ⟨r, G', u, h3, h4, h5, h6, h7⟩ := buildS_sound (P := M.P) hs hK (qs := parts.map fun p => (p.1, cv p.2)) (by simpa using hq)
  rw [hw] at h3
  exact ⟨r, G', .value u, u, by simp [execOp, h3], .inl rfl, he.trans h4, h5, h6, h7⟩
 ·rename_i c
  obtain ⟨callee, args, argTypes⟩ := c
  have hargs : ∀ x ∈ args.toList, RepS G (ev x) (cv x) := fun x hx => hr x (by simp [Op.operands, Call.operands]; exact .inr (by simpa using hx))
  simp only at h
  split at h
  ·split at h
   ·rename_i s x t tx hx ht
    have e1 : args = #[s, x] := by rw [← Array.toArray_toList (xs := args), hx]
    have e2 : argTypes = #[t, tx] := by rw [← Array.toArray_toList (xs := argTypes), ht]
    subst e1; subst e2
    split at h
    ·rename_i id e ver len hs
     have h1 := hargs s (by simp)
     rw [hs] at h1
     obtain ⟨r, G', u, h3, h4, h5, h6, h7⟩ := appendSl_sound (P := M.P) (ty := ty) hS h h1 (hargs x (by simp))
     exact ⟨r, G', .value u, u, by simp [execOp, resolve, invoke, builtin, h3], .inl rfl, h4, h5, h6, h7⟩
    ·rename_i id ver len hs
     have h1 := hargs s (by simp)
     rw [hs] at h1
     have h2 := hargs x (by simp)
     split at h
     ·rename_i hxe
      rw [hxe] at h2
      obtain ⟨r, G', u, h3, h4, h5, h6, h7⟩ := appendGs_sound (P := M.P) (ty := ty) hS h h1 h2
      exact ⟨r, G', .value u, u, by simp [execOp, resolve, invoke, builtin, h3], .inl rfl, h4, h5, h6, h7⟩
     ·rename_i hxe
      rw [hxe] at h2
      obtain ⟨r, G', u, h3, h4, h5, h6, h7⟩ := appendGsV_sound (P := M.P) (ty := ty) hS h h1 h2
      exact ⟨r, G', .value u, u, by simp [execOp, resolve, invoke, builtin, h3], .inl rfl, h4, h5, h6, h7⟩
     ·obtain ⟨r, G', u, h3, h4, h5, h6, h7⟩ := appendGsP_sound (P := M.P) (ty := ty) hS h h1 h2
      exact ⟨r, G', .value u, u, by simp [execOp, resolve, invoke, builtin, h3], .inl rfl, h4, h5, h6, h7⟩
    ·rename_i c zs hs
     have h1 := hargs s (by simp)
     rw [hs] at h1
     unfold appendFl0 at h
     split at h
     ·rcases h with (h | h) | h
      ·exact old h
      ·obtain ⟨r, G', u, h3, h4, h5, h6, h7⟩ := appendFl_sound (P := M.P) (ty := ty) hS h h1 (hargs x (by simp))
       exact ⟨r, G', .value u, u, by simp [execOp, resolve, invoke, builtin, h3], .inl rfl, h4, h5, h6, h7⟩
      ·obtain ⟨r, G', u, h3, h4, h5, h6, h7⟩ := appendFe_sound (P := M.P) (ty := ty) hS h h1 (hargs x (by simp))
       exact ⟨r, G', .value u, u, by simp [execOp, resolve, invoke, builtin, h3], .inl rfl, h4, h5, h6, h7⟩
     ·exact old h
    ·rename_i hs
     split at h
     ·split at h
      ·rcases h with h | h
       ·exact old h
       ·have h1 := hargs s (by simp)
        rw [hs] at h1
        obtain ⟨_, hv⟩ := h1
        obtain ⟨r, G', u, h3, h4, h5, h6, h7⟩ := appendG0_sound (P := M.P) (ty := ty) hS h (hargs x (by simp))
        rw [← hv] at h3
        exact ⟨r, G', .value u, u, by simp [execOp, resolve, invoke, builtin, h3], .inl rfl, h4, h5, h6, h7⟩
      split at h
      ·rename_i hxe
       have h1 := hargs s (by simp)
       rw [hs] at h1
       obtain ⟨_, hv⟩ := h1
       have h2 := hargs x (by simp)
       rw [hxe] at h2
       obtain ⟨r, G', u, h3, h4, h5, h6, h7⟩ := appendGv0_sound (P := M.P) (ty := ty) hS h h2
       rw [← hv] at h3
       exact ⟨r, G', .value u, u, by simp [execOp, resolve, invoke, builtin, h3], .inl rfl, h4, h5, h6, h7⟩
      ·rcases h with (h | h) | h
       ·exact old h
       ·have h1 := hargs s (by simp)
        rw [hs] at h1
        obtain ⟨_, hv⟩ := h1
        obtain ⟨r, G', u, h3, h4, h5, h6, h7⟩ := appendVec_sound (P := M.P) (ty := ty) hS h (hargs x (by simp))
        rw [← hv] at h3
        exact ⟨r, G', .value u, u, by simp [execOp, resolve, invoke, builtin, h3], .inl rfl, h4, h5, h6, h7⟩
       ·have h1 := hargs s (by simp)
        rw [hs] at h1
        obtain ⟨_, hv⟩ := h1
        obtain ⟨r, G', u, h3, h4, h5, h6, h7⟩ := appendNew_sound (P := M.P) (ty := ty) hS h (hargs x (by simp))
        rw [← hv] at h3
        exact ⟨r, G', .value u, u, by simp [execOp, resolve, invoke, builtin, h3], .inl rfl, h4, h5, h6, h7⟩
     ·split at h
      ·rcases h with h | h
       ·exact old h
       ·have h1 := hargs s (by simp)
        rw [hs] at h1
        obtain ⟨_, hv⟩ := h1
        obtain ⟨r, G', u, h3, h4, h5, h6, h7⟩ := appendNew_sound (P := M.P) (ty := ty) hS h (hargs x (by simp))
        rw [← hv] at h3
        exact ⟨r, G', .value u, u, by simp [execOp, resolve, invoke, builtin, h3], .inl rfl, h4, h5, h6, h7⟩
      ·exact old h
    ·exact old h
   ·exact h.elim
  ·exact h.elim
 ·exact old h
end Go.Ab
