/- The abstract machine's operations on memory are the model's: slices. -/
import Derived.Test.YtnlifjljmbfomaaGreatTGtoH
namespace Go.Ab
set_option linter.unusedSectionVars false
variable [Base]
theorem repeat_length (z : List AC) : ∀ n, (repeatCells z n).length = n * z.length := by
 intro n
 induction n with
 | zero => simp [repeatCells]
 | succ n ih => simp [repeatCells, ih, Nat.add_mul, Nat.add_comm]
theorem repeat_get (z : List AC) : ∀ (n i : Nat), i < n * z.length → (repeatCells z n)[i]? = z[i % z.length]? := by
 intro n
 induction n with
 | zero => intro i h; simp at h
 | succ n ih =>
  intro i h
  simp only [repeatCells]
  rcases Nat.lt_or_ge i z.length with h1 | h1
  ·rw [List.getElem?_append_left h1, Nat.mod_eq_of_lt h1]
  ·rw [List.getElem?_append_right h1, ih _ (by rw [Nat.add_mul] at h; omega)]
   congr 1
   rw [Nat.mod_eq_sub_mod h1]
theorem zeros_rep {G : View} {z : List AC} {vz : Array Value} (h : All2 (RepC G) z vz.toList) (hpos : 0 < z.length) (n k : Nat) (hk : k = n * z.length) :
  All2 (RepC G) (repeatCells z n) ((Array.range k).map (vz[· % vz.size]!)).toList := by
 have hl := h.length
 simp only [Array.length_toList] at hl
 refine All2.of_get ?_ fun i a b ha hb => ?_
 ·simp [repeat_length, hk]
 ·have hi : i < n * z.length := by
   have := (List.getElem?_eq_some_iff.1 ha).1
   rwa [repeat_length] at this
  rw [repeat_get z n i hi] at ha
  have hm : i % z.length < vz.size := by rw [← hl]; exact Nat.mod_lt _ hpos
  obtain ⟨b', hb', hr⟩ := h.get ha
  have e1 : b = b' := by
   simp only [Array.toList_map, Array.toList_range, List.getElem?_map] at hb
   rw [List.getElem?_range (by omega)] at hb
   simp only [Option.map_some, Option.some.injEq] at hb
   rw [← hl] at hb
   rw [← hb]
   rw [hl] at hb' hm ⊢
   simp at hb'
   rw [getElem!_pos vz _ hm]
   rw [Array.getElem?_eq_getElem hm] at hb'
   simpa using hb'
  rw [e1]
  exact hr
theorem newSlice {G : View} (hS : Sim G) {e : TypeId} {c : CT} {zs : List c.den} {vs : List Value} (hr : Rows G.I G.w c zs vs) (hmax : zs.length ≤ maxLen) :
  ∃ G', G'.w = G.w.alloc (.cells vs.toArray e) ∧ Ext G G' ∧ Sim G' ∧ G'.H = G.H ++ [.tok e c zs.length false] ∧
   RepC G' (.own G.H.length c zs) (.slice (some ⟨G.w.heap.size, 0, none⟩) zs.length zs.length) ∧
   ∃ G1, G1.w = G'.w ∧ Ext G G1 ∧ Sim G1 ∧ G1.H = G.H ∧ G1.I = G'.I ∧ ∀ o, o < zs.length * c.width → G1.I G.w.heap.size o := by
 let G1 := G.push (fun x => x < zs.length * c.width) (.cells vs.toArray e)
 have e1 : Ext G G1 := Ext.push hS _ _
 have s1 : Sim G1 := Sim.push hS _ _
 have hfree : ∀ id, ¬ G1.holds id G.w.heap.size := fun id h => by
  have : G.holds id G.w.heap.size := h
  exact absurd (hS.lt this) (Nat.lt_irrefl _)
 let G2 := G1.obj G.w.heap.size (.tok e c zs.length false)
 have e2 : Ext G G2 := e1.obj (fun _ => nR9 _)
 have hlast := G1.obj_last G.w.heap.size (.tok e c zs.length false)
 have hheap : G2.w.heap[G.w.heap.size]? = some (.cells vs.toArray e (0, 0)) := alloc_heap_new _ _
 have hρ : G2.ρ G.H.length = G.w.heap.size := hlast.2
 refine ⟨G2, rfl, e2, ?_, rfl, ?_, G1, rfl, e1, s1, rfl, rfl, fun o ho => .inr ⟨rfl, ho⟩⟩
 ·refine Sim.obj s1 hfree fun _ => ⟨vs.toArray, ?_, ?_, fun o ho hI => ?_⟩
  ·rw [hlast.2]; exact hheap
  ·simp [hr.1]
  ·rw [hlast.2] at hI
   rcases hI with hI | ⟨_, hI⟩
   ·exact absurd (hS.ilt _ _ hI) (Nat.lt_irrefl _)
   ·omega
 ·refine ⟨?_, e, zs.length, false, hlast.1, nR9 _, fun _ => .inr ⟨.inl rfl, zs.length, vs.toArray, by rw [hρ], by rw [hρ]; exact hheap, nR9 _, hmax, by simp [hr.1]⟩⟩
  refine (hr.mono e2.stays).list (nR9 _) fun k u hk => ?_
  have hlt : k < zs.length * c.width := by rw [← hr.1]; exact (List.getElem?_eq_some_iff.1 hk).1
  refine ⟨.inr ⟨rfl, by simpa using hlt⟩, ?_⟩
  simp only [Nat.zero_add]
  show G2.w.cell? _ = _
  rw [cell_of_row G2.w G.w.heap.size k _ e (0, 0) hheap]
  simpa using hk
theorem buildSliceA_sound2 {P : Program} {G : View} (hS : Sim G) {t : TypeId} {len : Nat} {parts : List (Nat × SV)} {K : SV → List AO → Prop} (h : buildSliceA P t len parts G.H K)
  {qs : Array (Nat × Value)} (hq : All2 (PartRep G) parts qs.toList) :
  ∃ r G' u, (Instr.buildSlice t len qs).run P G.w = .ok u G'.w ∧ Ext G G' ∧ Sim G' ∧ K r G'.H ∧ RepS G' r u ∧ u = .slice (some ⟨G.w.heap.size, 0, none⟩) len len ∧ ∃ G1, G1.w = G'.w ∧ Ext G G1 ∧ Sim G1 ∧ G1.H = G.H ∧ (∀ c zs, r = .a (.c (.own G.H.length c zs)) → RepS G1 (.a (.c (.p (.l c zs)))) u) ∧
   ∀ ps, builtCells P t len parts = some ps → ∀ k, ps[k]? = some (.v (.slice none 0 0)) → u = .slice (some ⟨G.w.heap.size, 0, none⟩) len len ∧ G1.I G.w.heap.size k ∧ G1.w.at' G.w.heap.size k = some (.slice none 0 0) := by
 unfold buildSliceA at h
 split at h
 ·rename_i e hu
  split at h
  ·rename_i c n z hc hn hz
   split at h
   ·rename_i hb
    simp only [Bool.and_eq_true, Nat.beq_eq, Nat.ble_eq] at hb
    obtain ⟨⟨⟨hw, hzl⟩, hpos⟩, hlim⟩ := hb
    split at h
    ·rename_i cs hcs
     split at h
     ·rename_i ps hps
      split at h
      ·rename_i zs hzs
       obtain ⟨i, v, hi, hzv, hrep, _⟩ := zeroCells_cases hz
       have hrl := (hrep G).length
       simp only [Array.length_toList] at hrl
       obtain ⟨vcs, hf, hr⟩ := fillA_sound parts (repeatCells z len) cs _ qs.toList hcs (zeros_rep (hrep G) (by omega) len (len * n) (by rw [hzl])) hq
       have hpv := pureCells_sound cs ps vcs.toList hps hr
       have hsz : ps.length = len * c.width := by
        have h1 := hpv.length
        have h2 := hr.length
        have h3 : cs.length = (repeatCells z len).length := by
         have : ∀ (parts : List (Nat × SV)) (cells cs : List AC), fillA (fun i => some (i * n, n)) cells parts = some cs → cs.length = cells.length := by
          intro parts
          induction parts with
          | nil => intro cells cs h; simp only [fillA] at h; cases h; rfl
          | cons p parts ih =>
           intro cells cs h
           simp only [fillA] at h
           split at h
           ·rename_i off size v hpl
            split at h
            ·rename_i hb
             split at h
             ·rename_i cs0 hset
              obtain ⟨hb2, rfl⟩ := setCells_eq hset
              rw [ih _ _ h]
              simp
              omega
             ·cases h
            ·cases h
           ·cases h
         exact this _ _ _ hcs
        rw [repeat_length, hzl] at h3
        rw [← hw]
        omega
       obtain ⟨hrows, hlen⟩ := rowsOf_sound len ps zs vcs.toList hzs hsz hpv
       have hlen16 : zs.length ≤ 16777216 := by
        rw [hlen]
        exact Nat.le_trans (Nat.le_mul_of_pos_right len (by omega)) hlim
       obtain ⟨G', hw', he, hs', hH, hown, G1, g1, g2, g3, g4, g5, g6⟩ := newSlice hS (e := e) hrows (by simp only [maxLen]; omega)
       rw [hlen] at hown hH
       have fin : ∀ ps', builtCells P t len parts = some ps' → ∀ k, ps'[k]? = some (.v (.slice none 0 0)) → (Value.slice (some ⟨G.w.heap.size, 0, none⟩) len len : Value) = .slice (some ⟨G.w.heap.size, 0, none⟩) len len ∧ G1.I G.w.heap.size k ∧ G1.w.at' G.w.heap.size k = some (.slice none 0 0) := by
        intro ps' hps' k hk
        simp only [builtCells, hu, hn, hz, hcs, hps, Option.some.injEq] at hps'
        subst hps'
        obtain ⟨q, hq1, hq2⟩ := hpv.get hk
        obtain ⟨_, rfl⟩ := hq2
        have hkl : k < zs.length * c.width := by rw [← hrows.1]; exact (List.getElem?_eq_some_iff.1 hq1).1
        refine ⟨rfl, g6 k hkl, ?_⟩
        show G1.w.cell? ⟨G.w.heap.size, k, none⟩ = _
        rw [g1, hw', cell_of_row _ G.w.heap.size k _ e (0, 0) (alloc_heap_new _ _)]
        simpa using hq1
       refine ⟨.a (.c (.own G.H.length c zs)), G', .slice (some ⟨G.w.heap.size, 0, none⟩) len len, ?_, he, hs', hH ▸ h, hown, rfl, G1, g1, g2, g3, g4, fun c' zs' hr' => by cases hr'; show Rep G1.I G1.w _ _ _; rw [g1, g5]; exact hown.1, fin⟩
       have hlim' : ¬ len * n > 2 ^ 24 := by omega
       by_cases h0 : len * n = 0
       ·have hlen0 : len = 0 := by
         rcases Nat.mul_eq_zero.1 h0 with h1 | h1
         ·exact h1
         ·omega
        subst hlen0
        have hr0 : Array.range 0 = #[] := rfl
        simp only [Nat.zero_mul, hr0, List.map_toArray, List.map_nil] at hf
        simp only [Instr.buildSlice, Sem.run_bind, rU9 hu, Result.andThen_ok, rS9 hn]
        simp [hr0, hf, newRow, hw']
       ·simp only [Instr.buildSlice, Sem.run_bind, rU9 hu, Result.andThen_ok, rS9 hn, if_neg hlim', if_neg h0, run_zeroValue' hi hzv, Sem.run_pure]
        simp [hf, newRow, hw']
      ·exact h.elim
     ·exact h.elim
    ·exact h.elim
   ·exact h.elim
  ·exact h.elim
 ·exact h.elim
theorem buildSliceA_sound {P : Program} {G : View} (hS : Sim G) {t : TypeId} {len : Nat} {parts : List (Nat × SV)} {K : SV → List AO → Prop} (h : buildSliceA P t len parts G.H K)
  {qs : Array (Nat × Value)} (hq : All2 (PartRep G) parts qs.toList) :
  ∃ r G' u, (Instr.buildSlice t len qs).run P G.w = .ok u G'.w ∧ Ext G G' ∧ Sim G' ∧ K r G'.H ∧ RepS G' r u := by
 obtain ⟨r, G', u, h1, h2, h3, h4, h5, _⟩ := buildSliceA_sound2 hS h hq
 exact ⟨r, G', u, h1, h2, h3, h4, h5⟩
theorem rowsOf_len {e : CT} : ∀ (n : Nat) (ps : List PV) {zs : List e.den}, rowsOf e n ps = some zs → zs.length = n := by
 intro n
 induction n with
 | zero => intro ps zs h; simp only [rowsOf] at h; cases h; rfl
 | succ n ih =>
  intro ps zs h
  simp only [rowsOf] at h
  split at h
  ·split at h
   ·rename_i zs' hz
    cases h
    simp [ih _ hz]
   ·cases h
  ·cases h
theorem nilAt_sound : ∀ (ps : List PV) (i k : Nat), nilAt ps i = some k → i ≤ k ∧ ps[k - i]? = some (.v (.slice none 0 0)) := by
 intro ps
 induction ps with
 | nil => intro i k h; simp [nilAt] at h
 | cons x r ih =>
  intro i k h
  simp only [nilAt] at h
  split at h
  ·cases h; exact ⟨nR9 _, by simp⟩
  ·obtain ⟨h1, h2⟩ := ih _ _ h
   refine ⟨by omega, ?_⟩
   have : k - i = (k - (i + 1)) + 1 := by omega
   rw [this, List.getElem?_cons_succ]; exact h2
theorem buildSliceP_sound {P : Program} {G : View} (hS : Sim G) {t : TypeId} {len : Nat} {parts : List (Nat × SV)} {p : Option Prop} {r : SV} (h : buildSliceP P t len parts = some (p, r))
  {qs : Array (Nat × Value)} (hq : All2 (PartRep G) parts qs.toList) :
  ∃ G' u, (Instr.buildSlice t len qs).run P G.w = .ok u G'.w ∧ Ext G G' ∧ Sim G' ∧ G'.H = G.H ∧ RepS G' r u := by
 have key : ∃ c zs ps, r = .a (.c (builtP c zs ps)) ∧ zs.length = len ∧ builtCells P t len parts = some ps ∧ buildSliceA P t len parts G.H fun r' _ => r' = .a (.c (.own G.H.length c zs)) := by
  unfold buildSliceP at h
  unfold buildSliceA
  split at h
  ·rename_i e hu
   split at h
   ·rename_i c n z hc hn hz
    split at h
    ·rename_i hb
     split at h
     ·rename_i cs hcs
      split at h
      ·rename_i ps hps
       split at h
       ·rename_i zs hzs
        cases h
        refine ⟨c, zs, ps, rfl, rowsOf_len _ _ hzs, by simp only [builtCells, hu, hn, hz, hcs, hps], ?_⟩
        first | rfl | simp only [hu, hc, hn, hz, hb, hcs, hps, hzs]
       ·cases h
      ·cases h
     ·cases h
    ·cases h
   ·cases h
  ·cases h
 obtain ⟨c, zs, ps, rfl, hzl, hps, hA⟩ := key
 obtain ⟨r', G', u, h1, h2, h3, h4, h5, _, G1, g1, g2, g3, g4, g5, g6⟩ := buildSliceA_sound2 hS hA hq
 refine ⟨G1, u, by rw [g1]; exact h1, g2, g3, g4, ?_⟩
 unfold builtP
 split
 ·rename_i z k hk
  obtain ⟨_, hk2⟩ := nilAt_sound _ _ _ hk
  obtain ⟨e1, e2, e3⟩ := g6 ps hps k hk2
  have hl : len = 1 := by simpa using hzl.symm
  subst hl
  exact ⟨g5 c _ h4, G.w.heap.size, 0, _, e1, by simpa using e2, by simpa using e3⟩
 ·exact g5 c _ h4
theorem bytes_rows {I w} (s : ByteArray) : Rows I w (.int .u8) (s.data.toList.map fun b => (b.toNat : Int)) (s.data.toList.map fun b => Value.int .u8 b.toNat) := by
 refine ⟨by simp [CT.width], fun i z hz => ⟨[.int .u8 z], rfl, fun j u hj => ?_⟩⟩
 cases j with
 | zero =>
  simp at hj
  subst hj
  simp only [List.getElem?_map, Option.map_eq_some_iff] at hz
  obtain ⟨b, hb, rfl⟩ := hz
  simp [CT.width, hb]
 | succ j => simp at hj
theorem appended_sound {P : Program} {G : View} {e : CT} {x : SV} {ys : List e.den} (h : appended e x = some ys) {v : Value} (rx : RepS G x v) (n : Nat) (hn : n = e.width) :
  ∃ us, (Builtin.lenOf v).run P G.w = .ok ys.length G.w ∧ Rows G.I G.w e ys us ∧ ∀ w' : World, w'.heap = G.w.heap → (Builtin.firstCells n ys.length v).run P w' = .ok us.toArray w' := by
 have list : ∀ {v}, Rep G.I G.w (.list e) ys [v] → ∃ us, (Builtin.lenOf v).run P G.w = .ok ys.length G.w ∧ Rows G.I G.w e ys us ∧ ∀ w' : World, w'.heap = G.w.heap → (Builtin.firstCells n ys.length v).run P w' = .ok us.toArray w' := by
  intro v hv
  rcases hv.rows with ⟨rfl, rfl⟩ | ⟨⟨b, off, sp⟩, cap, us, rfl, hc, hr, hm⟩
  ·exact ⟨[], rfl, Rows.nil, fun w' _ => rfl⟩
  ·refine ⟨us, rfl, hr, fun w' hw' => ?_⟩
   refine run_firstCells_some w' n ys.length ⟨b, off, sp⟩ _ _ us (by rw [hr.1, hn]) fun j u hj => ?_
   obtain ⟨hsp, _, this⟩ := hm j u hj
   obtain rfl : sp = none := hsp
   rw [addr_add]
   simpa [World.at', World.cell?, hw'] using this
 unfold appended at h
 split at h
 ·rename_i s
  cases h
  obtain ⟨_, rfl⟩ := rx
  refine ⟨s.data.toList.map fun b => Value.int .u8 b.toNat, ?_, bytes_rows s, fun w' _ => ?_⟩
  ·simp only [Builtin.lenOf, Sem.run_pure, List.length_map, ← bytes_size]
  ·simp only [Builtin.firstCells, Sem.run_pure]
   congr 1
   have e1 : s.extract 0 (s.data.toList.map fun b => (b.toNat : Int)).length = s := by
    simp only [List.length_map, ← bytes_size]
    exact ByteArray.extract_zero_size
   rw [e1, ← Array.toList_map, Array.toArray_toList]
 ·split at h
  ·rename_i hs
   cases h
   obtain rfl := (slOf_cases rx).1 hs
   exact ⟨[], rfl, Rows.nil, fun w' _ => rfl⟩
  ·rename_i e' zs id hs
   unfold castD at h
   split at h
   ·rename_i he
    subst he
    cases h
    exact list ((slOf_cases rx).2 _ _ _ hs)
   ·cases h
  ·cases h
theorem run_append_in {P : Program} {w : World} {t tx ty e : TypeId} {n : Nat} {dx : TypeDesc} (hd : dx = .string ∨ ∃ d, dx = .slice d) (hu : P.underlying t = some (.slice e)) (hx : P.underlying tx = some dx)
  (hn : sizeP P e = some n) {base : Option Addr} {sLen sCap m : Nat} {x : Value} {us : List Value} (hl : (Builtin.lenOf x).run P w = .ok m w) (hf : (Builtin.firstCells n m x).run P w = .ok us.toArray w) (hroom : sLen + m ≤ sCap)
  {w' : World} (hst : (match base with | some a => storeCells (a.add (sLen * n)) us | none => pure ()).run P w = .ok () w') :
  (Builtin.append_ #[t, tx] ty #[.slice base sLen sCap, x]).run P w = .ok (.slice base (sLen + m) sCap) w' := by
 unfold Builtin.append_
 rcases hd with rfl | ⟨d, rfl⟩ <;>
 simp only [List.getElem?_toArray, List.getElem?_cons_zero, List.getElem?_cons_succ, Sem.run_bind, rU9 hu, rU9 hx, Result.andThen_ok, rS9 hn, Sem.run_pure, Bool.false_eq_true, if_false, hl, if_pos hroom, Bool.not_false, if_true, hf]
 all_goals
  cases base with
  | none =>
   simp only [Sem.run_pure, Result.ok.injEq, true_and] at hst
   subst hst
   rfl
  | some a =>
   simp only at hst
   simp only [hst, Sem.run_bind, Result.andThen_ok, Sem.run_pure]
theorem run_append_out {P : Program} {w : World} {t tx ty e : TypeId} {n : Nat} {dx : TypeDesc} (hd : dx = .string ∨ ∃ d, dx = .slice d) (hu : P.underlying t = some (.slice e)) (hx : P.underlying tx = some dx)
  (hn : sizeP P e = some n) {i : TypeInfo} (hi : P.info? e = some i) {z : Value} (hz : i.zero = some z) (hby : i.bytes ≤ 100) {base : Option Addr} {sLen sCap m : Nat} {x : Value} {us vs : List Value}
  (hl : (Builtin.lenOf x).run P w = .ok m w) (hf : (Builtin.firstCells n m x).run P w.drew = .ok us.toArray w.drew) (hold : (Builtin.firstCells n sLen (.slice base sLen sCap)).run P w.drew = .ok vs.toArray w.drew)
  (hroom : sCap < sLen + m) (hbound : sLen + m ≤ capBound) :
  (Builtin.append_ #[t, tx] ty #[.slice base sLen sCap, x]).run P w =
   .ok (.slice (some ⟨w.heap.size, 0, none⟩) (sLen + m) (grownCap w (sLen + m) sCap e)) (w.drew.alloc (.cells (vs.toArray ++ us.toArray ++ Builtin.zeroCells z.cells (grownCap w (sLen + m) sCap e - (sLen + m))) e)) := by
 have h1 : ¬ sLen + m ≤ sCap := by omega
 have hb : (sLen + m) * i.bytes ≤ 140737488355328 := by
  refine Nat.le_trans (Nat.mul_le_mul hbound hby) ?_
  decide
 have h2 : ¬ Builtin.nextslicecap (sLen + m) sCap * i.bytes > 2 ^ 48 := by
  have := growslice_fits hroom hb
  omega
 have h3 : ¬ (((sLen + m : Nat) : Int) > IntKind.i64.max) := by
  simp only [capBound] at hbound
  simp only [IntKind.max, IntKind.signed, IntKind.bits, if_true]
  omega
 have hti : ∀ w', (typeInfo e).run P w' = .ok i w' := fun w' => by simp [typeInfo, hi]
 unfold Builtin.append_
 rcases hd with rfl | ⟨d, rfl⟩ <;>
 simp only [List.getElem?_toArray, List.getElem?_cons_zero, List.getElem?_cons_succ, Sem.run_bind, rU9 hu, rU9 hx, Result.andThen_ok, rS9 hn, Sem.run_pure, Bool.false_eq_true, if_false, hl, if_neg h1, Bool.not_false, if_true, hti, false_or]
 all_goals
  rw [if_neg (fun h => h3 h.1)]
  simp only [Sem.run_bind, hti, Result.andThen_ok, if_neg h2]
  have hch : (choose (Question.appendCap (sLen + m) sCap e)).run P w = .ok (grownCap w (sLen + m) sCap e) w.drew := by
   rw [run_choose]
   simp only [Question.forced, Bool.false_eq_true, if_false]
   rfl
  simp only [hch, Result.andThen_ok, run_askRoom, hold, hf, run_zeroValue' hi hz, newRow, Sem.run_bind, run_newObj, Sem.run_pure]
  rfl
theorem grow_sound {P : Program} {G : View} (hS : Sim G) {t tx ty e : TypeId} {n : Nat} {dx : TypeDesc} (hd : dx = .string ∨ ∃ d, dx = .slice d) (hu : P.underlying t = some (.slice e)) (hx : P.underlying tx = some dx)
  (hn : sizeP P e = some n) {i : TypeInfo} (hi : P.info? e = some i) {z : Value} (hz : i.zero = some z) (hzs : z.cells.size = n) (hby : i.bytes ≤ 100) {c : CT} (hw : n = c.width)
  {id : Nat} {zs : List c.den} {zf : Bool} {v : Value} (hown : RepC G (.own id c zs) v) (ho : G.H[id]? = some (.tok e c zs.length zf)) {x : Value} {ys : List c.den} {us : List Value}
  (hl : (Builtin.lenOf x).run P G.w = .ok ys.length G.w) (hus : Rows G.I G.w c ys us) (hf : ∀ w' : World, w'.heap = G.w.heap → (Builtin.firstCells n ys.length x).run P w' = .ok us.toArray w')
  (h1us : ∀ u ∈ us, u.oneCell' = true) (hpos : 0 < ys.length) (hbound : zs.length + ys.length ≤ capBound) :
  ∃ G' u, (Builtin.append_ #[t, tx] ty #[v, x]).run P G.w = .ok u G'.w ∧ Ext G G' ∧ Sim G' ∧ G'.H = G.H.set id (.tok e c (zs.length + ys.length) zf) ∧ RepC G' (.own id c (zs ++ ys)) u := by
 obtain ⟨hrep, t', n', z', ho', hle, htok⟩ := hown
 rw [ho] at ho'
 cases ho'
 have hmax : zs.length + ys.length ≤ maxLen := by simp only [capBound] at hbound; simp only [maxLen]; omega
 have key : ∀ (b cap : Nat) (w' : World) (vs rest : List Value) (u : Value), Rows G.I G.w c zs vs → Grown G id b e c zs.length (zs.length + ys.length) zf w' →
   w'.heap[b]? = some (.cells (vs ++ us ++ rest).toArray e (0, 0)) → zs.length + ys.length ≤ cap → cap ≤ maxLen → (vs ++ us ++ rest).length = cap * c.width →
   u = .slice (some ⟨b, 0, none⟩) (zs.length + ys.length) cap → (Builtin.append_ #[t, tx] ty #[v, x]).run P G.w = .ok u w' →
   ∃ G' u, (Builtin.append_ #[t, tx] ty #[v, x]).run P G.w = .ok u G'.w ∧ Ext G G' ∧ Sim G' ∧ G'.H = G.H.set id (.tok e c (zs.length + ys.length) zf) ∧ RepC G' (.own id c (zs ++ ys)) u := by
  intro b cap w' vs rest u hvs g hb hcap hcm hsz hu' hrun
  have he := Ext.grow hS g
  refine ⟨_, u, hrun, he, Sim.grow hS g, rfl, ?_⟩
  have hrows := (hvs.append hus).mono he.stays
  have hlen : (zs ++ ys).length = zs.length + ys.length := by simp
  have hρ : (G.grow id b e c (zs.length + ys.length) zf w').ρ id = b := by show (if id = id then b else G.ρ id) = b; simp
  have hH : (G.grow id b e c (zs.length + ys.length) zf w').H[id]? = some (.tok e c (zs.length + ys.length) zf) := by rw [View.grow_get g.ho]; simp
  refine ⟨?_, e, _, zf, hH, by rw [hlen]; exact nR9 _, fun _ => .inr ⟨.inr (by omega), cap, _, by rw [hρ]; exact hu', by rw [hρ]; exact hb, hcap, hcm, by simpa using hsz⟩⟩
  rw [hu']
  have hfin := hrows.list (b := b) (off := 0) (cap := cap) (by rw [hlen]; exact hcap) fun k u' hk => ?_
  ·rw [hlen] at hfin
   exact hfin
  have hlt : k < (vs ++ us).length := (List.getElem?_eq_some_iff.1 hk).1
  rw [hrows.1, hlen] at hlt
  refine ⟨.inr ⟨rfl, by simpa using hlt⟩, ?_⟩
  simp only [Nat.zero_add]
  show w'.cell? _ = _
  rw [cell_of_row w' b k _ e (0, 0) hb]
  simp only [List.getElem?_toArray]
  rw [List.getElem?_append_left (by rw [hrows.1, hlen]; exact hlt)]
  exact hk
 have out : ∀ (base : Option Addr) (sCap : Nat) (vs : List Value), v = .slice base zs.length sCap → Rows G.I G.w c zs vs → sCap < zs.length + ys.length →
   (∀ w' : World, w'.heap = G.w.heap → (Builtin.firstCells n zs.length (.slice base zs.length sCap)).run P w' = .ok vs.toArray w') →
   ∃ G' u, (Builtin.append_ #[t, tx] ty #[v, x]).run P G.w = .ok u G'.w ∧ Ext G G' ∧ Sim G' ∧ G'.H = G.H.set id (.tok e c (zs.length + ys.length) zf) ∧ RepC G' (.own id c (zs ++ ys)) u := by
  intro base sCap vs hv hvs hroom hold
  have hrun := run_append_out (P := P) (w := G.w) (ty := ty) hd hu hx hn hi hz hby hl (hf _ rfl) (hold G.w.drew rfl) hroom hbound
  have hge := grownCap_ge G.w (zs.length + ys.length) sCap e
  have hgm := grownCap_le_maxLen G.w (zs.length + ys.length) sCap e hmax
  have hzc : (Builtin.zeroCells z.cells (grownCap G.w (zs.length + ys.length) sCap e - (zs.length + ys.length))).size = (grownCap G.w (zs.length + ys.length) sCap e - (zs.length + ys.length)) * c.width := by
   rw [size_zeroCells, hzs, hw]
  have harr : (vs.toArray ++ us.toArray ++ Builtin.zeroCells z.cells (grownCap G.w (zs.length + ys.length) sCap e - (zs.length + ys.length))) =
    (vs ++ us ++ (Builtin.zeroCells z.cells (grownCap G.w (zs.length + ys.length) sCap e - (zs.length + ys.length))).toList).toArray := by
   apply Array.ext'
   simp
  have hsz : (vs ++ us ++ (Builtin.zeroCells z.cells (grownCap G.w (zs.length + ys.length) sCap e - (zs.length + ys.length))).toList).length = grownCap G.w (zs.length + ys.length) sCap e * c.width := by
   simp only [zP9, hvs.1, hus.1, Array.length_toList, hzc, ← Nat.add_mul]
   congr 1
   omega
  rw [← hv] at hrun
  rw [harr] at hrun
  refine key G.w.heap.size (grownCap G.w (zs.length + ys.length) sCap e)
   (G.w.drew.alloc (.cells (vs ++ us ++ (Builtin.zeroCells z.cells (grownCap G.w (zs.length + ys.length) sCap e - (zs.length + ys.length))).toList).toArray e)) vs
   (Builtin.zeroCells z.cells (grownCap G.w (zs.length + ys.length) sCap e - (zs.length + ys.length))).toList _ hvs ⟨ho, by omega, by simp, rfl, rfl, rfl, fun k hk _ => alloc_heap_old G.w.drew _ k hk, .inl (nR9 _), by simp, fun o ho => absurd (hS.ilt _ _ ho) (Nat.lt_irrefl _), _, alloc_heap_new G.w.drew _, ?_⟩
   (alloc_heap_new G.w.drew _) hge hgm hsz rfl hrun
  simp only [zS9]
  rw [hsz]
  exact Nat.mul_le_mul_right _ hge
 rcases htok rfl with ⟨_, h0, rfl⟩ | ⟨hblk, cap, cur, rfl, hh, hcap, hcm, hcs⟩
 ·have hzs0 : zs = [] := List.eq_nil_of_length_eq_zero h0
  subst hzs0
  exact out none 0 [] rfl Rows.nil (by simpa using hpos) fun w' _ => rfl
 ·rcases hrep.rows with ⟨h0, hv⟩ | ⟨ad, cap', vs, hv, _, hvs, hm⟩
  ·cases hv
  ·cases hv
   have hcell : ∀ (k : Nat) u, vs[k]? = some u → cur[k]? = some u := by
    intro k u hk
    have := (hm k u hk).2.2
    simp only [Nat.zero_add] at this
    have e1 := cell_of_row G.w (G.ρ id) k cur e (0, 0) hh
    have e2 : G.w.cell? ⟨G.ρ id, k, none⟩ = some u := this
    rw [e1] at e2
    exact e2
   have htake : cur.toList.take (zs.length * n) = vs := by
    have hlv : vs.length = zs.length * n := by rw [hvs.1, hw]
    have hle : zs.length * n ≤ cur.toList.length := by
     have e0 : cur.toList.length = cap * n := by simp [hcs, hw]
     rw [e0]; exact Nat.mul_le_mul_right _ hcap
    apply List.ext_getElem?
    intro k
    rcases Nat.lt_or_ge k vs.length with hk | hk
    ·obtain ⟨u, hu⟩ : ∃ u, vs[k]? = some u := ⟨vs[k], List.getElem?_eq_getElem hk⟩
     rw [hu, List.getElem?_take, if_pos (by omega)]
     simpa using hcell k u hu
    ·rw [List.getElem?_eq_none hk, List.getElem?_eq_none (by rw [List.length_take]; omega)]
   by_cases hroom : zs.length + ys.length ≤ cap
   ·have hst := run_storeCells_at P (G.ρ id) (zs.length * n) e us 0 cur G.w hh (by
     have : (zs.length + ys.length) * n ≤ cap * n := Nat.mul_le_mul_right _ hroom
     rw [Nat.add_mul] at this
     rw [hus.1, hcs, ← hw]
     omega) h1us
    simp only [Nat.add_zero] at hst
    rw [htake] at hst
    have hrun := run_append_in (P := P) (w := G.w) (ty := ty) (base := some ⟨G.ρ id, 0, none⟩) (sCap := cap) hd hu hx hn hl (hf _ rfl) hroom (by
     simp only [addr_add, Nat.zero_add]
     exact hst)
    have hsz : (vs ++ us ++ cur.toList.drop (zs.length * n + us.length)).length = cap * c.width := by
     have : (zs.length + ys.length) * n ≤ cap * n := Nat.mul_le_mul_right _ hroom
     rw [Nat.add_mul] at this
     simp only [zP9, List.length_drop, Array.length_toList, hcs, hvs.1, hus.1, ← hw]
     omega
    have hheap := setRow_heap G.w (G.ρ id) cur (vs ++ us ++ cur.toList.drop (zs.length * n + us.length)).toArray e (0, 0) hh
    refine key (G.ρ id) cap (G.w.setRow (G.ρ id) (vs ++ us ++ cur.toList.drop (zs.length * n + us.length)).toArray) vs (cur.toList.drop (zs.length * n + us.length)) _ hvs ⟨ho, by omega, by simp, rfl, rfl, rfl, fun k _ hk => setRow_other _ _ _ _ hk, .inr ⟨_, ho, hblk, rfl⟩, ?_, ?_, _, hheap, ?_⟩ hheap hroom hcm hsz rfl hrun
    ·simp; exact (Array.getElem?_eq_some_iff.1 hh).1
    ·intro k hk
     have hold := hS.objs id _ ho hblk
     obtain ⟨cur', hh', _, hno⟩ := hold
     rw [hh] at hh'
     cases hh'
     have hlt : k < zs.length * c.width := by
      rcases Nat.lt_or_ge k (zs.length * c.width) with h | h
      ·exact h
      ·exact absurd hk (hno k h)
     have hk2 : k < vs.length := by rw [hvs.1]; exact hlt
     show (G.w.setRow (G.ρ id) _).cell? _ = G.w.cell? _
     rw [cell_of_row _ _ _ _ _ _ hheap, cell_of_row _ _ _ _ _ _ hh]
     simp only [List.getElem?_toArray]
     rw [List.append_assoc, List.getElem?_append_left hk2, List.getElem?_eq_getElem hk2]
     exact (hcell k _ (List.getElem?_eq_getElem hk2)).symm
    ·simp only [zS9]
     rw [hsz]
     exact Nat.mul_le_mul_right _ hroom
   ·exact out _ cap vs rfl hvs (by omega) fun w' hw' => by
     refine run_firstCells_some w' n zs.length ⟨G.ρ id, 0, none⟩ _ _ vs (by rw [hvs.1, hw]) fun j u hj => ?_
     rw [addr_add]
     have := (hm j u hj).2.2
     simpa [World.at', World.cell?, hw'] using this
theorem oneCell_rep {I w} : ∀ (t : CT) (z : t.den) (vs : List Value), Rep I w t z vs → ∀ u ∈ vs, u.oneCell' = true := by
 intro t
 induction t with
 | int k => intro z vs h u hu; cases h; simp at hu; subst hu; rfl
 | bool => intro z vs h u hu; cases h; simp at hu; subst hu; rfl
 | str => intro z vs h u hu; cases h; simp at hu; subst hu; rfl
 | list e ih =>
  intro z vs h u hu
  rcases h with ⟨_, h⟩ | ⟨b, off, cap, h, _, _⟩ | ⟨_, a, cap, h⟩
  ·subst h; simp at hu; subst hu; rfl
  ·subst h; simp at hu; subst hu; rfl
  ·subst h; simp at hu; subst hu; rfl
 | pair a b iha ihb =>
  intro z vs h u hu
  obtain ⟨xs, ys, rfl, hx, hy⟩ := h
  rcases List.mem_append.1 hu with h | h
  ·exact iha _ _ hx u h
  ·exact ihb _ _ hy u h
 | fn => intro z vs h u hu; cases h; simp at hu; subst hu; rfl
 | map k v _ _ =>
  intro z vs h u hu
  obtain ⟨b, ens, clock, h, _⟩ := h
  subst h; simp at hu; subst hu; rfl
theorem Rows.oneCell {I w} {e : CT} : ∀ {zs : List e.den} {vs : List Value}, Rows I w e zs vs → ∀ u ∈ vs, u.oneCell' = true := by
 intro zs vs h u hu
 obtain ⟨k, hk⟩ := List.getElem?_of_mem hu
 have hlt : k < zs.length * e.width := by rw [← h.1]; exact (List.getElem?_eq_some_iff.1 hk).1
 have hpos : 0 < e.width := by
  rcases Nat.eq_zero_or_pos e.width with h0 | h0
  ·rw [h0] at hlt; omega
  ·exact h0
 have hi : k / e.width < zs.length := by rw [Nat.div_lt_iff_lt_mul hpos]; exact hlt
 obtain ⟨us, hr, hj⟩ := h.2 (k / e.width) _ (List.getElem?_eq_getElem hi)
 have hlen := Rep.length _ _ _ hr
 have hm : k % e.width < us.length := by rw [hlen]; exact Nat.mod_lt _ hpos
 have := hj (k % e.width) _ (List.getElem?_eq_getElem hm)
 rw [show k / e.width * e.width + k % e.width = k by rw [Nat.mul_comm]; exact Nat.div_add_mod k e.width] at this
 rw [hk] at this
 cases this
 exact oneCell_rep _ _ _ hr _ (List.getElem_mem hm)
theorem View.set_same {G : View} {id : Nat} {o : AO} (h : G.H[id]? = some o) : G.H.set id o = G.H := by
 apply List.ext_getElem?
 intro i
 rw [List.getElem?_set]
 split
 ·rename_i he
  subst he
  split
  ·exact h.symm
  ·rename_i hn
   rw [List.getElem?_eq_none (by omega)]
 ·rfl
theorem nilTok {G : View} (hS : Sim G) (e : TypeId) (c : CT) :
  ∃ G', G'.w = G.w ∧ Ext G G' ∧ Sim G' ∧ G'.H = G.H ++ [.tok e c 0 true] ∧ RepC G' (.own G.H.length c []) (.slice none 0 0) ∧ (∀ x v, RepS G x v → RepS G' x v) := by
 have hfree : ∀ id, ¬ G.holds id G.w.heap.size := fun id h => absurd (hS.lt h) (Nat.lt_irrefl _)
 have hnb : ¬ (AO.tok e c 0 true).blocked := by simp [AO.blocked]
 have he : Ext G (G.obj G.w.heap.size (.tok e c 0 true)) := Ext.obj_self G fun h => absurd h hnb
 have hlast := G.obj_last G.w.heap.size (.tok e c 0 true)
 refine ⟨G.obj G.w.heap.size (.tok e c 0 true), rfl, he, Sim.obj hS hfree fun h => absurd h hnb, rfl, ?_, fun x v => RepS.mono he⟩
 exact ⟨.inl ⟨rfl, rfl⟩, e, 0, true, hlast.1, nR9 _, fun _ => .inl ⟨rfl, rfl, rfl⟩⟩
theorem grow_full {P : Program} {G : View} (hS : Sim G) {t tx ty e : TypeId} {n : Nat} {dx : TypeDesc} (hd : dx = .string ∨ ∃ d, dx = .slice d) (hu : P.underlying t = some (.slice e)) (hx : P.underlying tx = some dx)
  (hn : sizeP P e = some n) {i : TypeInfo} (hi : P.info? e = some i) {z : Value} (hz : i.zero = some z) (hzs : z.cells.size = n) (hby : i.bytes ≤ 100) {c : CT} (hw : n = c.width)
  {zs : List c.den} {v : Value} (hown : RepC G (.fl c zs) v) {x : Value} {ys : List c.den} {us : List Value}
  (hl : (Builtin.lenOf x).run P G.w = .ok ys.length G.w) (hus : Rows G.I G.w c ys us) (hf : ∀ w' : World, w'.heap = G.w.heap → (Builtin.firstCells n ys.length x).run P w' = .ok us.toArray w')
  (hpos : 0 < ys.length) (hbound : zs.length + ys.length ≤ capBound) :
  ∃ G' u, (Builtin.append_ #[t, tx] ty #[v, x]).run P G.w = .ok u G'.w ∧ Ext G G' ∧ Sim G' ∧ G'.H = G.H ++ [.tok e c (zs.length + ys.length) true] ∧ RepC G' (.own G.H.length c (zs ++ ys)) u := by
 obtain ⟨hrep, base, rfl⟩ := hown
 have hmax : zs.length + ys.length ≤ maxLen := by simp only [capBound] at hbound; simp only [maxLen]; omega
 obtain ⟨G1, hw1, he1, hs1, hH1, _, hmono⟩ := nilTok hS e c
 have ho1 : G1.H[G.H.length]? = some (.tok e c 0 true) := by rw [hH1]; simp
 have out : ∀ (vs : List Value), Rows G.I G.w c zs vs →
   (∀ w' : World, w'.heap = G.w.heap → (Builtin.firstCells n zs.length (.slice base zs.length zs.length)).run P w' = .ok vs.toArray w') →
   ∃ G' u, (Builtin.append_ #[t, tx] ty #[.slice base zs.length zs.length, x]).run P G.w = .ok u G'.w ∧ Ext G G' ∧ Sim G' ∧ G'.H = G.H ++ [.tok e c (zs.length + ys.length) true] ∧ RepC G' (.own G.H.length c (zs ++ ys)) u := by
  intro vs hvs hold
  have hrun := run_append_out (P := P) (w := G.w) (ty := ty) hd hu hx hn hi hz hby hl (hf _ rfl) (hold G.w.drew rfl) (by omega) hbound
  have hge := grownCap_ge G.w (zs.length + ys.length) zs.length e
  have hgm := grownCap_le_maxLen G.w (zs.length + ys.length) zs.length e hmax
  have hzc : (Builtin.zeroCells z.cells (grownCap G.w (zs.length + ys.length) zs.length e - (zs.length + ys.length))).size = (grownCap G.w (zs.length + ys.length) zs.length e - (zs.length + ys.length)) * c.width := by
   rw [size_zeroCells, hzs, hw]
  have harr : (vs.toArray ++ us.toArray ++ Builtin.zeroCells z.cells (grownCap G.w (zs.length + ys.length) zs.length e - (zs.length + ys.length))) =
    (vs ++ us ++ (Builtin.zeroCells z.cells (grownCap G.w (zs.length + ys.length) zs.length e - (zs.length + ys.length))).toList).toArray := by
   apply Array.ext'
   simp
  have hsz : (vs ++ us ++ (Builtin.zeroCells z.cells (grownCap G.w (zs.length + ys.length) zs.length e - (zs.length + ys.length))).toList).length = grownCap G.w (zs.length + ys.length) zs.length e * c.width := by
   simp only [zP9, hvs.1, hus.1, Array.length_toList, hzc, ← Nat.add_mul]
   congr 1
   omega
  rw [harr] at hrun
  generalize hb : G.w.heap.size = b at *
  generalize hcap : grownCap G.w (zs.length + ys.length) zs.length e = cap at *
  generalize hrest : (Builtin.zeroCells z.cells (cap - (zs.length + ys.length))).toList = rest at *
  obtain ⟨w', hw'⟩ : ∃ w', w' = G.w.drew.alloc (.cells (vs ++ us ++ rest).toArray e) := ⟨_, rfl⟩
  rw [← hw'] at hrun
  have hheap : w'.heap[b]? = some (.cells (vs ++ us ++ rest).toArray e (0, 0)) := by rw [hw', ← hb]; exact alloc_heap_new G.w.drew _
  have g : Grown G1 G.H.length b e c 0 (zs.length + ys.length) true w' := by
   refine ⟨ho1, by omega, ?_, ?_, ?_, ?_, ?_, .inl ?_, ?_, ?_, _, hheap, ?_⟩
   ·rw [hw1, hw']; simp
   ·rw [hw1, hw']; rfl
   ·rw [hw1, hw']; rfl
   ·rw [hw1, hw']; rfl
   ·rw [hw1, hw']; exact fun k hk _ => alloc_heap_old G.w.drew _ k hk
   ·rw [hw1, hb]; exact nR9 _
   ·rw [hw', ← hb]; simp
   ·exact fun o ho => absurd (hs1.ilt _ _ ho) (by rw [hw1, hb]; exact Nat.lt_irrefl _)
   ·simp only [zS9]
    rw [hsz]
    exact Nat.mul_le_mul_right _ hge
  have he := Ext.grow hs1 g
  refine ⟨_, .slice (some ⟨b, 0, none⟩) (zs.length + ys.length) cap, hrun, he1.trans he, Sim.grow hs1 g, ?_, ?_⟩
  ·show G1.H.set G.H.length _ = _
   rw [hH1, List.set_append_right _ _ (nR9 _)]
   simp
  ·have hrows := ((hvs.append hus).mono he1.stays).mono he.stays
   have hlen : (zs ++ ys).length = zs.length + ys.length := by simp
   have hρ : (G1.grow G.H.length b e c (zs.length + ys.length) true w').ρ G.H.length = b := by show (if G.H.length = G.H.length then b else _) = b; simp
   have hH : (G1.grow G.H.length b e c (zs.length + ys.length) true w').H[G.H.length]? = some (.tok e c (zs.length + ys.length) true) := by rw [View.grow_get g.ho]; simp
   refine ⟨?_, e, _, true, hH, by rw [hlen]; exact nR9 _, fun _ => .inr ⟨.inr (by omega), cap, _, by rw [hρ], by rw [hρ]; exact hheap, hge, hgm, by simpa using hsz⟩⟩
   have hfin := hrows.list (b := b) (off := 0) (cap := cap) (by rw [hlen]; exact hge) fun k u' hk => ?_
   ·rw [hlen] at hfin
    exact hfin
   have hlt : k < (vs ++ us).length := (List.getElem?_eq_some_iff.1 hk).1
   rw [hrows.1, hlen] at hlt
   refine ⟨.inr ⟨rfl, by simpa using hlt⟩, ?_⟩
   simp only [Nat.zero_add]
   show w'.cell? _ = _
   rw [cell_of_row w' b k _ e (0, 0) hheap]
   simp only [List.getElem?_toArray]
   rw [List.getElem?_append_left (by rw [hrows.1, hlen]; exact hlt)]
   exact hk
 rcases hrep.rows with ⟨h0, hv⟩ | ⟨ad, cap', vs, hv, _, hvs, hm⟩
 ·subst h0
  cases hv
  exact out [] Rows.nil fun w' _ => rfl
 ·cases hv
  refine out vs hvs fun w' hw' => ?_
  refine run_firstCells_some w' n zs.length ad _ _ vs (by rw [hvs.1, hw]) fun j u hj => ?_
  obtain ⟨b, o, s⟩ := ad
  obtain ⟨hs, _, this⟩ := hm j u hj
  cases hs
  rw [addr_add]
  simpa [World.at', World.cell?, hw'] using this
theorem appendA_sound {P : Program} {G : View} (hS : Sim G) {t tx ty : TypeId} {s x : SV} {K : SV → List AO → Prop} (h : appendA P t tx s x G.H K) {vs vx : Value} (rs : RepS G s vs) (rx : RepS G x vx) :
  ∃ r G' u, (Builtin.append_ #[t, tx] ty #[vs, vx]).run P G.w = .ok u G'.w ∧ Ext G G' ∧ Sim G' ∧ K r G'.H ∧ RepS G' r u := by
 unfold appendA at h
 split at h
 ·rename_i e dx hu hx
  split at h
  ·rename_i n info z c hn hi hz hc
   split at h
   ·rename_i hb
    simp only [Bool.and_eq_true, Nat.beq_eq, Nat.ble_eq] at hb
    obtain ⟨⟨⟨⟨hw, hzl⟩, hpos⟩, hby⟩, hdx⟩ := hb
    have hd : dx = .string ∨ ∃ d, dx = .slice d := by cases dx <;> simp_all
    obtain ⟨i', v0, hi', hz0, hrep, _⟩ := zeroCells_cases hz
    rw [hi] at hi'
    cases hi'
    have hzs : v0.cells.size = n := by
     have := (hrep G).length
     simp only [Array.length_toList] at this
     omega
    split at h
    ·rename_i id c' zs
     split at h
     ·rename_i e' c'' m zf ho
      split at h
      ·rename_i hde
       simp only [Bool.and_eq_true, decide_eq_true_eq] at hde
       obtain ⟨⟨rfl, rfl⟩, rfl⟩ := hde
       split at h
       ·rename_i ys hys
        obtain ⟨hm, hbound, hK⟩ := h
        subst hm
        obtain ⟨us, hl, hus, hf⟩ := appended_sound (P := P) hys rx n hw
        by_cases h0 : ys.length = 0
        ·have hy0 : ys = [] := List.eq_nil_of_length_eq_zero h0
         subst hy0
         have hu0 : us = [] := List.eq_nil_of_length_eq_zero (by simpa using hus.1)
         subst hu0
         obtain ⟨base, cap, hv, hcap⟩ := rep_list_len rs.1
         simp only [zN9, Nat.add_zero, List.append_nil] at hK hl hf
         rw [View.set_same ho] at hK
         refine ⟨_, G, vs, ?_, Ext.refl G, hS, hK, rs⟩
         subst hv
         exact run_append_in hd hu hx hn hl (hf _ rfl) (by simpa using hcap) (by cases base <;> rfl)
        ·obtain ⟨G', u, hr, he, hs', hH, hown⟩ := grow_sound hS (ty := ty) hd hu hx hn hi hz0 hzs hby hw rs ho hl hus hf hus.oneCell (by omega) hbound
         exact ⟨.a (.c (.own id _ (zs ++ ys))), G', u, hr, he, hs', hH ▸ hK, hown⟩
       ·exact h.elim
      ·exact h.elim
     ·exact h.elim
    ·rename_i c' zs
     split at h
     ·rename_i ys hdc hys
      obtain rfl := oT9 hdc
      obtain ⟨hpos', hbound, hK⟩ := h
      obtain ⟨us, hl, hus, hf⟩ := appended_sound (P := P) hys rx n hw
      obtain ⟨G', u, hr, he, hs', hH, hown⟩ := grow_full hS (ty := ty) hd hu hx hn hi hz0 hzs hby hw rs hl hus hf hpos' hbound
      exact ⟨.a (.c (.own G.H.length _ (zs ++ ys))), G', u, hr, he, hs', hH ▸ hK, hown⟩
     ·exact h.elim
    ·split at h
     ·rename_i ys hys
      obtain ⟨hbound, hK⟩ := h
      obtain ⟨_, rfl⟩ := rs
      obtain ⟨G1, hw1, he1, hs1, hH1, hown1, hmono⟩ := nilTok hS e c
      have ho1 : G1.H[G.H.length]? = some (.tok e c 0 true) := by rw [hH1]; simp
      obtain ⟨us, hl, hus, hf⟩ := appended_sound (P := P) hys (hmono _ _ rx) n hw
      rw [hw1] at hl hf
      by_cases h0 : ys.length = 0
      ·have hy0 : ys = [] := List.eq_nil_of_length_eq_zero h0
       subst hy0
       have hu0 : us = [] := List.eq_nil_of_length_eq_zero (by simpa using hus.1)
       subst hu0
       refine ⟨.a (.c (.own G.H.length c [])), G1, .slice none 0 0, ?_, he1, hs1, hH1 ▸ hK, hown1⟩
       have := run_append_in (P := P) (w := G.w) (t := t) (tx := tx) (ty := ty) (base := none) (sLen := 0) (sCap := 0) (w' := G.w) hd hu hx hn hl (hf _ rfl) (nR9 _) rfl
       rw [hw1]
       exact this
      ·have hl' : (Builtin.lenOf vx).run P G1.w = .ok ys.length G1.w := by rw [hw1]; exact hl
       obtain ⟨G', u, hr, he, hs', hH, hown⟩ := grow_sound hs1 (ty := ty) (zs := []) hd hu hx hn hi hz0 hzs hby hw hown1 ho1 hl' hus (by rw [hw1]; exact hf) hus.oneCell (by omega) (by simpa using hbound)
       rw [hw1] at hr
       refine ⟨.a (.c (.own G.H.length c ys)), G', u, hr, he1.trans he, hs', ?_, hown⟩
       rw [hH, hH1]
       simp only [zN9, Nat.zero_add]
       rw [List.set_append_right _ _ (nR9 _)]
       simpa using hK
     ·exact h.elim
    ·exact h.elim
   ·exact h.elim
  ·exact h.elim
 ·exact h.elim
theorem bytes_sound {P : Program} {G : View} (hS : Sim G) {src dst e : TypeId} {s : ByteArray} (hs : P.underlying src = some .string) (hd : P.underlying dst = some (.slice e)) (he : P.underlying e = some (.int .u8)) (_hsz : s.size ≤ capBound) :
  ∃ G' u, (convert src dst (.string s)).run P G.w = .ok u G'.w ∧ Ext G G' ∧ Sim G' ∧ G'.H = G.H ∧ RepS G' (.list (.int .u8) (s.data.toList.map fun b => (b.toNat : Int))) u := by
 have hforced : (Question.appendCap s.size 0 e).forced = false := rfl
 let cap := grownCap G.w s.size 0 e
 let elems : Array Value := s.data.map fun b => .int .u8 b.toNat
 let cells := elems ++ Array.replicate (cap - s.size) (.int .u8 0)
 let G1 := G.drew
 have hs1 : Sim G1 := hS.drew
 let o : Obj := .cells cells e (cells.size, cells.size + 1)
 let G2 := G1.push (fun _ => True) o
 have he2 : Ext G G2 := (Ext.drew G).trans (Ext.push hs1 _ _)
 have hs2 : Sim G2 := Sim.push hs1 _ _
 have hge : s.size ≤ cap := grownCap_ge G.w s.size 0 e
 refine ⟨G2, .slice (some ⟨G.w.heap.size, 0, none⟩) s.size cap, ?_, he2, hs2, rfl, ?_⟩
 ·have hch : (choose (Question.appendCap s.size 0 e)).run P G.w = .ok cap G.w.drew := by
   rw [run_choose]
   simp only [hforced, Bool.false_eq_true, if_false]
   rfl
  have hw : ((G.w.drew.alloc (.cells cells e)).freeze ⟨G.w.heap.size, cells.size, none⟩ 1) = G2.w := by
   show World.freeze _ _ _ = G.w.drew.alloc o
   unfold World.freeze
   rw [if_neg (by decide)]
   unfold World.alloc
   congr 1
   apply Array.ext_getElem?
   intro i
   rw [Array.getElem?_modify]
   by_cases hi : G.w.heap.size = i
   ·subst hi
    have hdr : G.w.drew.heap = G.w.heap := rfl
    rw [hdr]
    simp [o]
   ·have hdr : G.w.drew.heap = G.w.heap := rfl
    rw [hdr]
    simp only [hi, if_false, Array.getElem?_push]
    simp only [Ne.symm hi, if_false]
  have hshape : (G.w.drew.alloc (.cells cells e)).shape? G.w.heap.size = some (e, cells.size) := by
   unfold World.shape?
   have := alloc_heap_new G.w.drew (.cells cells e)
   have h2 : (G.w.drew.alloc (.cells cells e)).heap[G.w.heap.size]? = some (.cells cells e) := this
   rw [h2]
  have hms : (markStringish ⟨G.w.heap.size, 0, none⟩).run P (G.w.drew.alloc (.cells cells e)) = .ok () G2.w := by
   unfold markStringish
   simp only [Sem.run_bind, run_shape, hshape, Result.andThen_ok, run_freeze, hw]
  simp only [convert, Sem.run_bind, rU9 hs, rU9 hd, rU9 he, Result.andThen_ok, Conv.stringToBytes, hch, newRow, run_newObj, Sem.run_pure]
  have e1 : ({ G.w.drew with heap := G.w.drew.heap.push (.cells (Array.map (fun b => Value.int .u8 b.toNat) s.data ++ Array.replicate (cap - s.size) (.int .u8 0)) e) } : World) = G.w.drew.alloc (.cells cells e) := rfl
  rw [e1]
  have e2 : G.w.drew.heap.size = G.w.heap.size := rfl
  rw [e2, hms]
  rfl
 ·have hrows : Rows G2.I G2.w (.int .u8) (s.data.toList.map fun b => (b.toNat : Int)) (s.data.toList.map fun b => Value.int .u8 b.toNat) := bytes_rows s
  have hlen : (s.data.toList.map fun b => (b.toNat : Int)).length = s.size := by simp only [List.length_map, ← bytes_size]
  have := hrows.list (b := G.w.heap.size) (off := 0) (cap := cap) (by rw [hlen]; exact hge) fun k u hk => ⟨.inr ⟨rfl, trivial⟩, ?_⟩
  ·rw [hlen] at this
   exact this
  ·simp only [Nat.zero_add]
   show G2.w.cell? _ = _
   have hh : G2.w.heap[G.w.heap.size]? = some o := alloc_heap_new G.w.drew o
   rw [cell_of_row G2.w G.w.heap.size k cells e (cells.size, cells.size + 1) hh]
   have hk' : elems[k]? = some u := by
    rw [← Array.getElem?_toList, Array.toList_map]
    exact hk
   have hlt : k < elems.size := (Array.getElem?_eq_some_iff.1 hk').1
   show (elems ++ _)[k]? = some u
   rw [Array.getElem?_append_left hlt, hk']
theorem heapOp0_sound {M : Mach} {G : View} (hS : Sim G) {ev : Operand → SV} {cv : Operand → Value} {o : Oper} {K : SV → List AO → Prop}
  (h : heapOp0 M ev G.H o.op K) (hr : ∀ x ∈ o.op.operands.toList, RepS G (ev x) (cv x)) :
  ∃ r G' nx u, (execOp cv o).run M.P G.w = .ok nx G'.w ∧ (nx = .value u ∨ nx = .skip ∧ u = undef) ∧ Ext G G' ∧ Sim G' ∧ K r G'.H ∧ RepS G' r u := by
 obtain ⟨dst, op, ty, pos, after, guard⟩ := o
 simp only at h hr ⊢
 have fin : ∀ {s : Sem Value}, (execOp cv { dst, op, type := ty, pos, after, guard } = (do pure (.value (← s)))) → (∃ r G' u, s.run M.P G.w = .ok u G'.w ∧ Ext G G' ∧ Sim G' ∧ K r G'.H ∧ RepS G' r u) →
   ∃ r G' nx u, (execOp cv { dst, op, type := ty, pos, after, guard }).run M.P G.w = .ok nx G'.w ∧ (nx = .value u ∨ nx = .skip ∧ u = undef) ∧ Ext G G' ∧ Sim G' ∧ K r G'.H ∧ RepS G' r u := by
  intro s he ⟨r, G', u, h1, h2, h3, h4, h5⟩
  exact ⟨r, G', .value u, u, by rw [he]; simp [h1], .inl rfl, h2, h3, h4, h5⟩
 unfold heapOp0 at h
 split at h
 ·rename_i t
  split at h
  ·rename_i z g hz hg
   obtain ⟨i, v, hi, hzv, hrep, _⟩ := zeroCells_cases hz
   have hb := boxA_sound (P := M.P) hS (v := v) h (by
    intro a ha
    have : a.cells = z := by
     have ha' := SV.a.inj ha
     subst ha'
     split <;> rfl
    rw [this]
    exact hrep G)
   refine fin rfl ?_
   obtain ⟨r, G', u, h1, h2⟩ := hb
   refine ⟨r, G', u, ?_, h2⟩
   simp only [Instr.alloc, Sem.run_bind, run_zeroValue' hi hzv, Result.andThen_ok]
   simpa using h1
  ·exact h.elim
 ·rename_i t x
  have hx := hr x (by simp [Op.operands])
  exact fin rfl (boxA_sound hS h fun a ha => by rw [ha] at hx; exact AV.cells_rep' hx)
 ·rename_i t a x
  obtain ⟨G', h1, h2, h3, h4⟩ := storeA_sound hS h (hr a (by simp [Op.operands])) (hr x (by simp [Op.operands]))
  exact ⟨.none, G', .skip, undef, by simp [execOp, h1], .inr ⟨rfl, rfl⟩, h2, h3, h4, trivial⟩
 ·rename_i t len parts
  refine fin rfl (buildSliceA_sound hS h ?_)
  have : ∀ (l : List (Nat × Operand)), (∀ x ∈ l, RepS G (ev x.2) (cv x.2)) → All2 (PartRep G) (l.map fun p => (p.1, ev p.2)) (l.map fun p => (p.1, cv p.2)) := by
   intro l hl
   induction l with
   | nil => exact .nil
   | cons a l ih => exact .cons ⟨rfl, hl a (by simp)⟩ (ih fun x hx => hl x (by simp [hx]))
  have h2 := this parts.toList (fun x hx => hr x.2 (by simp only [Op.operands]; exact List.mem_map.2 ⟨x, hx, rfl⟩))
  simpa using h2
 ·rename_i src dst' x
  have hx := hr x (by simp [Op.operands])
  split at h
  ·rename_i e s hs hd hxs
   rw [hxs] at hx
   obtain ⟨_, hv⟩ := hx
   split at h
   ·rename_i he _
    obtain ⟨hsz, hK⟩ := h
    obtain ⟨G', u, h1, h2, h3, h4, h5⟩ := bytes_sound (P := M.P) hS hs hd he hsz
    exact fin rfl ⟨_, G', u, by rw [hv]; exact h1, h2, h3, h4 ▸ hK, h5⟩
   ·exact h.elim
  ·exact h.elim
 ·rename_i c
  obtain ⟨callee, args, argTypes⟩ := c
  have hargs : ∀ x ∈ args.toList, RepS G (ev x) (cv x) := fun x hx => hr x (by simp [Op.operands, Call.operands]; exact .inr (by simpa using hx))
  simp only at h
  split at h
  ·split at h
   ·rename_i s x t tx hx ht
    have e1 : args = #[s, x] := by rw [← Array.toArray_toList (xs := args), hx]
    have e2 : argTypes = #[t, tx] := by rw [← Array.toArray_toList (xs := argTypes), ht]
    subst e1; subst e2
    obtain ⟨r, G', u, h1, h2⟩ := appendA_sound (ty := ty) hS h (hargs s (by simp)) (hargs x (by simp))
    exact ⟨r, G', .value u, u, by simp [execOp, resolve, invoke, builtin, h1], .inl rfl, h2⟩
   ·exact h.elim
  ·exact h.elim
 ·exact h.elim
end Go.Ab
