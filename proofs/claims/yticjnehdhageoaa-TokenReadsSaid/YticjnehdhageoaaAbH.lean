/- The abstract machine's operations on memory are the model's. -/
import Derived.Test.YticjnehdhageoaaAbG
namespace Go.Ab
set_option linter.unusedSectionVars false
variable [Base]

/-- Rows of data, one after the other. -/
def Rows (I : Cells) (w : World) (e : CT) (zs : List e.den) (vs : List Value) : Prop :=
  vs.length = zs.length * e.width ∧ ∀ (i : Nat) z, zs[i]? = some z → ∃ us : List Value, Rep I w e z us ∧ ∀ (j : Nat) u, us[j]? = some u → vs[i * e.width + j]? = some u

theorem Rows.nil {I w} {e : CT} : Rows I w e [] [] := ⟨by simp, fun i z h => by simp at h⟩

theorem Rows.cons {I w} {e : CT} {z : e.den} {zs : List e.den} {us vs : List Value} (h : Rep I w e z us) (t : Rows I w e zs vs) : Rows I w e (z :: zs) (us ++ vs) := by
  have hl := Rep.length _ _ _ h
  refine ⟨by simp [hl, t.1, Nat.add_mul, Nat.add_comm], fun i z' hz => ?_⟩
  cases i with
  | zero =>
    simp at hz
    subst hz
    exact ⟨us, h, fun j u hj => by
      have : j < us.length := (List.getElem?_eq_some_iff.1 hj).1
      simp only [Nat.zero_mul, Nat.zero_add]
      rw [List.getElem?_append_left this, hj]⟩
  | succ i =>
    simp at hz
    obtain ⟨xs, hx, hxs⟩ := t.2 i z' hz
    refine ⟨xs, hx, fun j u hj => ?_⟩
    have := hxs j u hj
    rw [List.getElem?_append_right (by rw [hl, Nat.add_mul]; omega), hl]
    rw [← this]
    congr 1
    rw [Nat.add_mul]
    omega

theorem Rows.append {I w} {e : CT} {zs ys : List e.den} {vs us : List Value} (h : Rows I w e zs vs) (k : Rows I w e ys us) : Rows I w e (zs ++ ys) (vs ++ us) := by
  refine ⟨by simp [h.1, k.1, Nat.add_mul], fun i z hz => ?_⟩
  rcases Nat.lt_or_ge i zs.length with hi | hi
  · rw [List.getElem?_append_left hi] at hz
    obtain ⟨xs, hx, hxs⟩ := h.2 i z hz
    refine ⟨xs, hx, fun j u hj => ?_⟩
    have := hxs j u hj
    rw [List.getElem?_append_left (List.getElem?_eq_some_iff.1 this).1, this]
  · rw [List.getElem?_append_right hi] at hz
    obtain ⟨xs, hx, hxs⟩ := k.2 _ z hz
    refine ⟨xs, hx, fun j u hj => ?_⟩
    have := hxs j u hj
    have e1 : zs.length * e.width ≤ i * e.width := Nat.mul_le_mul_right _ hi
    rw [List.getElem?_append_right (by rw [h.1]; omega), h.1, ← this]
    congr 1
    rw [Nat.sub_mul]
    omega

theorem Rows.mono {I w I' w'} (hs : Stays I w I' w') {e : CT} {zs : List e.den} {vs : List Value} (h : Rows I w e zs vs) : Rows I' w' e zs vs :=
  ⟨h.1, fun i z hz => by obtain ⟨us, hu, hj⟩ := h.2 i z hz; exact ⟨us, Rep.mono hs _ _ _ hu, hj⟩⟩

theorem Rows.list {I w} {e : CT} {zs : List e.den} {vs : List Value} (h : Rows I w e zs vs) {b off cap : Nat} (hc : zs.length ≤ cap) (hm : ∀ (k : Nat) u, vs[k]? = some u → I b (off + k) ∧ w.at' b (off + k) = some u) :
    Rep I w (.list e) zs [.slice (some ⟨b, off, none⟩) zs.length cap] := by
  refine .inr ⟨b, off, cap, rfl, hc, fun i z hz => ?_⟩
  obtain ⟨us, hu, hj⟩ := h.2 i z hz
  refine ⟨us, hu, fun j u hju => ?_⟩
  have := hm _ _ (hj j u hju)
  rw [← Nat.add_assoc] at this
  exact this

theorem rows_of {I w} {e : CT} {b : Nat} : ∀ (zs : List e.den) (off : Nat), (∀ (i : Nat) z, zs[i]? = some z → ∃ us : List Value, Rep I w e z us ∧ ∀ (j : Nat) u, us[j]? = some u → I b (off + i * e.width + j) ∧ w.at' b (off + i * e.width + j) = some u) →
    ∃ vs, Rows I w e zs vs ∧ ∀ (k : Nat) u, vs[k]? = some u → I b (off + k) ∧ w.at' b (off + k) = some u := by
  intro zs
  induction zs with
  | nil => intro off _; exact ⟨[], Rows.nil, fun k u h => by simp at h⟩
  | cons z zs ih =>
    intro off h
    obtain ⟨us, hu, hus⟩ := h 0 z rfl
    obtain ⟨vs, hv, hvs⟩ := ih (off + e.width) (fun i z' hz => by
      obtain ⟨xs, hx, hxs⟩ := h (i + 1) z' (by simpa using hz)
      refine ⟨xs, hx, fun j u hj => ?_⟩
      have := hxs j u hj
      rw [Nat.add_mul, Nat.one_mul] at this
      have e1 : off + e.width + i * e.width + j = off + (i * e.width + e.width) + j := by omega
      rw [e1]
      exact this)
    have hl := Rep.length _ _ _ hu
    refine ⟨us ++ vs, Rows.cons hu hv, fun k u hk => ?_⟩
    rcases Nat.lt_or_ge k us.length with h1 | h1
    · rw [List.getElem?_append_left h1] at hk
      simpa using hus k u hk
    · rw [List.getElem?_append_right h1] at hk
      have := hvs _ u hk
      rw [hl] at this h1
      have e1 : off + e.width + (k - e.width) = off + k := by omega
      rw [e1] at this
      exact this

/-- A slice's cells. -/
theorem Rep.rows {I w} {e : CT} {zs : List e.den} {v : Value} (h : Rep I w (.list e) zs [v]) :
    (zs = [] ∧ v = .slice none 0 0) ∨ ∃ b off cap vs, v = .slice (some ⟨b, off, none⟩) zs.length cap ∧ zs.length ≤ cap ∧ Rows I w e zs vs ∧ ∀ (k : Nat) u, vs[k]? = some u → I b (off + k) ∧ w.at' b (off + k) = some u := by
  rcases h with ⟨h1, h2⟩ | ⟨b, off, cap, h1, h2, h3⟩
  · cases h2; exact .inl ⟨h1, rfl⟩
  · cases h1
    obtain ⟨vs, hv, hm⟩ := rows_of zs off h3
    exact .inr ⟨b, off, cap, vs, rfl, h2, hv, hm⟩

theorem rowsOf_sound {I w} {e : CT} : ∀ (n : Nat) (ps : List PV) (zs : List e.den) (vs : List Value), rowsOf e n ps = some zs → ps.length = n * e.width → All2 (RepV I w) ps vs → Rows I w e zs vs ∧ zs.length = n := by
  intro n
  induction n with
  | zero =>
    intro ps zs vs h hl hv
    simp only [rowsOf] at h
    cases h
    simp at hl
    subst hl
    cases hv
    exact ⟨Rows.nil, rfl⟩
  | succ n ih =>
    intro ps zs vs h hl hv
    simp only [rowsOf] at h
    split at h
    · rename_i z r hd
      split at h
      · rename_i zs' hz
        cases h
        obtain ⟨xs, ys, rfl, hr, hrr⟩ := dec_rep e ps z r vs hv hd
        have hlr := hrr.length
        have hlx := Rep.length _ _ _ hr
        have hlv := hv.length
        simp only [List.length_append] at hlv
        obtain ⟨h1, h2⟩ := ih r zs' ys hz (by rw [Nat.add_mul] at hl; omega) hrr
        exact ⟨Rows.cons hr h1, by simp [h2]⟩
      · cases h
    · cases h

theorem pureCells_sound {G : View} : ∀ (cs : List AC) (ps : List PV) (vs : List Value), pureCells cs = some ps → All2 (RepC G) cs vs → All2 (RepV G.I G.w) ps vs := by
  intro cs
  induction cs with
  | nil => intro ps vs h hv; simp only [pureCells] at h; cases h; cases hv; exact .nil
  | cons c cs ih =>
    intro ps vs h hv
    cases hv with
    | cons h1 t =>
      simp only [pureCells] at h
      split at h
      · rename_i y ys hy hys
        cases h
        refine .cons ?_ (ih _ _ hys t)
        cases c <;> simp only [AC.pure?] at hy
        · cases hy; exact h1
        · cases hy
        · cases hy
        · cases hy; exact h1.1
        · cases hy
      · cases h

/-! A new variable. -/
theorem box_sound {P : Program} {G : View} (hS : Sim G) {l : List AC} {v : Value} (t : TypeId) (hl : All2 (RepC G) l v.cells.toList) :
    ∃ G', (newVar t v).run P G.w = .ok ⟨G.w.heap.size, 0, none⟩ G'.w ∧ Ext G G' ∧ Sim G' ∧ G'.H = G.H ++ [.row l] ∧ RepC G' (.ptr G.H.length 0) (.pointer (some ⟨G.w.heap.size, 0, none⟩)) := by
  let G1 := G.push (fun _ => False) (.cells v.cells t)
  have e1 : Ext G G1 := Ext.push hS _ _
  have s1 : Sim G1 := Sim.push hS _ _
  have hfree : ∀ id, ¬ G1.holds id G.w.heap.size := fun id h => by
    have : G.holds id G.w.heap.size := h
    exact absurd (hS.lt this) (Nat.lt_irrefl _)
  let G2 := G1.obj G.w.heap.size (.row l)
  have e2 : Ext G G2 := e1.obj (fun _ => Nat.le_refl _)
  have hlast := G1.obj_last G.w.heap.size (.row l)
  refine ⟨G2, rfl, e2, ?_, rfl, ?_, l, hlast.1⟩
  · refine Sim.obj s1 hfree fun _ => ?_
    refine ⟨v.cells, t, ?_, ?_, hl.mono fun _ _ h => RepC.mono e2 h⟩
    · rw [hlast.2]
      exact alloc_heap_new _ _
    · intro o ho
      rw [hlast.2] at ho
      rcases ho with ho | ⟨_, ho⟩
      · exact absurd (hS.ilt _ _ ho) (Nat.lt_irrefl _)
      · exact ho
  · have : G2.ρ G.H.length = G.w.heap.size := hlast.2
    rw [this]

theorem boxA_sound {P : Program} {G : View} (hS : Sim G) {t : TypeId} {x : SV} {K : SV → List AO → Prop} (h : boxA P t x G.H K) {v : Value} (hx : ∀ a, x = .a a → All2 (RepC G) a.cells v.cells.toList) :
    ∃ r G' u, (do pure (.pointer (some (← newVar t v))) : Sem Value).run P G.w = .ok u G'.w ∧ Ext G G' ∧ Sim G' ∧ K r G'.H ∧ RepS G' r u := by
  unfold boxA at h
  split at h
  · rename_i a n hn
    obtain ⟨G', hr, he, hs, hH, hp⟩ := box_sound (P := P) hS t (hx a rfl)
    exact ⟨.a (.c (.ptr G.H.length 0)), G', .pointer (some ⟨G.w.heap.size, 0, none⟩), by simp [hr], he, hs, hH ▸ h, hp⟩
  · exact h.elim

/-! A store. -/
theorem storeA_sound {P : Program} {G : View} (hS : Sim G) {t : TypeId} {a x : SV} {K : SV → List AO → Prop} (h : storeA P t a x G.H K) {va vx : Value} (ra : RepS G a va) (rx : RepS G x vx) :
    ∃ G', (Instr.storeAt t va vx).run P G.w = .ok () G'.w ∧ Ext G G' ∧ Sim G' ∧ K .none G'.H := by
  unfold storeA at h
  split at h
  · rename_i id off v n hn
    split at h
    · rename_i cs ho
      split at h
      · rename_i hb
        simp only [Bool.and_eq_true, Nat.beq_eq, Nat.ble_eq] at hb
        obtain ⟨hva, _⟩ := ra
        obtain ⟨cur, T, hh, hno, hrc⟩ := hS.objs id _ ho trivial
        have hv := AV.cells_rep' rx
        have hlv := hv.length
        have hlc := hrc.length
        simp only [Array.length_toList] at hlv hlc
        have hrun := run_storeCells_at P (G.ρ id) off T vx.cells.toList 0 cur G.w hh (by simp; omega) (all_oneCell hv)
        simp only [Nat.add_zero] at hrun
        have hall : All2 (RepC G) (cs.take off ++ v.cells ++ cs.drop (off + n)) (cur.toList.take off ++ vx.cells.toList ++ cur.toList.drop (off + vx.cells.toList.length)) := by
          have e1 : vx.cells.toList.length = n := by simp; omega
          rw [e1]
          exact ((hrc.take off).append hv).append (hrc.drop _)
        have hlen : (cs.take off ++ v.cells ++ cs.drop (off + n)).length = cs.length := by simp; omega
        let G' := G.setRow id (cs.take off ++ v.cells ++ cs.drop (off + n)) (cur.toList.take off ++ vx.cells.toList ++ cur.toList.drop (off + vx.cells.toList.length)).toArray
        refine ⟨G', ?_, Ext.setRow hS ho hlen, Sim.setRow hS ho hlen (by simpa using hall), h⟩
        have hsz : vx.cells.size = n := by omega
        simp [Instr.storeAt, hva, Instr.sureAddr, storeVar, run_sizeOf' hn, hsz]
        exact hrun
      · exact h.elim
    · exact h.elim
  · exact h.elim

end Go.Ab
