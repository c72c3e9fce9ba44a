/- The abstract machine's quiet operations are the model's. -/
import Derived.Test.YticjnehdhageoaaAbD
namespace Go.Ab
set_option linter.unusedSectionVars false
variable [Base]

theorem RepS.val {G : View} {x v : Value} (h : RepS G (.v x) v) : v = x := h.2
theorem RepS.mkv {G : View} {x : Value} (h : flat x = true) : RepS G (.v x) x := ⟨h, rfl⟩

def holdsO : Option Prop → Prop
  | none => True
  | some p => p

theorem andO_iff {q : Option Prop} {p : Prop} : andO q p ↔ holdsO q ∧ p := by cases q <;> simp [andO, holdsO]

theorem wrap_i64 {n : Int} (h : inI64 n) : IntKind.i64.wrap n = n := by
  unfold inI64 at h
  simp only [IntKind.wrap, IntKind.bits, IntKind.signed, Bool.true_and, decide_eq_true_eq, ge_iff_le]
  split <;> omega

theorem intRes_sound {G : View} {k : IntKind} {n : Int} {p : Option Prop} {r : SV} (h : intRes k n = some (p, r)) (hp : holdsO p) : RepS G r (.int k (k.wrap n)) := by
  unfold intRes at h
  split at h
  · cases h
    rw [wrap_i64 hp]
    exact RepS.mkv rfl
  · cases h
    exact RepS.mkv rfl

theorem intOp_sound {P : Program} {G : View} {op : BinOp} {k : IntKind} {a b : Int} {p : Option Prop} {r : SV} (t : TypeId) (h : intOp op k a b = some (p, r)) (hp : holdsO p) :
    ∃ v, (binOp op t (.int k a) (.int k b)).run P G.w = .ok v G.w ∧ RepS G r v := by
  cases op <;> simp only [intOp] at h
  case add => exact ⟨_, by simp [binOp, Op.intArith], intRes_sound h hp⟩
  case sub => exact ⟨_, by simp [binOp, Op.intArith], intRes_sound h hp⟩
  case mul => exact ⟨_, by simp [binOp, Op.intArith], intRes_sound h hp⟩
  case quo =>
    cases h
    have hb : b ≠ 0 := hp
    exact ⟨_, by simp [binOp, Op.intDiv, hb], RepS.mkv rfl⟩
  case rem =>
    cases h
    have hb : b ≠ 0 := hp
    exact ⟨_, by simp [binOp, Op.intDiv, hb], RepS.mkv rfl⟩
  case and => cases h; exact ⟨_, by simp [binOp, Op.intBits]; rfl, RepS.mkv rfl⟩
  case or => cases h; exact ⟨_, by simp [binOp, Op.intBits]; rfl, RepS.mkv rfl⟩
  case xor => cases h; exact ⟨_, by simp [binOp, Op.intBits]; rfl, RepS.mkv rfl⟩
  case andNot => cases h; exact ⟨.int k (bitsA .andNot k a b), by simp only [binOp, Op.intBits, ne_eq, not_true_eq_false, if_false]; rfl, RepS.mkv rfl⟩
  case eql => cases h; exact ⟨.bool (decide (a = b)), by simp [binOp, Op.intCmp]; rfl, RepS.mkv rfl⟩
  case neq => cases h; exact ⟨.bool (!decide (a = b)), by simp [binOp, Op.intCmp]; rfl, RepS.mkv rfl⟩
  case lss => cases h; exact ⟨_, by simp [binOp, Op.intCmp], RepS.mkv rfl⟩
  case leq => cases h; exact ⟨_, by simp [binOp, Op.intCmp], RepS.mkv rfl⟩
  case gtr => cases h; exact ⟨_, by simp [binOp, Op.intCmp], RepS.mkv rfl⟩
  case geq => cases h; exact ⟨_, by simp [binOp, Op.intCmp], RepS.mkv rfl⟩
  all_goals cases h

theorem beq_bytes (a b : ByteArray) : (a.toList == b.toList) = decide (a = b) := by
  rw [Bool.eq_iff_iff]
  simp only [beq_iff_eq, decide_eq_true_eq, ByteArray.toList_eq]
  constructor
  · intro h
    cases a; cases b
    simp at h
    simp [h]
  · intro h; rw [h]

theorem strOp_sound {P : Program} {G : View} {op : BinOp} {a b : ByteArray} {p : Option Prop} {r : SV} (t : TypeId) (h : strOp op a b = some (p, r)) (hp : holdsO p) :
    ∃ v, (binOp op t (.string a) (.string b)).run P G.w = .ok v G.w ∧ RepS G r v := by
  cases op <;> simp only [strOp] at h
  case add =>
    cases h
    refine ⟨.string (a ++ b), ?_, RepS.mkv rfl⟩
    have hp' : ¬ ((a.size + b.size : Nat) : Int) > IntKind.i64.max := by
      have : ((a.size + b.size : Nat) : Int) ≤ 9223372036854775807 := hp
      simp only [IntKind.max, IntKind.signed, IntKind.bits, if_true]
      omega
    simp only [binOp, Op.stringOp, if_neg hp']
    rfl
  case eql => cases h; exact ⟨_, by simp [binOp, Op.stringOp, beq_bytes], RepS.mkv rfl⟩
  case neq => cases h; exact ⟨_, by simp [binOp, Op.stringOp, beq_bytes], RepS.mkv rfl⟩
  case lss => cases h; exact ⟨_, by simp [binOp, Op.stringOp], RepS.mkv rfl⟩
  case leq => cases h; exact ⟨_, by simp [binOp, Op.stringOp, beq_bytes], RepS.mkv rfl⟩
  case gtr => cases h; exact ⟨_, by simp [binOp, Op.stringOp, beq_bytes], RepS.mkv rfl⟩
  case geq => cases h; exact ⟨_, by simp [binOp, Op.stringOp], RepS.mkv rfl⟩
  all_goals cases h

theorem run_underlying' {P : Program} {t : TypeId} {d : TypeDesc} (h : P.underlying t = some d) (w : World) : (underlying t).run P w = .ok d w := run_underlying h w

theorem run_sizeOf' {P : Program} {t : TypeId} {n : Nat} (h : sizeP P t = some n) (w : World) : (sizeOf t).run P w = .ok n w := by
  unfold sizeP at h
  split at h
  · rename_i i hi
    cases h
    simp [sizeOf, typeInfo, hi]
  · cases h

theorem run_isAgg' {P : Program} {t : TypeId} {g : Bool} (h : aggP P t = some g) (w : World) : (isAgg t).run P w = .ok g w := by
  unfold aggP at h
  split at h
  · rename_i fs hu; cases h; simp [isAgg, run_underlying' hu]
  · rename_i hu; cases h; simp [isAgg, run_underlying' hu]
  · rename_i d h1 h2 hu
    cases h
    unfold isAgg
    rw [Sem.run_bind, run_underlying' hu]
    cases d <;> first | rfl | (rename_i x; exact absurd rfl (h1 x)) | (rename_i x y; exact absurd rfl (h2 x y)) | simp_all
  · cases h

theorem All2.toValues {G : View} {l : List AC} {cs : List Value} (h : All2 (RepC G) l cs) (off n : Nat) : All2 (RepC G) ((l.drop off).take n) ((cs.drop off).take n) := (h.drop off).take n

theorem ofCells_cases {P : Program} {t : TypeId} {cs : List AC} {off : Nat} {v : AV} (h : ofCells P t cs off = some v) :
    (∃ n, aggP P t = some true ∧ sizeP P t = some n ∧ off + n ≤ cs.length ∧ v = .agg ((cs.drop off).take n)) ∨
    (∃ x, aggP P t = some false ∧ cs[off]? = some x ∧ v = .c x) := by
  unfold ofCells at h
  split at h
  · rename_i n ha hs
    split at h
    · rename_i hle
      cases h
      exact .inl ⟨n, ha, hs, by simpa using hle, rfl⟩
    · cases h
  · rename_i ha
    split at h
    · rename_i x hx
      cases h
      exact .inr ⟨x, ha, hx, rfl⟩
    · cases h
  · cases h

/-- A part of cells at hand. -/
theorem part_sound {P : Program} {G : View} {t : TypeId} {cs : List AC} {off : Nat} {v : AV} (h : ofCells P t cs off = some v) {vs : List Value} (hc : All2 (RepC G) cs vs) :
    ∃ u, (part t vs.toArray off).run P G.w = .ok u G.w ∧ RepA G v u := by
  rcases ofCells_cases h with ⟨n, ha, hs, hle, rfl⟩ | ⟨x, ha, hx, rfl⟩
  · refine ⟨.agg (vs.toArray.extract off (off + n)), ?_, ?_⟩
    · simp [part, run_isAgg' ha, run_sizeOf' hs]
    · refine ⟨(vs.drop off).take n, ?_, hc.toValues off n⟩
      congr 1
      simp
  · obtain ⟨u, hu, hr⟩ := hc.get hx
    exact ⟨u, by simp [part, run_isAgg' ha, hu], hr⟩

theorem addr_add (b off n : Nat) : (⟨b, off, none⟩ : Addr).add n = ⟨b, off + n, none⟩ := by
  unfold Addr.add; split <;> simp_all

/-- The cells at an address. -/
theorem load_sound {P : Program} {G : View} {t : TypeId} {cs : List AC} {b base off : Nat} {v : AV} (h : ofCells P t cs off = some v)
    {vs : List Value} (hc : All2 (RepC G) cs vs) (hm : ∀ j u, vs[j]? = some u → G.w.at' b (base + j) = some u) :
    ∃ u, (loadVar t ⟨b, base + off, none⟩).run P G.w = .ok u G.w ∧ RepA G v u := by
  rcases ofCells_cases h with ⟨n, ha, hs, hle, rfl⟩ | ⟨x, ha, hx, rfl⟩
  · have hl : ((vs.drop off).take n).length = n := by simp [← hc.length]; omega
    have hld := run_loadCells_list (P := P) G.w ⟨b, base + off, none⟩ ((vs.drop off).take n) (fun j u hj => by
      rw [addr_add]
      rw [List.getElem?_take] at hj
      split at hj
      · rw [List.getElem?_drop] at hj
        have := hm _ _ hj
        rw [← this]
        show G.w.cell? _ = G.w.cell? _
        congr 2
        omega
      · cases hj)
    rw [hl] at hld
    refine ⟨.agg ((vs.drop off).take n).toArray, ?_, ⟨_, rfl, hc.toValues off n⟩⟩
    simp [loadVar, run_isAgg' ha, run_sizeOf' hs, hld]
  · obtain ⟨u, hu, hr⟩ := hc.get hx
    refine ⟨u, ?_, hr⟩
    have := hm _ _ hu
    have h2 : G.w.cell? ⟨b, base + off, none⟩ = some u := this
    simp [loadVar, run_isAgg' ha, h2]

theorem slOf_cases {G : View} {x : SV} {v : Value} (hx : RepS G x v) :
    (slOf x = some .nil → v = .slice none 0 0) ∧
    (∀ e zs id, slOf x = some (.l e zs id) → Rep G.I G.w (.list e) zs [v]) := by
  refine ⟨fun h => ?_, fun e zs id h => ?_⟩
  · unfold slOf at h
    split at h
    · exact hx.2
    · cases h
    · cases h
    · cases h
  · unfold slOf at h
    split at h
    · cases h
    · cases h; exact hx
    · cases h; exact hx.1
    · cases h

theorem rep_list_len {I w} {e : CT} {zs : List e.den} {v : Value} (h : Rep I w (.list e) zs [v]) : ∃ base cap, v = .slice base zs.length cap ∧ zs.length ≤ cap := by
  rcases h with ⟨rfl, h⟩ | ⟨b, off, cap, h, hc, _⟩
  · cases h; exact ⟨none, 0, rfl, Nat.le_refl _⟩
  · cases h; exact ⟨_, cap, rfl, hc⟩

def AV.isAgg : AV → Bool
  | .c _ => false
  | .agg _ => true

theorem ofCells_isAgg {P : Program} {t : TypeId} {cs : List AC} {off : Nat} {v : AV} (h : ofCells P t cs off = some v) : aggP P t = some v.isAgg := by
  rcases ofCells_cases h with ⟨n, ha, _, _, rfl⟩ | ⟨x, ha, _, rfl⟩ <;> exact ha

theorem eqA_sound {P : Program} {G : View} : ∀ (d : Nat) (t : TypeId) (x y : AV) (b : Bool) (N : Nat), d ≤ N → statOk P d t = true → eqA P d t x.cells y.cells = some b → aggP P t = some x.isAgg → aggP P t = some y.isAgg →
    ∀ vx vy, RepA G x vx → RepA G y vy → (Op.equalIn N t vx vy).run P G.w = .ok b G.w := by
  intro d
  induction d with
  | zero => intro t x y b N _ _ h; simp [eqA] at h
  | succ d ih =>
    intro t x y b N hN hso h hx hy vx vy rx ry
    obtain ⟨N, rfl⟩ : ∃ M, N = M + 1 := ⟨N - 1, by omega⟩
    simp only [eqA] at h
    split at h
    · rename_i k hu
      have hf : x.isAgg = false ∧ y.isAgg = false := by simp [aggP, hu] at hx hy; exact ⟨hx, hy⟩
      split at h
      · rename_i k1 a k2 c hxc hyc
        split at h
        · rename_i hk
          cases h
          simp at hk
          subst hk
          cases x with
          | agg l => simp [AV.isAgg] at hf
          | c x => cases y with
            | agg l => simp [AV.isAgg] at hf
            | c y =>
              simp only [AV.cells, List.cons.injEq, and_true] at hxc hyc
              subst hxc; subst hyc
              obtain ⟨_, rfl⟩ := rx
              obtain ⟨_, rfl⟩ := ry
              rw [run_equalIn_int G.w N t k1 k a c hu]
              rfl
        · cases h
      · cases h
    · rename_i hu
      have hf : x.isAgg = false ∧ y.isAgg = false := by simp [aggP, hu] at hx hy; exact ⟨hx, hy⟩
      split at h
      · rename_i a c hxc hyc
        cases h
        cases x with
        | agg l => simp [AV.isAgg] at hf
        | c x => cases y with
          | agg l => simp [AV.isAgg] at hf
          | c y =>
            simp only [AV.cells, List.cons.injEq, and_true] at hxc hyc
            subst hxc; subst hyc
            obtain ⟨_, rfl⟩ := rx
            obtain ⟨_, rfl⟩ := ry
            exact run_equalIn_bool' G.w N t a c hu
      · cases h
    · rename_i hu
      have hf : x.isAgg = false ∧ y.isAgg = false := by simp [aggP, hu] at hx hy; exact ⟨hx, hy⟩
      split at h
      · rename_i a c hxc hyc
        cases h
        cases x with
        | agg l => simp [AV.isAgg] at hf
        | c x => cases y with
          | agg l => simp [AV.isAgg] at hf
          | c y =>
            simp only [AV.cells, List.cons.injEq, and_true] at hxc hyc
            subst hxc; subst hyc
            obtain ⟨_, rfl⟩ := rx
            obtain ⟨_, rfl⟩ := ry
            rw [run_equalIn_string G.w N t a c hu, beq_bytes]
      · cases h
    · rename_i fs hu
      have hf : x.isAgg = true ∧ y.isAgg = true := by simp [aggP, hu] at hx hy; exact ⟨hx, hy⟩
      simp only [statOk, hu, Bool.and_eq_true, Bool.not_eq_true', List.all_eq_true, decide_eq_false_iff_not] at hso
      obtain ⟨hst, hall⟩ := hso
      · cases x with
        | c x => simp [AV.isAgg] at hf
        | agg xs => cases y with
          | c y => simp [AV.isAgg] at hf
          | agg ys =>
            obtain ⟨vs, rfl, rxs⟩ := rx
            obtain ⟨us, rfl, rys⟩ := ry
            have hfs : P.fieldsOf t = fs := by simp [Program.fieldsOf, hu]
            rw [run_equalIn_struct G.w N t vs.toArray us.toArray (by rw [hfs]; exact hu) hst, hfs]
            clear hu hfs hx hy hst hf
            generalize fs.toList = l at h hall
            simp only [AV.cells] at h
            induction l generalizing b with
            | nil => simp [eqFieldsA] at h; subst h; rfl
            | cons f l ihl =>
              simp only [eqFieldsA] at h
              · have hnm' : f.name ≠ "_" := (hall f (by simp)).1
                split at h
                · rename_i a c ha hc
                  split at h
                  · rename_i r hr
                    obtain ⟨ua, hua, rua⟩ := part_sound ha rxs
                    obtain ⟨uc, huc, ruc⟩ := part_sound hc rys
                    have he := ih f.type a c r N (by omega) (hall f (by simp)).2 hr (ofCells_isAgg ha) (ofCells_isAgg hc) ua uc rua ruc
                    have key : ∀ r', (Op.eqFields N vs.toArray us.toArray l).run P G.w = .ok r' G.w → (Op.eqFields N vs.toArray us.toArray (f :: l)).run P G.w = .ok (r && r') G.w := by
                      intro r' hr'
                      simp only [Op.eqFields, ne_eq, hnm', not_false_eq_true, if_true, Sem.run_bind, hua, huc, he, Result.andThen_ok, Sem.run_ite, hr']
                      cases r <;> simp
                    split at h
                    · cases h
                      have := key true (by simp [Op.eqFields])
                      simpa using this
                    · split at h
                      · rename_i r' hr'
                        cases h
                        exact key r' (ihl r' hr' fun g hg => hall g (by simp [hg]))
                      · cases h
                  · cases h
                · cases h
    · cases h

theorem eqGuard_flat {P : Program} {w : World} (op : BinOp) (t : TypeId) (x y : Operand) (a b : Value) (h1 : ∀ cs, a ≠ .agg cs) (h2 : a ≠ .nilIface) : (eqGuard op t x y a b).run P w = .ok () w := by
  have key : (match a, b with
      | .nilIface, .nilIface => (0 : Nat)
      | .agg _, .agg _ => 1
      | _, _ => 2) = 2 := by
    cases a <;> first | rfl | exact absurd rfl h2 | (rename_i cs; exact absurd rfl (h1 cs))
  unfold eqGuard
  cases op <;> first
    | rfl
    | (cases a <;> first | (cases b <;> rfl) | exact absurd rfl h2 | (rename_i cs; exact absurd rfl (h1 cs)))

theorem run_eq_slice {P : Program} {w : World} (d : Nat) {t e : TypeId} (hu : P.underlying t = some (.slice e)) (a : Option Addr) (l c : Nat) :
    (Op.equalIn (d + 1) t (.slice a l c) (.slice none 0 0)).run P w = .ok a.isNone w := by
  cases a <;> simp [Op.equalIn, run_underlying' hu]
theorem run_eq_pointer {P : Program} {w : World} (d : Nat) {t e : TypeId} (hu : P.underlying t = some (.pointer e)) (a : Option Addr) :
    (Op.equalIn (d + 1) t (.pointer a) (.pointer none)).run P w = .ok a.isNone w := by
  cases a <;> simp [Op.equalIn, run_underlying' hu]

theorem eqOp_sound {P : Program} {G : View} (op : BinOp) (ox oy : Operand) {t : TypeId} {x y : SV} {p : Option Prop} {b : Bool} (h : eqOp P t x y = some (p, b)) (hp : holdsO p)
    {vx vy : Value} (rx : RepS G x vx) (ry : RepS G y vy) :
    (eqGuard op t ox oy vx vy).run P G.w = .ok () G.w ∧ (Op.equal t vx vy).run P G.w = .ok b G.w ∧
      (binOp .eql t vx vy).run P G.w = .ok (.bool b) G.w ∧ (binOp .neq t vx vy).run P G.w = .ok (.bool (!b)) G.w := by
  have fin : ∀ {vx vy : Value}, (Op.equal t vx vy).run P G.w = .ok b G.w → (binOp .eql t vx vy = (do pure (.bool (← Op.equal t vx vy)))) → (binOp .neq t vx vy = (do pure (.bool (!(← Op.equal t vx vy))))) →
      (binOp .eql t vx vy).run P G.w = .ok (.bool b) G.w ∧ (binOp .neq t vx vy).run P G.w = .ok (.bool (!b)) G.w := by
    intro vx vy he h1 h2
    rw [h1, h2]
    simp [he]
  unfold eqOp at h
  split at h
  · rename_i xs ys
    split at h
    · rename_i hu
      split at h
      · rename_i b' hb
        cases h
        obtain ⟨hg, hso⟩ : eqGood P t := hp
        have he := eqA_sound (G := G) 100 t (.agg xs) (.agg ys) b 10000 (by omega) hso hb hu hu vx vy rx ry
        obtain ⟨vs, rfl, _⟩ := rx
        obtain ⟨us, rfl, _⟩ := ry
        refine ⟨run_eqGuard_agg G.w op t ox oy _ _ hg, he, fin he rfl rfl⟩
      · cases h
    · cases h
  · rename_i a c
    split at h
    · rename_i hu
      cases h
      obtain ⟨_, rfl⟩ := rx
      obtain ⟨_, rfl⟩ := ry
      have he : (Op.equal t (.bool a) (.bool c)).run P G.w = .ok (a == c) G.w := run_equalIn_bool' G.w _ t a c hu
      exact ⟨eqGuard_flat _ _ _ _ _ _ (by simp) (by simp), he, fin he rfl rfl⟩
    · cases h
  · rename_i e zs
    split at h
    · rename_i e' hu
      cases h
      obtain ⟨_, rfl⟩ := ry
      rcases rx with ⟨hz, _⟩ | ⟨b, off, cap, hv, _, _⟩
      · exact absurd hz hp
      · cases hv
        have he : (Op.equal t (.slice (some ⟨b, off, none⟩) zs.length cap) (.slice none 0 0)).run P G.w = .ok false G.w := run_eq_slice 9999 hu _ _ _
        exact ⟨eqGuard_flat _ _ _ _ _ _ (by simp) (by simp), he, fin he rfl rfl⟩
    · cases h
  · rename_i id e zs
    split at h
    · rename_i e' hu
      cases h
      obtain ⟨_, rfl⟩ := ry
      rcases rx.1 with ⟨hz, _⟩ | ⟨b, off, cap, hv, _, _⟩
      · exact absurd hz hp
      · cases hv
        have he : (Op.equal t (.slice (some ⟨b, off, none⟩) zs.length cap) (.slice none 0 0)).run P G.w = .ok false G.w := run_eq_slice 9999 hu _ _ _
        exact ⟨eqGuard_flat _ _ _ _ _ _ (by simp) (by simp), he, fin he rfl rfl⟩
    · cases h
  · split at h
    · rename_i e' hu
      cases h
      obtain ⟨_, rfl⟩ := rx
      obtain ⟨_, rfl⟩ := ry
      have he : (Op.equal t (.slice none 0 0) (.slice none 0 0)).run P G.w = .ok true G.w := run_eq_slice 9999 hu _ _ _
      exact ⟨eqGuard_flat _ _ _ _ _ _ (by simp) (by simp), he, fin he rfl rfl⟩
    · cases h
  · rename_i id off
    split at h
    · rename_i e' hu
      cases h
      obtain ⟨rfl, _⟩ := rx
      obtain ⟨_, rfl⟩ := ry
      have he : (Op.equal t (.pointer (some ⟨G.ρ id, off, none⟩)) (.pointer none)).run P G.w = .ok false G.w := run_eq_pointer 9999 hu _
      exact ⟨eqGuard_flat _ _ _ _ _ _ (by simp) (by simp), he, fin he rfl rfl⟩
    · cases h
  · split at h
    · rename_i e' hu
      cases h
      obtain ⟨_, rfl⟩ := rx
      obtain ⟨_, rfl⟩ := ry
      have he : (Op.equal t (.pointer none) (.pointer none)).run P G.w = .ok true G.w := run_eq_pointer 9999 hu _
      exact ⟨eqGuard_flat _ _ _ _ _ _ (by simp) (by simp), he, fin he rfl rfl⟩
    · cases h
  · cases h

theorem binA_sound {P : Program} {G : View} {op : BinOp} (ox oy : Operand) {t : TypeId} {x y : SV} {p : Option Prop} {r : SV} (h : binA P op t x y = some (p, r)) (hp : holdsO p)
    {vx vy : Value} (rx : RepS G x vx) (ry : RepS G y vy) :
    ∃ v, (do eqGuard op t ox oy vx vy; binOp op t vx vy : Sem Value).run P G.w = .ok v G.w ∧ RepS G r v := by
  unfold binA at h
  split at h
  · rename_i k a k' b
    cases h
    obtain ⟨_, rfl⟩ := rx
    obtain ⟨_, rfl⟩ := ry
    have hb : ¬ b < 0 := by have : 0 ≤ b := hp; omega
    exact ⟨_, by simp [eqGuard_flat, binOp, Op.shift, hb], RepS.mkv rfl⟩
  · rename_i k a k' b
    cases h
    obtain ⟨_, rfl⟩ := rx
    obtain ⟨_, rfl⟩ := ry
    have hb : ¬ b < 0 := by have : 0 ≤ b := hp; omega
    exact ⟨_, by simp [eqGuard_flat, binOp, Op.shift, hb], RepS.mkv rfl⟩
  · rename_i op k a k' b _ _
    split at h
    · rename_i hk
      simp at hk
      subst hk
      obtain ⟨_, rfl⟩ := rx
      obtain ⟨_, rfl⟩ := ry
      obtain ⟨v, hv, hr⟩ := intOp_sound (P := P) (G := G) t h hp
      exact ⟨v, by simp [eqGuard_flat, hv], hr⟩
    · cases h
  · rename_i op a b
    obtain ⟨_, rfl⟩ := rx
    obtain ⟨_, rfl⟩ := ry
    obtain ⟨v, hv, hr⟩ := strOp_sound (P := P) (G := G) t h hp
    exact ⟨v, by simp [eqGuard_flat, hv], hr⟩
  · split at h
    · rename_i p' b hb
      cases h
      obtain ⟨h1, _, h2, _⟩ := eqOp_sound .eql ox oy hb hp rx ry
      exact ⟨.bool b, by simp [h1, h2], RepS.mkv rfl⟩
    · cases h
  · split at h
    · rename_i p' b hb
      cases h
      obtain ⟨h1, _, _, h2⟩ := eqOp_sound .neq ox oy hb hp rx ry
      exact ⟨.bool (!b), by simp [h1, h2], RepS.mkv rfl⟩
    · cases h
  · cases h

theorem unA_sound {P : Program} {G : View} {op : UnOp} {x : SV} {p : Option Prop} {r : SV} (h : unA op x = some (p, r)) (hp : holdsO p) {vx : Value} (rx : RepS G x vx) :
    ∃ v, (Op.unary op vx).run P G.w = .ok v G.w ∧ RepS G r v := by
  unfold unA at h
  split at h
  · cases h
    obtain ⟨_, rfl⟩ := rx
    exact ⟨_, by simp [Op.unary], RepS.mkv rfl⟩
  · obtain ⟨_, rfl⟩ := rx
    exact ⟨_, by simp only [Op.unary, Op.intArith]; rfl, intRes_sound h hp⟩
  · cases h
    obtain ⟨_, rfl⟩ := rx
    exact ⟨_, by simp only [Op.unary, Op.intBits]; rfl, RepS.mkv rfl⟩
  · cases h

end Go.Ab
