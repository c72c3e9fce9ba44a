/- The abstract machine's quiet operations are the model's. -/
import Derived.Test.YtnlifjljmbfomaaGreatTD
namespace Go.Ab
set_option linter.unusedSectionVars false
variable [Base]
theorem RepS.val {G : View} {x v : Value} (h : RepS G (.v x) v) : v = x := h.2
theorem RepS.mkv {G : View} {x : Value} (h : flat x = true) : RepS G (.v x) x := ⟨h, rfl⟩
def holdsO : Option Prop → Prop
 | none => True
 | some p => p
theorem andO_iff {q : Option Prop} {p : Prop} : andO q p ↔ holdsO q ∧ p := by cases q <;> simp [andO, holdsO]
theorem wrap_i64 {n : Int} (h : inI64 n) : IntKind.i64.wrap n = n := by
 unfold inI64 at h
 simp only [IntKind.wrap, IntKind.bits, IntKind.signed, Bool.true_and, decide_eq_true_eq, ge_iff_le]
 split <;> omega
theorem intRes_sound {G : View} {k : IntKind} {n : Int} {p : Option Prop} {r : SV} (h : intRes k n = some (p, r)) (hp : holdsO p) : RepS G r (.int k (k.wrap n)) := by
 unfold intRes at h
 split at h
 ·cases h
  rw [wrap_i64 hp]
  exact RepS.mkv rfl
 ·cases h
  exact RepS.mkv rfl
theorem intOp_sound {P : Program} {G : View} {op : BinOp} {k : IntKind} {a b : Int} {p : Option Prop} {r : SV} (t : TypeId) (h : intOp op k a b = some (p, r)) (hp : holdsO p) :
  ∃ v, (binOp op t (.int k a) (.int k b)).run P G.w = .ok v G.w ∧ RepS G r v := by
 cases op <;> simp only [intOp] at h
 case add => exact ⟨_, by simp [binOp, Op.intArith], intRes_sound h hp⟩
 case sub => exact ⟨_, by simp [binOp, Op.intArith], intRes_sound h hp⟩
 case mul => exact ⟨_, by simp [binOp, Op.intArith], intRes_sound h hp⟩
 case quo =>
  cases h
  have hb : b ≠ 0 := hp
  exact ⟨_, by simp [binOp, Op.intDiv, hb], RepS.mkv rfl⟩
 case rem =>
  cases h
  have hb : b ≠ 0 := hp
  exact ⟨_, by simp [binOp, Op.intDiv, hb], RepS.mkv rfl⟩
 case and => cases h; exact ⟨_, by simp [binOp, Op.intBits]; rfl, RepS.mkv rfl⟩
 case or => cases h; exact ⟨_, by simp [binOp, Op.intBits]; rfl, RepS.mkv rfl⟩
 case xor => cases h; exact ⟨_, by simp [binOp, Op.intBits]; rfl, RepS.mkv rfl⟩
 case andNot => cases h; exact ⟨.int k (bitsA .andNot k a b), by simp only [binOp, Op.intBits, ne_eq, not_true_eq_false, if_false]; rfl, RepS.mkv rfl⟩
 case eql => cases h; exact ⟨.bool (decide (a = b)), by simp [binOp, Op.intCmp]; rfl, RepS.mkv rfl⟩
 case neq => cases h; exact ⟨.bool (!decide (a = b)), by simp [binOp, Op.intCmp]; rfl, RepS.mkv rfl⟩
 case lss => cases h; exact ⟨_, by simp [binOp, Op.intCmp], RepS.mkv rfl⟩
 case leq => cases h; exact ⟨_, by simp [binOp, Op.intCmp], RepS.mkv rfl⟩
 case gtr => cases h; exact ⟨_, by simp [binOp, Op.intCmp], RepS.mkv rfl⟩
 case geq => cases h; exact ⟨_, by simp [binOp, Op.intCmp], RepS.mkv rfl⟩
 all_goals cases h
theorem beq_bytes (a b : ByteArray) : (a.toList == b.toList) = decide (a = b) := by
 rw [Bool.eq_iff_iff]
 simp only [beq_iff_eq, decide_eq_true_eq, ByteArray.toList_eq]
 constructor
 ·intro h
  cases a; cases b
  simp at h
  simp [h]
 ·intro h; rw [h]
theorem strOp_sound {P : Program} {G : View} {op : BinOp} {a b : ByteArray} {p : Option Prop} {r : SV} (t : TypeId) (h : strOp op a b = some (p, r)) (hp : holdsO p) :
  ∃ v, (binOp op t (.string a) (.string b)).run P G.w = .ok v G.w ∧ RepS G r v := by
 cases op <;> simp only [strOp] at h
 case add =>
  cases h
  refine ⟨.string (a ++ b), ?_, RepS.mkv rfl⟩
  have hp' : ¬ ((a.size + b.size : Nat) : Int) > IntKind.i64.max := by
   have : ((a.size + b.size : Nat) : Int) ≤ 9223372036854775807 := hp
   simp only [IntKind.max, IntKind.signed, IntKind.bits, if_true]
   omega
  simp only [binOp, Op.stringOp, if_neg hp']
  rfl
 case eql => cases h; exact ⟨_, by simp [binOp, Op.stringOp, beq_bytes], RepS.mkv rfl⟩
 case neq => cases h; exact ⟨_, by simp [binOp, Op.stringOp, beq_bytes], RepS.mkv rfl⟩
 case lss => cases h; exact ⟨_, by simp [binOp, Op.stringOp], RepS.mkv rfl⟩
 case leq => cases h; exact ⟨_, by simp [binOp, Op.stringOp, beq_bytes], RepS.mkv rfl⟩
 case gtr => cases h; exact ⟨_, by simp [binOp, Op.stringOp, beq_bytes], RepS.mkv rfl⟩
 case geq => cases h; exact ⟨_, by simp [binOp, Op.stringOp], RepS.mkv rfl⟩
 all_goals cases h
theorem rU9 {P : Program} {t : TypeId} {d : TypeDesc} (h : P.underlying t = some d) (w : World) : (underlying t).run P w = .ok d w := run_underlying h w
theorem rS9 {P : Program} {t : TypeId} {n : Nat} (h : sizeP P t = some n) (w : World) : (sizeOf t).run P w = .ok n w := by
 unfold sizeP at h
 split at h
 ·rename_i i hi
  cases h
  simp [sizeOf, typeInfo, hi]
 ·cases h
theorem run_isAgg' {P : Program} {t : TypeId} {g : Bool} (h : aggP P t = some g) (w : World) : (isAgg t).run P w = .ok g w := by
 unfold aggP at h
 split at h
 ·rename_i fs hu; cases h; simp [isAgg, rU9 hu]
 ·rename_i hu; cases h; simp [isAgg, rU9 hu]
 ·rename_i d h1 h2 hu
  cases h
  unfold isAgg
  rw [Sem.run_bind, rU9 hu]
  cases d <;> first | rfl | (rename_i x; exact absurd rfl (h1 x)) | (rename_i x y; exact absurd rfl (h2 x y)) | simp_all
 ·cases h
theorem All2.toValues {G : View} {l : List AC} {cs : List Value} (h : All2 (RepC G) l cs) (off n : Nat) : All2 (RepC G) ((l.drop off).take n) ((cs.drop off).take n) := (h.drop off).take n
theorem ofCells_cases {P : Program} {t : TypeId} {cs : List AC} {off : Nat} {v : AV} (h : ofCells P t cs off = some v) :
  (∃ n, aggP P t = some true ∧ sizeP P t = some n ∧ off + n ≤ cs.length ∧ v = .agg ((cs.drop off).take n)) ∨
  (∃ x, aggP P t = some false ∧ cs[off]? = some x ∧ v = .c x) := by
 unfold ofCells at h
 split at h
 ·rename_i n ha hs
  split at h
  ·rename_i hle
   cases h
   exact .inl ⟨n, ha, hs, by simpa using hle, rfl⟩
  ·cases h
 ·rename_i ha
  split at h
  ·rename_i x hx
   cases h
   exact .inr ⟨x, ha, hx, rfl⟩
  ·cases h
 ·cases h
theorem part_sound {P : Program} {G : View} {t : TypeId} {cs : List AC} {off : Nat} {v : AV} (h : ofCells P t cs off = some v) {vs : List Value} (hc : All2 (RepC G) cs vs) :
  ∃ u, (part t vs.toArray off).run P G.w = .ok u G.w ∧ RepA G v u := by
 rcases ofCells_cases h with ⟨n, ha, hs, hle, rfl⟩ | ⟨x, ha, hx, rfl⟩
 ·refine ⟨.agg (vs.toArray.extract off (off + n)), ?_, ?_⟩
  ·simp [part, run_isAgg' ha, rS9 hs]
  ·refine ⟨(vs.drop off).take n, ?_, hc.toValues off n⟩
   congr 1
   simp
 ·obtain ⟨u, hu, hr⟩ := hc.get hx
  exact ⟨u, by simp [part, run_isAgg' ha, hu], hr⟩
theorem addr_add (b off n : Nat) : (⟨b, off, none⟩ : Addr).add n = ⟨b, off + n, none⟩ := by
 unfold Addr.add; split <;> simp_all
theorem load_sound {P : Program} {G : View} {t : TypeId} {cs : List AC} {b base off : Nat} {v : AV} (h : ofCells P t cs off = some v)
  {vs : List Value} (hc : All2 (RepC G) cs vs) (hm : ∀ j u, vs[j]? = some u → G.w.at' b (base + j) = some u) :
  ∃ u, (loadVar t ⟨b, base + off, none⟩).run P G.w = .ok u G.w ∧ RepA G v u := by
 rcases ofCells_cases h with ⟨n, ha, hs, hle, rfl⟩ | ⟨x, ha, hx, rfl⟩
 ·have hl : ((vs.drop off).take n).length = n := by simp [← hc.length]; omega
  have hld := run_loadCells_list (P := P) G.w ⟨b, base + off, none⟩ ((vs.drop off).take n) (fun j u hj => by
   rw [addr_add]
   rw [List.getElem?_take] at hj
   split at hj
   ·rw [List.getElem?_drop] at hj
    have := hm _ _ hj
    rw [← this]
    show G.w.cell? _ = G.w.cell? _
    congr 2
    omega
   ·cases hj)
  rw [hl] at hld
  refine ⟨.agg ((vs.drop off).take n).toArray, ?_, ⟨_, rfl, hc.toValues off n⟩⟩
  simp [loadVar, run_isAgg' ha, rS9 hs, hld]
 ·obtain ⟨u, hu, hr⟩ := hc.get hx
  refine ⟨u, ?_, hr⟩
  have := hm _ _ hu
  have h2 : G.w.cell? ⟨b, base + off, none⟩ = some u := this
  simp [loadVar, run_isAgg' ha, h2]
theorem slOf_cases {G : View} {x : SV} {v : Value} (hx : RepS G x v) :
  (slOf x = some .nil → v = .slice none 0 0) ∧
  (∀ e zs id, slOf x = some (.l e zs id) → Rep G.I G.w (.list e) zs [v]) := by
 refine ⟨fun h => ?_, fun e zs id h => ?_⟩
 ·unfold slOf at h
  split at h
  ·exact hx.2
  ·cases h
  ·cases h
  ·cases h
  ·cases h
 ·unfold slOf at h
  split at h
  ·cases h
  ·cases h; exact hx
  ·cases h; exact hx.1
  ·cases h; exact hx.1
  ·cases h
theorem rep_list_len {I w} {e : CT} {zs : List e.den} {v : Value} (h : Rep I w (.list e) zs [v]) : ∃ base cap, v = .slice base zs.length cap ∧ zs.length ≤ cap := by
 rcases h with ⟨rfl, h⟩ | ⟨b, off, cap, h, hc, _⟩ | ⟨rfl, a, cap, h⟩
 ·cases h; exact ⟨none, 0, rfl, nR9 _⟩
 ·cases h; exact ⟨_, cap, rfl, hc⟩
 ·cases h; exact ⟨_, cap, rfl, nZ9 _⟩
theorem ofCells_isAgg {P : Program} {t : TypeId} {cs : List AC} {off : Nat} {v : AV} (h : ofCells P t cs off = some v) : aggP P t = some v.isAgg := by
 rcases ofCells_cases h with ⟨n, ha, _, _, rfl⟩ | ⟨x, ha, _, rfl⟩ <;> exact ha
theorem eqA_sound {P : Program} {G : View} : ∀ (d : Nat) (t : TypeId) (x y : AV) (b : Bool) (N : Nat), d ≤ N → statOk P d t = true → eqA P d t x.cells y.cells = some b → aggP P t = some x.isAgg → aggP P t = some y.isAgg →
  ∀ vx vy, RepA G x vx → RepA G y vy → (Op.equalIn N t vx vy).run P G.w = .ok b G.w := by
 intro d
 induction d with
 | zero => intro t x y b N _ _ h; simp [eqA] at h
 | succ d ih =>
  intro t x y b N hN hso h hx hy vx vy rx ry
  obtain ⟨N, rfl⟩ : ∃ M, N = M + 1 := ⟨N - 1, by omega⟩
  simp only [eqA] at h
  split at h
  ·rename_i k hu
   have hf : x.isAgg = false ∧ y.isAgg = false := by simp [aggP, hu] at hx hy; exact ⟨hx, hy⟩
   split at h
   ·rename_i k1 a k2 c hxc hyc
    split at h
    ·rename_i hk
     cases h
     simp at hk
     subst hk
     cases x with
     | agg l => simp [AV.isAgg] at hf
     | c x => cases y with
      | agg l => simp [AV.isAgg] at hf
      | c y =>
       simp only [AV.cells, List.cons.injEq, and_true] at hxc hyc
       subst hxc; subst hyc
       obtain ⟨_, rfl⟩ := rx
       obtain ⟨_, rfl⟩ := ry
       rw [run_equalIn_int G.w N t k1 k a c hu]
       rfl
    ·cases h
   ·cases h
  ·rename_i hu
   have hf : x.isAgg = false ∧ y.isAgg = false := by simp [aggP, hu] at hx hy; exact ⟨hx, hy⟩
   split at h
   ·rename_i a c hxc hyc
    cases h
    cases x with
    | agg l => simp [AV.isAgg] at hf
    | c x => cases y with
     | agg l => simp [AV.isAgg] at hf
     | c y =>
      simp only [AV.cells, List.cons.injEq, and_true] at hxc hyc
      subst hxc; subst hyc
      obtain ⟨_, rfl⟩ := rx
      obtain ⟨_, rfl⟩ := ry
      exact run_equalIn_bool' G.w N t a c hu
   ·cases h
  ·rename_i hu
   have hf : x.isAgg = false ∧ y.isAgg = false := by simp [aggP, hu] at hx hy; exact ⟨hx, hy⟩
   split at h
   ·rename_i a c hxc hyc
    cases h
    cases x with
    | agg l => simp [AV.isAgg] at hf
    | c x => cases y with
     | agg l => simp [AV.isAgg] at hf
     | c y =>
      simp only [AV.cells, List.cons.injEq, and_true] at hxc hyc
      subst hxc; subst hyc
      obtain ⟨_, rfl⟩ := rx
      obtain ⟨_, rfl⟩ := ry
      rw [run_equalIn_string G.w N t a c hu, beq_bytes]
   ·cases h
  ·rename_i fs hu
   have hf : x.isAgg = true ∧ y.isAgg = true := by simp [aggP, hu] at hx hy; exact ⟨hx, hy⟩
   simp only [statOk, hu, Bool.and_eq_true, Bool.not_eq_true', List.all_eq_true, decide_eq_false_iff_not] at hso
   obtain ⟨hst, hall⟩ := hso
   ·cases x with
    | c x => simp [AV.isAgg] at hf
    | agg xs => cases y with
     | c y => simp [AV.isAgg] at hf
     | agg ys =>
      obtain ⟨vs, rfl, rxs⟩ := rx
      obtain ⟨us, rfl, rys⟩ := ry
      have hfs : P.fieldsOf t = fs := by simp [Program.fieldsOf, hu]
      rw [run_equalIn_struct G.w N t vs.toArray us.toArray (by rw [hfs]; exact hu) hst, hfs]
      clear hu hfs hx hy hst hf
      generalize fs.toList = l at h hall
      simp only [AV.cells] at h
      induction l generalizing b with
      | nil => simp [eqFieldsA] at h; subst h; rfl
      | cons f l ihl =>
       simp only [eqFieldsA] at h
       ·have hnm' : f.name ≠ "_" := (hall f (by simp)).1
        split at h
        ·rename_i a c ha hc
         split at h
         ·rename_i r hr
          obtain ⟨ua, hua, rua⟩ := part_sound ha rxs
          obtain ⟨uc, huc, ruc⟩ := part_sound hc rys
          have he := ih f.type a c r N (by omega) (hall f (by simp)).2 hr (ofCells_isAgg ha) (ofCells_isAgg hc) ua uc rua ruc
          have key : ∀ r', (Op.eqFields N vs.toArray us.toArray l).run P G.w = .ok r' G.w → (Op.eqFields N vs.toArray us.toArray (f :: l)).run P G.w = .ok (r && r') G.w := by
           intro r' hr'
           simp only [Op.eqFields, ne_eq, hnm', not_false_eq_true, if_true, Sem.run_bind, hua, huc, he, Result.andThen_ok, Sem.run_ite, hr']
           cases r <;> simp
          split at h
          ·cases h
           have := key true (by simp [Op.eqFields])
           simpa using this
          ·split at h
           ·rename_i r' hr'
            cases h
            exact key r' (ihl r' hr' fun g hg => hall g (by simp [hg]))
           ·cases h
         ·cases h
        ·cases h
  ·cases h
theorem eqGuard_flat {P : Program} {w : World} (op : BinOp) (t : TypeId) (x y : Operand) (a b : Value) (h1 : ∀ cs, a ≠ .agg cs) (h2 : a ≠ .nilIface) : (eqGuard op t x y a b).run P w = .ok () w := by
 have key : (match a, b with
   | .nilIface, .nilIface => (0 : Nat)
   | .agg _, .agg _ => 1
   | _, _ => 2) = 2 := by
  cases a <;> first | rfl | exact absurd rfl h2 | (rename_i cs; exact absurd rfl (h1 cs))
 unfold eqGuard
 cases op <;> first
  | rfl
  | (cases a <;> first | (cases b <;> rfl) | exact absurd rfl h2 | (rename_i cs; exact absurd rfl (h1 cs)))
theorem run_eq_slice {P : Program} {w : World} (d : Nat) {t e : TypeId} (hu : P.underlying t = some (.slice e)) (a : Option Addr) (l c : Nat) :
  (Op.equalIn (d + 1) t (.slice a l c) (.slice none 0 0)).run P w = .ok a.isNone w := by
 cases a <;> simp [Op.equalIn, rU9 hu]
theorem run_eq_pointer {P : Program} {w : World} (d : Nat) {t e : TypeId} (hu : P.underlying t = some (.pointer e)) (a : Option Addr) :
  (Op.equalIn (d + 1) t (.pointer a) (.pointer none)).run P w = .ok a.isNone w := by
 cases a <;> simp [Op.equalIn, rU9 hu]
theorem eqOp_sound {P : Program} {G : View} (op : BinOp) (ox oy : Operand) {t : TypeId} {x y : SV} {p : Option Prop} {b : Bool} (h : eqOp P t x y = some (p, b)) (hp : holdsO p)
  {vx vy : Value} (rx : RepS G x vx) (ry : RepS G y vy) :
  (eqGuard op t ox oy vx vy).run P G.w = .ok () G.w ∧ (Op.equal t vx vy).run P G.w = .ok b G.w ∧
   (binOp .eql t vx vy).run P G.w = .ok (.bool b) G.w ∧ (binOp .neq t vx vy).run P G.w = .ok (.bool (!b)) G.w := by
 have fin : ∀ {vx vy : Value}, (Op.equal t vx vy).run P G.w = .ok b G.w → (binOp .eql t vx vy = (do pure (.bool (← Op.equal t vx vy)))) → (binOp .neq t vx vy = (do pure (.bool (!(← Op.equal t vx vy))))) →
   (binOp .eql t vx vy).run P G.w = .ok (.bool b) G.w ∧ (binOp .neq t vx vy).run P G.w = .ok (.bool (!b)) G.w := by
  intro vx vy he h1 h2
  rw [h1, h2]
  simp [he]
 unfold eqOp at h
 split at h
 ·rename_i xs ys
  split at h
  ·rename_i hu
   split at h
   ·rename_i b' hb
    cases h
    obtain ⟨hg, hso⟩ : eqGood P t := hp
    have he := eqA_sound (G := G) 100 t (.agg xs) (.agg ys) b 10000 (by omega) hso hb hu hu vx vy rx ry
    obtain ⟨vs, rfl, _⟩ := rx
    obtain ⟨us, rfl, _⟩ := ry
    refine ⟨run_eqGuard_agg G.w op t ox oy _ _ hg, he, fin he rfl rfl⟩
   ·cases h
  ·cases h
 ·rename_i a c
  split at h
  ·rename_i hu
   cases h
   obtain ⟨_, rfl⟩ := rx
   obtain ⟨_, rfl⟩ := ry
   have he : (Op.equal t (.bool a) (.bool c)).run P G.w = .ok (a == c) G.w := run_equalIn_bool' G.w _ t a c hu
   exact ⟨eqGuard_flat _ _ _ _ _ _ (by simp) (by simp), he, fin he rfl rfl⟩
  ·cases h
 ·rename_i e zs
  split at h
  ·rename_i e' hu
   cases h
   obtain ⟨_, rfl⟩ := ry
   rcases rx with ⟨hz, _⟩ | ⟨b, off, cap, hv, _, _⟩ | ⟨hz, _⟩
   ·exact absurd hz hp
   rotate_left
   ·exact absurd hz hp
   ·cases hv
    have he : (Op.equal t (.slice (some ⟨b, off, none⟩) zs.length cap) (.slice none 0 0)).run P G.w = .ok false G.w := run_eq_slice 9999 hu _ _ _
    exact ⟨eqGuard_flat _ _ _ _ _ _ (by simp) (by simp), he, fin he rfl rfl⟩
  ·cases h
 ·rename_i id e zs
  split at h
  ·rename_i e' hu
   cases h
   obtain ⟨_, rfl⟩ := ry
   rcases rx.1 with ⟨hz, _⟩ | ⟨b, off, cap, hv, _, _⟩ | ⟨hz, _⟩
   ·exact absurd hz hp
   rotate_left
   ·exact absurd hz hp
   ·cases hv
    have he : (Op.equal t (.slice (some ⟨b, off, none⟩) zs.length cap) (.slice none 0 0)).run P G.w = .ok false G.w := run_eq_slice 9999 hu _ _ _
    exact ⟨eqGuard_flat _ _ _ _ _ _ (by simp) (by simp), he, fin he rfl rfl⟩
  ·cases h
 ·split at h
  ·rename_i e' hu
   cases h
   obtain ⟨_, rfl⟩ := rx
   obtain ⟨_, rfl⟩ := ry
   have he : (Op.equal t (.slice none 0 0) (.slice none 0 0)).run P G.w = .ok true G.w := run_eq_slice 9999 hu _ _ _
   exact ⟨eqGuard_flat _ _ _ _ _ _ (by simp) (by simp), he, fin he rfl rfl⟩
  ·cases h
 ·rename_i id off
  split at h
  ·rename_i e' hu
   cases h
   obtain ⟨rfl, _⟩ := rx
   obtain ⟨_, rfl⟩ := ry
   have he : (Op.equal t (.pointer (some ⟨G.ρ id, off, none⟩)) (.pointer none)).run P G.w = .ok false G.w := run_eq_pointer 9999 hu _
   exact ⟨eqGuard_flat _ _ _ _ _ _ (by simp) (by simp), he, fin he rfl rfl⟩
  ·cases h
 ·split at h
  ·rename_i e' hu
   cases h
   obtain ⟨_, rfl⟩ := rx
   obtain ⟨_, rfl⟩ := ry
   have he : (Op.equal t (.pointer none) (.pointer none)).run P G.w = .ok true G.w := run_eq_pointer 9999 hu _
   exact ⟨eqGuard_flat _ _ _ _ _ _ (by simp) (by simp), he, fin he rfl rfl⟩
  ·cases h
 ·cases h
theorem binA_sound {P : Program} {G : View} {op : BinOp} (ox oy : Operand) {t : TypeId} {x y : SV} {p : Option Prop} {r : SV} (h : binA P op t x y = some (p, r)) (hp : holdsO p)
  {vx vy : Value} (rx : RepS G x vx) (ry : RepS G y vy) :
  ∃ v, (do eqGuard op t ox oy vx vy; binOp op t vx vy : Sem Value).run P G.w = .ok v G.w ∧ RepS G r v := by
 unfold binA at h
 split at h
 ·rename_i k a k' b
  cases h
  obtain ⟨_, rfl⟩ := rx
  obtain ⟨_, rfl⟩ := ry
  have hb : ¬ b < 0 := by have : 0 ≤ b := hp; omega
  exact ⟨_, by simp [eqGuard_flat, binOp, Op.shift, hb], RepS.mkv rfl⟩
 ·rename_i k a k' b
  cases h
  obtain ⟨_, rfl⟩ := rx
  obtain ⟨_, rfl⟩ := ry
  have hb : ¬ b < 0 := by have : 0 ≤ b := hp; omega
  exact ⟨_, by simp [eqGuard_flat, binOp, Op.shift, hb], RepS.mkv rfl⟩
 ·rename_i op k a k' b _ _
  split at h
  ·rename_i hk
   simp at hk
   subst hk
   obtain ⟨_, rfl⟩ := rx
   obtain ⟨_, rfl⟩ := ry
   obtain ⟨v, hv, hr⟩ := intOp_sound (P := P) (G := G) t h hp
   exact ⟨v, by simp [eqGuard_flat, hv], hr⟩
  ·cases h
 ·rename_i op a b
  obtain ⟨_, rfl⟩ := rx
  obtain ⟨_, rfl⟩ := ry
  obtain ⟨v, hv, hr⟩ := strOp_sound (P := P) (G := G) t h hp
  exact ⟨v, by simp [eqGuard_flat, hv], hr⟩
 ·split at h
  ·rename_i p' b hb
   cases h
   obtain ⟨h1, _, h2, _⟩ := eqOp_sound .eql ox oy hb hp rx ry
   exact ⟨.bool b, by simp [h1, h2], RepS.mkv rfl⟩
  ·cases h
 ·split at h
  ·rename_i p' b hb
   cases h
   obtain ⟨h1, _, _, h2⟩ := eqOp_sound .neq ox oy hb hp rx ry
   exact ⟨.bool (!b), by simp [h1, h2], RepS.mkv rfl⟩
  ·cases h
 ·cases h
theorem unA_sound {P : Program} {G : View} {op : UnOp} {x : SV} {p : Option Prop} {r : SV} (h : unA op x = some (p, r)) (hp : holdsO p) {vx : Value} (rx : RepS G x vx) :
  ∃ v, (Op.unary op vx).run P G.w = .ok v G.w ∧ RepS G r v := by
 unfold unA at h
 split at h
 ·cases h
  obtain ⟨_, rfl⟩ := rx
  exact ⟨_, by simp [Op.unary], RepS.mkv rfl⟩
 ·obtain ⟨_, rfl⟩ := rx
  exact ⟨_, by simp only [Op.unary, Op.intArith]; rfl, intRes_sound h hp⟩
 ·cases h
  obtain ⟨_, rfl⟩ := rx
  exact ⟨_, by simp only [Op.unary, Op.intBits]; rfl, RepS.mkv rfl⟩
 ·cases h
theorem bytes_size (s : ByteArray) : s.size = s.data.toList.length := by cases s; rfl
theorem bytes_get {s : ByteArray} {i : Int} (h0 : 0 ≤ i) (h1 : i < s.size) : ∃ b, s[i.toNat]? = some b ∧ byteAt s i = (b.toNat : Int) := by
 have hlt : i.toNat < s.size := by omega
 refine ⟨s[i.toNat], by simp [hlt], ?_⟩
 unfold byteAt
 have : s.data.toList[i.toNat]? = some s[i.toNat] := by
  have h' : i.toNat < s.data.toList.length := by rw [← bytes_size]; exact hlt
  rw [List.getElem?_eq_getElem h']
  rfl
 simp only [List.getD_eq_getElem?_getD, this, Option.getD_some]
theorem bound_sound {P : Program} {w : World} {x : SV} {G : View} {n : Int} (hx : boundA (some x) 0 = some n) {v : Value} (rv : RepS G x v) (y : Nat) (code : BoundsCode) (h0 : 0 ≤ n) (h1 : n ≤ y) :
  (Instr.sliceBound v y code).run P w = .ok n.toNat w := by
 unfold boundA at hx
 split at hx
 ·cases ‹some x = none›
 ·rename_i k n' he
  cases he; cases hx
  obtain ⟨_, rfl⟩ := rv
  simp [Instr.sliceBound, asIntOf, h0, h1]
 ·cases hx
def All1 (G : View) : Option SV → Option Value → Prop
 | none, none => True
 | some x, some v => RepS G x v
 | _, _ => False
theorem bounds_sound {P : Program} {G : View} {w : World} {low high : Option SV} {vl vh : Option Value} (rl : All1 G low vl) (rh : All1 G high vh) {l h : Int} {len cap : Nat} (b : Bool)
  (hl : boundA low 0 = some l) (hh : boundA high len = some h) (h0 : 0 ≤ l) (h1 : l ≤ h) (h2 : h ≤ len) (hc : len ≤ cap) :
  (Instr.sliceBounds b len cap vl vh none).run P w = .ok (l.toNat, h.toNat, cap) w := by
 have hhigh : ∀ code, (match vh with | some v => Instr.sliceBound v cap code | none => pure len).run P w = .ok h.toNat w := by
  intro code
  cases high with
  | none => cases vh with
   | none => simp [boundA] at hh; subst hh; rfl
   | some v => exact rh.elim
  | some x => cases vh with
   | none => exact rh.elim
   | some v =>
    have hx : boundA (some x) 0 = some h := by unfold boundA at hh ⊢; split at hh <;> simp_all
    exact bound_sound hx rh cap code (by omega) (by omega)
 have hlow : ∀ code, (match vl with | some v => Instr.sliceBound v h.toNat code | none => pure 0).run P w = .ok l.toNat w := by
  intro code
  cases low with
  | none => cases vl with
   | none => simp [boundA] at hl; subst hl; rfl
   | some v => exact rl.elim
  | some x => cases vl with
   | none => exact rl.elim
   | some v => exact bound_sound hl rl h.toNat code h0 (by omega)
 unfold Instr.sliceBounds
 cases vh with
 | none =>
  have e := hhigh .index
  simp only [Sem.run_pure, Result.ok.injEq] at e
  cases vl with
  | none =>
   have e' := hlow .index
   simp only [Sem.run_pure, Result.ok.injEq] at e'
   simp [← e.1, ← e'.1]
  | some v =>
   have e' := hlow .sliceB
   simp only [e.1, Sem.run_bind, Sem.run_pure, Result.andThen_ok, Option.isSome_none, Bool.false_eq_true, if_false, e']
 | some u =>
  have e := hhigh (if b then .sliceAcap else .sliceAlen)
  cases vl with
  | none =>
   have e' := hlow .index
   simp only [Sem.run_pure, Result.ok.injEq] at e'
   simp only at e
   simp [e, ← e'.1]
  | some v =>
   have e' := hlow .sliceB
   simp only at e e'
   simp [e, e']
theorem rep_slice {I w} {e : CT} {zs : List e.den} {v : Value} {base : Option Addr} {len cap : Nat} (h : Rep I w (.list e) zs [v]) (hv : v = .slice base len cap) {l r n : Nat} (h1 : l ≤ r) (h2 : r ≤ zs.length) (hn : n = e.width) :
  Rep I w (.list e) ((zs.take r).drop l) [.slice (if cap = l then base else base.map (·.add (l * n))) (r - l) (cap - l)] := by
 rcases h with ⟨rfl, h⟩ | ⟨b, off, cap', h, hc, hz⟩ | ⟨rfl, a, cap', h⟩
 ·cases h
  cases hv
  simp at h2
  subst h2
  obtain rfl : l = 0 := by omega
  exact .inl ⟨by simp, by simp⟩
 rotate_left
 ·cases h
  cases hv
  simp at h2
  subst h2
  obtain rfl : l = 0 := by omega
  refine .inr (.inr ⟨by simp, ?_⟩)
  split
  ·exact ⟨a, _, rfl⟩
  ·exact ⟨_, _, rfl⟩
 ·cases h
  cases hv
  subst hn
  have hlen : ((zs.take r).drop l).length = r - l := by simp; omega
  by_cases hcl : cap = l
  ·have : r = l := by omega
   subst this
   refine .inr (.inl ⟨b, off, cap - r, ?_, by simp, ?_⟩)
   ·simp [hcl]
   ·intro i z hi
    rw [List.getElem?_eq_none (by simp)] at hi
    cases hi
  ·refine .inr (.inl ⟨b, off + l * e.width, cap - l, ?_, by omega, ?_⟩)
   ·rw [hlen]; simp [hcl, addr_add]
   ·intro i z hi
    have hi' : zs[l + i]? = some z := by
     rw [List.getElem?_drop, List.getElem?_take] at hi
     split at hi
     ·exact hi
     ·cases hi
    obtain ⟨us, hr, hu⟩ := hz (l + i) z hi'
    refine ⟨us, hr, fun j u hj => ?_⟩
    have := hu j u hj
    have e1 : off + l * e.width + i * e.width + j = off + (l + i) * e.width + j := by rw [Nat.add_mul]; omega
    rw [e1]
    exact this
theorem rep_full {I w} {e : CT} {zs : List e.den} {base : Option Addr} {len cap : Nat} (h : Rep I w (.list e) zs [.slice base len cap]) {r n : Nat} (h2 : r ≤ zs.length) :
  Rep I w (.list e) (zs.take r) [.slice (if r = 0 then base else base.map (·.add (0 * n))) r r] := by
 have h1 := rep_slice (l := 0) (r := r) (n := e.width) h rfl (nZ9 _) h2 rfl
 rcases h with ⟨rfl, h⟩ | ⟨b, off, cap', h, hc, hz⟩ | ⟨rfl, a, cap', h⟩
 ·cases h
  have h2 : r ≤ 0 := h2
  obtain rfl : r = 0 := by omega
  exact .inl ⟨by simp, by simp⟩
 ·cases h
  by_cases hr : r = 0
  ·subst hr
   exact .inr (.inr ⟨by simp, ⟨b, off, none⟩, 0, by simp⟩)
  ·refine .inr (.inl ⟨b, off, r, ?_, ?_, fun i z hi => ?_⟩)
   ·rw [if_neg hr]
    simp [addr_add, h2]
   ·rw [List.length_take]; omega
   ·rw [List.getElem?_take] at hi
    split at hi
    ·exact hz i z hi
    ·cases hi
 ·cases h
  have h2 : r ≤ 0 := h2
  obtain rfl : r = 0 := by omega
  exact .inr (.inr ⟨by simp, a, 0, by simp⟩)
theorem sliceM_sound {P : Program} {G : View} {t : TypeId} {x : SV} {low high : Option SV} {max : SV} {p : Option Prop} {r : SV} (h : sliceM P t x low high (some max) = some (p, r)) (hp : holdsO p)
  {v : Value} {vl vh vm : Option Value} (rx : RepS G x v) (rl : All1 G low vl) (rh : All1 G high vh) (rm : All1 G (some max) vm) :
  ∃ u, (Instr.sliceAt t v vl vh vm).run P G.w = .ok u G.w ∧ RepS G r u := by
 unfold sliceM at h
 split at h
 ·rename_i hi mx e hmx hu
  cases hmx
  split at h
  ·rename_i c zs id hh m n hs hhh hm hn
   split at h
   ·cases h
    obtain ⟨h0, rfl, h2⟩ := hp
    cases vl with
    | some _ => exact rl.elim
    | none =>
     cases vh with
     | none => exact rh.elim
     | some vh =>
      cases vm with
      | none => exact rm.elim
      | some vm =>
       have hz := (slOf_cases rx).2 c zs id hs
       obtain ⟨base, cap, rfl, hc⟩ := rep_list_len hz
       have b1 := bound_sound (P := P) (w := G.w) hm rm cap .slice3Acap h0 (by omega)
       have b2 := bound_sound (P := P) (w := G.w) hhh rh m.toNat .slice3B h0 (by omega)
       have hb : (Instr.sliceBounds true zs.length cap none (some vh) (some vm)).run P G.w = .ok (0, m.toNat, m.toNat) G.w := by
        unfold Instr.sliceBounds
        simp [b1, b2]
       refine ⟨.slice (if m.toNat = 0 then base else base.map (·.add (0 * n))) m.toNat m.toNat, ?_, rep_full hz (by omega), ?_⟩
       ·simp [Instr.sliceAt, Instr.slice, rU9 hu, hb, rS9 hn]
       ·have : (zs.take m.toNat).length = m.toNat := by rw [List.length_take]; omega
        exact ⟨_, by rw [this]⟩
   ·cases h
  ·cases h
 ·cases h
theorem sliceA_sound {P : Program} {G : View} {t : TypeId} {x : SV} {low high max : Option SV} {p : Option Prop} {r : SV} (h : sliceA P t x low high max = some (p, r)) (hp : holdsO p)
  {v : Value} {vl vh vm : Option Value} (rx : RepS G x v) (rl : All1 G low vl) (rh : All1 G high vh) (rm : All1 G max vm) :
  ∃ u, (Instr.sliceAt t v vl vh vm).run P G.w = .ok u G.w ∧ RepS G r u := by
 unfold sliceA at h
 split at h
 ·exact sliceM_sound h hp rx rl rh rm
 ·cases vm with
  | some _ => exact rm.elim
  | none =>
   split at h
   ·rename_i s hu
    split at h
    ·rename_i l hh hl hhh
     cases h
     obtain ⟨_, rfl⟩ := rx
     obtain ⟨h0, h1, h2⟩ := hp
     have hb := bounds_sound (P := P) (w := G.w) rl rh (len := s.size) (cap := s.size) false hl hhh h0 h1 h2 (nR9 _)
     exact ⟨_, by simp [Instr.sliceAt, Instr.slice, rU9 hu, hb], RepS.mkv rfl⟩
    ·cases h
   ·rename_i e _ hu
    split at h
    ·rename_i c zs id hs
     split at h
     ·rename_i l hh n hl hhh hn
      split at h
      ·rename_i hw
       cases h
       have hw' : n = c.width := by simpa using hw
       obtain ⟨h0, h1, h2⟩ := hp
       have hz := (slOf_cases rx).2 c zs id hs
       obtain ⟨base, cap, rfl, hc⟩ := rep_list_len hz
       have hb := bounds_sound (P := P) (w := G.w) rl rh (len := zs.length) (cap := cap) true hl hhh h0 h1 h2 hc
       refine ⟨_, ?_, rep_slice hz rfl (l := l.toNat) (r := hh.toNat) (n := n) (by omega) (by omega) hw'⟩
       simp [Instr.sliceAt, Instr.slice, rU9 hu, hb, rS9 hn]
      ·cases h
     ·cases h
    ·rename_i hs
     split at h
     ·rename_i l hh n hl hhh hn
      cases h
      obtain ⟨h0, h1⟩ := hp
      subst h0; subst h1
      have hv := (slOf_cases rx).1 hs
      subst hv
      have hb := bounds_sound (P := P) (w := G.w) rl rh (len := 0) (cap := 0) true hl hhh (by omega) (by omega) (by omega) (nR9 _)
      refine ⟨.slice none 0 0, ?_, RepS.mkv rfl⟩
      simp [Instr.sliceAt, Instr.slice, rU9 hu, hb, rS9 hn]
     ·cases h
    ·cases h
   ·cases h
theorem lenA_sound {P : Program} {G : View} {t : TypeId} {ty : TypeId} {x : SV} {p : Option Prop} {r : SV} (h : lenA P t x = some (p, r)) {v : Value} (rx : RepS G x v) :
  ∃ u, (Builtin.len_ #[t] ty #[v]).run P G.w = .ok u G.w ∧ RepS G r u := by
 unfold lenA at h
 split at h
 ·rename_i s hu
  cases h
  obtain ⟨_, rfl⟩ := rx
  exact ⟨_, by simp [Builtin.len_, rU9 hu, goInt], RepS.mkv rfl⟩
 ·rename_i e _ hu
  split at h
  ·rename_i c zs id hs
   cases h
   obtain ⟨base, cap, rfl, hc⟩ := rep_list_len ((slOf_cases rx).2 c zs id hs)
   exact ⟨_, by simp [Builtin.len_, rU9 hu, goInt], RepS.mkv rfl⟩
  ·rename_i hs
   cases h
   obtain rfl := (slOf_cases rx).1 hs
   exact ⟨_, by simp [Builtin.len_, rU9 hu, goInt], RepS.mkv rfl⟩
  ·cases h
 ·cases h
theorem zeroCells_cases {P : Program} {t : TypeId} {z : List AC} (h : zeroCellsA P t = some z) :
  ∃ i v, P.info? t = some i ∧ i.zero = some v ∧ (∀ G : View, All2 (RepC G) z v.cells.toList) ∧ (∀ x ∈ v.cells, flat x = true) := by
 have mk : ∀ (l : List Value), l.all flat = true → ∀ G : View, All2 (RepC G) (l.map fun v => AC.p (.v v)) l := by
  intro l hl G
  induction l with
  | nil => exact .nil
  | cons v l ih =>
   simp at hl
   exact .cons ⟨hl.1, rfl⟩ (ih (by simpa using hl.2))
 unfold zeroCellsA at h
 split at h
 ·rename_i i hi
  split at h
  ·rename_i cs hz
   split at h
   ·rename_i hf
    cases h
    exact ⟨i, _, hi, hz, fun G => mk _ hf G, fun x hx => by
     have := List.all_eq_true.1 hf x
     exact this (by simpa [Value.cells] using hx)⟩
   ·cases h
  ·rename_i v hv hz
   split at h
   ·rename_i hf
    cases h
    have hc : v.cells = #[v] := by cases v <;> first | rfl | exact absurd rfl (hv _) | simp_all
    refine ⟨i, v, hi, hz, fun G => ?_, fun x hx => ?_⟩
    ·rw [hc]; exact .cons ⟨hf, rfl⟩ .nil
    ·rw [hc] at hx; simp at hx; subst hx; exact hf
   ·cases h
  ·cases h
 ·cases h
theorem run_zeroValue' {P : Program} {t : TypeId} {i : TypeInfo} {v : Value} (hi : P.info? t = some i) (hz : i.zero = some v) (w : World) : (zeroValue t).run P w = .ok v w := by
 simp [zeroValue, typeInfo, hi, hz]
theorem AV.cells_rep {G : View} {x : AV} {v : Value} (h : RepA G x v) (hv : ∀ c, x = .c c → v.oneCell' = true) : All2 (RepC G) x.cells v.cells.toList := by
 cases x with
 | c x =>
  have := hv x rfl
  have hc : v.cells = #[v] := by cases v <;> first | rfl | simp [Value.oneCell'] at this
  rw [hc]
  exact .cons h .nil
 | agg l =>
  obtain ⟨cs, rfl, hr⟩ := h
  exact hr
theorem flat_oneCell {x : Value} (h : flat x = true) : x.oneCell' = true := by
 cases x <;> simp_all [flat, Value.oneCell']
theorem RepV.oneCell {I w} {x : PV} {v : Value} (h : RepV I w x v) : v.oneCell' = true := by
 cases x with
 | v x => obtain ⟨hf, rfl⟩ := h; exact flat_oneCell hf
 | l e zs =>
  obtain ⟨base, cap, rfl, _⟩ := rep_list_len h
  rfl
 | m k t es =>
  obtain ⟨b, ens, clock, hv, _⟩ := h
  cases hv; rfl
theorem RepC.oneCell {G : View} {x : AC} {v : Value} (h : RepC G x v) : v.oneCell' = true := by
 cases x with
 | p x => cases x with
  | v x => obtain ⟨hf, rfl⟩ := h; exact flat_oneCell hf
  | l e zs =>
   obtain ⟨base, cap, rfl, _⟩ := rep_list_len h
   rfl
  | m k t es =>
   obtain ⟨b, ens, clock, hv, _⟩ := h
   cases hv; rfl
 | ptr id off => obtain ⟨rfl, _⟩ := h; rfl
 | pp e z k => obtain ⟨_, _, _, rfl, _⟩ := h; rfl
 | own id e zs => obtain ⟨base, cap, rfl, _⟩ := rep_list_len h.1; rfl
 | clo b f caps => obtain ⟨rfl, _⟩ := h; cases b <;> rfl
 | sl id e ver len => exact h.1
 | ep id e ver i k => exact h.1
 | mp id => exact h.1
 | any => exact h
 | fl e zs => obtain ⟨_, a, rfl⟩ := h; rfl
 | nl c z k => obtain ⟨_, b, o, a, rfl, _⟩ := h; rfl
 | vs id len => exact h.1
 | ve id i k => exact h.1
 | gs id ver len => exact h.1
 | ge id ver i k => exact h.1
 | may x =>
  rcases h with h | h
  ·exact h.oneCell
  ·exact h.oneCell
theorem AV.cells_rep' {G : View} {x : AV} {v : Value} (h : RepA G x v) : All2 (RepC G) x.cells v.cells.toList :=
 AV.cells_rep h fun c hc => by subst hc; exact RepC.oneCell h
theorem all_oneCell {G : View} {l : List AC} {cs : List Value} (h : All2 (RepC G) l cs) : ∀ v ∈ cs, v.oneCell' = true := by
 intro v hv
 obtain ⟨i, hi⟩ := List.getElem?_of_mem hv
 obtain ⟨x, _, hr⟩ := h.get' hi
 exact hr.oneCell
theorem foldl_set (cs : Array Value) (off : Nat) : ∀ (vs : List Value) (k : Nat) , off + k + vs.length ≤ cs.size →
  ((vs.zipIdx k).foldl (fun (cs : Array Value) (c, j) => cs.setIfInBounds (off + j) c) cs).toList = cs.toList.take (off + k) ++ vs ++ cs.toList.drop (off + k + vs.length) := by
 intro vs
 induction vs generalizing cs with
 | nil => intro k h; simp
 | cons v vs ih =>
  intro k h
  simp only [List.zipIdx_cons, List.foldl_cons]
  rw [ih _ _ (by simp at h ⊢; omega)]
  have e := list_seg_step cs.toList (off + k) v vs (by simp at h ⊢; omega)
  simpa [Array.toList_setIfInBounds, Nat.add_assoc] using e
end Go.Ab
