/- The abstract machine's quiet operations are the model's: all of them. -/
import Derived.Test.YtnlifjljmbfomaaGreatTEtoF
namespace Go.Ab
set_option linter.unusedSectionVars false
variable [Base]
def PartRep (G : View) (p : Nat × SV) (q : Nat × Value) : Prop := p.1 = q.1 ∧ RepS G p.2 q.2
theorem fillA_sound {G : View} {place : Nat → Option (Nat × Nat)} : ∀ (parts : List (Nat × SV)) (cells cs : List AC) (vc : Array Value) (qs : List (Nat × Value)), fillA place cells parts = some cs →
  All2 (RepC G) cells vc.toList → All2 (PartRep G) parts qs → ∃ vcs, Instr.fill place vc qs = some vcs ∧ All2 (RepC G) cs vcs.toList := by
 intro parts
 induction parts with
 | nil =>
  intro cells cs vc qs h hc hq
  cases hq
  simp only [fillA] at h
  cases h
  exact ⟨vc, rfl, hc⟩
 | cons pt parts ih =>
  intro cells cs vc qs h hc hq
  cases hq with
  | cons hpq ht =>
   rename_i q qs
   obtain ⟨i, x⟩ := pt
   obtain ⟨i', u⟩ := q
   obtain ⟨he, hr⟩ := hpq
   simp only at he hr
   subst he
   simp only [fillA] at h
   split at h
   ·rename_i off size v hpl
    split at h
    ·rename_i hb
     rw [Nat.beq_eq] at hb
     split at h
     rotate_left
     ·cases h
     rename_i cs0 hset
     obtain ⟨hb2, rfl⟩ := setCells_eq hset
     rw [hb] at hb2 h
     have hv := AV.cells_rep' hr
     have hlv := hv.length
     have hlc := hc.length
     simp only [Array.length_toList] at hlv hlc
     have hsz : ¬ (u.cells.size ≠ size || off + u.cells.size > vc.size) := by
      simp only [ne_eq, decide_not, gt_iff_lt, Bool.or_eq_true, Bool.not_eq_eq_eq_not, Bool.not_true, decide_eq_false_iff_not, decide_eq_true_eq, not_or, Decidable.not_not, Nat.not_lt]
      omega
     obtain ⟨vcs, hf, hcs⟩ := ih _ _ (u.cells.zipIdx.foldl (fun cs (c, j) => cs.setIfInBounds (off + j) c) vc) qs h (by
      have e : (u.cells.zipIdx.foldl (fun (cs : Array Value) (c, j) => cs.setIfInBounds (off + j) c) vc).toList = vc.toList.take off ++ u.cells.toList ++ vc.toList.drop (off + size) := by
       have := foldl_set vc off u.cells.toList 0 (by simp; omega)
       rw [← Array.foldl_toList, Array.toList_zipIdx]
       rw [this]
       simp
       congr 1
       omega
      rw [e]
      exact ((hc.take off).append hv).append (hc.drop _)) ht
     refine ⟨vcs, ?_, hcs⟩
     simp only [Instr.fill, hpl]
     rw [if_neg hsz]
     exact hf
    ·cases h
   ·cases h
theorem places_eq {P : Program} : ∀ (fs : List Field), allSized P fs = true → ∃ places, fs.mapM (fun f => (P.info? f.type).map fun i => (f.offset, i.size)) = some places ∧ ∀ i : Nat, places[i]? = placesOf P fs i := by
 intro fs
 induction fs with
 | nil => intro _; exact ⟨[], rfl, fun i => by simp [placesOf]⟩
 | cons f fs ih =>
  intro h
  simp only [allSized] at h
  split at h
  ·rename_i n hn
   obtain ⟨pl, hp, hi⟩ := ih h
   unfold sizeP at hn
   split at hn
   ·rename_i info hinfo
    cases hn
    refine ⟨(f.offset, info.size) :: pl, by simp [List.mapM_cons, hinfo, hp], fun i => ?_⟩
    cases i with
    | zero => simp [placesOf, sizeP, hinfo]
    | succ i =>
     have := hi i
     simp only [List.getElem?_cons_succ, this]
     simp [placesOf]
   ·cases hn
  ·cases h
theorem buildA_sound {P : Program} {G : View} {t : TypeId} {parts : List (Nat × SV)} {p : Option Prop} {r : SV} (h : buildA P t parts = some (p, r)) {qs : Array (Nat × Value)} (hq : All2 (PartRep G) parts qs.toList) :
  ∃ v, (Instr.build t qs).run P G.w = .ok v G.w ∧ RepS G r v := by
 unfold buildA at h
 split at h
 ·rename_i z fs hz hu
  split at h
  ·rename_i hs
   split at h
   ·rename_i cs hcs
    cases h
    obtain ⟨i, v, hi, hzv, hrep, _⟩ := zeroCells_cases hz
    obtain ⟨pl, hpl, hpli⟩ := places_eq fs.toList hs
    have hfun : (fun x => (pl.toArray : Array (Nat × Nat))[x]?) = placesOf P fs.toList := by funext x; simp [hpli]
    obtain ⟨vcs, hf, hr⟩ := fillA_sound parts z cs v.cells qs.toList hcs (hrep G) hq
    refine ⟨.agg vcs, run_build G.w t qs vcs ?_, vcs.toList, by simp, hr⟩
    simp only [Program.built, hi, hu, hzv, hpl, hfun, hf]
   ·cases h
  ·cases h
 ·rename_i z n e hz hu
  split at h
  ·rename_i w hn
   split at h
   ·rename_i cs hcs
    cases h
    obtain ⟨i, v, hi, hzv, hrep, _⟩ := zeroCells_cases hz
    obtain ⟨vcs, hf, hr⟩ := fillA_sound parts z cs v.cells qs.toList hcs (hrep G) hq
    refine ⟨.agg vcs, ?_, vcs.toList, by simp, hr⟩
    simp [Instr.build, run_zeroValue' hi hzv, rU9 hu, rS9 hn, hf]
   ·cases h
  ·cases h
 ·cases h
theorem conv_bytes {P : Program} {G : View} {src dst e : TypeId} (hs : P.underlying src = some (.slice e)) (he : P.underlying e = some (.int .u8)) (hd : P.underlying dst = some .string)
  {zs : List Int} {v : Value} (h : Rep G.I G.w (.list (.int .u8)) zs [v]) : (convert src dst v).run P G.w = .ok (.string (bytesOf zs)) G.w := by
 rcases h with ⟨hz, hv⟩ | ⟨b, off, cap, hv, hcap, hz⟩ | ⟨hz, a, cap, hv⟩
 ·subst hz
  cases hv
  exact run_convert_bytes_nil G.w src e hs he 0 0 dst hd
 rotate_left
 ·subst hz
  cases hv
  rw [run_convert_bytes_string G.w src dst e _ 0 cap hs he hd]
  have hl : (loadCells a 0).run P G.w = .ok #[] G.w := by
   have := run_loadCells_list (P := P) G.w a [] (fun j v hj => by simp at hj)
   simpa using this
  simp [Conv.bytesToString, hl]
  rfl
 ·cases hv
  refine run_convert_bytes_arg G.w src e hs he b off zs.length cap zs rfl (fun i hi => ?_) dst hd
  obtain ⟨us, hr, hu⟩ := hz i (zs.getD i 0) (by simp [hi])
  cases hr
  have := (hu 0 _ rfl).2
  simpa [CT.width] using this
theorem convA_sound {P : Program} {G : View} {src dst : TypeId} {x : SV} {p : Option Prop} {r : SV} (h : convA P src dst x = some (p, r)) (hp : holdsO p) {v : Value} (rx : RepS G x v) :
  ∃ u, (convert src dst v).run P G.w = .ok u G.w ∧ RepS G r u := by
 unfold convA at h
 split at h
 ·rename_i d k k' n hs hd
  obtain ⟨_, rfl⟩ := rx
  refine ⟨.int k (k.wrap n), ?_, intRes_sound h hp⟩
  simp only [convert, Sem.run_bind, rU9 hs, rU9 hd, Result.andThen_ok]
  cases d <;> rfl
 ·rename_i d k' n hs hd
  cases h
  obtain ⟨_, rfl⟩ := rx
  refine ⟨.string (Utf8.encode n), ?_, RepS.mkv rfl⟩
  simp only [convert, Sem.run_bind, rU9 hs, rU9 hd, Result.andThen_ok]
  cases d <;> rfl
 ·rename_i d s hs hd
  cases h
  obtain ⟨_, rfl⟩ := rx
  refine ⟨.string s, ?_, RepS.mkv rfl⟩
  simp only [convert, Sem.run_bind, rU9 hs, rU9 hd, Result.andThen_ok]
  cases d <;> rfl
 ·rename_i e zs hs hd
  split at h
  ·rename_i he
   cases h
   exact ⟨_, conv_bytes hs he hd rx, RepS.mkv rfl⟩
  ·cases h
 ·rename_i e id zs hs hd
  split at h
  ·rename_i he
   cases h
   exact ⟨_, conv_bytes hs he hd rx.1, RepS.mkv rfl⟩
  ·cases h
 ·rename_i e hs hd
  split at h
  ·rename_i he
   cases h
   obtain ⟨_, rfl⟩ := rx
   exact ⟨_, run_convert_bytes_nil G.w src e hs he 0 0 dst hd, RepS.mkv rfl⟩
  ·cases h
 ·cases h
def OpRep (G : View) (ev : Operand → SV) (cv : Operand → Value) : Op → Prop
 | .pick x a b => RepS G (ev x) (cv x) ∧ ∀ t, ev x = .bool t → (t = true → RepS G (ev a) (cv a)) ∧ (t = false → RepS G (ev b) (cv b))
 | op => ∀ x ∈ op.operands.toList, RepS G (ev x) (cv x)
structure Consts (ev : Operand → SV) (cv : Operand → Value) : Prop where
 b : ∀ x, ev (.const (.bool x)) = .bool x
 c : ∀ v, cv (.const v) = v
theorem minA_sound {P : Program} {G : View} {l : List SV} {p : Option Prop} {r : SV} (h : minA l = some (p, r)) {vs : List Value} (hv : All2 (RepS G) l vs) (ts : Array TypeId) (ty : TypeId) :
  ∃ v, (Builtin.min_ ts ty vs.toArray).run P G.w = .ok v G.w ∧ RepS G r v := by
 unfold minA at h
 split at h
 ·rename_i k x k' y
  split at h
  ·rename_i hk
   cases h
   cases hv with
   | cons h1 t =>
    cases t with
    | cons h2 t =>
     cases t
     obtain ⟨_, rfl⟩ := h1
     obtain ⟨_, rfl⟩ := h2
     exact ⟨_, by simp [Builtin.min_, Builtin.min2], RepS.mkv rfl⟩
  ·cases h
 ·cases h
theorem maxA_sound {P : Program} {G : View} {l : List SV} {p : Option Prop} {r : SV} (h : maxA l = some (p, r)) {vs : List Value} (hv : All2 (RepS G) l vs) (ts : Array TypeId) (ty : TypeId) :
  ∃ v, (Builtin.max_ ts ty vs.toArray).run P G.w = .ok v G.w ∧ RepS G r v := by
 unfold maxA at h
 split at h
 ·rename_i k x k' y
  split at h
  ·rename_i hk
   cases h
   cases hv with
   | cons h1 t =>
    cases t with
    | cons h2 t =>
     cases t
     obtain ⟨_, rfl⟩ := h1
     obtain ⟨_, rfl⟩ := h2
     exact ⟨_, by simp [Builtin.max_, Builtin.max2], RepS.mkv rfl⟩
  ·cases h
 ·cases h
theorem all2_map {G : View} {ev : Operand → SV} {cv : Operand → Value} : ∀ (l : List Operand), (∀ x ∈ l, RepS G (ev x) (cv x)) → All2 (RepS G) (l.map ev) (l.map cv) := by
 intro l h
 induction l with
 | nil => exact .nil
 | cons a l ih => exact .cons (h a (by simp)) (ih fun x hx => h x (by simp [hx]))
theorem run_fieldPlace {P : Program} {w : World} {f : Field} {n : Nat} (h : sizeP P f.type = some (n + 1)) (b off : Nat) : (fieldPlace ⟨b, off, none⟩ f).run P w = .ok ⟨b, off + f.offset, none⟩ w := by
 simp [fieldPlace, rS9 h, addr_add]
theorem fieldOf_cases {P : Program} {s : TypeId} {f : Nat} {fd : Field} (h : fieldOf P s f = some fd) : ∃ fs : Array Field, P.underlying s = some (.struct fs) ∧ fs[f]? = some fd := by
 unfold fieldOf at h
 split at h
 ·rename_i fs hu; exact ⟨fs, hu, h⟩
 ·cases h
theorem All2.map_left {α β γ : Type} {R : γ → β → Prop} {f : α → γ} {as : List α} {bs : List β} (h : All2 (fun a b => R (f a) b) as bs) : All2 R (as.map f) bs := by
 induction h with
 | nil => exact .nil
 | cons h _ ih => exact .cons h ih
theorem ptrIds_sound {G : View} {ev : Operand → SV} {cv : Operand → Value} : ∀ {l : List Operand} {ids : List Nat}, ptrIds (l.map ev) = some ids → (∀ x ∈ l, RepS G (ev x) (cv x)) →
  l.map cv = (ids.map fun id => Value.pointer (some ⟨G.ρ id, 0, none⟩)) ∧ ∀ id ∈ ids, ∃ cs, G.H[id]? = some (.row cs) := by
 intro l
 induction l with
 | nil => intro ids h _; cases h; exact ⟨rfl, fun id hi => absurd hi List.not_mem_nil⟩
 | cons x l ih =>
  intro ids h hr
  have h : (match ev x, ptrIds (l.map ev) with
   | .a (.c (.ptr id 0)), some l => some (id :: l)
   | _, _ => none) = some ids := h
  split at h
  ·rename_i id ids' hx hl
   cases h
   obtain ⟨h1, h2⟩ := ih hl fun y hy => hr y (List.mem_cons_of_mem _ hy)
   have hrx := hr x List.mem_cons_self
   rw [hx] at hrx
   obtain ⟨hv, ho⟩ := hrx
   refine ⟨by rw [List.map_cons, List.map_cons, hv, h1], fun i hi => ?_⟩
   rcases List.mem_cons.1 hi with rfl | hi
   ·exact ho
   ·exact h2 i hi
  ·cases h
theorem pureOp0_sound {M : Mach} {G : View} (hS : Sim G) {ev : Operand → SV} {cv : Operand → Value} (hc : Consts ev cv) {o : Oper} {p : Option Prop} {r : SV}
  (h : pureOp0 M ev G.H o.op = some (p, r)) (hp : holdsO p) (hr : OpRep G ev cv o.op) (hncall : ∀ c f, o.op = .call c → c.callee ≠ .value f) :
  ∃ v, (execOp cv o).run M.P G.w = .ok (.value v) G.w ∧ RepS G r v := by
 have fin : ∀ {s : Sem Value}, (execOp cv o = (do pure (.value (← s)))) → (∃ v, s.run M.P G.w = .ok v G.w ∧ RepS G r v) → ∃ v, (execOp cv o).run M.P G.w = .ok (.value v) G.w ∧ RepS G r v := by
  intro s he ⟨v, hv, hr⟩
  exact ⟨v, by rw [he]; simp [hv], hr⟩
 obtain ⟨dst, op, ty, pos, after, guard⟩ := o
 simp only at h hr hncall fin ⊢
 unfold pureOp0 at h
 split at h
 ·rename_i x
  rw [seen_eq] at h
  cases h
  exact ⟨cv x, rfl, hr x (by simp [Op.operands])⟩
 ·rename_i x
  rw [seen_eq] at h
  cases h
  exact ⟨cv x, rfl, hr x (by simp [Op.operands])⟩
 ·rename_i c a b
  obtain ⟨hx, hab⟩ := hr
  split at h
  ·rename_i t ht
   rw [ht] at hx
   obtain ⟨_, hcv⟩ := hx
   have hcv' : (execOp cv { dst, op := .pick c a b, type := ty, pos, after, guard }).run M.P G.w = .ok (.value (if t then cv a else cv b)) G.w := by
    simp [execOp, hcv, asBool]
   refine ⟨_, hcv', ?_⟩
   unfold pickA at h
   split at h
   ·split at h
    ·rename_i y hy
     cases h
     rw [hc.c]
     cases t with
     | true => exact RepS.mkv rfl
     | false =>
      have := (hab false ht).2 rfl
      rw [hy] at this
      obtain ⟨_, hb⟩ := this
      simp only [Bool.false_eq_true, if_false, hb]
      exact RepS.mkv rfl
    ·cases h
   ·split at h
    ·rename_i y hy
     cases h
     rw [hc.c]
     cases t with
     | false => exact RepS.mkv rfl
     | true =>
      have := (hab true ht).1 rfl
      rw [hy] at this
      obtain ⟨_, hb⟩ := this
      simp only [if_true, hb]
      exact RepS.mkv rfl
    ·cases h
   ·cases h
  ·cases h
 ·rename_i t i
  have hx := hr t (by simp [Op.operands])
  split at h
  ·rename_i l hl
   rw [hl] at hx
   obtain ⟨vs, hvs, hr2⟩ := hx
   split at h
   ·rename_i v hv
    cases h
    obtain ⟨u, hu, hru⟩ := hr2.get hv
    exact fin rfl ⟨u, by simp [Instr.extract, hvs, hu], hru⟩
   ·cases h
  ·cases h
 ·rename_i t parts
  refine fin rfl (buildA_sound h ?_)
  have : ∀ (l : List (Nat × Operand)), (∀ x ∈ l, RepS G (ev x.2) (cv x.2)) → All2 (PartRep G) (l.map fun p => (p.1, ev p.2)) (l.map fun p => (p.1, cv p.2)) := by
   intro l hl
   induction l with
   | nil => exact .nil
   | cons a l ih => exact .cons ⟨rfl, hl a (by simp)⟩ (ih fun x hx => hl x (by simp [hx]))
  have h2 := this parts.toList (fun x hx => hr x.2 (by simp only [Op.operands]; exact List.mem_map.2 ⟨x, hx, rfl⟩))
  simpa using h2
 ·rename_i t a
  have hx := hr a (by simp [Op.operands])
  split at h
  ·rename_i id off hid
   rw [hid] at hx
   obtain ⟨hv, cs, ho⟩ := hx
   rw [ho] at h
   simp only at h
   split at h
   ·rename_i v hv2
    cases h
    obtain ⟨ca, T, hh, _, hrc⟩ := hS.objs id _ ho trivial
    obtain ⟨u, hu, hru⟩ := load_sound (P := M.P) (b := G.ρ id) (base := 0) hv2 hrc (fun j u hj => by
     simp only [Nat.zero_add]
     show G.w.cell? _ = _
     rw [cell_of_row G.w (G.ρ id) j ca T (0, 0) hh]
     simpa using hj)
    refine fin rfl ⟨u, ?_, hru⟩
    simp only [Nat.zero_add] at hu
    simp [Instr.loadAt, hv, Instr.sureAddr, hu]
   ·cases h
  ·rename_i e z k hid
   rw [hid] at hx
   obtain ⟨b, off, us, hv, hz, hu⟩ := hx
   split at h
   ·rename_i v hv2
    cases h
    obtain ⟨u, hu', hru⟩ := load_sound (P := M.P) (b := b) (base := off) hv2 (All2.map_left (enc_rep e z us hz)) (fun j u hj => (hu j u hj).2)
    refine fin rfl ⟨u, ?_, hru⟩
    simp [Instr.loadAt, hv, Instr.sureAddr, hu']
   ·cases h
  ·cases h
 ·rename_i x
  have hx := hr x (by simp [Op.operands])
  split at h
  ·rename_i id off hid
   rw [hid] at hx
   cases h
   obtain ⟨hv, ho⟩ := hx
   exact ⟨cv x, by simp [execOp, hv], hv, ho⟩
  ·rename_i e z k hid
   rw [hid] at hx
   cases h
   obtain ⟨b, off, us, hv, h2⟩ := hx
   exact ⟨cv x, by simp [execOp, hv], b, off, us, hv, h2⟩
  ·cases h
 ·rename_i op' t x y ty'
  exact fin rfl (binA_sound x y h hp (hr x (by simp [Op.operands])) (hr y (by simp [Op.operands])))
 ·rename_i op' ty' x
  exact fin rfl (unA_sound h hp (hr x (by simp [Op.operands])))
 ·rename_i src dst' x
  exact fin rfl (convA_sound h hp (hr x (by simp [Op.operands])))
 ·rename_i s x f
  have hx := hr x (by simp [Op.operands])
  split at h
  ·rename_i fd hfd
   obtain ⟨fs, hu, hf⟩ := fieldOf_cases hfd
   split at h
   ·rename_i n hn
    split at h
    ·rename_i id off hid
     rw [hid] at hx
     cases h
     obtain ⟨hv, ho⟩ := hx
     refine fin rfl ⟨.pointer (some ⟨G.ρ id, off + fd.offset, none⟩), ?_, rfl, ho⟩
     simp [Instr.fieldAt, rU9 hu, hf, hv, Instr.sureAddr, run_fieldPlace hn]
    ·rename_i e z k hid
     rw [hid] at hx
     cases h
     obtain ⟨b, off, us, hv, h2⟩ := hx
     refine fin rfl ⟨.pointer (some ⟨b, off + k + fd.offset, none⟩), ?_, b, off, us, by rw [Nat.add_assoc], h2⟩
     simp [Instr.fieldAt, rU9 hu, hf, hv, Instr.sureAddr, run_fieldPlace hn]
    ·cases h
   ·cases h
  ·cases h
 ·rename_i t x f
  have hx := hr x (by simp [Op.operands])
  split at h
  ·rename_i fd hfd
   obtain ⟨fs, hu, hf⟩ := fieldOf_cases hfd
   split at h
   ·rename_i cs hcs
    rw [hcs] at hx
    obtain ⟨vs, hv, hrc⟩ := hx
    split at h
    ·rename_i v hv2
     cases h
     obtain ⟨u, hu', hru⟩ := part_sound (P := M.P) hv2 hrc
     refine fin rfl ⟨u, ?_, hru⟩
     simp [Instr.field, rU9 hu, hf, hv, asAgg, hu']
    ·cases h
   ·cases h
  ·cases h
 ·rename_i t x ix
  have hx := hr x (by simp [Op.operands])
  have hi := hr ix (by simp [Op.operands])
  split at h
  ·rename_i e k i hu hix
   rw [hix] at hi
   obtain ⟨_, hiv⟩ := hi
   split at h
   ·rename_i c zs id n hs hn
    split at h
    ·rename_i hw
     cases h
     have hw' : n = c.width := by simpa using hw
     obtain ⟨h0, h1⟩ := hp
     have hz := (slOf_cases hx).2 c zs id hs
     rcases hz with ⟨rfl, _⟩ | ⟨b, off, cap, hv, hcap, hzz⟩ | ⟨rfl, _⟩
     ·simp at h1; omega
     rotate_left
     ·simp at h1; omega
     ·simp only [List.cons.injEq, and_true] at hv
      have hlt : i.toNat < zs.length := by omega
      have hget : zs[i.toNat]? = some (zs.getD i.toNat c.dflt) := by simp [hlt]
      obtain ⟨us, hru, huu⟩ := hzz _ _ hget
      refine fin rfl ⟨.pointer (some ⟨b, off + i.toNat * n, none⟩), ?_, b, off + i.toNat * c.width, us, by rw [hw', Nat.add_zero], hru, huu⟩
      have hidx : 0 ≤ i ∧ i < (zs.length : Int) := ⟨h0, h1⟩
      simp [Instr.indexAt, hiv, asIntOf, rU9 hu, hv, hidx, rS9 hn, addr_add]
    ·cases h
   ·cases h
  ·cases h
 ·rename_i t x ix
  have hx := hr x (by simp [Op.operands])
  have hi := hr ix (by simp [Op.operands])
  split at h
  ·rename_i s k i hu hxs hix
   rw [hix] at hi
   rw [hxs] at hx
   obtain ⟨_, hiv⟩ := hi
   obtain ⟨_, hxv⟩ := hx
   cases h
   obtain ⟨h0, h1⟩ := hp
   obtain ⟨b, hb, hbb⟩ := bytes_get h0 h1
   refine fin rfl ⟨.int .u8 (byteAt s i), ?_, RepS.mkv rfl⟩
   simp [Instr.index, hiv, asIntOf, rU9 hu, hxv, h0, hb, hbb]
  ·cases h
 ·rename_i t x lo hi mx
  have opt : ∀ (y : Option Operand), (∀ z, y = some z → RepS G (ev z) (cv z)) → All1 G (y.map ev) (y.map cv) := by
   intro y hy
   cases y with
   | none => trivial
   | some z => exact hy z rfl
  exact fin rfl (sliceA_sound h hp (hr x (by simp [Op.operands])) (opt lo fun z hz => hr z (by subst hz; simp [Op.operands])) (opt hi fun z hz => hr z (by subst hz; simp [Op.operands])) (opt mx fun z hz => hr z (by subst hz; simp [Op.operands])))
 ·rename_i fn first captured
  split at h
  ·rename_i f h1 h2
   cases h
   have e1 : first = #[] := by simpa using h1
   have e2 : captured = #[] := by simpa using h2
   subst e1; subst e2
   exact fin rfl ⟨.func (.func f) #[] #[], by simp [Instr.makeFunc], RepS.mkv rfl⟩
  ·rename_i f x h1 h2
   split at h
   ·rename_i id hx
    cases h
    have e1 : first = #[x] := by simpa using congrArg List.toArray h1
    have e2 : captured = #[] := by simpa using h2
    subst e1; subst e2
    have hrx := hr x (by simp [Op.operands])
    rw [hx] at hrx
    obtain ⟨hv, ho⟩ := hrx
    refine fin rfl ⟨.func (.func f) #[cv x] #[], by simp [Instr.makeFunc], ?_⟩
    exact ⟨by rw [hv]; rfl, fun i hi => by obtain rfl := List.mem_singleton.1 hi; exact ho⟩
   ·cases h
  ·rename_i f x h1 h2
   split at h
   ·rename_i id hx
    cases h
    have e1 : first = #[] := by simpa using h1
    have e2 : captured = #[x] := by simpa using congrArg List.toArray h2
    subst e1; subst e2
    have hrx := hr x (by simp [Op.operands])
    rw [hx] at hrx
    obtain ⟨hv, ho⟩ := hrx
    refine fin rfl ⟨.func (.func f) #[] #[cv x], by simp [Instr.makeFunc], ?_⟩
    exact ⟨by rw [hv]; rfl, fun i hi => by obtain rfl := List.mem_singleton.1 hi; exact ho⟩
   ·cases h
  ·rename_i f x y l h1 h2
   split at h
   ·rename_i ids hx
    cases h
    have e1 : first = #[] := by simpa using h1
    have e2 : captured = (x :: y :: l).toArray := by rw [← h2]
    subst e1; subst e2
    have hrx : ∀ z ∈ x :: y :: l, RepS G (ev z) (cv z) := fun z hz => hr z (by simp [Op.operands]; simpa using hz)
    obtain ⟨hv, ho⟩ := ptrIds_sound (l := x :: y :: l) hx hrx
    refine fin rfl ⟨.func (.func f) #[] ((x :: y :: l).toArray.map cv), by simp [Instr.makeFunc], ?_⟩
    refine ⟨?_, ho⟩
    show Value.func (.func f) #[] ((x :: y :: l).toArray.map cv) = .func (.func f) #[] _
    rw [← hv]
    simp
   ·cases h
  ·cases h
 ·rename_i c
  obtain ⟨callee, args, argTypes⟩ := c
  have hargs : ∀ x ∈ args.toList, RepS G (ev x) (cv x) := fun x hx => hr x (by simp [Op.operands, Call.operands]; exact .inr (by simpa using hx))
  have hm := all2_map args.toList hargs
  simp only at h
  split at h
  ·split at h
   ·rename_i x t hx ht
    have e1 : args = #[x] := by rw [← Array.toArray_toList (xs := args), hx]
    have e2 : argTypes = #[t] := by rw [← Array.toArray_toList (xs := argTypes), ht]
    subst e1; subst e2
    obtain ⟨u, hu, hru⟩ := lenA_sound (P := M.P) (ty := ty) h (hargs x (by simp))
    exact ⟨u, by simp [execOp, resolve, invoke, builtin, hu], hru⟩
   ·cases h
  ·obtain ⟨u, hu, hru⟩ := minA_sound (P := M.P) h hm argTypes ty
   have e : (args.toList.map cv).toArray = args.map cv := by rw [← Array.toList_map, Array.toArray_toList]
   rw [e] at hu
   exact ⟨u, by simp [execOp, resolve, invoke, builtin, hu], hru⟩
  ·obtain ⟨u, hu, hru⟩ := maxA_sound (P := M.P) h hm argTypes ty
   have e : (args.toList.map cv).toArray = args.map cv := by rw [← Array.toList_map, Array.toArray_toList]
   rw [e] at hu
   exact ⟨u, by simp [execOp, resolve, invoke, builtin, hu], hru⟩
  ·rename_i f
   exact absurd rfl (hncall _ f rfl)
  ·cases h
 ·cases h
theorem Rows.nil {I w} {e : CT} : Rows I w e [] [] := ⟨by simp, fun i z h => by simp at h⟩
theorem Rows.cons {I w} {e : CT} {z : e.den} {zs : List e.den} {us vs : List Value} (h : Rep I w e z us) (t : Rows I w e zs vs) : Rows I w e (z :: zs) (us ++ vs) := by
 have hl := Rep.length _ _ _ h
 refine ⟨by simp [hl, t.1, Nat.add_mul, Nat.add_comm], fun i z' hz => ?_⟩
 cases i with
 | zero =>
  simp at hz
  subst hz
  exact ⟨us, h, fun j u hj => by
   have : j < us.length := (List.getElem?_eq_some_iff.1 hj).1
   simp only [Nat.zero_mul, Nat.zero_add]
   rw [List.getElem?_append_left this, hj]⟩
 | succ i =>
  simp at hz
  obtain ⟨xs, hx, hxs⟩ := t.2 i z' hz
  refine ⟨xs, hx, fun j u hj => ?_⟩
  have := hxs j u hj
  rw [List.getElem?_append_right (by rw [hl, Nat.add_mul]; omega), hl]
  rw [← this]
  congr 1
  rw [Nat.add_mul]
  omega
theorem Rows.append {I w} {e : CT} {zs ys : List e.den} {vs us : List Value} (h : Rows I w e zs vs) (k : Rows I w e ys us) : Rows I w e (zs ++ ys) (vs ++ us) := by
 refine ⟨by simp [h.1, k.1, Nat.add_mul], fun i z hz => ?_⟩
 rcases Nat.lt_or_ge i zs.length with hi | hi
 ·rw [List.getElem?_append_left hi] at hz
  obtain ⟨xs, hx, hxs⟩ := h.2 i z hz
  refine ⟨xs, hx, fun j u hj => ?_⟩
  have := hxs j u hj
  rw [List.getElem?_append_left (List.getElem?_eq_some_iff.1 this).1, this]
 ·rw [List.getElem?_append_right hi] at hz
  obtain ⟨xs, hx, hxs⟩ := k.2 _ z hz
  refine ⟨xs, hx, fun j u hj => ?_⟩
  have := hxs j u hj
  have e1 : zs.length * e.width ≤ i * e.width := Nat.mul_le_mul_right _ hi
  rw [List.getElem?_append_right (by rw [h.1]; omega), h.1, ← this]
  congr 1
  rw [Nat.sub_mul]
  omega
theorem Rows.list {I w} {e : CT} {zs : List e.den} {vs : List Value} (h : Rows I w e zs vs) {b off cap : Nat} (hc : zs.length ≤ cap) (hm : ∀ (k : Nat) u, vs[k]? = some u → I b (off + k) ∧ w.at' b (off + k) = some u) :
  Rep I w (.list e) zs [.slice (some ⟨b, off, none⟩) zs.length cap] := by
 refine .inr (.inl ⟨b, off, cap, rfl, hc, fun i z hz => ?_⟩)
 obtain ⟨us, hu, hj⟩ := h.2 i z hz
 refine ⟨us, hu, fun j u hju => ?_⟩
 have := hm _ _ (hj j u hju)
 rw [← Nat.add_assoc] at this
 exact this
theorem rows_of {I w} {e : CT} {b : Nat} : ∀ (zs : List e.den) (off : Nat), (∀ (i : Nat) z, zs[i]? = some z → ∃ us : List Value, Rep I w e z us ∧ ∀ (j : Nat) u, us[j]? = some u → I b (off + i * e.width + j) ∧ w.at' b (off + i * e.width + j) = some u) →
  ∃ vs, Rows I w e zs vs ∧ ∀ (k : Nat) u, vs[k]? = some u → I b (off + k) ∧ w.at' b (off + k) = some u := by
 intro zs
 induction zs with
 | nil => intro off _; exact ⟨[], Rows.nil, fun k u h => by simp at h⟩
 | cons z zs ih =>
  intro off h
  obtain ⟨us, hu, hus⟩ := h 0 z rfl
  obtain ⟨vs, hv, hvs⟩ := ih (off + e.width) (fun i z' hz => by
   obtain ⟨xs, hx, hxs⟩ := h (i + 1) z' (by simpa using hz)
   refine ⟨xs, hx, fun j u hj => ?_⟩
   have := hxs j u hj
   rw [Nat.add_mul, Nat.one_mul] at this
   have e1 : off + e.width + i * e.width + j = off + (i * e.width + e.width) + j := by omega
   rw [e1]
   exact this)
  have hl := Rep.length _ _ _ hu
  refine ⟨us ++ vs, Rows.cons hu hv, fun k u hk => ?_⟩
  rcases Nat.lt_or_ge k us.length with h1 | h1
  ·rw [List.getElem?_append_left h1] at hk
   simpa using hus k u hk
  ·rw [List.getElem?_append_right h1] at hk
   have := hvs _ u hk
   rw [hl] at this h1
   have e1 : off + e.width + (k - e.width) = off + k := by omega
   rw [e1] at this
   exact this
theorem Rep.rows {I w} {e : CT} {zs : List e.den} {v : Value} (h : Rep I w (.list e) zs [v]) :
  (zs = [] ∧ v = .slice none 0 0) ∨ ∃ a cap vs, v = .slice (some a) zs.length cap ∧ zs.length ≤ cap ∧ Rows I w e zs vs ∧ ∀ (k : Nat) u, vs[k]? = some u → a.spot = none ∧ I a.block (a.off + k) ∧ w.at' a.block (a.off + k) = some u := by
 rcases h with ⟨h1, h2⟩ | ⟨b, off, cap, h1, h2, h3⟩ | ⟨rfl, a, cap, h1⟩
 ·cases h2; exact .inl ⟨h1, rfl⟩
 ·cases h1
  obtain ⟨vs, hv, hm⟩ := rows_of zs off h3
  exact .inr ⟨⟨b, off, none⟩, cap, vs, rfl, h2, hv, fun k u hk => ⟨rfl, hm k u hk⟩⟩
 ·cases h1
  exact .inr ⟨a, cap, [], rfl, nZ9 _, Rows.nil, fun k u hk => by simp at hk⟩
theorem rowsOf_sound {I w} {e : CT} : ∀ (n : Nat) (ps : List PV) (zs : List e.den) (vs : List Value), rowsOf e n ps = some zs → ps.length = n * e.width → All2 (RepV I w) ps vs → Rows I w e zs vs ∧ zs.length = n := by
 intro n
 induction n with
 | zero =>
  intro ps zs vs h hl hv
  simp only [rowsOf] at h
  cases h
  simp at hl
  subst hl
  cases hv
  exact ⟨Rows.nil, rfl⟩
 | succ n ih =>
  intro ps zs vs h hl hv
  simp only [rowsOf] at h
  split at h
  ·rename_i z r hd
   split at h
   ·rename_i zs' hz
    cases h
    obtain ⟨xs, ys, rfl, hr, hrr⟩ := dec_rep e ps z r vs hv hd
    have hlr := hrr.length
    have hlx := Rep.length _ _ _ hr
    have hlv := hv.length
    simp only [zP9] at hlv
    obtain ⟨h1, h2⟩ := ih r zs' ys hz (by rw [Nat.add_mul] at hl; omega) hrr
    exact ⟨Rows.cons hr h1, by simp [h2]⟩
   ·cases h
  ·cases h
theorem pureCells_sound {G : View} : ∀ (cs : List AC) (ps : List PV) (vs : List Value), pureCells cs = some ps → All2 (RepC G) cs vs → All2 (RepV G.I G.w) ps vs := by
 intro cs
 induction cs with
 | nil => intro ps vs h hv; simp only [pureCells] at h; cases h; cases hv; exact .nil
 | cons c cs ih =>
  intro ps vs h hv
  cases hv with
  | cons h1 t =>
   simp only [pureCells] at h
   split at h
   ·rename_i y ys hy hys
    cases h
    refine .cons ?_ (ih _ _ hys t)
    cases c <;> simp only [AC.pure?] at hy
    ·cases hy; exact h1
    ·cases hy
    ·cases hy
    ·cases hy; exact h1.1
    all_goals first | (cases hy; done) | (cases hy; exact h1.1)
   ·cases h
theorem box_sound {P : Program} {G : View} (hS : Sim G) {l : List AC} {v : Value} (t : TypeId) (hl : All2 (RepC G) l v.cells.toList) :
  ∃ G', (newVar t v).run P G.w = .ok ⟨G.w.heap.size, 0, none⟩ G'.w ∧ Ext G G' ∧ Sim G' ∧ G'.H = G.H ++ [.row l] ∧ RepC G' (.ptr G.H.length 0) (.pointer (some ⟨G.w.heap.size, 0, none⟩)) := by
 let G1 := G.push (fun _ => False) (.cells v.cells t)
 have e1 : Ext G G1 := Ext.push hS _ _
 have s1 : Sim G1 := Sim.push hS _ _
 have hfree : ∀ id, ¬ G1.holds id G.w.heap.size := fun id h => by
  have : G.holds id G.w.heap.size := h
  exact absurd (hS.lt this) (Nat.lt_irrefl _)
 let G2 := G1.obj G.w.heap.size (.row l)
 have e2 : Ext G G2 := e1.obj (fun _ => nR9 _)
 have hlast := G1.obj_last G.w.heap.size (.row l)
 refine ⟨G2, rfl, e2, ?_, rfl, ?_, l, hlast.1⟩
 ·refine Sim.obj s1 hfree fun _ => ?_
  refine ⟨v.cells, t, ?_, ?_, hl.mono fun _ _ h => RepC.mono e2 h⟩
  ·rw [hlast.2]
   exact alloc_heap_new _ _
  ·intro o ho
   rw [hlast.2] at ho
   rcases ho with ho | ⟨_, ho⟩
   ·exact absurd (hS.ilt _ _ ho) (Nat.lt_irrefl _)
   ·exact ho
 ·have : G2.ρ G.H.length = G.w.heap.size := hlast.2
  rw [this]
theorem boxA_sound {P : Program} {G : View} (hS : Sim G) {t : TypeId} {x : SV} {K : SV → List AO → Prop} (h : boxA P t x G.H K) {v : Value} (hx : ∀ a, x = .a a → All2 (RepC G) a.cells v.cells.toList) :
  ∃ r G' u, (do pure (.pointer (some (← newVar t v))) : Sem Value).run P G.w = .ok u G'.w ∧ Ext G G' ∧ Sim G' ∧ K r G'.H ∧ RepS G' r u := by
 unfold boxA at h
 split at h
 ·rename_i a n hn
  obtain ⟨G', hr, he, hs, hH, hp⟩ := box_sound (P := P) hS t (hx a rfl)
  exact ⟨.a (.c (.ptr G.H.length 0)), G', .pointer (some ⟨G.w.heap.size, 0, none⟩), by simp [hr], he, hs, hH ▸ h, hp⟩
 ·exact h.elim
theorem storeA_sound {P : Program} {G : View} (hS : Sim G) {t : TypeId} {a x : SV} {K : SV → List AO → Prop} (h : storeA P t a x G.H K) {va vx : Value} (ra : RepS G a va) (rx : RepS G x vx) :
  ∃ G', (Instr.storeAt t va vx).run P G.w = .ok () G'.w ∧ Ext G G' ∧ Sim G' ∧ K .none G'.H := by
 unfold storeA at h
 split at h
 ·rename_i id off v n hn
  split at h
  ·rename_i cs ho
   split at h
   ·rename_i hb
    simp only [Bool.and_eq_true, Nat.beq_eq, Nat.ble_eq] at hb
    obtain ⟨hva, _⟩ := ra
    obtain ⟨cur, T, hh, hno, hrc⟩ := hS.objs id _ ho trivial
    have hv := AV.cells_rep' rx
    have hlv := hv.length
    have hlc := hrc.length
    simp only [Array.length_toList] at hlv hlc
    have hrun := run_storeCells_at P (G.ρ id) off T vx.cells.toList 0 cur G.w hh (by simp; omega) (all_oneCell hv)
    simp only [Nat.add_zero] at hrun
    have hall : All2 (RepC G) (cs.take off ++ v.cells ++ cs.drop (off + n)) (cur.toList.take off ++ vx.cells.toList ++ cur.toList.drop (off + vx.cells.toList.length)) := by
     have e1 : vx.cells.toList.length = n := by simp; omega
     rw [e1]
     exact ((hrc.take off).append hv).append (hrc.drop _)
    have hlen : (cs.take off ++ v.cells ++ cs.drop (off + n)).length = cs.length := by simp; omega
    let G' := G.setRow id (cs.take off ++ v.cells ++ cs.drop (off + n)) (cur.toList.take off ++ vx.cells.toList ++ cur.toList.drop (off + vx.cells.toList.length)).toArray
    refine ⟨G', ?_, Ext.setRow hS ho hlen, Sim.setRow hS ho hlen (by simpa using hall), h⟩
    have hsz : vx.cells.size = n := by omega
    simp [Instr.storeAt, hva, Instr.sureAddr, storeVar, rS9 hn, hsz]
    exact hrun
   ·exact h.elim
  ·exact h.elim
 ·exact h.elim
end Go.Ab
