/- The abstract machine: keys of maps. -/
import Derived.Test.YtnlifjljmbfomaaGreatTI
import Derived.MapKept
namespace Go.Ab
set_option linter.unusedSectionVars false
variable [Base]
def litV : (k : CT) → k.den → List Value
 | .int q, n => [.int q n]
 | .bool, b => [.bool b]
 | .str, s => [.string s]
 | .pair a b, z => litV a z.1 ++ litV b z.2
 | _, _ => []
def keyV (k : CT) (z : k.den) : Value := packV k (litV k z)
def CT.plain : CT → Bool
 | .int _ | .bool | .str => true
 | _ => false
def CT.keyable : CT → Bool
 | .pair a b => a.plain && b.keyable
 | k => k.plain
theorem rep_lit {I w} : ∀ (k : CT) (z : k.den) (us : List Value), k.keyable = true → Rep I w k z us → us = litV k z := by
 intro k
 induction k with
 | int q => intro z us _ h; exact h
 | bool => intro z us _ h; exact h
 | str => intro z us _ h; exact h
 | list e _ => intro z us h; simp [CT.keyable, CT.plain] at h
 | fn => intro z us h; simp [CT.keyable, CT.plain] at h
 | map a b _ _ => intro z us h; simp [CT.keyable, CT.plain] at h
 | pair a b iha ihb =>
  intro z us h hr
  simp only [CT.keyable, Bool.and_eq_true] at h
  obtain ⟨xs, ys, rfl, hx, hy⟩ := hr
  have ha : a.keyable = true := by cases a <;> simp_all [CT.keyable, CT.plain]
  rw [iha _ _ ha hx, ihb _ _ h.2 hy]
  rfl
theorem lit_rep {I w} : ∀ (k : CT) (z : k.den), k.keyable = true → Rep I w k z (litV k z) := by
 intro k
 induction k with
 | int q => intro z _; rfl
 | bool => intro z _; rfl
 | str => intro z _; rfl
 | list e _ => intro z h; simp [CT.keyable, CT.plain] at h
 | fn => intro z h; simp [CT.keyable, CT.plain] at h
 | map a b _ _ => intro z h; simp [CT.keyable, CT.plain] at h
 | pair a b iha ihb =>
  intro z h
  simp only [CT.keyable, Bool.and_eq_true] at h
  have ha : a.keyable = true := by cases a <;> simp_all [CT.keyable, CT.plain]
  exact ⟨_, _, rfl, iha _ ha, ihb _ h.2⟩
theorem keyEq_eq : ∀ (k : CT) (y z : k.den), keyEq k y z = true → y = z := by
 intro k
 induction k with
 | int q => intro y z h; simpa [keyEq] using h
 | bool => intro y z h; simpa [keyEq] using h
 | str => intro y z h; simpa [keyEq] using h
 | list e _ => intro y z h; simp [keyEq] at h
 | fn => intro y z h; simp [keyEq] at h
 | map a b _ _ => intro y z h; simp [keyEq] at h
 | pair a b iha ihb =>
  intro y z h
  simp only [keyEq, Bool.and_eq_true] at h
  exact Prod.ext (iha _ _ h.1) (ihb _ _ h.2)
section
variable {P : Program}
theorem plainT_cases {t : TypeId} {k : CT} (h : plainT P t k = true) :
  (∃ q, P.underlying t = some (.int q) ∧ k = .int q) ∨ (P.underlying t = some .bool ∧ k = .bool) ∨ (P.underlying t = some .string ∧ k = .str) := by
 unfold plainT at h
 split at h
 ·rename_i q q' hu; have e : q = q' := by simpa using h
  subst e; exact .inl ⟨q, hu, rfl⟩
 ·rename_i hu; exact .inr (.inl ⟨hu, rfl⟩)
 ·rename_i hu; exact .inr (.inr ⟨hu, rfl⟩)
 ·cases h
theorem plainT_plain {t : TypeId} {k : CT} (h : plainT P t k = true) : k.plain = true := by
 rcases plainT_cases h with ⟨q, _, rfl⟩ | ⟨_, rfl⟩ | ⟨_, rfl⟩ <;> rfl
theorem plainT_agg {t : TypeId} {k : CT} (h : plainT P t k = true) : aggP P t = some false := by
 rcases plainT_cases h with ⟨q, hu, rfl⟩ | ⟨hu, rfl⟩ | ⟨hu, rfl⟩ <;> simp [aggP, hu]
theorem plain_one {k : CT} (h : k.plain = true) (z : k.den) : ∃ v, litV k z = [v] := by
 cases k <;> simp [CT.plain] at h <;> exact ⟨_, rfl⟩
theorem plain_equal (w : World) (d : Nat) {t : TypeId} {k : CT} (h : plainT P t k = true) (a b : k.den) : (Op.equalIn (d + 1) t (keyV k a) (keyV k b)).run P w = .ok (keyEq k a b) w := by
 rcases plainT_cases h with ⟨q, hu, rfl⟩ | ⟨hu, rfl⟩ | ⟨hu, rfl⟩
 ·show (Op.equalIn (d + 1) t (.int q a) (.int q b)).run P w = _
  rw [run_equalIn_int w d t q q a b hu]
  rfl
 ·show (Op.equalIn (d + 1) t (.bool a) (.bool b)).run P w = _
  exact run_equalIn_bool' w d t a b hu
 ·show (Op.equalIn (d + 1) t (.string a) (.string b)).run P w = _
  rw [run_equalIn_string w d t a b hu, beq_bytes]
  rfl
theorem plainFields_cases {f : Field} {r : List Field} {k : CT} {off : Nat} (h : plainFields P (f :: r) k off = true) :
  (r = [] ∧ plainT P f.type k = true ∧ f.offset = off ∧ f.name ≠ "_") ∨ ∃ a b, k = .pair a b ∧ plainT P f.type a = true ∧ f.offset = off ∧ f.name ≠ "_" ∧ plainFields P r b (off + 1) = true := by
 unfold plainFields at h
 split at h
 ·rename_i f' k' off' hl
  simp only [Bool.and_eq_true, Nat.beq_eq, Bool.not_eq_true', decide_eq_false_iff_not] at h
  simp only [List.cons.injEq] at hl
  obtain ⟨rfl, rfl⟩ := hl
  exact .inl ⟨rfl, h.1.1, h.1.2, h.2⟩
 ·rename_i f' r' off' a b _ hl
  simp only [Bool.and_eq_true, Nat.beq_eq, Bool.not_eq_true', decide_eq_false_iff_not] at h
  simp only [List.cons.injEq] at hl
  obtain ⟨rfl, rfl⟩ := hl
  exact .inr ⟨a, b, rfl, h.1.1.1, h.1.1.2, h.1.2, h.2⟩
 ·cases h
theorem plainFields_keyable : ∀ {fs : List Field} {k : CT} {off : Nat}, plainFields P fs k off = true → k.keyable = true := by
 intro fs
 induction fs with
 | nil => intro k off h; unfold plainFields at h; simp at h
 | cons f r ih =>
  intro k off h
  rcases plainFields_cases h with ⟨_, h1, _⟩ | ⟨a, b, rfl, h1, _, _, h2⟩
  ·have := plainT_plain h1
   cases k <;> simp_all [CT.keyable, CT.plain]
  ·simp [CT.keyable, plainT_plain h1, ih h2]
theorem key_of {t : TypeId} {k : CT} (h : keyF P t k = true) (ho : holdsO (keyO P t)) : keyT P t k = true := by
 unfold keyF keyO keyT at *
 split at h
 ·rename_i fs hu
  rw [hu] at ho
  have ho : P.stoodInHeld t = false := ho
  simp only [ho, Bool.not_false, Bool.true_and]
  exact h
 ·exact h
theorem keyT_keyable {t : TypeId} {k : CT} (h : keyT P t k = true) : k.keyable = true := by
 unfold keyT at h
 split at h
 ·simp only [Bool.and_eq_true] at h; exact plainFields_keyable h.2
 ·have := plainT_plain h
  cases k <;> simp_all [CT.keyable, CT.plain]
theorem plain_part (w : World) {t : TypeId} {k : CT} (h : plainT P t k = true) {cs : Array Value} {off : Nat} {z : k.den} (hc : ∀ (j : Nat) u, (litV k z)[j]? = some u → cs[off + j]? = some u) :
  (part t cs off).run P w = .ok (keyV k z) w := by
 obtain ⟨v, hv⟩ := plain_one (plainT_plain h) z
 have hk : keyV k z = v := by
  unfold keyV packV
  rw [hv]
  have := plainT_plain h
  cases k <;> simp_all [CT.plain]
 have := hc 0 v (by rw [hv]; rfl)
 rw [hk]
 simp only [Nat.add_zero] at this
 simp [part, run_isAgg' (plainT_agg h), this]
theorem fields_equal (w : World) (d : Nat) : ∀ (fs : List Field) (k : CT) (off : Nat), plainFields P fs k off = true → ∀ (a b : k.den) (xs ys : Array Value),
  (∀ (j : Nat) u, (litV k a)[j]? = some u → xs[off + j]? = some u) → (∀ (j : Nat) u, (litV k b)[j]? = some u → ys[off + j]? = some u) → (Op.eqFields (d + 1) xs ys fs).run P w = .ok (keyEq k a b) w := by
 intro fs
 induction fs with
 | nil => intro k off h; unfold plainFields at h; simp at h
 | cons f r ih =>
  intro k off h a b xs ys hx hy
  rcases plainFields_cases h with ⟨rfl, h1, rfl, hn⟩ | ⟨ka, kb, rfl, h1, rfl, hn, h2⟩
  ·simp only [Op.eqFields, ne_eq, hn, not_false_eq_true, if_true, Sem.run_bind, plain_part w h1 hx, plain_part w h1 hy, plain_equal w d h1, Result.andThen_ok, Sem.run_ite]
   cases keyEq k a b <;> simp
  ·obtain ⟨u, hu⟩ := plain_one (plainT_plain h1) a.1
   obtain ⟨v, hv⟩ := plain_one (plainT_plain h1) b.1
   have hx1 : ∀ (j : Nat) q, (litV ka a.1)[j]? = some q → xs[f.offset + j]? = some q := fun j q hj => by
    refine hx j q ?_
    simp only [litV]
    rw [List.getElem?_append_left (List.getElem?_eq_some_iff.1 hj).1]
    exact hj
   have hy1 : ∀ (j : Nat) q, (litV ka b.1)[j]? = some q → ys[f.offset + j]? = some q := fun j q hj => by
    refine hy j q ?_
    simp only [litV]
    rw [List.getElem?_append_left (List.getElem?_eq_some_iff.1 hj).1]
    exact hj
   have hx2 : ∀ (j : Nat) q, (litV kb a.2)[j]? = some q → xs[f.offset + 1 + j]? = some q := fun j q hj => by
    have := hx (j + 1) q (by simp only [litV, hu]; simpa using hj)
    rw [← this]; congr 1; omega
   have hy2 : ∀ (j : Nat) q, (litV kb b.2)[j]? = some q → ys[f.offset + 1 + j]? = some q := fun j q hj => by
    have := hy (j + 1) q (by simp only [litV, hv]; simpa using hj)
    rw [← this]; congr 1; omega
   have := ih kb (f.offset + 1) h2 a.2 b.2 xs ys hx2 hy2
   simp only [Op.eqFields, ne_eq, hn, not_false_eq_true, if_true, Sem.run_bind, plain_part w h1 hx1, plain_part w h1 hy1, plain_equal w d h1, Result.andThen_ok, Sem.run_ite, this, keyEq]
   cases keyEq ka a.1 b.1 <;> simp
theorem key_agg {k : CT} (h : k.isPair = true) (z : k.den) : keyV k z = .agg (litV k z).toArray := by
 cases k <;> simp [CT.isPair] at h
 rfl
theorem key_equal (w : World) {t : TypeId} {k : CT} (h : keyT P t k = true) (a b : k.den) : (Op.equal t (keyV k a) (keyV k b)).run P w = .ok (keyEq k a b) w := by
 unfold keyT at h
 split at h
 ·rename_i fs hu
  simp only [Bool.and_eq_true, Bool.not_eq_true'] at h
  obtain ⟨⟨h1, h2⟩, h3⟩ := h
  have hfs : P.fieldsOf t = fs := by simp [Program.fieldsOf, hu]
  rw [key_agg h2, key_agg h2]
  show (Op.equalIn (9999 + 1) t _ _).run P w = _
  rw [run_equalIn_struct w 9999 t _ _ (by rw [hfs]; exact hu) h1, hfs]
  exact fields_equal w 9998 fs.toList k 0 h3 a b _ _ (fun j u hj => by simpa using hj) (fun j u hj => by simpa using hj)
 ·exact plain_equal w 9999 h a b
theorem plain_check (w : World) (e : Bool) (d : Nat) {t : TypeId} {k : CT} (h : plainT P t k = true) (a : k.den) : (Instr.checkKey e (d + 1) t (keyV k a)).run P w = .ok () w := by
 rcases plainT_cases h with ⟨q, hu, rfl⟩ | ⟨hu, rfl⟩ | ⟨hu, rfl⟩ <;> (unfold Instr.checkKey; simp only [Sem.run_bind, rU9 hu, Result.andThen_ok]; rfl)
theorem key_check (w : World) (e : Bool) {t : TypeId} {k : CT} (h : keyT P t k = true) (a : k.den) : (Instr.checkKey e 10000 t (keyV k a)).run P w = .ok () w := by
 unfold keyT at h
 split at h
 ·rename_i fs hu
  simp only [Bool.and_eq_true, Bool.not_eq_true'] at h
  obtain ⟨⟨h1, h2⟩, h3⟩ := h
  rw [key_agg h2, show (10000 : Nat) = 9999 + 1 from rfl, Instr.checkKey]
  simp only [Sem.run_bind, rU9 hu, Result.andThen_ok]
  rw [← Array.forIn_toList]
  have key : ∀ (fs : List Field) (k : CT) (off : Nat), plainFields P fs k off = true → ∀ (a : k.den) (xs : Array Value), (∀ (j : Nat) u, (litV k a)[j]? = some u → xs[off + j]? = some u) →
    ∀ f ∈ fs, f.name ≠ "_" ∧ ∃ v, (part f.type xs f.offset).run P w = .ok v w ∧ (Instr.checkKey e 9999 f.type v).run P w = .ok () w := by
   intro fs
   induction fs with
   | nil => intro k off h; unfold plainFields at h; simp at h
   | cons f r ih =>
    intro k off h a xs hx g hg
    rcases plainFields_cases h with ⟨rfl, h1, rfl, hn⟩ | ⟨ka, kb, rfl, h1, rfl, hn, h2⟩
    ·simp only [List.mem_singleton] at hg
     subst hg
     exact ⟨hn, _, plain_part w h1 hx, plain_check w e 9998 h1 a⟩
    ·obtain ⟨u, hu⟩ := plain_one (plainT_plain h1) a.1
     rcases List.mem_cons.1 hg with rfl | hg
     ·refine ⟨hn, _, plain_part w h1 (z := a.1) (fun j q hj => ?_), plain_check w e 9998 h1 a.1⟩
      refine hx j q ?_
      simp only [litV]
      rw [List.getElem?_append_left (List.getElem?_eq_some_iff.1 hj).1]
      exact hj
     ·refine ih kb (f.offset + 1) h2 a.2 xs (fun j q hj => ?_) g hg
      have := hx (j + 1) q (by simp only [litV, hu]; simpa using hj)
      rw [← this]; congr 1; omega
  have each := key fs.toList k 0 h3 a (litV k a).toArray (fun j u hj => by simpa using hj)
  clear h3 hu
  generalize fs.toList = L at each
  induction L with
  | nil => simp
  | cons f L ih =>
   obtain ⟨hn, v, p1, p2⟩ := each f (by simp)
   simp only [List.forIn_cons, Sem.run_bind, hn, ne_eq, not_false_eq_true, if_true, Result.andThen_ok, p1, p2, Sem.run_pure]
   exact ih fun g hg => each g (by simp [hg])
 ·exact plain_check w e 9999 h a
theorem bytesEq (z : ByteArray) : (z == z) = true := by
 rw [beq_toListBytes]; simp
theorem same_lit : ∀ (k : CT) (z : k.den), k.keyable = true → ∀ (n : Nat), ((litV k z).zip (litV k z)).all (fun (x, y) => Instr.sameBits n x y) = true := by
 intro k
 induction k with
 | int q => intro z _ n; simp [litV, Instr.sameBits]
 | bool => intro z _ n; simp [litV, Instr.sameBits]
 | str => intro z _ n; simp [litV, Instr.sameBits, bytesEq]
 | list e _ => intro z h; simp [CT.keyable, CT.plain] at h
 | fn => intro z h; simp [CT.keyable, CT.plain] at h
 | map a b _ _ => intro z h; simp [CT.keyable, CT.plain] at h
 | pair a b iha ihb =>
  intro z h n
  simp only [CT.keyable, Bool.and_eq_true] at h
  have ha : a.keyable = true := by cases a <;> simp_all [CT.keyable, CT.plain]
  simp only [litV]
  rw [List.zip_append rfl]
  simp only [List.all_append, iha _ ha, ihb _ h.2, Bool.and_self]
theorem key_stays (w : World) {k : CT} (h : k.keyable = true) (z : k.den) : (Instr.keyThatStays (keyV k z) (keyV k z)).run P w = .ok (keyV k z) w := by
 have key : Instr.sameBits 10000 (keyV k z) (keyV k z) = true := by
  cases k with
  | pair a b =>
   rw [key_agg rfl]
   simp only [Instr.sameBits, BEq.rfl, Bool.true_and]
   exact same_lit _ z h 9999
  | int q => simp [keyV, packV, litV, Instr.sameBits]
  | bool => simp [keyV, packV, litV, Instr.sameBits]
  | str => simp [keyV, packV, litV, Instr.sameBits, bytesEq]
  | list e => simp [CT.keyable, CT.plain] at h
  | fn => simp [CT.keyable, CT.plain] at h
  | map a b => simp [CT.keyable, CT.plain] at h
 simp [Instr.keyThatStays, key]
theorem plain_now {t : TypeId} {k : CT} (h : plainT P t k = true) : ∃ d, P.underlying t = some d ∧ ∀ (a b : k.den), Instr.sameNow d (keyV k a) (keyV k b) = some (keyEq k a b) := by
 rcases plainT_cases h with ⟨q, hu, rfl⟩ | ⟨hu, rfl⟩ | ⟨hu, rfl⟩
 ·refine ⟨_, hu, fun a b => ?_⟩
  simp only [keyV, packV, litV, List.headD_cons, Instr.sameNow, if_true, keyEq]
  rfl
 ·exact ⟨_, hu, fun a b => rfl⟩
 ·refine ⟨_, hu, fun a b => ?_⟩
  simp only [keyV, packV, litV, List.headD_cons, Instr.sameNow, keyEq]
  rw [beq_toListBytes, beq_bytes]
def Found {k v : CT} (es : List (k.den × v.den)) (key : k.den) (ens : List MapEntry) (r : Option (Nat × Value)) (n : Nat) : Prop :=
 (r = none ∧ findE es key = none ∧ ∀ x, setE key x es = es ++ [(key, x)]) ∨
 ∃ (i : Nat) (en : MapEntry) (kv : k.den × v.den), r = some (n + i, en.val) ∧ ens[i]? = some en ∧ es[i]? = some kv ∧ keyEq k key kv.1 = true ∧ findE es key = some kv.2 ∧ ∀ x, setE key x es = es.set i (key, x)
theorem Found.nil {k v : CT} {key : k.den} {n : Nat} : Found ([] : List (k.den × v.den)) key [] none n := .inl ⟨rfl, rfl, fun _ => rfl⟩
theorem Found.here {k v : CT} {a : k.den} {x : v.den} {es : List (k.den × v.den)} {key : k.den} {en : MapEntry} {ens : List MapEntry} {n : Nat} (h : keyEq k key a = true) :
  Found ((a, x) :: es) key (en :: ens) (some (n, en.val)) n :=
 .inr ⟨0, en, (a, x), rfl, rfl, rfl, h, by simp [findE, h], fun y => by simp [setE, h]⟩
theorem Found.there {k v : CT} {a : k.den} {x : v.den} {es : List (k.den × v.den)} {key : k.den} {en : MapEntry} {ens : List MapEntry} {r : Option (Nat × Value)} {n : Nat} (h : keyEq k key a = false) (hf : Found es key ens r (n + 1)) :
  Found ((a, x) :: es) key (en :: ens) r n := by
 rcases hf with ⟨h1, h2, h3⟩ | ⟨i, en', kv, h1, h2, h3, h4, h5, h6⟩
 ·exact .inl ⟨h1, by simp [findE, h, h2], fun y => by simp [setE, h, h3]⟩
 ·exact .inr ⟨i + 1, en', kv, by rw [h1]; congr 2; omega, by simpa using h2, by simpa using h3, h4, by simp [findE, h, h5], fun y => by simp [setE, h, h6]⟩
def Keys {k v : CT} (es : List (k.den × v.den)) (ens : List MapEntry) : Prop := ens.length = es.length ∧ ∀ (i : Nat) kv, es[i]? = some kv → ∃ en, ens[i]? = some en ∧ en.key = keyV k kv.1
theorem Keys.tail {k v : CT} {kv : k.den × v.den} {es : List (k.den × v.den)} {en : MapEntry} {ens : List MapEntry} (h : Keys (kv :: es) (en :: ens)) : Keys es ens ∧ en.key = keyV k kv.1 := by
 refine ⟨⟨by simpa using h.1, fun i q hq => by simpa using h.2 (i + 1) q (by simpa using hq)⟩, ?_⟩
 obtain ⟨en', h1, h2⟩ := h.2 0 kv rfl
 simp at h1
 subst h1
 exact h2
theorem find_now {k v : CT} {d : TypeDesc} (hs : ∀ (a b : k.den), Instr.sameNow d (keyV k a) (keyV k b) = some (keyEq k a b)) (key : k.den) : ∀ (es : List (k.den × v.den)) (ens : List MapEntry) (n : Nat), Keys es ens →
  ∃ r, Instr.findNow d (keyV k key) ens n = some r ∧ Found es key ens r n := by
 intro es
 induction es with
 | nil => intro ens n h; have : ens = [] := List.eq_nil_of_length_eq_zero (by simpa using h.1); subst this; exact ⟨none, rfl, Found.nil⟩
 | cons kv es ih =>
  intro ens n h
  cases ens with
  | nil => exact absurd h.1 (by simp)
  | cons en ens =>
   obtain ⟨h1, h2⟩ := h.tail
   obtain ⟨a, x⟩ := kv
   cases hq : keyEq k key a with
   | true => exact ⟨_, by simp only [Instr.findNow, h2, hs, hq], Found.here hq⟩
   | false =>
    obtain ⟨r, h3, h4⟩ := ih ens (n + 1) h1
    exact ⟨r, by simp only [Instr.findNow, h2, hs, hq]; exact h3, Found.there hq h4⟩
theorem find_asking (w : World) {t : TypeId} {k v : CT} (hk : keyT P t k = true) (key : k.den) : ∀ (es : List (k.den × v.den)) (ens : List MapEntry) (n : Nat), Keys es ens →
  ∃ r, (Instr.findAsking t (keyV k key) ens n).run P w = .ok r w ∧ Found es key ens r n := by
 intro es
 induction es with
 | nil => intro ens n h; have : ens = [] := List.eq_nil_of_length_eq_zero (by simpa using h.1); subst this; exact ⟨none, rfl, Found.nil⟩
 | cons kv es ih =>
  intro ens n h
  cases ens with
  | nil => exact absurd h.1 (by simp)
  | cons en ens =>
   obtain ⟨h1, h2⟩ := h.tail
   obtain ⟨a, x⟩ := kv
   have he := key_equal w hk key a
   rw [← h2] at he
   cases hq : keyEq k key a with
   | true =>
    rw [hq] at he
    exact ⟨_, by simp [Instr.findAsking, he], Found.here hq⟩
   | false =>
    rw [hq] at he
    obtain ⟨r, h3, h4⟩ := ih ens (n + 1) h1
    exact ⟨r, by simp [Instr.findAsking, he, h3], Found.there hq h4⟩
theorem find_key (w : World) {t : TypeId} {k v : CT} (hk : keyT P t k = true) (key : k.den) (es : List (k.den × v.den)) (ens : List MapEntry) (h : Keys es ens) :
  ∃ r, (Instr.findKey t (keyV k key) ens).run P w = .ok r w ∧ Found es key ens r 0 := by
 have hk' := hk
 unfold keyT at hk
 split at hk
 ·rename_i fs hu
  cases es with
  | nil =>
   have : ens = [] := List.eq_nil_of_length_eq_zero (by simpa using h.1)
   subst this
   exact ⟨none, by simp [Instr.findKey, rU9 hu, Instr.findNow], Found.nil⟩
  | cons kv es =>
   cases ens with
   | nil => exact absurd h.1 (by simp)
   | cons en ens =>
    obtain ⟨r, h1, h2⟩ := find_asking w hk' key (kv :: es) (en :: ens) 0 h
    have hn : Instr.findNow (.struct fs) (keyV k key) (en :: ens) 0 = none := by
     simp only [Instr.findNow, Instr.sameNow]
    exact ⟨r, by simp [Instr.findKey, rU9 hu, hn, h1], h2⟩
 ·obtain ⟨d, hu, hs⟩ := plain_now hk
  obtain ⟨r, h1, h2⟩ := find_now hs key es ens 0 h
  exact ⟨r, by simp [Instr.findKey, rU9 hu, h1], h2⟩
theorem Entries.keys {I w} {k v : CT} {es : List (k.den × v.den)} {ens : Array MapEntry} (h : Entries I w k v es ens) (hk : k.keyable = true) : Keys es ens.toList :=
 ⟨by simpa using h.1, fun i kv hi => by
  obtain ⟨en, us, xs, h1, h2, _, h4, _⟩ := h.2 i kv hi
  exact ⟨en, by simpa using h1, by rw [h4, rep_lit k kv.1 us hk h2]; rfl⟩⟩
end
end Go.Ab
