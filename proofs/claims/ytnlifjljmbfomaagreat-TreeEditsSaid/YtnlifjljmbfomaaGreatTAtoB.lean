/- The abstract machine: data, and what it says of memory. -/
import Derived.WalkKit
namespace Go.Ab
theorem zA9 {a b : ByteArray} : (a ++ b).size = a.size + b.size := ByteArray.size_append
theorem zS9 {α : Type} {as : List α} : as.toArray.size = as.length := List.size_toArray
theorem zC9 {α : Type} {a : α} {as : List α} : (a :: as).length = as.length + 1 := List.length_cons
theorem zN9 {α : Type} : ([] : List α).length = 0 := List.length_nil
theorem zP9 {α : Type} {as bs : List α} : (as ++ bs).length = as.length + bs.length := List.length_append
theorem oT9 {p : Prop} [inst : Decidable p] : decide p = true → p := of_decide_eq_true
theorem oF9 {p : Prop} [inst : Decidable p] : decide p = false → ¬ p := of_decide_eq_false
theorem dF9 {p : Prop} [inst : Decidable p] : ¬ p → decide p = false := decide_eq_false
theorem dT9 {p : Prop} [inst : Decidable p] : p → decide p = true := decide_eq_true
theorem nB9 {n m : Nat} : n.ble m = true → n ≤ m := Nat.le_of_ble_eq_true
theorem nR9 (n : Nat) : n ≤ n := Nat.le_refl n
theorem nS9 (n : Nat) : n < n.succ := Nat.lt_succ_self n
theorem nZ9 (n : Nat) : 0 ≤ n := Nat.zero_le n
theorem nN9 (n : Nat) : ¬ n < 0 := Nat.not_lt_zero n
theorem bA9 {x y : Bool} : (x && y) = true ↔ x = true ∧ y = true := Bool.and_eq_true_iff
abbrev NG9 (fn : Func) : Prop := (fn.name == "runtime.NumGoroutine") = false
theorem nK9 {p : Nat → Prop} : ∀ k, k < 0 → p k := fun k hk => absurd hk (Nat.not_lt_zero k)
inductive CT where
 | int (k : IntKind)
 | bool
 | str
 | list (e : CT)
 | pair (a b : CT)
 | fn
 | map (k v : CT)
 deriving DecidableEq, Inhabited
@[reducible] def CT.den : CT → Type
 | .int _ => Int
 | .bool => Bool
 | .str => ByteArray
 | .list e => List e.den
 | .pair a b => a.den × b.den
 | .fn => FuncId
 | .map k v => List (k.den × v.den)
def CT.width : CT → Nat
 | .pair a b => a.width + b.width
 | _ => 1
inductive PV where
 | v (x : Value)
 | l (e : CT) (zs : List e.den)
 | m (k v : CT) (es : List (k.den × v.den))
def CT.dflt : (t : CT) → t.den
 | .int _ => (0 : Int)
 | .bool => false
 | .str => ByteArray.empty
 | .list _ => []
 | .pair a b => (a.dflt, b.dflt)
 | .fn => (0 : Nat)
 | .map _ _ => []
def enc : (t : CT) → t.den → List PV
 | .int k, n => [.v (.int k n)]
 | .bool, b => [.v (.bool b)]
 | .str, s => [.v (.string s)]
 | .list e, zs => [.l e zs]
 | .pair a b, z => enc a z.1 ++ enc b z.2
 | .fn, f => [.v (.func (.func f) #[] #[])]
 | .map k v, es => [.m k v es]
def castD {e e' : CT} (zs : List e'.den) : Option (List e.den) :=
 if h : e' = e then some (h ▸ zs) else none
def castM {k v k' v' : CT} (es : List (k'.den × v'.den)) : Option (List (k.den × v.den)) :=
 if h : k' = k then if h' : v' = v then some (h ▸ h' ▸ es) else none else none
def decInt (k : IntKind) : PV → Option Int
 | .v (.int k' n) => if k' = k then some n else none
 | _ => none
def decBool : PV → Option Bool
 | .v (.bool b) => some b
 | _ => none
def decStr : PV → Option ByteArray
 | .v (.string s) => some s
 | _ => none
def decList (e : CT) : PV → Option (List e.den)
 | .v (.slice none 0 0) => some []
 | .l _ zs => castD zs
 | _ => none
def decFn : PV → Option FuncId
 | .v (.func (.func f) first captured) => match first.toList, captured.toList with | [], [] => some f | _, _ => none
 | _ => none
def decMap (k v : CT) : PV → Option (List (k.den × v.den))
 | .m _ _ es => castM es
 | _ => none
def dec : (t : CT) → List PV → Option (t.den × List PV)
 | .int k, cs => match cs with | c :: r => (match decInt k c with | some n => some (n, r) | none => none) | [] => none
 | .bool, cs => match cs with | c :: r => (match decBool c with | some n => some (n, r) | none => none) | [] => none
 | .str, cs => match cs with | c :: r => (match decStr c with | some n => some (n, r) | none => none) | [] => none
 | .list e, cs => match cs with | c :: r => (match decList e c with | some n => some (n, r) | none => none) | [] => none
 | .pair a b, cs =>
  match dec a cs with
  | some (x, r) => match dec b r with
   | some (y, r') => some ((x, y), r')
   | none => none
  | none => none
 | .fn, cs => match cs with | c :: r => (match decFn c with | some n => some (n, r) | none => none) | [] => none
 | .map k v, cs => match cs with | c :: r => (match decMap k v c with | some n => some (n, r) | none => none) | [] => none
def flat : Value → Bool
 | .bool _ | .int .. | .string _ | .nilFunc | .nilIface => true
 | .pointer none => true
 | .slice none 0 0 => true
 | .map none => true
 | .func (.func _) first captured => first.isEmpty && captured.isEmpty
 | _ => false
abbrev Cells := Nat → Nat → Prop
abbrev _root_.Go.World.at' (w : World) (b o : Nat) : Option Value := w.cell? ⟨b, o, none⟩
def packV (t : CT) (us : List Value) : Value := match t with
 | .pair _ _ => .agg us.toArray
 | _ => us.headD undef
def Rep (I : Cells) (w : World) : (t : CT) → t.den → List Value → Prop
 | .int k, n, vs => vs = [.int k n]
 | .bool, b, vs => vs = [.bool b]
 | .str, s, vs => vs = [.string s]
 | .list e, zs, vs => (zs = [] ∧ vs = [.slice none 0 0]) ∨
   (∃ b off cap, vs = [.slice (some ⟨b, off, none⟩) zs.length cap] ∧ zs.length ≤ cap ∧
    ∀ i z, zs[i]? = some z → ∃ us : List Value, Rep I w e z us ∧
     ∀ j u, us[j]? = some u → I b (off + i * e.width + j) ∧ w.at' b (off + i * e.width + j) = some u) ∨
   (zs = [] ∧ ∃ a cap, vs = [.slice (some a) 0 cap])
 | .pair a b, z, vs => ∃ xs ys, vs = xs ++ ys ∧ Rep I w a z.1 xs ∧ Rep I w b z.2 ys
 | .fn, f, vs => vs = [.func (.func f) #[] #[]]
 | .map k v, es, vs => ∃ b ens clock, vs = [.map (some b)] ∧ I b 0 ∧ w.heap[b]? = some (.map ens clock) ∧ ens.size = es.length ∧
   ∀ (i : Nat) (kv : k.den × v.den), es[i]? = some kv → ∃ (en : MapEntry) (us xs : List Value), ens[i]? = some en ∧ Rep I w k kv.1 us ∧ Rep I w v kv.2 xs ∧ en.key = packV k us ∧ en.val = packV v xs
structure Stays (I : Cells) (w : World) (I' : Cells) (w' : World) : Prop where
 keep : ∀ b o, I b o → I' b o
 same : ∀ b o, I b o → w'.at' b o = w.at' b o
 maps : ∀ b o es c, I b o → w.heap[b]? = some (.map es c) → w'.heap[b]? = some (.map es c)
theorem Stays.refl (I : Cells) (w : World) : Stays I w I w := ⟨fun _ _ h => h, fun _ _ _ => rfl, fun _ _ _ _ _ h => h⟩
theorem Stays.trans {I w I' w' I'' w''} (h : Stays I w I' w') (k : Stays I' w' I'' w'') : Stays I w I'' w'' :=
 ⟨fun b o x => k.keep b o (h.keep b o x), fun b o x => (k.same b o (h.keep b o x)).trans (h.same b o x), fun b o es c x hm => k.maps b o es c (h.keep b o x) (h.maps b o es c x hm)⟩
theorem Rep.mono {I w I' w'} (hs : Stays I w I' w') : ∀ (t : CT) (z : t.den) (vs : List Value), Rep I w t z vs → Rep I' w' t z vs := by
 intro t
 induction t with
 | int k => intro z vs h; exact h
 | bool => intro z vs h; exact h
 | str => intro z vs h; exact h
 | list e ih =>
  intro z vs h
  rcases h with h | ⟨b, off, cap, hv, hc, hz⟩ | h
  ·exact .inl h
  rotate_left
  ·exact .inr (.inr h)
  ·refine .inr (.inl ⟨b, off, cap, hv, hc, fun i z hi => ?_⟩)
   obtain ⟨us, hr, hu⟩ := hz i z hi
   exact ⟨us, ih _ _ hr, fun j u hj => ⟨hs.keep _ _ (hu j u hj).1, (hs.same _ _ (hu j u hj).1).trans (hu j u hj).2⟩⟩
 | pair a b iha ihb =>
  intro z vs h
  obtain ⟨xs, ys, hv, hx, hy⟩ := h
  exact ⟨xs, ys, hv, iha _ _ hx, ihb _ _ hy⟩
 | fn => intro z vs h; exact h
 | map k v ihk ihv =>
  intro z vs h
  obtain ⟨b, ens, clock, hv, hI, hh, hl, hz⟩ := h
  refine ⟨b, ens, clock, hv, hs.keep _ _ hI, hs.maps _ _ _ _ hI hh, hl, fun i kv hi => ?_⟩
  obtain ⟨en, us, xs, h1, h2, h3, h4, h5⟩ := hz i kv hi
  exact ⟨en, us, xs, h1, ihk _ _ h2, ihv _ _ h3, h4, h5⟩
theorem Rep.length {I w} : ∀ (t : CT) (z : t.den) (vs : List Value), Rep I w t z vs → vs.length = t.width := by
 intro t
 induction t with
 | int k => intro z vs h; cases h; rfl
 | bool => intro z vs h; cases h; rfl
 | str => intro z vs h; cases h; rfl
 | list e ih =>
  intro z vs h
  rcases h with ⟨_, h⟩ | ⟨b, off, cap, hv, _, _⟩ | ⟨_, a, cap, hv⟩
  ·cases h; rfl
  ·cases hv; rfl
  ·cases hv; rfl
 | pair a b iha ihb =>
  intro z vs h
  obtain ⟨xs, ys, hv, hx, hy⟩ := h
  subst hv
  simp [CT.width, iha _ _ hx, ihb _ _ hy]
 | fn => intro z vs h; cases h; rfl
 | map k v _ _ =>
  intro z vs h
  obtain ⟨b, ens, clock, hv, _⟩ := h
  cases hv; rfl
def RepV (I : Cells) (w : World) : PV → Value → Prop
 | .v x, v => flat x = true ∧ v = x
 | .l e zs, v => Rep I w (.list e) zs [v]
 | .m k t es, v => Rep I w (.map k t) es [v]
theorem RepV.mono {I w I' w'} (hs : Stays I w I' w') {x : PV} {v : Value} (h : RepV I w x v) : RepV I' w' x v := by
 cases x with
 | v x => exact h
 | l e zs => exact Rep.mono hs _ _ _ h
 | m k t es => exact Rep.mono hs _ _ _ h
inductive All2 {α β : Type} (R : α → β → Prop) : List α → List β → Prop
 | nil : All2 R [] []
 | cons {a b as bs} (h : R a b) (t : All2 R as bs) : All2 R (a :: as) (b :: bs)
namespace All2
variable {α β : Type} {R : α → β → Prop}
theorem length {as : List α} {bs : List β} (h : All2 R as bs) : as.length = bs.length := by
 induction h with
 | nil => rfl
 | cons _ _ ih => simp [ih]
theorem mono {S : α → β → Prop} (hm : ∀ a b, R a b → S a b) {as : List α} {bs : List β} (h : All2 R as bs) : All2 S as bs := by
 induction h with
 | nil => exact .nil
 | cons h _ ih => exact .cons (hm _ _ h) ih
theorem get {as : List α} {bs : List β} (h : All2 R as bs) : ∀ {i : Nat} {a : α}, as[i]? = some a → ∃ b, bs[i]? = some b ∧ R a b := by
 induction h with
 | nil => intro i a h; simp at h
 | cons h _ ih =>
  intro i a hi
  cases i with
  | zero => simp at hi; subst hi; exact ⟨_, rfl, h⟩
  | succ i => simp at hi; simpa using ih hi
theorem get' {as : List α} {bs : List β} (h : All2 R as bs) : ∀ {i : Nat} {b : β}, bs[i]? = some b → ∃ a, as[i]? = some a ∧ R a b := by
 induction h with
 | nil => intro i a h; simp at h
 | cons h _ ih =>
  intro i a hi
  cases i with
  | zero => simp at hi; subst hi; exact ⟨_, rfl, h⟩
  | succ i => simp at hi; simpa using ih hi
theorem append {as as' : List α} {bs bs' : List β} (h : All2 R as bs) (h' : All2 R as' bs') : All2 R (as ++ as') (bs ++ bs') := by
 induction h with
 | nil => exact h'
 | cons h _ ih => exact .cons h ih
theorem of_get {as : List α} {bs : List β} (hl : as.length = bs.length) (h : ∀ (i : Nat) (a : α) (b : β), as[i]? = some a → bs[i]? = some b → R a b) : All2 R as bs := by
 induction as generalizing bs with
 | nil => cases bs with
  | nil => exact .nil
  | cons b bs => simp at hl
 | cons a as ih =>
  cases bs with
  | nil => simp at hl
  | cons b bs =>
   exact .cons (h 0 a b rfl rfl) (ih (by simpa using hl) fun i a' b' h1 h2 => h (i + 1) a' b' (by simpa using h1) (by simpa using h2))
theorem take {as : List α} {bs : List β} (h : All2 R as bs) (n : Nat) : All2 R (as.take n) (bs.take n) := by
 induction h generalizing n with
 | nil => simp; exact .nil
 | cons h _ ih => cases n with
  | zero => simp; exact .nil
  | succ n => simpa using .cons h (ih n)
theorem drop {as : List α} {bs : List β} (h : All2 R as bs) (n : Nat) : All2 R (as.drop n) (bs.drop n) := by
 induction h generalizing n with
 | nil => simp; exact .nil
 | cons h t ih => cases n with
  | zero => simpa using .cons h t
  | succ n => simpa using ih n
theorem split {as as' : List α} {bs : List β} (h : All2 R (as ++ as') bs) : ∃ b1 b2, bs = b1 ++ b2 ∧ All2 R as b1 ∧ All2 R as' b2 := by
 induction as generalizing bs with
 | nil => exact ⟨[], bs, rfl, .nil, h⟩
 | cons a as ih =>
  cases h with
  | cons h t =>
   obtain ⟨b1, b2, rfl, h1, h2⟩ := ih t
   exact ⟨_ :: b1, b2, rfl, .cons h h1, h2⟩
theorem set {as : List α} {bs : List β} (h : All2 R as bs) (i : Nat) {a : α} {b : β} (hab : R a b) : All2 R (as.set i a) (bs.set i b) := by
 induction h generalizing i with
 | nil => simp; exact .nil
 | cons h t ih => cases i with
  | zero => simpa using .cons hab t
  | succ i => simpa using .cons h (ih i)
end All2
theorem enc_rep {I w} : ∀ (t : CT) (z : t.den) (vs : List Value), Rep I w t z vs → All2 (RepV I w) (enc t z) vs := by
 intro t
 induction t with
 | int k => intro z vs h; cases h; exact .cons ⟨rfl, rfl⟩ .nil
 | bool => intro z vs h; cases h; exact .cons ⟨rfl, rfl⟩ .nil
 | str => intro z vs h; cases h; exact .cons ⟨rfl, rfl⟩ .nil
 | list e ih =>
  intro z vs h
  have hl := Rep.length _ _ _ h
  match vs, hl with
  | [v], _ => exact .cons h .nil
 | pair a b iha ihb =>
  intro z vs h
  obtain ⟨xs, ys, rfl, hx, hy⟩ := h
  exact (iha _ _ hx).append (ihb _ _ hy)
 | fn => intro z vs h; cases h; exact .cons ⟨rfl, rfl⟩ .nil
 | map k v _ _ =>
  intro z vs h
  have hl := Rep.length _ _ _ h
  match vs, hl with
  | [x], _ => exact .cons h .nil
theorem decInt_rep {I w} {k : IntKind} {c : PV} {n : Int} {v : Value} (h : RepV I w c v) (hd : decInt k c = some n) : v = .int k n := by
 unfold decInt at hd
 split at hd
 ·split at hd
  ·rename_i hk
   cases hd; subst hk; exact h.2
  ·cases hd
 ·cases hd
theorem decBool_rep {I w} {c : PV} {n : Bool} {v : Value} (h : RepV I w c v) (hd : decBool c = some n) : v = .bool n := by
 unfold decBool at hd
 split at hd
 ·cases hd; exact h.2
 ·cases hd
theorem decStr_rep {I w} {c : PV} {n : ByteArray} {v : Value} (h : RepV I w c v) (hd : decStr c = some n) : v = .string n := by
 unfold decStr at hd
 split at hd
 ·cases hd; exact h.2
 ·cases hd
theorem decList_rep {I w} {e : CT} {c : PV} {zs : List e.den} {v : Value} (h : RepV I w c v) (hd : decList e c = some zs) : Rep I w (.list e) zs [v] := by
 unfold decList at hd
 split at hd
 ·cases hd; exact .inl ⟨rfl, by rw [h.2]⟩
 ·rename_i e' zs'
  unfold castD at hd
  split at hd
  ·rename_i he
   subst he
   cases hd
   exact h
  ·cases hd
 ·cases hd
theorem decFn_rep {I w} {c : PV} {n : FuncId} {v : Value} (h : RepV I w c v) (hd : decFn c = some n) : v = .func (.func n) #[] #[] := by
 unfold decFn at hd
 split at hd
 ·rename_i f first captured
  split at hd
  ·rename_i h1 h2
   cases hd
   have e1 : first = #[] := by simpa using h1
   have e2 : captured = #[] := by simpa using h2
   rw [h.2, e1, e2]
  ·cases hd
 ·cases hd
theorem decMap_rep {I w} {k v : CT} {c : PV} {es : List (k.den × v.den)} {x : Value} (h : RepV I w c x) (hd : decMap k v c = some es) : Rep I w (.map k v) es [x] := by
 unfold decMap at hd
 split at hd
 ·rename_i k' v' es'
  unfold castM at hd
  split at hd
  ·rename_i hk
   subst hk
   split at hd
   ·rename_i hv
    subst hv
    cases hd
    exact h
   ·cases hd
  ·cases hd
 ·cases hd
theorem dec_rep {I w} : ∀ (t : CT) (cs : List PV) (z : t.den) (r : List PV) (vs : List Value), All2 (RepV I w) cs vs → dec t cs = some (z, r) →
  ∃ xs ys, vs = xs ++ ys ∧ Rep I w t z xs ∧ All2 (RepV I w) r ys := by
 intro t
 induction t with
 | int k =>
  intro cs z r vs h hd
  cases h with
  | nil => simp [dec] at hd
  | cons h t =>
   simp only [dec] at hd
   split at hd
   ·rename_i n hn
    cases hd
    exact ⟨[_], _, rfl, by rw [decInt_rep h hn]; rfl, t⟩
   ·cases hd
 | bool =>
  intro cs z r vs h hd
  cases h with
  | nil => simp [dec] at hd
  | cons h t =>
   simp only [dec] at hd
   split at hd
   ·rename_i n hn
    cases hd
    exact ⟨[_], _, rfl, by rw [decBool_rep h hn]; rfl, t⟩
   ·cases hd
 | str =>
  intro cs z r vs h hd
  cases h with
  | nil => simp [dec] at hd
  | cons h t =>
   simp only [dec] at hd
   split at hd
   ·rename_i n hn
    cases hd
    exact ⟨[_], _, rfl, by rw [decStr_rep h hn]; rfl, t⟩
   ·cases hd
 | list e ih =>
  intro cs z r vs h hd
  cases h with
  | nil => simp [dec] at hd
  | cons h t =>
   simp only [dec] at hd
   split at hd
   ·rename_i n hn
    cases hd
    exact ⟨[_], _, rfl, decList_rep h hn, t⟩
   ·cases hd
 | pair a b iha ihb =>
  intro cs z r vs h hd
  simp only [dec] at hd
  split at hd
  ·rename_i x r' hx
   split at hd
   ·rename_i y r'' hy
    cases hd
    obtain ⟨xs, ys, rfl, hr, ht⟩ := iha _ _ _ _ h hx
    obtain ⟨xs', ys', rfl, hr', ht'⟩ := ihb _ _ _ _ ht hy
    exact ⟨xs ++ xs', ys', by simp, ⟨xs, xs', rfl, hr, hr'⟩, ht'⟩
   ·cases hd
  ·cases hd
 | fn =>
  intro cs z r vs h hd
  cases h with
  | nil => simp [dec] at hd
  | cons h t =>
   simp only [dec] at hd
   split at hd
   ·rename_i n hn
    cases hd
    exact ⟨[_], _, rfl, by rw [decFn_rep h hn]; rfl, t⟩
   ·cases hd
 | map k v _ _ =>
  intro cs z r vs h hd
  cases h with
  | nil => simp [dec] at hd
  | cons h t =>
   simp only [dec] at hd
   split at hd
   ·rename_i n hn
    cases hd
    exact ⟨[_], _, rfl, decMap_rep h hn, t⟩
   ·cases hd
inductive AC where
 | p (x : PV)
 | ptr (id off : Nat)
 | pp (e : CT) (z : e.den) (k : Nat)
 | own (id : Nat) (e : CT) (zs : List e.den)
  | clo (b : Bool) (f : FuncId) (caps : List Nat)
  | sl (id : Nat) (e : CT) (ver len : Nat)
 | ep (id : Nat) (e : CT) (ver i k : Nat)
 | mp (id : Nat)
 | any
  | may (x : PV)
  | fl (e : CT) (zs : List e.den)
  | vs (id len : Nat)
 | ve (id i k : Nat)
  | nl (c : CT) (z : c.den) (k : Nat)
  | gs (id ver len : Nat)
 | ge (id ver i k : Nat)
inductive AV where
 | c (x : AC)
 | agg (l : List AC)
inductive SV where
 | none
 | a (v : AV)
 | tup (l : List AV)
inductive AO where
 | row (cells : List AC)
 | tok (t : TypeId) (e : CT) (n : Nat) (z : Bool)
 | arr (t : TypeId) (e : CT) (zs : List e.den) (ver : Nat)
 | map (k v : CT) (es : List (k.den × v.den))
 | dead
  | vec (t : TypeId) (e : CT) (zs : List e.den) (i k : Nat) (x : AC)
  | gvec (t : TypeId) (e : CT) (zs : List e.den) (i k : Nat) (x : AC) (ver : Nat)
def AO.blocked : AO → Prop
 | .row _ => True
 | .tok _ _ n z => z = false ∨ 0 < n
 | .arr _ _ zs _ => 0 < zs.length
 | .map .. => True
 | .dead => False
 | .vec .. => True
 | .gvec .. => True
structure View where
 ρ : Nat → Nat
 I : Cells
 H : List AO
 w : World
def View.holds (G : View) (id b : Nat) : Prop := ∃ o, G.H[id]? = some o ∧ o.blocked ∧ G.ρ id = b
def View.tokAt (G : View) (id : Nat) (t : TypeId) (e : CT) (n : Nat) (z : Bool) (v : Value) : Prop :=
 (z = true ∧ n = 0 ∧ v = .slice none 0 0) ∨
 ((z = false ∨ 0 < n) ∧ ∃ cap cur, v = .slice (some ⟨G.ρ id, 0, none⟩) n cap ∧ G.w.heap[G.ρ id]? = some (.cells cur t (0, 0)) ∧ n ≤ cap ∧ cap ≤ maxLen ∧ cur.size = cap * e.width)
def Rows (I : Cells) (w : World) (e : CT) (zs : List e.den) (vs : List Value) : Prop :=
 vs.length = zs.length * e.width ∧ ∀ (i : Nat) z, zs[i]? = some z → ∃ us : List Value, Rep I w e z us ∧ ∀ (j : Nat) u, us[j]? = some u → vs[i * e.width + j]? = some u
def Entries (I : Cells) (w : World) (k v : CT) (es : List (k.den × v.den)) (ens : Array MapEntry) : Prop :=
 ens.size = es.length ∧ ∀ (i : Nat) (kv : k.den × v.den), es[i]? = some kv → ∃ (en : MapEntry) (us xs : List Value), ens[i]? = some en ∧ Rep I w k kv.1 us ∧ Rep I w v kv.2 xs ∧ en.key = packV k us ∧ en.val = packV v xs
theorem Entries.mono {I w I' w'} (hs : Stays I w I' w') {k v : CT} {es : List (k.den × v.den)} {ens : Array MapEntry} (h : Entries I w k v es ens) : Entries I' w' k v es ens :=
 ⟨h.1, fun i kv hi => by
  obtain ⟨en, us, xs, h1, h2, h3, h4⟩ := h.2 i kv hi
  exact ⟨en, us, xs, h1, Rep.mono hs _ _ _ h2, Rep.mono hs _ _ _ h3, h4⟩⟩
theorem Rows.mono {I w I' w'} (hs : Stays I w I' w') {e : CT} {zs : List e.den} {vs : List Value} (h : Rows I w e zs vs) : Rows I' w' e zs vs :=
 ⟨h.1, fun i z hz => by obtain ⟨us, hu, hj⟩ := h.2 i z hz; exact ⟨us, Rep.mono hs _ _ _ hu, hj⟩⟩
def View.arrV (G : View) (id : Nat) (t : TypeId) (e : CT) (n len : Nat) (v : Value) : Prop :=
 (n = 0 ∧ v = .slice none 0 0) ∨
 (0 < n ∧ ∃ cap cur, v = .slice (some ⟨G.ρ id, 0, none⟩) len cap ∧ G.w.heap[G.ρ id]? = some (.cells cur t (0, 0)) ∧ n ≤ cap ∧ cap ≤ maxLen ∧ cur.size = cap * e.width)
def cloV (b : Bool) (f : FuncId) (vs : List Value) : Value := match b with | true => .func (.func f) vs.toArray #[] | false => .func (.func f) #[] vs.toArray
def RepC (G : View) : AC → Value → Prop
 | .p x, v => RepV G.I G.w x v
 | .ptr id off, v => v = .pointer (some ⟨G.ρ id, off, none⟩) ∧ ∃ cs, G.H[id]? = some (.row cs)
 | .pp e z k, v => ∃ b off us, v = .pointer (some ⟨b, off + k, none⟩) ∧ Rep G.I G.w e z us ∧
   ∀ j u, us[j]? = some u → G.I b (off + j) ∧ G.w.at' b (off + j) = some u
 | .own id e zs, v => Rep G.I G.w (.list e) zs [v] ∧ ∃ t n z, G.H[id]? = some (.tok t e n z) ∧ zs.length ≤ n ∧ (zs.length = n → G.tokAt id t e n z v)
 | .clo b f caps, v => v = cloV b f (caps.map fun id => Value.pointer (some ⟨G.ρ id, 0, none⟩)) ∧ ∀ id ∈ caps, ∃ cs, G.H[id]? = some (.row cs)
 | .sl id e ver len, v => v.oneCell' = true ∧ (G.H[id]? = some .dead ∨ ∃ t zs ver', G.H[id]? = some (.arr t e zs ver') ∧ ver ≤ ver' ∧ (ver' = ver → len ≤ zs.length ∧ G.arrV id t e zs.length len v))
 | .ep id e ver i k, v => v.oneCell' = true ∧ (G.H[id]? = some .dead ∨ ∃ t zs ver', G.H[id]? = some (.arr t e zs ver') ∧ ver ≤ ver' ∧ (ver' = ver → i < zs.length ∧ v = .pointer (some ⟨G.ρ id, i * e.width + k, none⟩)))
 | .mp id, v => v.oneCell' = true ∧ (G.H[id]? = some .dead ∨ ∃ k t es, G.H[id]? = some (.map k t es) ∧ v = .map (some (G.ρ id)))
 | .any, v => v.oneCell' = true
 | .may x, v => RepV G.I G.w (.v (.slice none 0 0)) v ∨ RepV G.I G.w x v
 | .fl e zs, v => Rep G.I G.w (.list e) zs [v] ∧ ∃ a, v = .slice a zs.length zs.length
 | .nl c z k, v => Rep G.I G.w (.list c) [z] [v] ∧ ∃ b o a, v = .slice (some ⟨b, o, none⟩) 1 a ∧ G.I b (o + k) ∧ G.w.at' b (o + k) = some (.slice none 0 0)
 | .vs id len, v => v.oneCell' = true ∧ (G.H[id]? = some .dead ∨ ∃ t e zs i k x, G.H[id]? = some (.vec t e zs i k x) ∧ len ≤ zs.length ∧ ∃ cap, v = .slice (some ⟨G.ρ id, 0, none⟩) len cap ∧ zs.length ≤ cap)
 | .ve id j l, v => v.oneCell' = true ∧ (G.H[id]? = some .dead ∨ ∃ t e zs i k x, G.H[id]? = some (.vec t e zs i k x) ∧ j < zs.length ∧ v = .pointer (some ⟨G.ρ id, j * e.width + l, none⟩))
 | .gs id ver len, v => v.oneCell' = true ∧ (G.H[id]? = some .dead ∨ ∃ t e zs i k x ver', G.H[id]? = some (.gvec t e zs i k x ver') ∧ ver ≤ ver' ∧ (ver' = ver → len = zs.length ∧
   ∃ cap cur, v = .slice (some ⟨G.ρ id, 0, none⟩) len cap ∧ G.w.heap[G.ρ id]? = some (.cells cur t (0, 0)) ∧ len ≤ cap ∧ cap ≤ maxLen ∧ cur.size = cap * e.width))
 | .ge id ver j l, v => v.oneCell' = true ∧ (G.H[id]? = some .dead ∨ ∃ t e zs i k x ver', G.H[id]? = some (.gvec t e zs i k x ver') ∧ ver ≤ ver' ∧ (ver' = ver → j < zs.length ∧ v = .pointer (some ⟨G.ρ id, j * e.width + l, none⟩)))
def RepA (G : View) : AV → Value → Prop
 | .c x, v => RepC G x v
 | .agg l, v => ∃ cs : List Value, v = .agg cs.toArray ∧ All2 (RepC G) l cs
def RepS (G : View) : SV → Value → Prop
 | .none, _ => True
 | .a x, v => RepA G x v
 | .tup l, v => ∃ vs : List Value, v = .tuple vs.toArray ∧ All2 (RepA G) l vs
def AO.next (G G' : View) (id : Nat) : AO → AO → Prop
 | .row c, .row c' => G'.ρ id = G.ρ id ∧ c'.length = c.length
 | .tok t e n z, .tok t' e' n' z' => t' = t ∧ e' = e ∧ z' = z ∧ n ≤ n' ∧
   (n' = n → (z = false ∨ 0 < n) → G'.ρ id = G.ρ id ∧ ∀ cur, G.w.heap[G.ρ id]? = some (.cells cur t (0, 0)) → ∃ cur', G'.w.heap[G.ρ id]? = some (.cells cur' t (0, 0)) ∧ cur'.size = cur.size)
 | .arr t e zs ver, .arr t' e' zs' ver' => t' = t ∧ e' = e ∧ ver ≤ ver' ∧
   (ver' = ver → zs'.length = zs.length ∧ (0 < zs.length → G'.ρ id = G.ρ id ∧ ∀ cur, G.w.heap[G.ρ id]? = some (.cells cur t (0, 0)) → ∃ cur', G'.w.heap[G.ρ id]? = some (.cells cur' t (0, 0)) ∧ cur'.size = cur.size))
 | .arr .., .dead => True
 | .map k v _, .map k' v' _ => k' = k ∧ v' = v ∧ G'.ρ id = G.ρ id
 | .map .., .dead => True
 | .dead, .dead => True
 | .vec t e zs _ _ _, .vec t' e' zs' _ _ _ => t' = t ∧ e' = e ∧ zs'.length = zs.length ∧ G'.ρ id = G.ρ id
 | .vec .., .dead => True
 | .gvec t e zs _ _ _ ver, .gvec t' e' zs' _ _ _ ver' => t' = t ∧ e' = e ∧ ver ≤ ver' ∧
   (ver' = ver → zs'.length = zs.length ∧ G'.ρ id = G.ρ id ∧ ∀ cur, G.w.heap[G.ρ id]? = some (.cells cur t (0, 0)) → ∃ cur', G'.w.heap[G.ρ id]? = some (.cells cur' t (0, 0)) ∧ cur'.size = cur.size)
 | .gvec .., .dead => True
 | _, _ => False
structure Ext (G G' : View) : Prop where
 stays : Stays G.I G.w G'.I G'.w
 size : G.w.heap.size ≤ G'.w.heap.size
 os : G'.w.os = G.w.os
 tape : G'.w.tape = G.w.tape
 output : G'.w.output = G.w.output
 objs : ∀ (id : Nat) (o : AO), G.H[id]? = some o → ∃ o', G'.H[id]? = some o' ∧ o.next G G' id o'
 frame : ∀ b, b < G.w.heap.size → (∀ id, ¬ G.holds id b) → G'.w.heap[b]? = G.w.heap[b]?
 news : ∀ id b, G'.holds id b → G.holds id b ∨ G.w.heap.size ≤ b
 inew : ∀ b o, G'.I b o → G.I b o ∨ G.w.heap.size ≤ b ∨ ∃ id, G.holds id b
def ObjOk (G : View) (id : Nat) : AO → Prop
 | .row cells => ∃ cs T, G.w.heap[G.ρ id]? = some (.cells cs T (0, 0)) ∧ (∀ o, ¬ G.I (G.ρ id) o) ∧ All2 (RepC G) cells cs.toList
 | .tok t e n _ => ∃ cur, G.w.heap[G.ρ id]? = some (.cells cur t (0, 0)) ∧ n * e.width ≤ cur.size ∧ ∀ o, n * e.width ≤ o → ¬ G.I (G.ρ id) o
 | .arr t e zs _ => ∃ vs rest : List Value, G.w.heap[G.ρ id]? = some (.cells (vs ++ rest).toArray t (0, 0)) ∧ (∀ o, ¬ G.I (G.ρ id) o) ∧ Rows G.I G.w e zs vs
 | .map k v es => ∃ ens clock, G.w.heap[G.ρ id]? = some (.map ens clock) ∧ (∀ o, ¬ G.I (G.ρ id) o) ∧ Entries G.I G.w k v es ens
 | .dead => True
 | .vec t e zs i k x => ∃ (vs rest : List Value) (v : Value), G.w.heap[G.ρ id]? = some (.cells ((vs ++ rest).set (i * e.width + k) v).toArray t (0, 0)) ∧ (∀ o, ¬ G.I (G.ρ id) o) ∧ i < zs.length ∧ k < e.width ∧ RepC G x v ∧ Rows G.I G.w e zs vs
 | .gvec t e zs i k x _ => ∃ (vs rest : List Value) (v : Value), G.w.heap[G.ρ id]? = some (.cells ((vs ++ rest).set (i * e.width + k) v).toArray t (0, 0)) ∧ (∀ o, ¬ G.I (G.ρ id) o) ∧ i < zs.length ∧ k < e.width ∧ RepC G x v ∧ Rows G.I G.w e zs vs
structure Var where
 block : Nat
 off : Nat
 e : CT
 z : e.den
class Base where
 vars : List Var
def VarOk (I : Cells) (w : World) (v : Var) : Prop := ∃ us, Rep I w v.e v.z us ∧ ∀ j u, us[j]? = some u → I v.block (v.off + j) ∧ w.at' v.block (v.off + j) = some u
theorem VarOk.mono {I w I' w'} (h : Stays I w I' w') {v : Var} (hv : VarOk I w v) : VarOk I' w' v := by
 obtain ⟨us, hz, hu⟩ := hv
 exact ⟨us, Rep.mono h _ _ _ hz, fun j u hj => ⟨h.keep _ _ (hu j u hj).1, (h.same _ _ (hu j u hj).1).trans (hu j u hj).2⟩⟩
set_option linter.unusedSectionVars false
variable [Base]
structure Sim (G : View) : Prop where
 vars : ∀ v ∈ Base.vars, VarOk G.I G.w v
 objs : ∀ (id : Nat) (o : AO), G.H[id]? = some o → o.blocked → ObjOk G id o
 inj : ∀ i j b, G.holds i b → G.holds j b → i = j
 ilt : ∀ b o, G.I b o → b < G.w.heap.size
theorem Sim.lt {G : View} (h : Sim G) {id b : Nat} (hb : G.holds id b) : b < G.w.heap.size := by
 obtain ⟨o, ho, hbl, rfl⟩ := hb
 have hok := h.objs id o ho hbl
 cases o with
 | row c => obtain ⟨cs, T, hh, _⟩ := hok; exact (Array.getElem?_eq_some_iff.1 hh).1
 | tok t e n z => obtain ⟨cur, hh, _⟩ := hok; exact (Array.getElem?_eq_some_iff.1 hh).1
 | arr t e zs ver => obtain ⟨vs, rest, hh, _⟩ := hok; exact (Array.getElem?_eq_some_iff.1 hh).1
 | map k v es => obtain ⟨ens, clock, hh, _⟩ := hok; exact (Array.getElem?_eq_some_iff.1 hh).1
 | dead => exact hbl.elim
 | vec t e zs i k x => obtain ⟨vs, rest, v, hh, _⟩ := hok; exact (Array.getElem?_eq_some_iff.1 hh).1
 | gvec t e zs i k x ver => obtain ⟨vs, rest, v, hh, _⟩ := hok; exact (Array.getElem?_eq_some_iff.1 hh).1
theorem AO.next_keep {G G' : View} {id : Nat} (o : AO) (h : o.blocked → G'.ρ id = G.ρ id ∧ G'.w.heap[G.ρ id]? = G.w.heap[G.ρ id]?) : o.next G G' id o := by
 cases o with
 | row c => exact ⟨(h trivial).1, rfl⟩
 | tok t e n z => exact ⟨rfl, rfl, rfl, nR9 _, fun _ hb => ⟨(h hb).1, fun cur hc => ⟨cur, (h hb).2.trans hc, rfl⟩⟩⟩
 | arr t e zs ver => exact ⟨rfl, rfl, nR9 _, fun _ => ⟨rfl, fun hb => ⟨(h hb).1, fun cur hc => ⟨cur, (h hb).2.trans hc, rfl⟩⟩⟩⟩
 | map k v es => exact ⟨rfl, rfl, (h trivial).1⟩
 | dead => trivial
 | vec t e zs i k x => exact ⟨rfl, rfl, rfl, (h trivial).1⟩
 | gvec t e zs i k x ver => exact ⟨rfl, rfl, nR9 _, fun _ => ⟨rfl, (h trivial).1, fun cur hc => ⟨cur, (h trivial).2.trans hc, rfl⟩⟩⟩
theorem AO.next_refl (G : View) (id : Nat) (o : AO) : o.next G G id o := AO.next_keep o fun _ => ⟨rfl, rfl⟩
theorem Ext.refl (G : View) : Ext G G :=
 ⟨Stays.refl _ _, nR9 _, rfl, rfl, rfl, fun id o h => ⟨o, h, o.next_refl G id⟩, fun _ _ _ => rfl, fun _ _ h => .inl h, fun _ _ h => .inl h⟩
theorem AO.next_trans {G G' G'' : View} {id : Nat} {o o' o'' : AO} (h : o.next G G' id o') (k : o'.next G' G'' id o'') : o.next G G'' id o'' := by
 cases o <;> cases o' <;> cases o'' <;> simp only [AO.next] at *
 ·exact ⟨k.1.trans h.1, k.2.trans h.2⟩
 ·obtain ⟨rfl, rfl, rfl, hn, hs⟩ := h
  obtain ⟨rfl, rfl, rfl, kn, ks⟩ := k
  refine ⟨rfl, rfl, rfl, by omega, fun he hb => ?_⟩
  obtain ⟨hρ, hc⟩ := hs (by omega) hb
  obtain ⟨kρ, kc⟩ := ks (by omega) (by rcases hb with hb | hb; exact .inl hb; exact .inr (by omega))
  refine ⟨kρ.trans hρ, fun cur hcur => ?_⟩
  obtain ⟨cur', h1, h2⟩ := hc cur hcur
  rw [hρ] at kc
  obtain ⟨cur'', h3, h4⟩ := kc cur' h1
  exact ⟨cur'', h3, h4.trans h2⟩
 ·obtain ⟨rfl, rfl, hn, hs⟩ := h
  obtain ⟨rfl, rfl, kn, ks⟩ := k
  refine ⟨rfl, rfl, by omega, fun he => ?_⟩
  obtain ⟨hl, hs⟩ := hs (by omega)
  obtain ⟨kl, ks⟩ := ks (by omega)
  refine ⟨kl.trans hl, fun hb => ?_⟩
  obtain ⟨hρ, hc⟩ := hs hb
  obtain ⟨kρ, kc⟩ := ks (by omega)
  refine ⟨kρ.trans hρ, fun cur hcur => ?_⟩
  obtain ⟨cur', h1, h2⟩ := hc cur hcur
  rw [hρ] at kc
  obtain ⟨cur'', h3, h4⟩ := kc cur' h1
  exact ⟨cur'', h3, h4.trans h2⟩
 ·exact ⟨k.1.trans h.1, k.2.1.trans h.2.1, k.2.2.trans h.2.2⟩
 ·exact ⟨k.1.trans h.1, k.2.1.trans h.2.1, k.2.2.1.trans h.2.2.1, k.2.2.2.trans h.2.2.2⟩
 ·obtain ⟨rfl, rfl, hn, hs⟩ := h
  obtain ⟨rfl, rfl, kn, ks⟩ := k
  refine ⟨rfl, rfl, by omega, fun he => ?_⟩
  obtain ⟨hl, hρ, hc⟩ := hs (by omega)
  obtain ⟨kl, kρ, kc⟩ := ks (by omega)
  refine ⟨kl.trans hl, kρ.trans hρ, fun cur hcur => ?_⟩
  obtain ⟨cur', h1, h2⟩ := hc cur hcur
  rw [hρ] at kc
  obtain ⟨cur'', h3, h4⟩ := kc cur' h1
  exact ⟨cur'', h3, h4.trans h2⟩
theorem Ext.trans {G G' G'' : View} (h : Ext G G') (k : Ext G' G'') : Ext G G'' where
 stays := h.stays.trans k.stays
 size := Nat.le_trans h.size k.size
 os := k.os.trans h.os
 tape := k.tape.trans h.tape
 output := k.output.trans h.output
 objs := fun id o ho => by
  obtain ⟨o', ho', hn⟩ := h.objs id o ho
  obtain ⟨o'', ho'', kn⟩ := k.objs id o' ho'
  exact ⟨o'', ho'', AO.next_trans hn kn⟩
 frame := fun b hb hno => by
  refine (k.frame b (Nat.lt_of_lt_of_le hb h.size) fun id hid => ?_).trans (h.frame b hb hno)
  rcases h.news id b hid with h' | h'
  ·exact hno id h'
  ·omega
 news := fun id b hid => by
  rcases k.news id b hid with h' | h'
  ·exact h.news id b h'
  ·exact .inr (Nat.le_trans h.size h')
 inew := fun b o hI => by
  rcases k.inew b o hI with h' | h' | ⟨id, h'⟩
  ·exact h.inew b o h'
  ·exact .inr (.inl (Nat.le_trans h.size h'))
  ·rcases h.news id b h' with h'' | h''
   ·exact .inr (.inr ⟨id, h''⟩)
   ·exact .inr (.inl h'')
theorem Ext.row {G G' : View} (h : Ext G G') {id : Nat} {cs : List AC} (ho : G.H[id]? = some (.row cs)) : G'.ρ id = G.ρ id ∧ ∃ cs', G'.H[id]? = some (.row cs') := by
 obtain ⟨o', ho', hn⟩ := h.objs id _ ho
 cases o' with
 | row c' => exact ⟨hn.1, c', ho'⟩
 | _ => exact hn.elim
theorem Ext.dead {G G' : View} (h : Ext G G') {id : Nat} (ho : G.H[id]? = some .dead) : G'.H[id]? = some .dead := by
 obtain ⟨o', ho', hn⟩ := h.objs id _ ho
 cases o' with
 | dead => exact ho'
 | _ => exact hn.elim
theorem RepC.mono {G G' : View} (h : Ext G G') {x : AC} {v : Value} (hr : RepC G x v) : RepC G' x v := by
 cases x with
 | p x => exact RepV.mono h.stays hr
 | ptr id off =>
  obtain ⟨rfl, cs, ho⟩ := hr
  obtain ⟨hρ, ho'⟩ := h.row ho
  exact ⟨by rw [hρ], ho'⟩
 | pp e z k =>
  obtain ⟨b, off, us, rfl, hz, hu⟩ := hr
  exact ⟨b, off, us, rfl, Rep.mono h.stays _ _ _ hz, fun j u hj => ⟨h.stays.keep _ _ (hu j u hj).1, (h.stays.same _ _ (hu j u hj).1).trans (hu j u hj).2⟩⟩
 | own id e zs =>
  obtain ⟨hz, t, n, z, ho, hle, ht⟩ := hr
  obtain ⟨o', ho', hn⟩ := h.objs id _ ho
  refine ⟨Rep.mono h.stays _ _ _ hz, ?_⟩
  cases o' with
  | tok t' e' n' z' =>
   obtain ⟨rfl, rfl, rfl, hnn, hs⟩ := hn
   refine ⟨t', n', z', ho', by omega, fun he => ?_⟩
   have hnn' : n' = n := by omega
   subst hnn'
   rcases ht he with h1 | ⟨hb, cap, cur, rfl, hh, h2, h3, h4⟩
   ·exact .inl h1
   ·obtain ⟨hρ, hc⟩ := hs rfl hb
    obtain ⟨cur', h5, h6⟩ := hc cur hh
    exact .inr ⟨hb, cap, cur', by rw [hρ], by rw [hρ]; exact h5, h2, h3, h6.trans h4⟩
  | _ => exact hn.elim
 | clo b f caps =>
  obtain ⟨rfl, ho⟩ := hr
  refine ⟨?_, fun id hid => ?_⟩
  ·congr 1
   apply List.map_congr_left
   intro id hid
   obtain ⟨cs, hcs⟩ := ho id hid
   rw [(h.row hcs).1]
  ·obtain ⟨cs, hcs⟩ := ho id hid
   exact (h.row hcs).2
 | sl id e ver len =>
  obtain ⟨h1, ho | ⟨t, zs, ver', ho, hle, hv⟩⟩ := hr
  ·exact ⟨h1, .inl (h.dead ho)⟩
  ·refine ⟨h1, ?_⟩
   obtain ⟨o', ho', hn⟩ := h.objs id _ ho
   cases o' with
   | arr t' e' zs' ver'' =>
    obtain ⟨rfl, rfl, hvv, hs⟩ := hn
    refine .inr ⟨t', zs', ver'', ho', by omega, fun he => ?_⟩
    obtain ⟨hl, hs⟩ := hs (by omega)
    obtain ⟨h2, h3⟩ := hv (by omega)
    refine ⟨by omega, ?_⟩
    rcases h3 with ⟨h4, h5⟩ | ⟨h4, cap, cur, h5, h6, h7, h8, h9⟩
    ·exact .inl ⟨by omega, h5⟩
    ·obtain ⟨hρ, hc⟩ := hs h4
     obtain ⟨cur', h10, h11⟩ := hc cur h6
     exact .inr ⟨by omega, cap, cur', by rw [hρ]; exact h5, by rw [hρ]; exact h10, by omega, h8, h11.trans h9⟩
   | dead => exact .inl ho'
   | _ => exact hn.elim
 | ep id e ver i k =>
  obtain ⟨h1, ho | ⟨t, zs, ver', ho, hle, hv⟩⟩ := hr
  ·exact ⟨h1, .inl (h.dead ho)⟩
  ·refine ⟨h1, ?_⟩
   obtain ⟨o', ho', hn⟩ := h.objs id _ ho
   cases o' with
   | arr t' e' zs' ver'' =>
    obtain ⟨rfl, rfl, hvv, hs⟩ := hn
    refine .inr ⟨t', zs', ver'', ho', by omega, fun he => ?_⟩
    obtain ⟨hl, hs⟩ := hs (by omega)
    obtain ⟨h2, h3⟩ := hv (by omega)
    obtain ⟨hρ, _⟩ := hs (by omega)
    exact ⟨by omega, by rw [hρ]; exact h3⟩
   | dead => exact .inl ho'
   | _ => exact hn.elim
 | mp id =>
  obtain ⟨h1, ho | ⟨k, t, es, ho, hv⟩⟩ := hr
  ·exact ⟨h1, .inl (h.dead ho)⟩
  ·refine ⟨h1, ?_⟩
   obtain ⟨o', ho', hn⟩ := h.objs id _ ho
   cases o' with
   | map k' t' es' =>
    obtain ⟨rfl, rfl, hρ⟩ := hn
    exact .inr ⟨_, _, es', ho', by rw [hρ]; exact hv⟩
   | dead => exact .inl ho'
   | _ => exact hn.elim
 | any => exact hr
 | may x => exact hr.imp (RepV.mono h.stays) (RepV.mono h.stays)
 | fl e zs => exact ⟨Rep.mono h.stays _ _ _ hr.1, hr.2⟩
 | nl c z k =>
  obtain ⟨h1, b, o, a, h2, h3, h4⟩ := hr
  exact ⟨Rep.mono h.stays _ _ _ h1, b, o, a, h2, h.stays.keep _ _ h3, (h.stays.same _ _ h3).trans h4⟩
 | vs id len =>
  obtain ⟨h1, ho | ⟨t, e, zs, i, k, x, ho, hle, cap, hv, hc⟩⟩ := hr
  ·exact ⟨h1, .inl (h.dead ho)⟩
  ·refine ⟨h1, ?_⟩
   obtain ⟨o', ho', hn⟩ := h.objs id _ ho
   cases o' with
   | vec t' e' zs' i' k' x' =>
    obtain ⟨rfl, rfl, hl, hρ⟩ := hn
    exact .inr ⟨_, _, zs', i', k', x', ho', by omega, cap, by rw [hρ]; exact hv, by omega⟩
   | dead => exact .inl ho'
   | _ => exact hn.elim
 | ve id j l =>
  obtain ⟨h1, ho | ⟨t, e, zs, i, k, x, ho, hle, hv⟩⟩ := hr
  ·exact ⟨h1, .inl (h.dead ho)⟩
  ·refine ⟨h1, ?_⟩
   obtain ⟨o', ho', hn⟩ := h.objs id _ ho
   cases o' with
   | vec t' e' zs' i' k' x' =>
    obtain ⟨rfl, rfl, hl, hρ⟩ := hn
    exact .inr ⟨_, _, zs', i', k', x', ho', by omega, by rw [hρ]; exact hv⟩
   | dead => exact .inl ho'
   | _ => exact hn.elim
 | gs id ver len =>
  obtain ⟨h1, ho | ⟨t, e, zs, i, k, x, ver', ho, hle, hv⟩⟩ := hr
  ·exact ⟨h1, .inl (h.dead ho)⟩
  ·refine ⟨h1, ?_⟩
   obtain ⟨o', ho', hn⟩ := h.objs id _ ho
   cases o' with
   | gvec t' e' zs' i' k' x' ver'' =>
    obtain ⟨rfl, rfl, hvv, hs⟩ := hn
    refine .inr ⟨_, _, zs', i', k', x', ver'', ho', by omega, fun he => ?_⟩
    obtain ⟨hl, hρ, hc⟩ := hs (by omega)
    obtain ⟨h2, cap, cur, h3, h4, h5, h6, h7⟩ := hv (by omega)
    obtain ⟨cur', h8, h9⟩ := hc cur h4
    exact ⟨by omega, cap, cur', by rw [hρ]; exact h3, by rw [hρ]; exact h8, h5, h6, h9.trans h7⟩
   | dead => exact .inl ho'
   | _ => exact hn.elim
 | ge id ver j l =>
  obtain ⟨h1, ho | ⟨t, e, zs, i, k, x, ver', ho, hle, hv⟩⟩ := hr
  ·exact ⟨h1, .inl (h.dead ho)⟩
  ·refine ⟨h1, ?_⟩
   obtain ⟨o', ho', hn⟩ := h.objs id _ ho
   cases o' with
   | gvec t' e' zs' i' k' x' ver'' =>
    obtain ⟨rfl, rfl, hvv, hs⟩ := hn
    refine .inr ⟨_, _, zs', i', k', x', ver'', ho', by omega, fun he => ?_⟩
    obtain ⟨hl, hρ, hc⟩ := hs (by omega)
    obtain ⟨h2, h3⟩ := hv (by omega)
    exact ⟨by omega, by rw [hρ]; exact h3⟩
   | dead => exact .inl ho'
   | _ => exact hn.elim
theorem RepA.mono {G G' : View} (h : Ext G G') {x : AV} {v : Value} (hr : RepA G x v) : RepA G' x v := by
 cases x with
 | c x => exact RepC.mono h hr
 | agg l =>
  obtain ⟨cs, rfl, hc⟩ := hr
  exact ⟨cs, rfl, hc.mono fun _ _ => RepC.mono h⟩
theorem RepS.mono {G G' : View} (h : Ext G G') {x : SV} {v : Value} (hr : RepS G x v) : RepS G' x v := by
 cases x with
 | none => trivial
 | a x => exact RepA.mono h hr
 | tup l =>
  obtain ⟨cs, rfl, hc⟩ := hr
  exact ⟨cs, rfl, hc.mono fun _ _ => RepA.mono h⟩
end Go.Ab
