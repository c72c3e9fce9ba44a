/- The abstract machine: data, and what it says of memory. -/
import Derived.WalkKit
namespace Go.Ab

/-- Shapes of cells: one cell, or two shapes beside each other (the cells of a struct, from left to right). -/
inductive CT where
  | int (k : IntKind)
  | bool
  | str
  | list (e : CT)
  | pair (a b : CT)
  deriving DecidableEq, Inhabited

@[reducible] def CT.den : CT → Type
  | .int _ => Int
  | .bool => Bool
  | .str => ByteArray
  | .list e => List e.den
  | .pair a b => a.den × b.den

def CT.width : CT → Nat
  | .pair a b => a.width + b.width
  | _ => 1

/-- One cell of data without addresses that may be written: a flat value, or a slice whose cells nobody writes. -/
inductive PV where
  | v (x : Value)
  | l (e : CT) (zs : List e.den)

def CT.dflt : (t : CT) → t.den
  | .int _ => (0 : Int)
  | .bool => false
  | .str => ByteArray.empty
  | .list _ => []
  | .pair a b => (a.dflt, b.dflt)

def enc : (t : CT) → t.den → List PV
  | .int k, n => [.v (.int k n)]
  | .bool, b => [.v (.bool b)]
  | .str, s => [.v (.string s)]
  | .list e, zs => [.l e zs]
  | .pair a b, z => enc a z.1 ++ enc b z.2

def castD {e e' : CT} (zs : List e'.den) : Option (List e.den) :=
  if h : e' = e then some (h ▸ zs) else none

def decInt (k : IntKind) : PV → Option Int
  | .v (.int k' n) => if k' = k then some n else none
  | _ => none
def decBool : PV → Option Bool
  | .v (.bool b) => some b
  | _ => none
def decStr : PV → Option ByteArray
  | .v (.string s) => some s
  | _ => none
def decList (e : CT) : PV → Option (List e.den)
  | .v (.slice none 0 0) => some []
  | .l _ zs => castD zs
  | _ => none

/-- The data of some first cells, and the cells behind them. -/
def dec : (t : CT) → List PV → Option (t.den × List PV)
  | .int k, cs => match cs with | c :: r => (match decInt k c with | some n => some (n, r) | none => none) | [] => none
  | .bool, cs => match cs with | c :: r => (match decBool c with | some n => some (n, r) | none => none) | [] => none
  | .str, cs => match cs with | c :: r => (match decStr c with | some n => some (n, r) | none => none) | [] => none
  | .list e, cs => match cs with | c :: r => (match decList e c with | some n => some (n, r) | none => none) | [] => none
  | .pair a b, cs =>
    match dec a cs with
    | some (x, r) => match dec b r with
      | some (y, r') => some ((x, y), r')
      | none => none
    | none => none

/-- Values of one cell without an address. -/
def flat : Value → Bool
  | .bool _ | .int .. | .string _ | .nilFunc | .nilIface => true
  | .pointer none => true
  | .slice none 0 0 => true
  | .func (.func _) first captured => first.isEmpty && captured.isEmpty
  | _ => false

abbrev Cells := Nat → Nat → Prop

/-- The cell at a place. -/
abbrev _root_.Go.World.at' (w : World) (b o : Nat) : Option Value := w.cell? ⟨b, o, none⟩

/-- Cells that hold data of a shape. 'I': the cells that nobody writes any more. -/
def Rep (I : Cells) (w : World) : (t : CT) → t.den → List Value → Prop
  | .int k, n, vs => vs = [.int k n]
  | .bool, b, vs => vs = [.bool b]
  | .str, s, vs => vs = [.string s]
  | .list e, zs, vs => (zs = [] ∧ vs = [.slice none 0 0]) ∨
      ∃ b off cap, vs = [.slice (some ⟨b, off, none⟩) zs.length cap] ∧ zs.length ≤ cap ∧
        ∀ i z, zs[i]? = some z → ∃ us : List Value, Rep I w e z us ∧
          ∀ j u, us[j]? = some u → I b (off + i * e.width + j) ∧ w.at' b (off + i * e.width + j) = some u
  | .pair a b, z, vs => ∃ xs ys, vs = xs ++ ys ∧ Rep I w a z.1 xs ∧ Rep I w b z.2 ys

/-- What was there stays: the cells that nobody writes. -/
structure Stays (I : Cells) (w : World) (I' : Cells) (w' : World) : Prop where
  keep : ∀ b o, I b o → I' b o
  same : ∀ b o, I b o → w'.at' b o = w.at' b o

theorem Stays.refl (I : Cells) (w : World) : Stays I w I w := ⟨fun _ _ h => h, fun _ _ _ => rfl⟩
theorem Stays.trans {I w I' w' I'' w''} (h : Stays I w I' w') (k : Stays I' w' I'' w'') : Stays I w I'' w'' :=
  ⟨fun b o x => k.keep b o (h.keep b o x), fun b o x => (k.same b o (h.keep b o x)).trans (h.same b o x)⟩

theorem Rep.mono {I w I' w'} (hs : Stays I w I' w') : ∀ (t : CT) (z : t.den) (vs : List Value), Rep I w t z vs → Rep I' w' t z vs := by
  intro t
  induction t with
  | int k => intro z vs h; exact h
  | bool => intro z vs h; exact h
  | str => intro z vs h; exact h
  | list e ih =>
    intro z vs h
    rcases h with h | ⟨b, off, cap, hv, hc, hz⟩
    · exact .inl h
    · refine .inr ⟨b, off, cap, hv, hc, fun i z hi => ?_⟩
      obtain ⟨us, hr, hu⟩ := hz i z hi
      exact ⟨us, ih _ _ hr, fun j u hj => ⟨hs.keep _ _ (hu j u hj).1, (hs.same _ _ (hu j u hj).1).trans (hu j u hj).2⟩⟩
  | pair a b iha ihb =>
    intro z vs h
    obtain ⟨xs, ys, hv, hx, hy⟩ := h
    exact ⟨xs, ys, hv, iha _ _ hx, ihb _ _ hy⟩

theorem Rep.length {I w} : ∀ (t : CT) (z : t.den) (vs : List Value), Rep I w t z vs → vs.length = t.width := by
  intro t
  induction t with
  | int k => intro z vs h; cases h; rfl
  | bool => intro z vs h; cases h; rfl
  | str => intro z vs h; cases h; rfl
  | list e ih =>
    intro z vs h
    rcases h with ⟨_, h⟩ | ⟨b, off, cap, hv, _, _⟩
    · cases h; rfl
    · cases hv; rfl
  | pair a b iha ihb =>
    intro z vs h
    obtain ⟨xs, ys, hv, hx, hy⟩ := h
    subst hv
    simp [CT.width, iha _ _ hx, ihb _ _ hy]

/-- One cell. -/
def RepV (I : Cells) (w : World) : PV → Value → Prop
  | .v x, v => flat x = true ∧ v = x
  | .l e zs, v => Rep I w (.list e) zs [v]

theorem RepV.mono {I w I' w'} (hs : Stays I w I' w') {x : PV} {v : Value} (h : RepV I w x v) : RepV I' w' x v := by
  cases x with
  | v x => exact h
  | l e zs => exact Rep.mono hs _ _ _ h

/-- Two lists of one length whose elements fit. -/
inductive All2 {α β : Type} (R : α → β → Prop) : List α → List β → Prop
  | nil : All2 R [] []
  | cons {a b as bs} (h : R a b) (t : All2 R as bs) : All2 R (a :: as) (b :: bs)

namespace All2
variable {α β : Type} {R : α → β → Prop}
theorem length {as : List α} {bs : List β} (h : All2 R as bs) : as.length = bs.length := by
  induction h with
  | nil => rfl
  | cons _ _ ih => simp [ih]
theorem mono {S : α → β → Prop} (hm : ∀ a b, R a b → S a b) {as : List α} {bs : List β} (h : All2 R as bs) : All2 S as bs := by
  induction h with
  | nil => exact .nil
  | cons h _ ih => exact .cons (hm _ _ h) ih
theorem get {as : List α} {bs : List β} (h : All2 R as bs) : ∀ {i : Nat} {a : α}, as[i]? = some a → ∃ b, bs[i]? = some b ∧ R a b := by
  induction h with
  | nil => intro i a h; simp at h
  | cons h _ ih =>
    intro i a hi
    cases i with
    | zero => simp at hi; subst hi; exact ⟨_, rfl, h⟩
    | succ i => simp at hi; simpa using ih hi
theorem get' {as : List α} {bs : List β} (h : All2 R as bs) : ∀ {i : Nat} {b : β}, bs[i]? = some b → ∃ a, as[i]? = some a ∧ R a b := by
  induction h with
  | nil => intro i a h; simp at h
  | cons h _ ih =>
    intro i a hi
    cases i with
    | zero => simp at hi; subst hi; exact ⟨_, rfl, h⟩
    | succ i => simp at hi; simpa using ih hi
theorem append {as as' : List α} {bs bs' : List β} (h : All2 R as bs) (h' : All2 R as' bs') : All2 R (as ++ as') (bs ++ bs') := by
  induction h with
  | nil => exact h'
  | cons h _ ih => exact .cons h ih
theorem of_get {as : List α} {bs : List β} (hl : as.length = bs.length) (h : ∀ (i : Nat) (a : α) (b : β), as[i]? = some a → bs[i]? = some b → R a b) : All2 R as bs := by
  induction as generalizing bs with
  | nil => cases bs with
    | nil => exact .nil
    | cons b bs => simp at hl
  | cons a as ih =>
    cases bs with
    | nil => simp at hl
    | cons b bs =>
      exact .cons (h 0 a b rfl rfl) (ih (by simpa using hl) fun i a' b' h1 h2 => h (i + 1) a' b' (by simpa using h1) (by simpa using h2))
theorem take {as : List α} {bs : List β} (h : All2 R as bs) (n : Nat) : All2 R (as.take n) (bs.take n) := by
  induction h generalizing n with
  | nil => simp; exact .nil
  | cons h _ ih => cases n with
    | zero => simp; exact .nil
    | succ n => simpa using .cons h (ih n)
theorem drop {as : List α} {bs : List β} (h : All2 R as bs) (n : Nat) : All2 R (as.drop n) (bs.drop n) := by
  induction h generalizing n with
  | nil => simp; exact .nil
  | cons h t ih => cases n with
    | zero => simpa using .cons h t
    | succ n => simpa using ih n
theorem split {as as' : List α} {bs : List β} (h : All2 R (as ++ as') bs) : ∃ b1 b2, bs = b1 ++ b2 ∧ All2 R as b1 ∧ All2 R as' b2 := by
  induction as generalizing bs with
  | nil => exact ⟨[], bs, rfl, .nil, h⟩
  | cons a as ih =>
    cases h with
    | cons h t =>
      obtain ⟨b1, b2, rfl, h1, h2⟩ := ih t
      exact ⟨_ :: b1, b2, rfl, .cons h h1, h2⟩
theorem set {as : List α} {bs : List β} (h : All2 R as bs) (i : Nat) {a : α} {b : β} (hab : R a b) : All2 R (as.set i a) (bs.set i b) := by
  induction h generalizing i with
  | nil => simp; exact .nil
  | cons h t ih => cases i with
    | zero => simpa using .cons hab t
    | succ i => simpa using .cons h (ih i)
end All2

/-- The cells of data are as its encoding says. -/
theorem enc_rep {I w} : ∀ (t : CT) (z : t.den) (vs : List Value), Rep I w t z vs → All2 (RepV I w) (enc t z) vs := by
  intro t
  induction t with
  | int k => intro z vs h; cases h; exact .cons ⟨rfl, rfl⟩ .nil
  | bool => intro z vs h; cases h; exact .cons ⟨rfl, rfl⟩ .nil
  | str => intro z vs h; cases h; exact .cons ⟨rfl, rfl⟩ .nil
  | list e ih =>
    intro z vs h
    have hl := Rep.length _ _ _ h
    match vs, hl with
    | [v], _ => exact .cons h .nil
  | pair a b iha ihb =>
    intro z vs h
    obtain ⟨xs, ys, rfl, hx, hy⟩ := h
    exact (iha _ _ hx).append (ihb _ _ hy)

theorem decInt_rep {I w} {k : IntKind} {c : PV} {n : Int} {v : Value} (h : RepV I w c v) (hd : decInt k c = some n) : v = .int k n := by
  unfold decInt at hd
  split at hd
  · split at hd
    · rename_i hk
      cases hd; subst hk; exact h.2
    · cases hd
  · cases hd
theorem decBool_rep {I w} {c : PV} {n : Bool} {v : Value} (h : RepV I w c v) (hd : decBool c = some n) : v = .bool n := by
  unfold decBool at hd
  split at hd
  · cases hd; exact h.2
  · cases hd
theorem decStr_rep {I w} {c : PV} {n : ByteArray} {v : Value} (h : RepV I w c v) (hd : decStr c = some n) : v = .string n := by
  unfold decStr at hd
  split at hd
  · cases hd; exact h.2
  · cases hd
theorem decList_rep {I w} {e : CT} {c : PV} {zs : List e.den} {v : Value} (h : RepV I w c v) (hd : decList e c = some zs) : Rep I w (.list e) zs [v] := by
  unfold decList at hd
  split at hd
  · cases hd; exact .inl ⟨rfl, by rw [h.2]⟩
  · rename_i e' zs'
    unfold castD at hd
    split at hd
    · rename_i he
      subst he
      cases hd
      exact h
    · cases hd
  · cases hd

/-- And what an encoding is read back as holds of the cells. -/
theorem dec_rep {I w} : ∀ (t : CT) (cs : List PV) (z : t.den) (r : List PV) (vs : List Value), All2 (RepV I w) cs vs → dec t cs = some (z, r) →
    ∃ xs ys, vs = xs ++ ys ∧ Rep I w t z xs ∧ All2 (RepV I w) r ys := by
  intro t
  induction t with
  | int k =>
    intro cs z r vs h hd
    cases h with
    | nil => simp [dec] at hd
    | cons h t =>
      simp only [dec] at hd
      split at hd
      · rename_i n hn
        cases hd
        exact ⟨[_], _, rfl, by rw [decInt_rep h hn]; rfl, t⟩
      · cases hd
  | bool =>
    intro cs z r vs h hd
    cases h with
    | nil => simp [dec] at hd
    | cons h t =>
      simp only [dec] at hd
      split at hd
      · rename_i n hn
        cases hd
        exact ⟨[_], _, rfl, by rw [decBool_rep h hn]; rfl, t⟩
      · cases hd
  | str =>
    intro cs z r vs h hd
    cases h with
    | nil => simp [dec] at hd
    | cons h t =>
      simp only [dec] at hd
      split at hd
      · rename_i n hn
        cases hd
        exact ⟨[_], _, rfl, by rw [decStr_rep h hn]; rfl, t⟩
      · cases hd
  | list e ih =>
    intro cs z r vs h hd
    cases h with
    | nil => simp [dec] at hd
    | cons h t =>
      simp only [dec] at hd
      split at hd
      · rename_i n hn
        cases hd
        exact ⟨[_], _, rfl, decList_rep h hn, t⟩
      · cases hd
  | pair a b iha ihb =>
    intro cs z r vs h hd
    simp only [dec] at hd
    split at hd
    · rename_i x r' hx
      split at hd
      · rename_i y r'' hy
        cases hd
        obtain ⟨xs, ys, rfl, hr, ht⟩ := iha _ _ _ _ h hx
        obtain ⟨xs', ys', rfl, hr', ht'⟩ := ihb _ _ _ _ ht hy
        exact ⟨xs ++ xs', ys', by simp, ⟨xs, xs', rfl, hr, hr'⟩, ht'⟩
      · cases hd
    · cases hd
end Go.Ab
