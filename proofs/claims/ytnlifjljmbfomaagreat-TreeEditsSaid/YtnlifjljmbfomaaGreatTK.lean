/- The abstract machine: regions, code, functions. -/
import Derived.Test.YtnlifjljmbfomaaGreatTJ
namespace Go.Ab
set_option linter.unusedSectionVars false
variable [Base]
set_option linter.unusedSectionVars false
def RepX (G : View) : XV → Value → Prop
 | .s x, v => RepS G x v
 | .g _ c x, v => (c = true → RepS G x v) ∧ (c = false → v = undef)
theorem RepX.mono {G G' : View} (h : Ext G G') {x : XV} {v : Value} (hr : RepX G x v) : RepX G' x v := by
 cases x with
 | s x => exact RepS.mono h hr
 | g k c x => exact ⟨fun hc => RepS.mono h (hr.1 hc), hr.2⟩
structure EnvRep (G : View) (e : Env) (n : Nat) (a : Act) : Prop where
 get : ∀ t, RepX G (e.get t) (a.tmps.getD t undef)
 size : a.tmps.size = n
 defers : a.defers = []
theorem EnvRep.mono {G G' : View} (h : Ext G G') {e : Env} {n : Nat} {a : Act} (hr : EnvRep G e n a) : EnvRep G' e n a :=
 ⟨fun t => RepX.mono h (hr.get t), hr.size, hr.defers⟩
theorem Env.get_cons (u : Nat) (x : XV) (e : Env) (t : Nat) : Env.get ((u, x) :: e) t = if u = t then x else e.get t := by
 simp only [Env.get]
 by_cases h : u = t
 ·subst h; simp
 ·have : Nat.beq u t = false := by
   cases hb : Nat.beq u t with
   | false => rfl
   | true => exact absurd (by simpa using hb) h
  simp [this, h]
def dstOk (n : Nat) : Option Tmp → Bool
 | none => true
 | some d => Nat.blt d n
theorem EnvRep.put {G : View} {e : Env} {n : Nat} {a : Act} (hr : EnvRep G e n a) {dst : Option Tmp} (hd : dstOk n dst = true) {x : XV} {v : Value} (hx : RepX G x v) : EnvRep G (e.put dst x) n (a.put dst v) := by
 cases dst with
 | none => exact hr
 | some d =>
  have hlt : d < a.tmps.size := by rw [hr.size]; simpa [dstOk] using hd
  refine ⟨fun t => ?_, by simp [Act.put, hr.size], hr.defers⟩
  show RepX G (Env.get ((d, x) :: e) t) _
  rw [Env.get_cons]
  by_cases h : d = t
  ·subst h
   simpa [Act.put, hlt] using hx
  ·simp only [h, if_false]
   have := hr.get t
   simpa [Act.put, h] using this
theorem EnvRep.drop {G : View} {e : Env} {n : Nat} {a : Act} (hr : EnvRep G e n a) (d : Nat) : EnvRep G ((d, .s .none) :: e) n a := by
 refine ⟨fun t => ?_, hr.size, hr.defers⟩
 rw [Env.get_cons]
 split
 ·trivial
 ·exact hr.get t
def lit (want t : Bool) : Bool := match want with | true => t | false => !t
def condOf (i : Nat) (ops : List Oper) (e : Env) : Option (Nat × Bool) → Option (Option Bool)
 | none => some none
 | some (j, want) => match Nat.blt j i, ops[j]? with
  | true, some o => match o.dst with
   | some d => match e.get d with
    | .s (.bool t) => some (some (lit want t))
    | .g _ c (.bool t) => some (some (c && lit want t))
    | _ => none
   | none => none
  | _, _ => none
def both : Option Prop → Option Prop → Option Prop
 | none, q => q
 | p, none => p
 | some p, some q => some (p ∧ q)
def impO (c : Bool) : Option Prop → Option Prop
 | none => none
 | some p => some (c = true → p)
theorem both_iff {p q : Option Prop} : holdsO (both p q) ↔ holdsO p ∧ holdsO q := by
 cases p <;> cases q <;> simp [both, holdsO]
theorem impO_iff {c : Bool} {p : Option Prop} : holdsO (impO c p) ↔ (c = true → holdsO p) := by
 cases p <;> simp [impO, holdsO]
def sameKey (k k' : Nat × Bool) : Bool := match Nat.beq k.1 k'.1, k.2, k'.2 with
 | true, true, true => true
 | true, false, false => true
 | _, _, _ => false
def underKey (gd : Option (Nat × Bool)) (k : Nat × Bool) : Bool := match gd with | some k' => sameKey k k' | none => false
def needX (gd : Option (Nat × Bool)) (e : Env) (x : Operand) : Option Prop := match evalX e x with
 | .s _ => none
 | .g k c _ => match underKey gd k with | true => none | false => some (c = true)
def needs (gd : Option (Nat × Bool)) (e : Env) : List Operand → Option Prop
 | [] => none
 | x :: r => both (needX gd e x) (needs gd e r)
def isTest (ops : List Oper) (x : Operand) (want : Bool) (k : Nat × Bool) : Bool := match x, ops[k.1]? with
 | .tmp s, some o => match o.dst with
  | some d => match Nat.beq d s, want, k.2 with
   | true, true, true => true
   | true, false, false => true
   | _, _, _ => false
  | none => false
 | _, _ => false
def needPick (ops : List Oper) (gd : Option (Nat × Bool)) (e : Env) (x : Operand) (want : Bool) (a : Operand) : Option Prop := match evalX e a with
 | .s _ => none
 | .g k c _ => match underKey gd k || isTest ops x want k with | true => none | false => some (c = true)
def oblOp (ops : List Oper) (gd : Option (Nat × Bool)) (e : Env) : Op → Option Prop
 | .pick x a b => both (needX gd e x) (match (evalX e x).strip with
  | .bool t => both (impO t (needPick ops gd e x true a)) (impO (!t) (needPick ops gd e x false b))
  | _ => none)
 | op => needs gd e op.operands.toList
def Inv (i : Nat) (ops : List Oper) (e : Env) : Prop := ∀ t k c x, e.get t = .g k c x → condOf i ops e (some k) = some (some c)
theorem sameKey_eq {k k' : Nat × Bool} (h : sameKey k k' = true) : k = k' := by
 obtain ⟨a, b⟩ := k
 obtain ⟨c, d⟩ := k'
 unfold sameKey at h
 split at h
 ·rename_i h1 h2 h3
  simp at h1 h2 h3
  simp [h1, h2, h3]
 ·rename_i h1 h2 h3
  simp at h1 h2 h3
  simp [h1, h2, h3]
 ·cases h
theorem evalX_rep {G : View} {e : Env} {n : Nat} {a : Act} (hr : EnvRep G e n a) (x : Operand) : RepX G (evalX e x) (a.eval x) := by
 cases x with
 | tmp t => exact hr.get t
 | const v =>
  simp only [evalX]
  split
  ·rename_i hf; exact ⟨hf, rfl⟩
  ·trivial
 | global g => trivial
 | func f => exact ⟨rfl, rfl⟩
def GuardOk (i : Nat) (ops : List Oper) (e : Env) (gd : Option (Nat × Bool)) : Prop := ∀ c, condOf i ops e gd = some (some c) → c = true
theorem under_true {i : Nat} {ops : List Oper} {e : Env} {gd : Option (Nat × Bool)} (hI : Inv i ops e) (hg : GuardOk i ops e gd) {t : Nat} {k : Nat × Bool} {c : Bool} {x : SV} (ht : e.get t = .g k c x) (hk : underKey gd k = true) : c = true := by
 unfold underKey at hk
 split at hk
 ·rename_i k' 
  have := sameKey_eq hk
  subst this
  exact hg c (hI t k c x ht)
 ·cases hk
theorem evalX_g {e : Env} {x : Operand} {k : Nat × Bool} {c : Bool} {y : SV} (h : evalX e x = .g k c y) : ∃ t, x = .tmp t ∧ e.get t = .g k c y := by
 cases x with
 | tmp t => exact ⟨t, rfl, h⟩
 | const v => simp only [evalX] at h; split at h <;> cases h
 | global g => cases h
 | func f => cases h
section
variable {G : View} {e : Env} {n : Nat} {a : Act} (hr : EnvRep G e n a) {i : Nat} {ops : List Oper} (hI : Inv i ops e) {gd : Option (Nat × Bool)} (hg : GuardOk i ops e gd)
include hr hI hg
theorem needX_rep {x : Operand} (h : holdsO (needX gd e x)) : RepS G (evalX e x).strip (a.eval x) := by
 have := evalX_rep hr x
 unfold needX at h
 split at h
 ·rename_i y hy
  rw [hy] at this ⊢
  exact this
 ·rename_i k c y hy
  rw [hy] at this ⊢
  obtain ⟨t, _, ht⟩ := evalX_g hy
  split at h
  ·rename_i hk
   exact this.1 (under_true hI hg ht hk)
  ·exact this.1 h
theorem needs_rep : ∀ {l : List Operand}, holdsO (needs gd e l) → ∀ x ∈ l, RepS G (evalX e x).strip (a.eval x) := by
 intro l
 induction l with
 | nil => intro _ x hx; simp at hx
 | cons y l ih =>
  intro h x hx
  have h' := both_iff.1 h
  rcases List.mem_cons.1 hx with rfl | hx
  ·exact needX_rep hr hI hg h'.1
  ·exact ih h'.2 x hx
theorem needPick_rep {x y : Operand} {t want : Bool} (hx : holdsO (needX gd e x)) (ht : (evalX e x).strip = .bool t) (htw : lit want t = true) (h : holdsO (needPick ops gd e x want y)) : RepS G (evalX e y).strip (a.eval y) := by
 have := evalX_rep hr y
 unfold needPick at h
 split at h
 ·rename_i z hz
  rw [hz] at this ⊢
  exact this
 ·rename_i k c z hz
  rw [hz] at this ⊢
  obtain ⟨u, _, hu⟩ := evalX_g hz
  split at h
  ·rename_i hk
   refine this.1 ?_
   rcases Bool.or_eq_true_iff.1 hk with hk | hk
   ·exact under_true hI hg hu hk
   ·have hc := hI u k c z hu
    unfold isTest at hk
    split at hk
    ·rename_i s o ho _
     split at hk
     ·rename_i d hd
      have key : d = s ∧ k.2 = want := by
       split at hk
       ·rename_i h1 h2 h3; exact ⟨by simpa using h1, by simp_all⟩
       ·rename_i h1 h2 h3; exact ⟨by simpa using h1, by simp_all⟩
       ·cases hk
      obtain ⟨rfl, rfl⟩ := key
      obtain ⟨j, want⟩ := k
      simp only at ho htw
      have hxs : evalX e (.tmp d) = e.get d := rfl
      rw [hxs] at ht
      simp only [condOf, ho] at hc
      split at hc
      ·rename_i o' hb ho'
       cases ho'
       rw [hd] at hc
       simp only at hc
       cases hdv : e.get d with
       | s sv =>
        rw [hdv] at ht hc
        simp only [XV.strip] at ht
        subst ht
        simp only at hc
        cases hc
        exact htw
       | g k' c' sv =>
        rw [hdv] at ht hc
        simp only [XV.strip] at ht
        subst ht
        simp only at hc
        cases hc
        have hc' : c' = true := by
         unfold needX at hx
         rw [hxs, hdv] at hx
         simp only at hx
         split at hx
         ·rename_i hk'
          exact under_true hI hg hdv hk'
         ·exact hx
        rw [hc', htw]
        rfl
      ·cases hc
     ·cases hk
    ·cases hk
  ·exact this.1 h
theorem oblOp_rep {op : Op} (h : holdsO (oblOp ops gd e op)) : OpRep G (fun x => (evalX e x).strip) a.eval op := by
 cases op with
 | pick x y z =>
  simp only [oblOp] at h
  obtain ⟨h1, h2⟩ := both_iff.1 h
  refine ⟨needX_rep hr hI hg h1, fun t ht => ?_⟩
  have ht' : (evalX e x).strip = .bool t := ht
  rw [ht'] at h2
  obtain ⟨h3, h4⟩ := both_iff.1 h2
  exact ⟨fun hc => needPick_rep hr hI hg h1 ht' (want := true) hc (impO_iff.1 h3 hc), fun hc => needPick_rep hr hI hg h1 ht' (want := false) (by rw [hc]; rfl) (impO_iff.1 h4 (by rw [hc]; rfl))⟩
 | _ => exact needs_rep hr hI hg h
end
def condB : Option Bool → Bool
 | none => true
 | some b => b
theorem cond_wanted {G : View} {ops : Array Oper} {e : Env} {n : Nat} {a : Act} (hr : EnvRep G e n a) {i : Nat} {o : Oper} {c : Option Bool} (h : condOf i ops.toList e o.guard = some c) :
  Region.wanted o (yielded ops a.tmps) = condB c := by
 unfold condOf at h
 split at h
 ·rename_i hg
  cases h
  simp [Region.wanted, hg, condB]
 ·rename_i j want hg
  split at h
  ·rename_i oj _ hj
   have hj' : ops[j]? = some oj := by simpa using hj
   split at h
   ·rename_i d hd
    have hget := hr.get d
    have hw : Region.wanted o (yielded ops a.tmps) = (yielded ops a.tmps j == some want) := by simp [Region.wanted, hg]
    have hbool : ∀ t, a.tmps.getD d undef = .bool t → yielded ops a.tmps j = some t := by
     intro t ht
     simp only [yielded, hj', Option.bind_some, hd]
     rcases Nat.lt_or_ge d a.tmps.size with hlt | hge
     ·have : a.tmps[d]? = some (.bool t) := by simpa [hlt] using ht
      rw [this]
     ·simp [hge, undef] at ht
    have hund : a.tmps.getD d undef = undef → yielded ops a.tmps j = none := by
     intro ht
     simp only [yielded, hj', Option.bind_some, hd]
     rcases Nat.lt_or_ge d a.tmps.size with hlt | hge
     ·have : a.tmps[d]? = some undef := by simpa [hlt] using ht
      rw [this]
      rfl
     ·simp [hge]
    split at h
    ·rename_i t ht
     cases h
     rw [ht] at hget
     rw [hw, hbool t hget.2]
     cases want <;> cases t <;> rfl
    ·rename_i k' c' t ht
     cases h
     rw [ht] at hget
     cases hc : c' with
     | true =>
      rw [hw, hbool t (hget.1 hc).2]
      cases want <;> cases t <;> rfl
     | false =>
      rw [hw, hund (hget.2 hc)]
      simp [condB]
    ·cases h
   ·cases h
  ·cases h
def refsC : AC → List Nat
 | .ptr id _ => [id]
 | .own id _ _ => [id]
 | .clo _ _ caps => caps
 | .sl id _ _ _ => [id]
 | .ep id _ _ _ _ => [id]
 | .mp id => [id]
 | .vs id _ => [id]
 | .ve id _ _ => [id]
 | .gs id _ _ => [id]
 | .ge id _ _ _ => [id]
 | _ => []
def refsO : AO → List Nat
 | .row cs => cs.flatMap refsC
 | .vec _ _ _ _ _ x => refsC x
 | .gvec _ _ _ _ _ x _ => refsC x
 | _ => []
def addIds (L : List Nat) : List Nat → List Nat
 | [] => L
 | x :: r => match idx L x with | some _ => addIds L r | none => addIds (L ++ [x]) r
def closeIds (H : List AO) : Nat → List Nat → List Nat
 | 0, L => L
 | n + 1, L => closeIds H n (addIds L (L.flatMap fun i => match H[i]? with | some o => refsO o | none => []))
def gather (H : List AO) (args : List AV) : List Nat := closeIds H H.length (addIds [] (args.flatMap fun a => a.cells.flatMap refsC))
def cloOf : SV → Option (Bool × FuncId × List Nat)
 | .a (.c (.clo b f caps)) => some (b, f, caps)
 | x => match fnOf x with | some f => some (false, f, []) | none => none
def withC {α : Type} (b : Bool) (l caps : List α) : List α := match b with | true => caps ++ l | false => l ++ caps
def ids32 : List Nat := [0, 1, 2, 3, 4, 5, 6, 7, 8, 9, 10, 11, 12, 13, 14, 15, 16, 17, 18, 19, 20, 21, 22, 23, 24, 25, 26, 27, 28, 29, 30, 31]
universe u
def natIn {α : Sort u} : List Nat → Nat → (Nat → α) → α
 | [], n, k => k n
 | i :: r, n, k => match Nat.beq n i with | true => k i | false => natIn r n k
theorem natIn_eq {α : Sort u} : ∀ (l : List Nat) (n : Nat) (k : Nat → α), natIn l n k = k n := by
 intro l
 induction l with
 | nil => intro n k; rfl
 | cons i l ih =>
  intro n k
  simp only [natIn]
  split
  ·rename_i h
   rw [Nat.eq_of_beq_eq_true h]
  ·exact ih n k
abbrev natK {α : Sort u} (n : Nat) (k : Nat → α) : α := natIn ids32 n k
theorem natK_eq {α : Sort u} (n : Nat) (k : Nat → α) : natK n k = k n := natIn_eq _ _ _
def natsK {α : Sort u} : List Nat → (List Nat → α) → α
 | [], k => k []
 | x :: r, k => natK x fun x => natsK r fun r => k (x :: r)
theorem natsK_eq {α : Sort u} : ∀ (l : List Nat) (k : List Nat → α), natsK l k = k l := by
 intro l
 induction l with
 | nil => intro k; rfl
 | cons x l ih => intro k; simp only [natsK, natK_eq, ih]
def cellsK {α : Sort u} : List AC → (List AC → α) → α
 | [], k => k []
 | x :: r, k => match x with
  | .p y => cellsK r fun r => k (.p y :: r)
  | .ptr i o => natK i fun i => natK o fun o => cellsK r fun r => k (.ptr i o :: r)
  | .pp e z j => cellsK r fun r => k (.pp e z j :: r)
  | .own i e zs => natK i fun i => cellsK r fun r => k (.own i e zs :: r)
  | .clo b f cs => natsK cs fun cs => cellsK r fun r => k (.clo b f cs :: r)
  | .sl i e v n => natK i fun i => cellsK r fun r => k (.sl i e v n :: r)
  | .ep i e v j o => natK i fun i => cellsK r fun r => k (.ep i e v j o :: r)
  | .mp i => natK i fun i => cellsK r fun r => k (.mp i :: r)
  | .any => cellsK r fun r => k (.any :: r)
  | .may x => cellsK r fun r => k (.may x :: r)
  | .fl e zs => cellsK r fun r => k (.fl e zs :: r)
  | .nl c z i => cellsK r fun r => k (.nl c z i :: r)
  | .vs i n => natK i fun i => cellsK r fun r => k (.vs i n :: r)
  | .ve i j o => natK i fun i => cellsK r fun r => k (.ve i j o :: r)
  | .gs i v n => natK i fun i => cellsK r fun r => k (.gs i v n :: r)
  | .ge i v j o => natK i fun i => cellsK r fun r => k (.ge i v j o :: r)
theorem cellsK_eq {α : Sort u} : ∀ (l : List AC) (k : List AC → α), cellsK l k = k l := by
 intro l
 induction l with
 | nil => intro k; rfl
 | cons x l ih => intro k; cases x <;> simp only [cellsK, natK_eq, natsK_eq, ih]
def cellK {α : Sort u} (x : AC) (k : AC → α) : α :=
 match x with
 | .p y => k (.p y)
 | .ptr i o => natK i fun i => natK o fun o => k (.ptr i o)
 | .pp e z m => k (.pp e z m)
 | .own i e zs => natK i fun i => k (.own i e zs)
 | .clo b f cs => natsK cs fun cs => k (.clo b f cs)
 | .sl i e v n => natK i fun i => k (.sl i e v n)
 | .ep i e v j o => natK i fun i => k (.ep i e v j o)
 | .mp i => natK i fun i => k (.mp i)
 | .any => k .any
 | .may x => k (.may x)
 | .fl e zs => k (.fl e zs)
 | .nl c z i => k (.nl c z i)
 | .vs i n => natK i fun i => k (.vs i n)
 | .ve i j o => natK i fun i => k (.ve i j o)
 | .gs i v n => natK i fun i => k (.gs i v n)
 | .ge i v j o => natK i fun i => k (.ge i v j o)
theorem cellK_eq {α : Sort u} (x : AC) (k : AC → α) : cellK x k = k x := by cases x <;> simp only [cellK, natK_eq, natsK_eq]
def avsK {α : Sort u} : List AV → (List AV → α) → α
 | [], k => k []
 | x :: r, k => match x with
  | .c y => cellK y fun y => avsK r fun r => k (.c y :: r)
  | .agg l => cellsK l fun l => avsK r fun r => k (.agg l :: r)
theorem avsK_eq {α : Sort u} : ∀ (l : List AV) (k : List AV → α), avsK l k = k l := by
 intro l
 induction l with
 | nil => intro k; rfl
 | cons x l ih => intro k; cases x <;> simp only [avsK, cellK_eq, cellsK_eq, ih]
def closeK {α : Sort u} (H : List AO) : Nat → List Nat → (List Nat → α) → α
 | 0, L, k => natsK L k
 | n + 1, L, k => natsK L fun L => natsK (L.flatMap fun i => match H[i]? with | some o => refsO o | none => []) fun R => closeK H n (addIds L R) k
theorem closeK_eq {α : Sort u} (H : List AO) : ∀ (n : Nat) (L : List Nat) (k : List Nat → α), closeK H n L k = k (closeIds H n L) := by
 intro n
 induction n with
 | zero => intro L k; simp only [closeK, closeIds, natsK_eq]
 | succ n ih => intro L k; simp only [closeK, closeIds, natsK_eq, ih]
def gatherK {α : Sort u} (H : List AO) (args : List AV) (k : List Nat → α) : α := natsK (args.flatMap fun a => a.cells.flatMap refsC) fun R => closeK H H.length (addIds [] R) k
theorem gatherK_eq {α : Sort u} (H : List AO) (args : List AV) (k : List Nat → α) : gatherK H args k = k (gather H args) := by
 simp only [gatherK, gather, natsK_eq, closeK_eq]
def heapK : List AO → (List AO → Prop) → Prop
 | [], k => k []
 | o :: r, k => match o with
  | .row cs => cellsK cs fun cs => heapK r fun r => k (.row cs :: r)
  | .tok t e m z => heapK r fun r => k (.tok t e m z :: r)
  | .arr t e zs v => heapK r fun r => k (.arr t e zs v :: r)
  | .map t e es => heapK r fun r => k (.map t e es :: r)
  | .dead => heapK r fun r => k (.dead :: r)
  | .vec t e zs i j x => cellK x fun x => heapK r fun r => k (.vec t e zs i j x :: r)
  | .gvec t e zs i j x v => cellK x fun x => heapK r fun r => k (.gvec t e zs i j x v :: r)
theorem heapK_eq : ∀ (l : List AO) (k : List AO → Prop), heapK l k = k l := by
 intro l
 induction l with
 | nil => intro k; rfl
 | cons x l ih => intro k; cases x <;> simp only [heapK, cellsK_eq, cellK_eq, ih]
def norm (H : List AO) : List AO → List AO
 | [] => H
 | o :: r => o :: r
def callWithL (M : Mach) (f : FuncId) (L : List Nat) (args : List AV) (H : List AO) : Option (Option Prop × SV × List AO) :=
 match nodup L, renAs L args, subH L H L with
 | true, some args', some Hs => match M.T f args' Hs with
  | some (p, r, H2) => some (p, unS (back L H.length) r, putAll (back L H.length) L (norm Hs H2) H)
  | none => none
 | _, _, _ => none
def callWith (M : Mach) (f : FuncId) (args : List AV) (H : List AO) : Option (Option Prop × SV × List AO) := callWithL M f (gather H args) args H
theorem callWith_def (M : Mach) (f : FuncId) (args : List AV) (H : List AO) : callWithL M f (gather H args) args H = callWith M f args H := rfl
def callA (M : Mach) (f : SV) (args : List SV) (H : List AO) (K : SV → List AO → Prop) : Prop :=
 match cloOf f, avs args with
 | some (b, f, caps), some args => avsK (withC b (args.map AV.drop) (caps.map fun i => .c (.ptr i 0))) fun as => gatherK H as fun L => match callWithL M f L as H with
  | some (p, r, H') => andO p (heapK H' fun H' => K r H')
  | none => avsK (withC b args (caps.map fun i => .c (.ptr i 0))) fun as => gatherK H as fun L => match callWithL M f L as H with
   | some (p, r, H') => andO p (heapK H' fun H' => K r H')
   | none => False
 | _, _ => False
def CallOk (P : Program) (f : FuncId) (cargs : List Value) (G : View) (R : Value → View → Prop) : Prop :=
 (∃ v G', (callFunc f cargs.toArray).run P G.w = .ok (.value v) G'.w ∧ Ext G G' ∧ Sim G' ∧ R v G') ∨
 ((callFunc f cargs.toArray).run P G.w = .ok (.enter f cargs.toArray) G.w ∧
  Calls P f cargs.toArray G.w fun e w' => ∃ v G', e = .returned v ∧ G'.w = w' ∧ Ext G G' ∧ Sim G' ∧ R v G')
def TSound (P : Program) (T : Table) : Prop :=
 ∀ f args H p r H', T f args H = some (p, r, H') → holdsO p → ∀ G : View, Sim G → G.H = H → ∀ cargs : List Value, All2 (RepA G) args cargs →
  CallOk P f cargs G fun v G' => G'.H = norm H H' ∧ RepS G' r v
theorem CallOk.norm {P : Program} {f : FuncId} {cargs : List Value} {G : View} {H' : List AO} {R : Value → View → Prop} (h : CallOk P f cargs G fun v G' => G'.H = H' ∧ R v G') : CallOk P f cargs G fun v G' => G'.H = norm G.H H' ∧ R v G' := by
 have key : ∀ {G' : View}, Ext G G' → G'.H = H' → G'.H = Ab.norm G.H H' := by
  intro G' he hH
  cases H' with
  | nil =>
   have hl := ext_length he
   rw [hH] at hl
   have : G.H = [] := List.eq_nil_of_length_eq_zero (by simpa using hl)
   rw [hH, this]
   rfl
  | cons o r => exact hH
 rcases h with ⟨v, G', h1, h2, h3, h4, h5⟩ | ⟨h1, h2⟩
 ·exact .inl ⟨v, G', h1, h2, h3, key h2 h4, h5⟩
 ·exact .inr ⟨h1, h2.mono fun e w' ⟨v, G', h3, h4, h5, h6, h7, h8⟩ => ⟨v, G', h3, h4, h5, h6, key h5 h7, h8⟩⟩
theorem CallOk.mono {P : Program} {f : FuncId} {cargs : List Value} {G : View} {R R' : Value → View → Prop} (h : CallOk P f cargs G R) (hr : ∀ v G', Ext G G' → Sim G' → R v G' → ∃ G'', G''.w = G'.w ∧ Ext G G'' ∧ Sim G'' ∧ R' v G'') :
  CallOk P f cargs G R' := by
 rcases h with ⟨v, G', h1, h2, h3, h4⟩ | ⟨h1, h2⟩
 ·obtain ⟨G'', hw, he, hs, hR⟩ := hr v G' h2 h3 h4
  exact .inl ⟨v, G'', by rw [hw]; exact h1, he, hs, hR⟩
 ·refine .inr ⟨h1, h2.mono fun e w' ⟨v, G', h3, h4, h5, h6, h7⟩ => ?_⟩
  obtain ⟨G'', hw, he, hs, hR⟩ := hr v G' h5 h6 h7
  exact ⟨v, G'', h3, hw.trans h4, he, hs, hR⟩
theorem callWith_sound {M : Mach} (hT : TSound M.P M.T) {G : View} (hS : Sim G) {f : FuncId} {args : List AV} {p : Option Prop} {r : SV} {H' : List AO} (h : callWith M f args G.H = some (p, r, H')) (hp : holdsO p)
  {cargs : List Value} (ha : All2 (RepA G) args cargs) : CallOk M.P f cargs G fun v G' => G'.H = H' ∧ RepS G' r v := by
 unfold callWith callWithL at h
 split at h
 ·rename_i args' Hs hnd hren hsub
  split at h
  ·rename_i p' r' H2 hTT
   cases h
   have hok := hT f args' Hs p r' H2 hTT hp (G.sub (gather G.H args) Hs) (Sim.sub hsub hS hnd) rfl cargs (renAs_rep hsub hren ha)
   have key : ∀ v G2, Ext (G.sub (gather G.H args) Hs) G2 → Sim G2 → G2.H = norm Hs H2 ∧ RepS G2 r' v →
     ∃ G'', G''.w = G2.w ∧ Ext G G'' ∧ Sim G'' ∧ (G''.H = putAll (back (gather G.H args) G.H.length) (gather G.H args) (norm Hs H2) G.H ∧ RepS G'' (unS (back (gather G.H args) G.H.length) r') v) := by
    intro v G2 he hs ⟨hH, hr⟩
    refine ⟨G.merge G2 (gather G.H args), rfl, Ext.merge hsub hnd hS he hs, Sim.merge hsub hnd hS he hs, ?_, unS_rep hsub hnd he hr⟩
    rw [← hH]
    rfl
   rcases hok with ⟨v, G2, h1, h2, h3, h4⟩ | ⟨h1, h2⟩
   ·obtain ⟨G'', hw, he, hs, hR⟩ := key v G2 h2 h3 h4
    exact .inl ⟨v, G'', by rw [hw]; exact h1, he, hs, hR⟩
   ·refine .inr ⟨h1, h2.mono fun e w' ⟨v, G2, h3, h4, h5, h6, h7⟩ => ?_⟩
    obtain ⟨G'', hw, he, hs, hR⟩ := key v G2 h5 h6 h7
    exact ⟨v, G'', h3, hw.trans h4, he, hs, hR⟩
  ·cases h
 ·cases h
theorem drop_repC {G : View} {x : AC} {v : Value} (h : RepC G x v) : RepC G x.drop v := by
 cases x with
 | own id e zs => exact h.1
 | fl e zs => exact h.1
 | nl c z i => exact h.1
 | _ => exact h
theorem drop_rep {G : View} {x : AV} {v : Value} (h : RepA G x v) : RepA G x.drop v := by
 cases x with
 | c x => exact drop_repC h
 | agg l =>
  obtain ⟨cs, rfl, hc⟩ := h
  exact ⟨cs, rfl, All2.map_left (hc.mono fun _ _ h => drop_repC h)⟩
theorem avs_rep {G : View} : ∀ {l : List SV} {as : List AV}, avs l = some as → ∀ {vs : List Value}, All2 (RepS G) l vs → All2 (RepA G) as vs := by
 intro l
 induction l with
 | nil => intro as h vs hv; simp only [avs] at h; cases h; cases hv; exact .nil
 | cons x l ih =>
  intro as h vs hv
  cases x with
  | none => simp only [avs] at h; cases h
  | tup l => simp only [avs] at h; cases h
  | a x =>
   simp only [avs] at h
   split at h
   ·rename_i as' has
    cases h
    cases hv with
    | cons h1 t => exact .cons h1 (ih has t)
   ·cases h
theorem fnOf_rep {G : View} {x : SV} {f : FuncId} (h : fnOf x = some f) {v : Value} (hr : RepS G x v) : v = .func (.func f) #[] #[] := by
 unfold fnOf at h
 split at h
 ·rename_i f' first captured
  split at h
  ·rename_i h1 h2
   cases h
   obtain ⟨_, rfl⟩ := hr
   have e1 : first = #[] := by simpa using h1
   have e2 : captured = #[] := by simpa using h2
   rw [e1, e2]
  ·cases h
 ·cases h
theorem cloOf_rep {G : View} {x : SV} {b : Bool} {f : FuncId} {caps : List Nat} (h : cloOf x = some (b, f, caps)) {v : Value} (hr : RepS G x v) :
  v = cloV b f (caps.map fun id => Value.pointer (some ⟨G.ρ id, 0, none⟩)) ∧ All2 (RepA G) (caps.map fun i => .c (.ptr i 0)) (caps.map fun id => Value.pointer (some ⟨G.ρ id, 0, none⟩)) := by
 unfold cloOf at h
 split at h
 ·cases h
  obtain ⟨hv, ho⟩ := hr
  refine ⟨hv, ?_⟩
  have : ∀ caps : List Nat, (∀ id ∈ caps, ∃ cs, G.H[id]? = some (.row cs)) → All2 (RepA G) (caps.map fun i => AV.c (.ptr i 0)) (caps.map fun id => Value.pointer (some ⟨G.ρ id, 0, none⟩)) := by
   intro caps
   induction caps with
   | nil => intro _; exact .nil
   | cons c caps ih => intro h; exact .cons ⟨rfl, h c (by simp)⟩ (ih fun id hid => h id (by simp [hid]))
  exact this caps ho
 ·split at h
  ·rename_i f' hf
   cases h
   exact ⟨by rw [fnOf_rep hf hr]; rfl, .nil⟩
  ·cases h
theorem withC_all {α β : Type} {R : α → β → Prop} (b : Bool) {l caps : List α} {l' caps' : List β} (h : All2 R l l') (hc : All2 R caps caps') : All2 R (withC b l caps) (withC b l' caps') := by
 cases b
 ·exact h.append hc
 ·exact hc.append h
theorem cloV_call (b : Bool) (f : FuncId) (vs args : List Value) : ∃ first caps, cloV b f vs = .func (.func f) first caps ∧ first.toList ++ args ++ caps.toList = withC b args vs := by
 cases b
 ·exact ⟨#[], vs.toArray, rfl, by simp [withC]⟩
 ·exact ⟨vs.toArray, #[], rfl, by simp [withC]⟩
theorem callA_sound {M : Mach} (hT : TSound M.P M.T) {G : View} (hS : Sim G) {f : SV} {args : List SV} {K : SV → List AO → Prop} (h : callA M f args G.H K) {vf : Value} {vargs : List Value} (hf : RepS G f vf) (ha : All2 (RepS G) args vargs) :
  ∃ fid first caps, vf = .func (.func fid) first caps ∧ CallOk M.P fid (first.toList ++ vargs ++ caps.toList) G fun v G' => ∃ r, K r G'.H ∧ RepS G' r v := by
 unfold callA at h
 simp only [avsK_eq, gatherK_eq, heapK_eq] at h
 simp only [callWith_def] at h
 split at h
 ·rename_i bo fid caps args' hc hav
  obtain ⟨hv, hcaps⟩ := cloOf_rep hc hf
  have hargs := avs_rep hav ha
  obtain ⟨first, cs, hfc, hwc⟩ := cloV_call bo fid (caps.map fun id => Value.pointer (some ⟨G.ρ id, 0, none⟩)) vargs
  refine ⟨fid, first, cs, hv.trans hfc, ?_⟩
  rw [hwc]
  have one : ∀ {as : List AV} {p : Option Prop} {r : SV} {H' : List AO}, callWith M fid as G.H = some (p, r, H') → All2 (RepA G) as (withC bo vargs (caps.map fun id => Value.pointer (some ⟨G.ρ id, 0, none⟩))) → andO p (K r H') →
    CallOk M.P fid (withC bo vargs (caps.map fun id => Value.pointer (some ⟨G.ρ id, 0, none⟩))) G fun v G' => ∃ r, K r G'.H ∧ RepS G' r v := by
   intro as p r H' h1 h2 h3
   obtain ⟨hp, hK⟩ := andO_iff.1 h3
   have := callWith_sound hT hS h1 hp h2
   exact this.mono fun v G' he hs ⟨hH, hr⟩ => ⟨G', rfl, he, hs, r, hH ▸ hK, hr⟩
  split at h
  ·rename_i p r H' h1
   exact one h1 (withC_all bo (All2.map_left (hargs.mono fun _ _ h => drop_rep h)) hcaps) h
  ·split at h
   ·rename_i p r H' h1
    exact one h1 (withC_all bo hargs hcaps) h
   ·exact h.elim
 ·exact h.elim
def lookL (M : Mach) (f : FuncId) (L : List Nat) (args : List AV) (H : List AO) : Option (Option Prop × SV) :=
 match nodup L, renAs L args, subH L H L with
 | true, some args', some (o :: Hs) => match M.T f args' (o :: Hs) with
  | some (p, r, []) => some (andOO p (putAll (back L H.length) L (o :: Hs) H = H), unS (back L H.length) r)
  | _ => none
 | _, _, _ => none
where
 andOO (p : Option Prop) (q : Prop) : Option Prop := match p with | none => some q | some p => some (p ∧ q)
def lookA (M : Mach) (f : SV) (args : List SV) (H : List AO) : Option (Option Prop × SV) :=
 match cloOf f, avs args with
 | some (b, fid, caps), some args => avsK (withC b (args.map AV.drop) (caps.map fun i => .c (.ptr i 0))) fun as => gatherK H as fun L => lookL M fid L as H
 | _, _ => none
theorem lookA_sound {M : Mach} (hT : TSound M.P M.T) {G : View} (hS : Sim G) {f : SV} {args : List SV} {p : Option Prop} {r : SV} (h : lookA M f args G.H = some (p, r)) (hp : holdsO p) {vf : Value} {vargs : List Value} (hf : RepS G f vf) (ha : All2 (RepS G) args vargs) :
  ∃ fid first caps, vf = .func (.func fid) first caps ∧ CallOk M.P fid (first.toList ++ vargs ++ caps.toList) G fun v G' => G'.H = G.H ∧ RepS G' r v := by
 unfold lookA at h
 split at h
 ·rename_i bo fid caps args' hc hav
  simp only [avsK_eq, gatherK_eq] at h
  obtain ⟨hv, hcaps⟩ := cloOf_rep hc hf
  have hargs := avs_rep hav ha
  obtain ⟨first, cs, hfc, hwc⟩ := cloV_call bo fid (caps.map fun id => Value.pointer (some ⟨G.ρ id, 0, none⟩)) vargs
  refine ⟨fid, first, cs, hv.trans hfc, ?_⟩
  rw [hwc]
  have hall := withC_all bo (All2.map_left (hargs.mono fun _ _ h => drop_rep h)) hcaps
  generalize (withC bo (args'.map AV.drop) (caps.map fun i => AV.c (.ptr i 0))) = as at h hall
  generalize gather G.H as = L at h
  unfold lookL at h
  split at h
  ·rename_i as' o Hs hnd hren hsub
   split at h
   ·rename_i p' r' hTT
    cases h
    obtain ⟨hp', hput⟩ : holdsO p' ∧ putAll (back L G.H.length) L (o :: Hs) G.H = G.H := by
     cases p' with
     | none => exact ⟨trivial, hp⟩
     | some q => exact hp
    have hok := hT fid as' (o :: Hs) p' r' [] hTT hp' (G.sub L (o :: Hs)) (Sim.sub hsub hS hnd) rfl (withC bo vargs (caps.map fun id => Value.pointer (some ⟨G.ρ id, 0, none⟩))) (renAs_rep hsub hren hall)
    have key : ∀ v G2, Ext (G.sub L (o :: Hs)) G2 → Sim G2 → G2.H = norm (o :: Hs) [] ∧ RepS G2 r' v →
      ∃ G'', G''.w = G2.w ∧ Ext G G'' ∧ Sim G'' ∧ (G''.H = G.H ∧ RepS G'' (unS (back L G.H.length) r') v) := by
     intro v G2 he hs ⟨hH, hr⟩
     refine ⟨G.merge G2 L, rfl, Ext.merge hsub hnd hS he hs, Sim.merge hsub hnd hS he hs, ?_, unS_rep hsub hnd he hr⟩
     show putAll _ L G2.H G.H = G.H
     rw [hH]
     exact hput
    rcases hok with ⟨v, G2, h1, h2, h3, h4⟩ | ⟨h1, h2⟩
    ·obtain ⟨G'', hw, he, hs, hR⟩ := key v G2 h2 h3 h4
     exact .inl ⟨v, G'', by rw [hw]; exact h1, he, hs, hR⟩
    ·refine .inr ⟨h1, h2.mono fun e w' ⟨v, G2, h3, h4, h5, h6, h7⟩ => ?_⟩
     obtain ⟨G'', hw, he, hs, hR⟩ := key v G2 h5 h6 h7
     exact ⟨v, G'', h3, hw.trans h4, he, hs, hR⟩
   ·cases h
  ·cases h
 ·cases h
end Go.Ab
