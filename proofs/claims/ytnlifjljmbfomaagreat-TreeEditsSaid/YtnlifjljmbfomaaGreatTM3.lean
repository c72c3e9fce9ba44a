/- The abstract machine: regions whose order is open: the theorem. -/
import Derived.Test.YtnlifjljmbfomaaGreatTM2
namespace Go.Ab
set_option linter.unusedSectionVars false
variable [Base]
set_option linter.unusedSectionVars false
def edgesOf (o : Oper) : List Nat := o.after.toList.filterMap fun e => match Region.binds .any e with | true => some e.on | false => none
def predsOf (acc : List (List Nat)) (o : Oper) : List Nat := edgesOf o ++ (edgesOf o).flatMap fun d => acc.getD d []
def allPreds : List Oper → List (List Nat) → List (List Nat)
 | [], acc => acc
 | o :: r, acc => allPreds r (acc ++ [predsOf acc o])
def isIn (x : Nat) (l : List Nat) : Bool := match idx l x with | some _ => true | none => false
theorem isIn_mem {x : Nat} {l : List Nat} (h : isIn x l = true) : x ∈ l := by
 unfold isIn at h
 split at h
 ·rename_i k hk; exact List.mem_of_getElem? (idx_some hk)
 ·cases h
def freeB (o : Oper) : Bool :=
 match o.op, o.guard with
 | .alloc _, none => Nat.beq o.after.size 0
 | _, _ => false
def maskStep (acc : List Nat) (m d : Nat) : Nat := Nat.lor (Nat.lor m (Nat.shiftLeft 1 d)) (acc.getD d 0)
def maskOf (acc : List Nat) (o : Oper) : Nat := (edgesOf o).foldl (maskStep acc) 0
def allMasks : List Oper → List Nat → List Nat
 | [], acc => acc
 | o :: r, acc => allMasks r (acc ++ [maskOf acc o])
def lateB (ops : List Oper) (i : Nat) : Bool :=
 (List.range i).any fun j => match ops[j]? with
  | some oj => match oj.op with
   | .load .. => !Nat.testBit ((allMasks ops []).getD i 0) j
   | _ => false
  | none => false
def lateR (ops : List Oper) (i : Nat) : Bool := match ops[i]? with
 | some o => match o.op with
  | .load .. => (List.range i).any fun j => match ops[j]? with
   | some oj => match oj.op with
    | .call .. => !Nat.testBit ((allMasks ops []).getD i 0) j
    | .store .. => !Nat.testBit ((allMasks ops []).getD i 0) j
    | .alloc .. => !Nat.testBit ((allMasks ops []).getD i 0) j
    | _ => false
   | none => false
  | _ => false
 | none => false
def isFree (ops : List Oper) (i : Nat) : Bool := match ops[i]? with
 | some o => match freeB o with
  | true => true
  | false => match o.op with
   | .store .. => lateB ops i
   | .call .. => lateB ops i
   | .makeSlice .. => lateB ops i
   | _ => false
 | none => false
def notArr (Pr : Program) (t : TypeId) : Bool := match Pr.underlying t with
 | some (.array ..) => false
 | some _ => true
 | none => false
def fltL (Pr : Program) (ops : List Oper) (P : List (List Nat)) (fl : List Nat) (a : Nat) : Bool := match ops[a]? with
 | some o => (match o.op, o.guard, o.dst with | .alloc t, none, some _ => notArr Pr t | _, _, _ => false) && Nat.beq o.after.size 0 && Nat.beq (fl.getD a 0) 2 &&
  (List.range ops.length).all fun k => (!Nat.blt a k || Nat.beq (fl.getD k 0) 0 || isIn a (P.getD k [])) && (match ops[k]? with
   | some ok => !isIn a (edgesOf ok) || (List.range a).all fun j => !Nat.beq (fl.getD j 0) 2 || isIn j (P.getD k [])
   | none => true)
 | none => false
def pairOk (Pr : Program) (ops : List Oper) (P : List (List Nat)) (fl : List Nat) (j i : Nat) : Bool :=
 match ops[j]?, ops[i]? with
 | some oj, some oi =>
  isIn j (P.getD i []) ||
   ((match oj.dst with | some d => !isIn d (reads ops oi) | none => true) &&
    (match oi.dst with | some d => !isIn d (reads ops oj) | none => true) &&
    (match fl.getD j 0, fl.getD i 0 with
     | 0, _ => true
     | _, 0 => true
     | 1, 1 => true
     | 1, 2 => isFree ops i
     | 2, 1 => lateR ops i
     | 2, 2 => fltL Pr ops P fl i
     | _, _ => false))
 | _, _ => true
def oneOk (ops : List Oper) (P : List (List Nat)) (i : Nat) : Bool :=
 match ops[i]? with
 | some o => (edgesOf o).all (fun x => Nat.blt x i) && (match o.guard with | some (g, _) => isIn g (P.getD i []) | none => true)
 | none => true
def drawChk0 (Pr : Program) (ops : List Oper) (fl : List Nat) : Bool :=
 (List.range ops.length).all fun i => oneOk ops (allPreds ops []) i && (List.range i).all fun j => pairOk Pr ops (allPreds ops []) fl j i
def fltM (Pr : Program) (ops : List Oper) (P : List Nat) (fl : List Nat) (a : Nat) : Bool := match ops[a]? with
 | some o => (match o.op, o.guard, o.dst with | .alloc t, none, some _ => notArr Pr t | _, _, _ => false) && Nat.beq o.after.size 0 && Nat.beq (fl.getD a 0) 2 &&
  (List.range ops.length).all fun k => (!Nat.blt a k || Nat.beq (fl.getD k 0) 0 || Nat.testBit (P.getD k 0) a) && (match ops[k]? with
   | some ok => !isIn a (edgesOf ok) || (List.range a).all fun j => !Nat.beq (fl.getD j 0) 2 || Nat.testBit (P.getD k 0) j
   | none => true)
 | none => false
def pairM (Pr : Program) (ops : List Oper) (P : List Nat) (fl : List Nat) (j i : Nat) : Bool :=
 match ops[j]?, ops[i]? with
 | some oj, some oi =>
  Nat.testBit (P.getD i 0) j ||
   ((match oj.dst with | some d => !isIn d (reads ops oi) | none => true) &&
    (match oi.dst with | some d => !isIn d (reads ops oj) | none => true) &&
    (match fl.getD j 0, fl.getD i 0 with
     | 0, _ => true
     | _, 0 => true
     | 1, 1 => true
     | 1, 2 => isFree ops i
     | 2, 1 => lateR ops i
     | 2, 2 => fltM Pr ops P fl i
     | _, _ => false))
 | _, _ => true
def oneM (ops : List Oper) (P : List Nat) (i : Nat) : Bool :=
 match ops[i]? with
 | some o => (edgesOf o).all (fun x => Nat.blt x i) && (match o.guard with | some (g, _) => Nat.testBit (P.getD i 0) g | none => true)
 | none => true
def drawChk (Pr : Program) (ops : List Oper) (fl : List Nat) : Bool :=
 (List.range ops.length).all fun i => oneM ops (allMasks ops []) i && (List.range i).all fun j => pairM Pr ops (allMasks ops []) fl j i
theorem isIn_of_mem {x : Nat} {l : List Nat} (h : x ∈ l) : isIn x l = true := by
 unfold isIn
 split
 ·rfl
 ·rename_i hn
  obtain ⟨k, hk⟩ := List.getElem?_of_mem h
  exact absurd hk (idx_none hn k)
def MaskLe (P : List Nat) (Q : List (List Nat)) : Prop := P.length = Q.length ∧ ∀ i j, Nat.testBit (P.getD i 0) j = true → j ∈ Q.getD i []
theorem maskStep_le {acc : List Nat} {Q : List (List Nat)} (h : MaskLe acc Q) : ∀ (es : List Nat) (m j : Nat), Nat.testBit (es.foldl (maskStep acc) m) j = true → Nat.testBit m j = true ∨ j ∈ es ++ es.flatMap fun d => Q.getD d [] := by
 intro es
 induction es with
 | nil => intro m j hj; exact .inl hj
 | cons d es ih =>
  intro m j hj
  rcases ih _ _ hj with h1 | h1
  ·have h2 : Nat.testBit ((m ||| (1 <<< d)) ||| acc.getD d 0) j = true := h1
   rw [Nat.testBit_or, Nat.testBit_or, Bool.or_eq_true, Bool.or_eq_true] at h2
   rcases h2 with (h2 | h2) | h2
   ·exact .inl h2
   ·refine .inr ?_
    rw [Nat.testBit_shiftLeft, Bool.and_eq_true, decide_eq_true_eq] at h2
    have h3 : j - d = 0 := by
     have := h2.2
     rcases Nat.eq_zero_or_pos (j - d) with h4 | h4
     ·exact h4
     ·obtain ⟨k, hk⟩ : ∃ k, j - d = k + 1 := ⟨j - d - 1, by omega⟩
      rw [hk, Nat.testBit_succ] at this
      simp at this
    have : j = d := by omega
    subst this
    simp
   ·refine .inr ?_
    have := h.2 d j h2
    simp only [List.flatMap_cons, List.mem_append, List.mem_cons]
    exact .inr (.inl this)
  ·refine .inr ?_
   simp only [List.flatMap_cons, List.mem_append, List.mem_cons] at h1 ⊢
   rcases h1 with h1 | h1
   ·exact .inl (.inr h1)
   ·exact .inr (.inr h1)
theorem mask_add {acc : List Nat} {Q : List (List Nat)} (h : MaskLe acc Q) (o : Oper) : MaskLe (acc ++ [maskOf acc o]) (Q ++ [predsOf Q o]) := by
 refine ⟨by simp [h.1], fun i j hj => ?_⟩
 rcases Nat.lt_or_ge i acc.length with h1 | h1
 ·rw [List.getD_eq_getElem?_getD, List.getElem?_append_left h1, ← List.getD_eq_getElem?_getD] at hj
  rw [List.getD_eq_getElem?_getD, List.getElem?_append_left (by rw [← h.1]; exact h1), ← List.getD_eq_getElem?_getD]
  exact h.2 i j hj
 ·rw [List.getD_eq_getElem?_getD, List.getElem?_append_right h1, ← List.getD_eq_getElem?_getD] at hj
  rw [List.getD_eq_getElem?_getD, List.getElem?_append_right (by rw [← h.1]; exact h1), ← List.getD_eq_getElem?_getD, ← h.1]
  cases hi : i - acc.length with
  | succ k => rw [hi] at hj; simp at hj
  | zero =>
   rw [hi] at hj
   have h2 : Nat.testBit ((edgesOf o).foldl (maskStep acc) 0) j = true := hj
   rcases maskStep_le h _ _ _ h2 with h3 | h3
   ·simp at h3
   ·exact h3
theorem masks_le : ∀ (ops : List Oper) {acc : List Nat} {Q : List (List Nat)}, MaskLe acc Q → MaskLe (allMasks ops acc) (allPreds ops Q)
 | [], _, _, h => h
 | o :: r, _, _, h => masks_le r (mask_add h o)
theorem fltM_le {Pr : Program} {ops : List Oper} {P : List Nat} {Q : List (List Nat)} (hm : MaskLe P Q) {fl : List Nat} {a : Nat} (h : fltM Pr ops P fl a = true) : fltL Pr ops Q fl a = true := by
 unfold fltM at h
 unfold fltL
 split at h
 ·rename_i o ho
  rw [Bool.and_eq_true] at h ⊢
  refine ⟨h.1, ?_⟩
  rw [List.all_eq_true]
  intro k hk
  have h2 := List.all_eq_true.1 h.2 k hk
  rw [Bool.and_eq_true] at h2 ⊢
  refine ⟨?_, ?_⟩
  ·rcases Bool.or_eq_true_iff.1 h2.1 with h3 | h3
   ·exact Bool.or_eq_true_iff.2 (.inl h3)
   ·exact Bool.or_eq_true_iff.2 (.inr (isIn_of_mem (hm.2 _ _ h3)))
  ·have h3 := h2.2
   split at h3
   ·rename_i ok hok
    rcases Bool.or_eq_true_iff.1 h3 with h4 | h4
    ·exact Bool.or_eq_true_iff.2 (.inl h4)
    ·refine Bool.or_eq_true_iff.2 (.inr (List.all_eq_true.2 fun j hj => ?_))
     rcases Bool.or_eq_true_iff.1 (List.all_eq_true.1 h4 j hj) with h5 | h5
     ·exact Bool.or_eq_true_iff.2 (.inl h5)
     ·exact Bool.or_eq_true_iff.2 (.inr (isIn_of_mem (hm.2 _ _ h5)))
   ·rfl
 ·cases h
theorem drawChk_old {Pr : Program} {ops : List Oper} {fl : List Nat} (h : drawChk Pr ops fl = true) : drawChk0 Pr ops fl = true := by
 have hm := masks_le ops (acc := []) (Q := []) ⟨rfl, fun i j hj => by simp at hj⟩
 unfold drawChk at h
 unfold drawChk0
 rw [List.all_eq_true] at h ⊢
 intro i hi
 have h1 := h i hi
 rw [Bool.and_eq_true] at h1 ⊢
 obtain ⟨h2, h3⟩ := h1
 refine ⟨?_, ?_⟩
 ·unfold oneM at h2
  unfold oneOk
  split at h2
  ·rename_i o ho
   simp only [Bool.and_eq_true] at h2 ⊢
   refine ⟨h2.1, ?_⟩
   have h4 := h2.2
   split at h4
   ·rename_i g w hg
    exact isIn_of_mem (hm.2 _ _ h4)
   ·rfl
  ·rfl
 ·rw [List.all_eq_true] at h3 ⊢
  intro j hj
  have h4 := h3 j hj
  unfold pairM at h4
  unfold pairOk
  split at h4
  ·rename_i oj oi hoj hoi
   rw [Bool.or_eq_true] at h4 ⊢
   rcases h4 with h4 | h4
   ·exact .inl (isIn_of_mem (hm.2 _ _ h4))
   ·refine .inr ?_
    rw [Bool.and_eq_true] at h4 ⊢
    refine ⟨h4.1, ?_⟩
    have h5 := h4.2
    split at h5
    ·rfl
    ·rfl
    ·rfl
    ·exact h5
    ·exact h5
    ·exact fltM_le hm h5
    ·cases h5
  ·rename_i x y hn
   cases hx : ops[j]? with
   | none => rfl
   | some oj =>
    cases hy : ops[i]? with
    | none => rfl
    | some oi => exact (hn oj oi hx hy).elim
def Again (M : Mach) (n : Nat) (ops : List Oper) : List (Nat × Env × Oper × XV) → List AO → Prop
 | [], _ => True
 | p :: r, H => (stepD M n ops p.1 p.2.1 H p.2.2.1 fun x H' f => x = p.2.2.2 ∧ H' = H ∧ f = 1) ∧ Again M n ops r H
theorem Again.get {M : Mach} {n : Nat} {ops : List Oper} {H : List AO} : ∀ {ls : List (Nat × Env × Oper × XV)}, Again M n ops ls H → ∀ p ∈ ls, stepD M n ops p.1 p.2.1 H p.2.2.1 fun x H' f => x = p.2.2.2 ∧ H' = H ∧ f = 1 := by
 intro ls
 induction ls with
 | nil => intro _ p hp; simp at hp
 | cons q ls ih =>
  intro h p hp
  rcases List.mem_cons.1 hp with rfl | hp
  ·exact h.1
  ·exact ih h.2 p hp
def seenL (f : Nat) (p : Nat × Env × Oper × XV) (ls : List (Nat × Env × Oper × XV)) : List (Nat × Env × Oper × XV) :=
 match f with
 | 1 => p :: ls
 | _ => ls
def Early (M : Mach) (n : Nat) (ops : List Oper) (i : Nat) (e : Env) (o : Oper) (x : XV) : List (Nat × List AO) → Prop
 | [] => True
 | p :: r => (match Nat.testBit ((allMasks ops []).getD i 0) p.1 with
  | true => True
  | false => stepD M n ops i e p.2 o fun x' H' f => x' = x ∧ H' = p.2 ∧ f = 1) ∧ Early M n ops i e o x r
theorem Early.get {M : Mach} {n : Nat} {ops : List Oper} {i : Nat} {e : Env} {o : Oper} {x : XV} : ∀ {hs : List (Nat × List AO)}, Early M n ops i e o x hs → ∀ p ∈ hs, Nat.testBit ((allMasks ops []).getD i 0) p.1 = false → stepD M n ops i e p.2 o fun x' H' f => x' = x ∧ H' = p.2 ∧ f = 1 := by
 intro hs
 induction hs with
 | nil => intro _ p hp; simp at hp
 | cons q hs ih =>
  intro h p hp hb
  rcases List.mem_cons.1 hp with rfl | hp
  ·have := h.1
   rw [hb] at this
   exact this
  ·exact ih h.2 p hp hb
def earlyK (M : Mach) (n : Nat) (ops : List Oper) (i : Nat) (e : Env) (o : Oper) (x : XV) (f : Nat) (hs : List (Nat × List AO)) (p : Prop) : Prop :=
 match f, hs with
 | 1, h :: r => match lateR ops i with
  | true => Early M n ops i e o x (h :: r) ∧ p
  | false => p
 | _, _ => p
theorem earlyK_out {M : Mach} {n : Nat} {ops : List Oper} {i : Nat} {e : Env} {o : Oper} {x : XV} {f : Nat} {hs : List (Nat × List AO)} {p : Prop} (h : earlyK M n ops i e o x f hs p) : (f = 1 → lateR ops i = true → Early M n ops i e o x hs) ∧ p := by
 unfold earlyK at h
 split at h
 ·split at h
  ·exact ⟨fun _ _ => h.1, h.2⟩
  ·rename_i hl
   exact ⟨fun _ h2 => (by rw [hl] at h2; cases h2), h⟩
 ·rename_i hn
  refine ⟨fun hf _ => ?_, h⟩
  subst hf
  cases hs with
  | nil => trivial
  | cons a r => exact (hn a r rfl rfl).elim
def againK (M : Mach) (n : Nat) (ops : List Oper) (i f : Nat) (ls : List (Nat × Env × Oper × XV)) (H : List AO) (p : Prop) : Prop :=
 match f with
 | 2 => match isFree ops i with
  | true => Again M n ops ls H ∧ p
  | false => p
 | _ => p
theorem againK_out {M : Mach} {n : Nat} {ops : List Oper} {i f : Nat} {ls : List (Nat × Env × Oper × XV)} {H : List AO} {p : Prop} (h : againK M n ops i f ls H p) : (f = 2 → isFree ops i = true → Again M n ops ls H) ∧ p := by
 unfold againK at h
 split at h
 ·split at h
  ·exact ⟨fun _ _ => h.1, h.2⟩
  ·rename_i hl
   exact ⟨fun _ h2 => (by rw [hl] at h2; cases h2), h⟩
 ·rename_i hn
  exact ⟨fun hf _ => (hn hf).elim, h⟩
def seenH (f i : Nat) (H : List AO) (hs : List (Nat × List AO)) : List (Nat × List AO) :=
 match f with
 | 2 => hs ++ [(i, H)]
 | _ => hs
def runOpsD (M : Mach) (n : Nat) (ops : List Oper) : List Oper → Nat → Env → List AO → List Nat → List (Nat × Env × Oper × XV) → List (Nat × List AO) → (Env → List AO → Prop) → Prop
 | [], _, e, H, fl, _, _, K => drawChk M.P ops fl = true ∧ K e H
 | o :: rest, i, e, H, fl, ls, hs, K => stepD M n ops i e H o fun x H' f => natK f fun f => natsK (fl ++ [f]) fun fl => earlyK M n ops i e o x f hs (againK M n ops i f ls H' (runOpsD M n ops rest (i + 1) (e.put o.dst x) H' fl (seenL f (i, e, o, x) ls) (seenH f i H hs) K))
theorem allPreds_get : ∀ (ops : List Oper) (acc : List (List Nat)), (∀ i : Nat, i < acc.length → (allPreds ops acc)[i]? = acc[i]?) ∧
  ∀ (i : Nat) (o : Oper), ops[i]? = some o → (allPreds ops acc)[acc.length + i]? = some (predsOf ((allPreds ops acc).take (acc.length + i)) o) := by
 intro ops
 induction ops with
 | nil => intro acc; exact ⟨fun i _ => rfl, fun i o h => by simp at h⟩
 | cons x ops ih =>
  intro acc
  obtain ⟨h1, h2⟩ := ih (acc ++ [predsOf acc x])
  have hlow : ∀ i : Nat, i < acc.length → (allPreds (x :: ops) acc)[i]? = acc[i]? := by
   intro i hi
   show (allPreds ops (acc ++ [predsOf acc x]))[i]? = _
   rw [h1 i (by simp; omega), List.getElem?_append_left hi]
  refine ⟨hlow, fun i o ho => ?_⟩
  cases i with
  | zero =>
   simp at ho
   subst ho
   have e1 : (allPreds (x :: ops) acc)[acc.length]? = some (predsOf acc x) := by
    show (allPreds ops (acc ++ [predsOf acc x]))[acc.length]? = _
    rw [h1 acc.length (by simp)]
    simp
   rw [Nat.add_zero, e1]
   congr 2
   apply List.ext_getElem?
   intro k
   rw [List.getElem?_take]
   by_cases hk : k < acc.length
   ·rw [if_pos hk, hlow k hk]
   ·rw [if_neg hk, List.getElem?_eq_none (by omega)]
  | succ i =>
   have := h2 i o (by simpa using ho)
   simp only [zP9, zC9, zN9] at this
   have e1 : acc.length + 1 + i = acc.length + (i + 1) := by omega
   rw [show acc.length + (0 + 1) + i = acc.length + (i + 1) by omega] at this
   exact this
theorem preds_closed {ops : List Oper} {S : Nat → Prop} (hS : ∀ i o, ops[i]? = some o → S i → ∀ x ∈ edgesOf o, S x) : ∀ (i : Nat), S i → ∀ x ∈ (allPreds ops []).getD i [], S x := by
 obtain ⟨_, hp⟩ := allPreds_get ops []
 intro i
 induction i using Nat.strongRecOn with
 | _ i ih =>
  intro hi x hx
  cases ho : ops[i]? with
  | none =>
   have hlen : ∀ (ops : List Oper) (acc : List (List Nat)), (allPreds ops acc).length = acc.length + ops.length := by
    intro ops
    induction ops with
    | nil => intro acc; simp [allPreds]
    | cons o ops ih => intro acc; simp [allPreds, ih]; omega
   have hge : ops.length ≤ i := by
    rcases Nat.lt_or_ge i ops.length with h | h
    ·rw [List.getElem?_eq_getElem h] at ho; cases ho
    ·exact h
   have h0 : (allPreds ops [])[i]? = none := List.getElem?_eq_none (by rw [hlen]; simpa using hge)
   rw [List.getD_eq_getElem?_getD, h0] at hx
   simp at hx
  | some o =>
   have h0 := hp i o ho
   simp only [zN9, Nat.zero_add] at h0
   rw [List.getD_eq_getElem?_getD, h0] at hx
   simp only [Option.getD_some, predsOf] at hx
   rcases List.mem_append.1 hx with hx | hx
   ·exact hS i o ho hi x hx
   ·obtain ⟨d, hd, hx⟩ := List.mem_flatMap.1 hx
    rw [List.getD_eq_getElem?_getD, List.getElem?_take] at hx
    split at hx
    ·rename_i hdi
     refine ih d hdi (hS i o ho hi d hd) x ?_
     rw [List.getD_eq_getElem?_getD]
     exact hx
    ·simp at hx
structure Tr (M : Mach) (n : Nat) (ops : List Oper) (e : Env) (H : List AO) (E : Nat → Env) (A : Nat → List AO) (X : Nat → XV) (F : Nat → Nat) : Prop where
 e0 : E 0 = e
 h0 : A 0 = H
 step : ∀ (i : Nat) (o : Oper), ops[i]? = some o → (stepD M n ops i (E i) (A i) o fun x H' f => x = X i ∧ H' = A (i + 1) ∧ f = F i) ∧ E (i + 1) = (E i).put o.dst (X i)
 again : ∀ (a : Nat) (o : Oper), ops[a]? = some o → isFree ops a = true → F a = 2 → ∀ (k : Nat) (o' : Oper), k < a → ops[k]? = some o' → F k = 1 → stepD M n ops k (E k) (A (a + 1)) o' fun x H' f => x = X k ∧ H' = A (a + 1) ∧ f = 1
 early : ∀ (i : Nat) (o : Oper), ops[i]? = some o → F i = 1 → lateR ops i = true → ∀ (k : Nat), k < i → k < ops.length → F k = 2 → Nat.testBit ((allMasks ops []).getD i 0) k = false → stepD M n ops i (E i) (A k) o fun x H' f => x = X i ∧ H' = A k ∧ f = 1
theorem trace_of {M : Mach} {n : Nat} {ops : List Oper} {K : Env → List AO → Prop} : ∀ (rest : List Oper) (i : Nat) (e : Env) (H : List AO) (fl : List Nat) (ls : List (Nat × Env × Oper × XV)) (hs : List (Nat × List AO)), (∀ j, rest[j]? = ops[i + j]?) → runOpsD M n ops rest i e H fl ls hs K →
  ∃ (E : Nat → Env) (A : Nat → List AO) (X : Nat → XV) (F : Nat → Nat), E i = e ∧ A i = H ∧ (∀ (k : Nat) (o : Oper), i ≤ k → ops[k]? = some o → (stepD M n ops k (E k) (A k) o fun x H' f => x = X k ∧ H' = A (k + 1) ∧ f = F k) ∧ E (k + 1) = (E k).put o.dst (X k)) ∧
   (drawChk M.P ops (fl ++ (List.range rest.length).map fun j => F (i + j)) = true ∧ K (E (i + rest.length)) (A (i + rest.length))) ∧
   (∀ (a : Nat) (o : Oper), i ≤ a → ops[a]? = some o → isFree ops a = true → F a = 2 → (∀ p ∈ ls, stepD M n ops p.1 p.2.1 (A (a + 1)) p.2.2.1 fun x H' f => x = p.2.2.2 ∧ H' = A (a + 1) ∧ f = 1) ∧
    ∀ (k : Nat) (o' : Oper), i ≤ k → k < a → ops[k]? = some o' → F k = 1 → stepD M n ops k (E k) (A (a + 1)) o' fun x H' f => x = X k ∧ H' = A (a + 1) ∧ f = 1) ∧
   ∀ (a : Nat) (o : Oper), i ≤ a → ops[a]? = some o → F a = 1 → lateR ops a = true → (∀ p ∈ hs, Nat.testBit ((allMasks ops []).getD a 0) p.1 = false → stepD M n ops a (E a) p.2 o fun x H' f => x = X a ∧ H' = p.2 ∧ f = 1) ∧
    ∀ (k : Nat), i ≤ k → k < a → k < ops.length → F k = 2 → Nat.testBit ((allMasks ops []).getD a 0) k = false → stepD M n ops a (E a) (A k) o fun x H' f => x = X a ∧ H' = A k ∧ f = 1 := by
 intro rest
 induction rest with
 | nil =>
  intro i e H fl ls hs hr h
  simp only [runOpsD] at h
  ·obtain ⟨hc, h⟩ := h
   have none : ∀ (k : Nat) (o : Oper), i ≤ k → ops[k]? = some o → False := fun k o hk ho => by
    have := hr (k - i)
    rw [show i + (k - i) = k by omega, ho] at this
    simp at this
   exact ⟨fun _ => e, fun _ => H, fun _ => .s .none, fun _ => 0, rfl, rfl, fun k o hk ho => (none k o hk ho).elim, ⟨by simpa using hc, h⟩, fun a o ha ho _ _ => (none a o ha ho).elim, fun a o ha ho _ _ => (none a o ha ho).elim⟩
 | cons o rest ih =>
  intro i e H fl ls hs hr h
  simp only [runOpsD, natsK_eq, natK_eq] at h
  obtain ⟨x, H', f, h1, h2⟩ := stepD_out h
  obtain ⟨hearly, h2⟩ := earlyK_out h2
  have ho : ops[i]? = some o := by have := hr 0; simpa using this.symm
  obtain ⟨hag, h2'⟩ := againK_out h2
  obtain ⟨E, A, X, F, hE, hA, hst, ⟨hc, hK⟩, hgn, hen⟩ := ih (i + 1) _ _ _ _ _ (fun j => by have := hr (j + 1); rw [show i + (j + 1) = i + 1 + j by omega] at this; simpa using this) h2'
  refine ⟨fun k => if k = i then e else E k, fun k => if k = i then H else A k, fun k => if k = i then x else X k, fun k => if k = i then f else F k, by simp, by simp, fun k o' hk ho' => ?_, ⟨?_, ?_⟩, fun a oa ha hoa hfa hf2 => ?_, fun a oa ha hoa hfa hla => ?_⟩
  ·by_cases hki : k = i
   ·subst hki
    rw [ho] at ho'
    cases ho'
    simp only [if_true, show ¬ k + 1 = k by omega, if_false, hE, hA, and_true]
    exact h1
   ·have := hst k o' (by omega) ho'
    simp only [hki, if_false, show ¬ k + 1 = i by omega]
    exact this
  ·have e1 : (fl ++ [f]) ++ (List.range rest.length).map (fun j => F (i + 1 + j)) = fl ++ (List.range (o :: rest).length).map (fun j => (fun k => if k = i then f else F k) (i + j)) := by
    simp only [zC9, List.range_succ_eq_map, List.map_cons, List.map_map, List.append_assoc, List.singleton_append, Nat.add_zero, if_true]
    congr 2
    apply List.map_congr_left
    intro j _
    simp only [Function.comp]
    rw [if_neg (by omega)]
    congr 1
    omega
   rw [← e1]
   exact hc
  ·have e1 : i + (o :: rest).length = i + 1 + rest.length := by simp; omega
   rw [e1]
   simp only [show ¬ i + 1 + rest.length = i by omega, if_false]
   exact hK
  ·simp only [show ¬ a + 1 = i by omega, if_false]
   by_cases hai : a = i
   ·subst hai
    rw [ho] at hoa
    cases hoa
    simp only [if_true] at hf2
    refine ⟨fun p hp => ?_, fun k o' h1 h2 => by omega⟩
    rw [hA]
    exact (hag hf2 hfa).get p hp
   ·simp only [hai, if_false] at hf2
    obtain ⟨g1, g2⟩ := hgn a oa (by omega) hoa hfa hf2
    have sub : ∀ p ∈ ls, p ∈ (seenL f (i, e, o, x) ls) := fun p hp => by
     unfold seenL
     split
     ·exact List.mem_cons_of_mem _ hp
     ·exact hp
    refine ⟨fun p hp => g1 p (sub p hp), fun k o' hk1 hk2 hok hF => ?_⟩
    by_cases hki : k = i
    ·subst hki
     rw [ho] at hok
     cases hok
     simp only [if_true] at hF ⊢
     subst hF
     exact g1 (k, e, o, x) (by simp [seenL])
    ·simp only [hki, if_false] at hF ⊢
     exact g2 k o' (by omega) hk2 hok hF
  ·by_cases hai : a = i
   ·subst hai
    rw [ho] at hoa
    cases hoa
    simp only [if_true] at hfa ⊢
    refine ⟨fun p hp hb => ?_, fun k k1 k2 => by omega⟩
    have := (hearly hfa hla).get p hp hb
    exact this
   ·simp only [hai, if_false] at hfa ⊢
    obtain ⟨g1, g2⟩ := hen a oa (by omega) hoa hfa hla
    refine ⟨fun p hp hb => g1 p ?_ hb, fun k k1 k2 k3 hF hb => ?_⟩
    ·unfold seenH
     split
     ·exact List.mem_append_left _ hp
     ·exact hp
    ·by_cases hki : k = i
     ·subst hki
      simp only [if_true] at hF ⊢
      subst hF
      exact g1 (k, H) (by simp [seenH]) hb
     ·simp only [hki, if_false] at hF ⊢
      exact g2 k (by omega) k2 k3 hF hb
section
structure FltP (Pr : Program) (ops : List Oper) (F : Nat → Nat) (a : Nat) : Prop where
 op : ∃ (o : Oper) (t : TypeId) (d : Nat), ops[a]? = some o ∧ o.op = .alloc t ∧ o.guard = none ∧ edgesOf o = [] ∧ o.dst = some d ∧ notArr Pr t = true
 two : F a = 2
 late : ∀ k, a < k → k < ops.length → F k ≠ 0 → a ∈ (allPreds ops []).getD k []
 deps : ∀ (k : Nat) (o : Oper), ops[k]? = some o → a ∈ edgesOf o → ∀ j, j < a → F j = 2 → j ∈ (allPreds ops []).getD k []
variable {M : Mach} {n : Nat} {ops : List Oper} {e0 : Env} {H0 : List AO} {E : Nat → Env} {A : Nat → List AO} {X : Nat → XV} {F : Nat → Nat}
variable (tr : Tr M n ops e0 H0 E A X F) (hn : nodup (dsts ops) = true) (hc : drawChk0 M.P ops ((List.range ops.length).map F) = true)
theorem ops_lt {i : Nat} {o : Oper} (h : ops[i]? = some o) : i < ops.length := (List.getElem?_eq_some_iff.1 h).1
include tr hn in
theorem text_get : ∀ (k : Nat), k ≤ ops.length → (∀ (i : Nat) (o : Oper) (t : Nat), i < k → ops[i]? = some o → o.dst = some t → (E k).get t = X i) ∧
  (∀ t : Nat, (∀ (i : Nat) (o : Oper), i < k → ops[i]? = some o → o.dst ≠ some t) → (E k).get t = e0.get t) := by
 intro k
 induction k with
 | zero => intro _; exact ⟨fun i o t h => by omega, fun t _ => by rw [tr.e0]⟩
 | succ k ih =>
  intro hk
  obtain ⟨h1, h2⟩ := ih (by omega)
  have ho : ops[k]? = some ops[k] := List.getElem?_eq_getElem (by omega)
  obtain ⟨_, hE⟩ := tr.step k _ ho
  rw [hE]
  refine ⟨fun i o t hi hio hd => ?_, fun t ht => ?_⟩
  ·by_cases hik : i = k
   ·subst hik
    rw [ho] at hio
    cases hio
    rw [hd]
    show Env.get ((t, X i) :: E i) t = _
    rw [Env.get_cons, if_pos rfl]
   ·rw [get_put (fun hdk => hik (dsts_distinct hn hio ho hd hdk))]
    exact h1 i o t (by omega) hio hd
  ·rw [get_put (ht k _ (by omega) ho)]
   exact h2 t fun i o hi hio => ht i o (by omega) hio
include tr in
theorem text_heap {a b : Nat} (hab : a ≤ b) (hb : b ≤ ops.length) (h : ∀ k, a ≤ k → k < b → F k ≠ 2) : A b = A a := by
 induction b with
 | zero => rw [show a = 0 by omega]
 | succ b ih =>
  by_cases hb' : a = b + 1
  ·rw [hb']
  ·have ho : ops[b]? = some ops[b] := List.getElem?_eq_getElem (by omega)
   obtain ⟨hs, _⟩ := tr.step b _ ho
   rw [stepD_flag hs (h b (by omega) (by omega))]
   exact ih (by omega) (by omega) fun k h1 h2 => h k h1 (by omega)
include hc in
theorem chk_one {i : Nat} {o : Oper} (ho : ops[i]? = some o) : (∀ x ∈ edgesOf o, x < i) ∧ ∀ g w, o.guard = some (g, w) → g ∈ (allPreds ops []).getD i [] := by
 have h1 := List.all_eq_true.1 hc i (List.mem_range.2 (ops_lt ho))
 simp only [Bool.and_eq_true] at h1
 have h2 := h1.1
 simp only [oneOk, ho, Bool.and_eq_true] at h2
 refine ⟨fun x hx => by have := List.all_eq_true.1 h2.1 x hx; simpa using this, fun g w hg => ?_⟩
 have h3 := h2.2
 rw [hg] at h3
 exact isIn_mem h3
include hc in
theorem chk_pair {i j : Nat} {oi oj : Oper} (hij : j < i) (hi : ops[i]? = some oi) (hj : ops[j]? = some oj) :
  j ∈ (allPreds ops []).getD i [] ∨ ((∀ d, oj.dst = some d → d ∉ reads ops oi) ∧ (∀ d, oi.dst = some d → d ∉ reads ops oj) ∧ (F j = 0 ∨ F i = 0 ∨ F j ≠ 2 ∧ F i ≠ 2 ∨ F j = 1 ∧ F i = 2 ∧ isFree ops i = true ∨ F j = 2 ∧ F i = 1 ∧ lateR ops i = true ∨ F j = 2 ∧ F i = 2 ∧ FltP M.P ops F i)) := by
 have h1 := List.all_eq_true.1 hc i (List.mem_range.2 (ops_lt hi))
 simp only [Bool.and_eq_true] at h1
 have h2 := List.all_eq_true.1 h1.2 j (List.mem_range.2 hij)
 simp only [pairOk, hi, hj, Bool.or_eq_true, Bool.and_eq_true] at h2
 have notin : ∀ {x : Nat} {l : List Nat}, (!isIn x l) = true → x ∉ l := by
  intro x l h hm
  obtain ⟨k, hk⟩ := List.getElem?_of_mem hm
  unfold isIn at h
  cases hi : idx l x with
  | some _ => simp [hi] at h
  | none => exact idx_none hi k hk
 rcases h2 with h2 | ⟨⟨h2, h3⟩, h4⟩
 ·exact .inl (isIn_mem h2)
 ·refine .inr ⟨fun d hd => ?_, fun d hd => ?_, ?_⟩
  ·rw [hd] at h2; exact notin h2
  ·rw [hd] at h3; exact notin h3
  ·have f1 : ((List.range ops.length).map F).getD j 0 = F j := by
    have : j < ops.length := ops_lt hj
    simp [List.getD_eq_getElem?_getD, this]
   have f2 : ((List.range ops.length).map F).getD i 0 = F i := by
    have : i < ops.length := ops_lt hi
    simp [List.getD_eq_getElem?_getD, this]
   rw [f1, f2] at h4
   by_cases a : F j = 0
   ·exact .inl a
   ·by_cases b : F i = 0
    ·exact .inr (.inl b)
    ·refine .inr (.inr ?_)
     split at h4
     ·omega
     ·omega
     ·left; constructor <;> omega
     ·exact .inr (.inl ⟨by omega, by omega, h4⟩)
     ·exact .inr (.inr (.inl ⟨by omega, by omega, h4⟩))
     ·refine .inr (.inr (.inr ⟨by omega, by omega, ?_⟩))
      have getF : ∀ k, k < ops.length → ((List.range ops.length).map F).getD k 0 = F k := fun k hk => by simp [List.getD_eq_getElem?_getD, hk]
      have hil := ops_lt hi
      unfold fltL at h4
      rw [hi] at h4
      simp only [Bool.and_eq_true] at h4
      obtain ⟨⟨⟨g1, g2⟩, g3⟩, g4⟩ := h4
      rw [List.all_eq_true] at g4
      refine ⟨?_, by omega, fun k hk1 hk2 hk3 => ?_, fun k ok hok he jj hj1 hj2 => ?_⟩
      ·split at g1
       ·rename_i t d hop hgd hdst
        refine ⟨oi, t, d, hi, hop, hgd, ?_, hdst, g1⟩
        have : oi.after = #[] := Array.eq_empty_of_size_eq_zero (Nat.eq_of_beq_eq_true g2)
        unfold edgesOf
        rw [this]
        rfl
       ·cases g1
      ·have h6 := (bA9.1 (g4 k (List.mem_range.2 hk2))).1
       rw [getF k hk2] at h6
       rcases Bool.or_eq_true_iff.1 h6 with h7 | h7
       ·rcases Bool.or_eq_true_iff.1 h7 with h8 | h8
        ·exfalso
         have : Nat.blt i k = true := by simpa using hk1
         rw [this] at h8
         cases h8
        ·exact absurd (Nat.eq_of_beq_eq_true h8) hk3
       ·exact isIn_mem h7
      ·have hkl := ops_lt hok
       have h6 := (bA9.1 (g4 k (List.mem_range.2 hkl))).2
       rw [hok] at h6
       dsimp only at h6
       rcases Bool.or_eq_true_iff.1 h6 with h7 | h7
       ·rw [isIn_of_mem he] at h7
        cases h7
       ·have h8 := List.all_eq_true.1 h7 jj (List.mem_range.2 hj1)
        rw [getF jj (by omega), hj2] at h8
        rcases Bool.or_eq_true_iff.1 h8 with h9 | h9
        ·cases h9
        ·exact isIn_mem h9
     ·cases h4
structure Sta (ops : List Oper) (e0 : Env) (X : Nat → XV) (F : Nat → Nat) (L : Nat → Bool) (e : Env) (m : Nat) : Prop where
 v1 : ∀ (i : Nat) (o : Oper) (t : Nat), ops[i]? = some o → o.dst = some t → L i = true → e.get t = X i
 v2 : ∀ t : Nat, (∀ (i : Nat) (o : Oper), ops[i]? = some o → o.dst = some t → L i = false) → e.get t = e0.get t
 closed : ∀ (i : Nat) (o : Oper), ops[i]? = some o → L i = true → ∀ x ∈ edgesOf o, L x = true
 hm : m ≤ ops.length
 eff : ∀ i, i < ops.length → F i = 2 → (L i = true ↔ i < m)
section
variable {L : Nat → Bool} {e : Env} {m : Nat} (st : Sta ops e0 X F L e m) {i : Nat} {oi : Oper} (hi : ops[i]? = some oi) (hni : L i = false) (hri : ∀ x ∈ edgesOf oi, L x = true)
include st hi hri
theorem pred_done : ∀ x ∈ (allPreds ops []).getD i [], L x = true := by
 have hcl := preds_closed (ops := ops) (S := fun x => L x = true ∨ x = i) (fun k o ho hk x hx => by
  rcases hk with hk | rfl
  ·exact .inl (st.closed k o ho hk x hx)
  ·rw [hi] at ho; cases ho; exact .inl (hri x hx)) i (.inr rfl)
 have hcl2 := preds_closed (ops := ops) (S := fun x => L x = true) (fun k o ho hk x hx => st.closed k o ho hk x hx)
 intro x hx
 obtain ⟨_, hp⟩ := allPreds_get ops []
 have h0 := hp i oi hi
 simp only [zN9, Nat.zero_add] at h0
 rw [List.getD_eq_getElem?_getD, h0] at hx
 simp only [Option.getD_some, predsOf] at hx
 rcases List.mem_append.1 hx with hx | hx
 ·exact hri x hx
 ·obtain ⟨d, hd, hx⟩ := List.mem_flatMap.1 hx
  rw [List.getD_eq_getElem?_getD, List.getElem?_take] at hx
  split at hx
  ·refine hcl2 d (hri d hd) x ?_
   rw [List.getD_eq_getElem?_getD]
   exact hx
  ·simp at hx
include hni
theorem not_pred {k : Nat} (hk : L k = true) : i ∉ (allPreds ops []).getD k [] := fun hik => by
 have := preds_closed (ops := ops) (S := fun x => L x = true) (fun k o ho hk x hx => st.closed k o ho hk x hx) k hk i hik
 rw [hni] at this
 cases this
include tr hn hc
theorem reads_same : ∀ t ∈ reads ops oi, (E i).get t = e.get t := by
 intro t ht
 have hlt := ops_lt hi
 obtain ⟨t1, t2⟩ := text_get tr hn i (by omega)
 by_cases hw : ∃ (j : Nat) (oj : Oper), ops[j]? = some oj ∧ oj.dst = some t
 ·obtain ⟨j, oj, hj, hd⟩ := hw
  have uniq : ∀ (k : Nat) (o : Oper), ops[k]? = some o → o.dst = some t → k = j := fun k o hk hdk => dsts_distinct hn hk hj hdk hd
  rcases Nat.lt_trichotomy j i with hlt' | rfl | hgt
  ·rcases chk_pair hc hlt' hi hj with h | ⟨h, _, _⟩
   ·have hLj := pred_done st hi hri j h
    rw [t1 j oj t hlt' hj hd, st.v1 j oj t hj hd hLj]
   ·exact absurd ht (h t hd)
  ·rw [t2 t (fun k o hk hko hdk => by have := uniq k o hko hdk; omega), st.v2 t fun k o hk hdk => by rw [uniq k o hk hdk]; exact hni]
  ·rcases chk_pair hc hgt hj hi with h | ⟨_, h, _⟩
   ·have hLj : L j = false := by
     cases hL : L j with
     | false => rfl
     | true => exact absurd h (not_pred st hi hni hri hL)
    rw [t2 t (fun k o hk hko hdk => by have := uniq k o hko hdk; omega), st.v2 t fun k o hk hdk => by rw [uniq k o hk hdk]; exact hLj]
   ·exact absurd ht (h t hd)
 ·rw [t2 t (fun k o _ hko hdk => hw ⟨k, o, hko, hdk⟩), st.v2 t fun k o hk hdk => absurd ⟨k, o, hk, hdk⟩ hw]
theorem heap_same (hfl : FltP M.P ops F i → ∀ j, j < i → F j = 2 → L j = true) (hf : F i ≠ 0) : A i = A m ∨ (F i = 1 ∧ ∃ a o, ops[a]? = some o ∧ isFree ops a = true ∧ F a = 2 ∧ i < a ∧ A m = A (a + 1)) ∨
  F i = 1 ∧ lateR ops i = true ∧ ∃ k, k < i ∧ k < ops.length ∧ F k = 2 ∧ Nat.testBit ((allMasks ops []).getD i 0) k = false ∧ A m = A k := by
 have hlt := ops_lt hi
 rcases Nat.le_total m i with hmi | him
 ·have bad : ∀ k, m ≤ k → k < i → F k = 2 → F i = 1 ∧ lateR ops i = true ∧ Nat.testBit ((allMasks ops []).getD i 0) k = false := by
   intro k h1 h2 h3
   have hk : ops[k]? = some ops[k] := List.getElem?_eq_getElem (by omega)
   have hnp : k ∉ (allPreds ops []).getD i [] := fun h => by
    have := (st.eff k (by omega) h3).1 (pred_done st hi hri k h)
    omega
   rcases chk_pair hc h2 hi hk with h | ⟨_, _, h | h | h | ⟨h, _, _⟩ | ⟨_, h, h'⟩ | ⟨_, _, h⟩⟩
   ·exact absurd h hnp
   ·omega
   ·omega
   ·omega
   ·omega
   rotate_left
   ·have := (st.eff k (by omega) h3).1 (hfl h k h2 h3)
    omega
   ·refine ⟨h, h', ?_⟩
    cases hb : Nat.testBit ((allMasks ops []).getD i 0) k with
    | false => rfl
    | true => exact absurd ((masks_le ops (acc := []) (Q := []) ⟨rfl, fun i j hj => by simp at hj⟩).2 i k hb) hnp
  by_cases hx : ∃ a, m ≤ a ∧ a < i ∧ F a = 2
  ·obtain ⟨a, h1, h2, h3, hl⟩ : ∃ a, m ≤ a ∧ a < i ∧ F a = 2 ∧ ∀ k, m ≤ k → k < a → F k ≠ 2 := by
    obtain ⟨a, h1, h2, h3⟩ := hx
    have : ∀ d a, a - m ≤ d → m ≤ a → a < i → F a = 2 → ∃ a, m ≤ a ∧ a < i ∧ F a = 2 ∧ ∀ k, m ≤ k → k < a → F k ≠ 2 := by
     intro d
     induction d with
     | zero => intro a g1 g2 g3 g4; exact ⟨a, g2, g3, g4, fun k k1 k2 => by omega⟩
     | succ d ih =>
      intro a g1 g2 g3 g4
      by_cases hy : ∃ k, m ≤ k ∧ k < a ∧ F k = 2
      ·obtain ⟨k, k1, k2, k3⟩ := hy
       exact ih k (by omega) k1 (by omega) k3
      ·exact ⟨a, g2, g3, g4, fun k k1 k2 k3 => hy ⟨k, k1, k2, k3⟩⟩
    exact this _ a (nR9 _) h1 h2 h3
   obtain ⟨b1, b2, b3⟩ := bad a h1 h2 h3
   exact .inr (.inr ⟨b1, b2, a, h2, by omega, h3, b3, (text_heap tr h1 (by omega) fun k k1 k2 => hl k k1 k2).symm⟩)
  ·exact .inl (text_heap tr hmi (by omega) fun k h1 h2 h3 => hx ⟨k, h1, h2, h3⟩)
 ·have bad : ∀ k, i ≤ k → k < m → F k = 2 → F i = 1 ∧ i < k ∧ ∃ o, ops[k]? = some o ∧ isFree ops k = true := by
   intro k h1 h2 h3
   have hkN : k < ops.length := by have := st.hm; omega
   have hk : ops[k]? = some ops[k] := List.getElem?_eq_getElem hkN
   have hL := (st.eff k hkN h3).2 h2
   rcases Nat.lt_or_ge i k with hik | hik
   ·rcases chk_pair hc hik hk hi with h | ⟨_, _, h | h | h | ⟨h, _, h'⟩ | ⟨_, h, _⟩ | ⟨h, _, _⟩⟩
    ·exact (not_pred st hi hni hri hL h).elim
    ·omega
    ·omega
    ·omega
    ·exact ⟨h, hik, _, hk, h'⟩
    ·omega
    ·have := (st.eff i hlt h).2 (by omega)
     rw [hni] at this
     cases this
   ·have : k = i := by omega
    subst this
    rw [hni] at hL
    cases hL
  by_cases hx : ∃ a, i ≤ a ∧ a < m ∧ F a = 2
  ·obtain ⟨a, h1, h2, h3, hl⟩ : ∃ a, i ≤ a ∧ a < m ∧ F a = 2 ∧ ∀ k, a < k → k < m → F k ≠ 2 := by
    obtain ⟨a, h1, h2, h3⟩ := hx
    have : ∀ d a, m - a ≤ d → i ≤ a → a < m → F a = 2 → ∃ a, i ≤ a ∧ a < m ∧ F a = 2 ∧ ∀ k, a < k → k < m → F k ≠ 2 := by
     intro d
     induction d with
     | zero => intro a g1 g2 g3; omega
     | succ d ih =>
      intro a g1 g2 g3 g4
      by_cases hy : ∃ k, a < k ∧ k < m ∧ F k = 2
      ·obtain ⟨k, k1, k2, k3⟩ := hy
       exact ih k (by omega) (by omega) k2 k3
      ·exact ⟨a, g2, g3, g4, fun k k1 k2 k3 => hy ⟨k, k1, k2, k3⟩⟩
    exact this _ a (nR9 _) h1 h2 h3
   obtain ⟨b1, b2, o, b3, b4⟩ := bad a h1 h2 h3
   exact .inr (.inl ⟨b1, a, o, b3, b4, h3, b2, text_heap tr (by omega) st.hm fun k k1 k2 k3 => hl k (by omega) k2 k3⟩)
  ·exact .inl (text_heap tr him st.hm fun k h1 h2 h3 => hx ⟨k, h1, h2, h3⟩).symm
theorem step_same (hfl : FltP M.P ops F i → ∀ j, j < i → F j = 2 → L j = true) : stepD M n ops i e (A m) oi fun x H' f => x = X i ∧ H' = A (if F i = 2 then i + 1 else m) ∧ f = F i := by
 obtain ⟨hs, _⟩ := tr.step i oi hi
 have h1 := stepD_congr (reads_same tr hn hc st hi hni hri) hs
 by_cases hf : F i = 0
 ·have h2 : stepD M n ops i e (A i) oi fun x H' f => x = X i ∧ H' = A (i + 1) ∧ f = 0 := stepD_mono (fun x H f h => ⟨h.1, h.2.1, h.2.2.trans hf⟩) h1
  obtain ⟨_, h3⟩ := stepD_zero (A m) h2
  exact stepD_mono (fun x H f h => ⟨h.1, by rw [if_neg (by omega)]; exact h.2.1, h.2.2.trans hf.symm⟩) h3
 ·rcases heap_same tr hn hc st hi hni hri hfl hf with hA | ⟨hf1, a, o, ha, hfr, hf2, hia, hA⟩ | ⟨hf1, hla, k, hk1, hk2, hk3, hk4, hA⟩
  ·rw [hA] at h1
   refine stepD_mono (fun x H f h => ⟨h.1, ?_, h.2.2⟩) h1
   by_cases hf2 : F i = 2
   ·rw [if_pos hf2]; exact h.2.1
   ·rw [if_neg hf2, h.2.1, stepD_flag hs hf2, hA]
  ·have h3 := stepD_congr (reads_same tr hn hc st hi hni hri) (tr.again a o ha hfr hf2 i oi hia hi hf1)
   rw [← hA] at h3
   exact stepD_mono (fun x H f h => ⟨h.1, by rw [if_neg (by omega)]; exact h.2.1, h.2.2.trans hf1.symm⟩) h3
  ·have h3 := stepD_congr (reads_same tr hn hc st hi hni hri) (tr.early i oi hi hf1 hla k hk1 hk2 hk3 hk4)
   rw [← hA] at h3
   exact stepD_mono (fun x H f h => ⟨h.1, by rw [if_neg (by omega)]; exact h.2.1, h.2.2.trans hf1.symm⟩) h3
theorem sta_next (hfl : FltP M.P ops F i → ∀ j, j < i → F j = 2 → L j = true) : Sta ops e0 X F (fun k => L k || decide (k = i)) (e.put oi.dst (X i)) (if F i = 2 then i + 1 else m) where
 v1 := fun k o t hk hd hL => by
  by_cases hki : k = i
  ·subst hki
   rw [hi] at hk
   cases hk
   rw [hd]
   show Env.get ((t, X k) :: e) t = _
   rw [Env.get_cons, if_pos rfl]
  ·rw [get_put (fun hdi => hki (dsts_distinct hn hk hi hd hdi))]
   simp only [hki, decide_false, Bool.or_false] at hL
   exact st.v1 k o t hk hd hL
 v2 := fun t ht => by
  have hne : oi.dst ≠ some t := fun hd => by
   have := ht i oi hi hd
   simp at this
  rw [get_put hne]
  exact st.v2 t fun k o hk hd => by
   have := ht k o hk hd
   simp only [Bool.or_eq_false_iff] at this
   exact this.1
 closed := fun k o hk hL x hx => by
  by_cases hki : k = i
  ·subst hki
   rw [hi] at hk
   cases hk
   simp [hri x hx]
  ·simp only [hki, decide_false, Bool.or_false] at hL
   simp [st.closed k o hk hL x hx]
 hm := by
  have h1 := ops_lt hi
  have h2 := st.hm
  split <;> omega
 eff := fun k hk hf => by
  have hkk : ops[k]? = some ops[k] := List.getElem?_eq_getElem hk
  by_cases hfi : F i = 2
  ·rw [if_pos hfi]
   simp only [Bool.or_eq_true, decide_eq_true_eq]
   constructor
   ·rintro (hL | rfl)
    ·rcases Nat.lt_or_ge i k with hik | hik
     ·rcases chk_pair hc hik hkk hi with h | ⟨_, _, h | h | h | ⟨h, _, _⟩ | ⟨_, h, _⟩ | ⟨_, _, h⟩⟩
      ·exact absurd h (not_pred st hi hni hri hL)
      rotate_right
      ·have h1 := (st.eff k hk hf).1 hL
       have h2 := (st.eff i (ops_lt hi) hfi).2 (by omega)
       rw [hni] at h2
       cases h2
      all_goals omega
     ·omega
    ·omega
   ·intro hlt
    rcases Nat.lt_or_ge k i with hki | hki
    ·rcases chk_pair hc hki hi hkk with h | ⟨_, _, h | h | h | ⟨h, _, _⟩ | ⟨_, h, _⟩ | ⟨_, _, h⟩⟩
     ·exact .inl (pred_done st hi hri k h)
     rotate_right
     ·exact .inl (hfl h k hki hf)
     all_goals omega
    ·exact .inr (by omega)
  ·rw [if_neg hfi]
   have hki : k ≠ i := fun h => hfi (h ▸ hf)
   simp only [hki, decide_false, Bool.or_false]
   exact st.eff k hk hf
end
end
theorem condOf_le {i j : Nat} {ops : List Oper} {e : Env} (hij : i ≤ j) {gd : Option (Nat × Bool)} {c : Option Bool} (h : condOf i ops e gd = some c) : condOf j ops e gd = some c := by
 cases gd with
 | none => exact h
 | some k =>
  obtain ⟨g, want⟩ := k
  simp only [condOf] at h ⊢
  split at h
  ·rename_i og hb ho
   have hlt : g < i := by simpa using hb
   have hb' : Nat.blt g j = true := by simp; omega
   rw [hb', ho]
   exact h
  ·cases h
theorem stepD_sound {M : Mach} (hT : TSound M.P M.T) {ops : Array Oper} {n : Nat} {G : View} (hS : Sim G) {e : Env} {a : Act} (hE : EnvRep G e n a) {N : Nat} (hI : Inv N ops.toList e) {i : Nat} (hiN : i ≤ N) {o : Oper} {K : XV → List AO → Nat → Prop}
  (h : stepD M n ops.toList i e G.H o K) {KK : Act → World → Prop} {Q : Exit → Act → World → Prop}
  (hK : ∀ x f G' a', (∃ v, a' = a.put o.dst v) → K x G'.H f → Ext G G' → Sim G' → EnvRep G' (e.put o.dst x) n a' → KK a' G'.w) :
  if Region.wanted o (yielded ops a.tmps) then o.wp M.P a G.w KK Q else KK (a.put o.dst undef) G.w := by
 unfold stepD at h
 split at h
 ·rename_i hd hc
  have hw := cond_wanted hE hc
  have hg : GuardOk N ops.toList e o.guard := fun c hc' => by rw [condOf_le hiN hc] at hc'; cases hc'
  rw [if_pos (by rw [hw]; rfl)]
  split at h
  ·rename_i p r hp
   obtain ⟨h1, h2⟩ := andO_iff.1 h
   exact pureAnyD_sound hT hS hE hI hg hp h1 fun v G' he hs hH hr => hK _ _ G' _ ⟨_, rfl⟩ (by rw [hH]; exact h2) he hs ((hE.mono he).put hd (x := .s r) hr)
  ·obtain ⟨h1, h2⟩ := andO_iff.1 h
   exact heapAny_sound hT hS hE hI hg h2 h1 fun r v G' hk he hs hr => hK _ _ G' _ ⟨_, rfl⟩ hk he hs ((hE.mono he).put hd (x := .s r) hr)
 ·rename_i c hd hc
  have hw := cond_wanted hE hc
  simp only [condB] at hw
  rw [hw]
  obtain ⟨k, hk⟩ : ∃ k, o.guard = some k := by
   cases hgd : o.guard with
   | none => rw [hgd] at hc; simp [condOf] at hc
   | some k => exact ⟨k, rfl⟩
  have hg : c = true → GuardOk N ops.toList e o.guard := fun hcb c' hc' => by rw [condOf_le hiN hc] at hc'; cases hc'; exact hcb
  split at h
  ·rename_i p r hp
   obtain ⟨h1, h2⟩ := andO_iff.1 h
   rw [hk] at h2
   simp only at h2
   cases hcb : c with
   | true =>
    rw [if_pos rfl]
    exact pureAnyD_sound hT hS hE hI (hg hcb) hp (impO_iff.1 h1 hcb) fun v G' he hs hH hr => hK _ _ G' _ ⟨_, rfl⟩ (by rw [hH]; exact h2) he hs
     ((hE.mono he).put hd (x := .g k c r) ⟨fun _ => hr, fun hf => by rw [hcb] at hf; cases hf⟩)
   | false =>
    simp only [Bool.false_eq_true, if_false]
    exact hK _ _ G _ ⟨_, rfl⟩ h2 (Ext.refl G) hS (hE.put hd (x := .g k c r) ⟨fun hf => absurd (hcb.symm.trans hf) (by decide), fun _ => rfl⟩)
  ·rw [hk] at h
   cases hcb : c with
   | true =>
    rw [hcb] at h
    obtain ⟨h1, h2⟩ := andO_iff.1 h
    rw [if_pos rfl]
    rw [← hk] at h1
    exact heapAny_sound hT hS hE hI (hg hcb) h2 h1 fun r v G' hk' he hs hr => hK _ _ G' _ ⟨_, rfl⟩ hk' he hs ((hE.mono he).put hd (x := .s r) hr)
   | false =>
    rw [hcb] at h
    simp only [Bool.false_eq_true, if_false]
    exact hK _ _ G _ ⟨_, rfl⟩ h (Ext.refl G) hS (hE.put hd (x := .g k false (dummyOf M.P o.type)) ⟨fun hf => (by cases hf), fun _ => rfl⟩)
 ·exact h.elim
theorem edges_iff {o : Oper} {l : Array Bool} : (o.after.all fun e => !Region.binds .any e || l.getD e.on false) = true ↔ ∀ x ∈ edgesOf o, l.getD x false = true := by
 constructor
 ·intro h x hx
  obtain ⟨ed, hed, he⟩ := List.mem_filterMap.1 hx
  have := (Array.all_eq_true_iff_forall_mem.1 h) ed (by simpa using hed)
  split at he
  ·rename_i hb
   cases he
   rw [hb] at this
   simpa using this
  ·cases he
 ·intro h
  refine Array.all_eq_true_iff_forall_mem.2 fun ed hed => ?_
  cases hb : Region.binds .any ed with
  | false => rfl
  | true =>
   have := h ed.on (List.mem_filterMap.2 ⟨ed, by simpa using hed, by rw [hb]⟩)
   simpa using this
theorem ready_iff {ops : Array Oper} {l : Array Bool} {i : Nat} : i ∈ Region.ready .any ops l ↔ ∃ o, ops.toList[i]? = some o ∧ l.getD i true = false ∧ ∀ x ∈ edgesOf o, l.getD x false = true := by
 unfold Region.ready
 rw [List.mem_filter]
 constructor
 ·rintro ⟨h1, h2⟩
  simp only [Bool.and_eq_true, Bool.not_eq_true'] at h2
  have hlt : i < ops.size := List.mem_range.1 h1
  refine ⟨ops[i], by simp [hlt], h2.1, edges_iff.1 ?_⟩
  have := h2.2
  simp only [hlt, getElem?_pos, Option.map_some, Option.getD_some] at this
  exact this
 ·rintro ⟨o, ho, h1, h2⟩
  have hlt : i < ops.size := by have := ops_lt ho; simpa using this
  have ho' : ops[i]? = some o := by simpa using ho
  refine ⟨List.mem_range.2 hlt, ?_⟩
  simp only [Bool.and_eq_true, Bool.not_eq_true']
  refine ⟨h1, ?_⟩
  rw [ho']
  simp only [Option.map_some, Option.getD_some]
  exact edges_iff.2 h2
end Go.Ab
