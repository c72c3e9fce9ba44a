/- The abstract machine: rules for forks, loops and ends. -/
import Derived.Test.YteidakoieemlgaaGreatTNtoO
import Derived.Test.YteidakoieemlgaaGreatShelf
namespace Go.Ab
set_option linter.unusedSectionVars false
variable [Base]
set_option linter.unusedSectionVars false

theorem cond_intro {t : Bool} {A B : Prop} (ha : t = true → A) (hb : t = false → B) : cond t A B := by
  cases t
  · exact hb rfl
  · exact ha rfl

/-- Slot by slot the same, or nothing. -/
def LeL : Env → Env → Prop
  | [], [] => True
  | (t, x) :: r, (u, y) :: q => t = u ∧ (x = .s .none ∨ x = y) ∧ LeL r q
  | _, _ => False

theorem LeL.refl : ∀ e : Env, LeL e e
  | [] => trivial
  | (_, _) :: r => ⟨rfl, .inr rfl, LeL.refl r⟩

theorem LeL.nil : LeL [] [] := trivial
theorem LeL.same {t : Nat} {x : XV} {r q : Env} (h : LeL r q) : LeL ((t, x) :: r) ((t, x) :: q) := ⟨rfl, .inr rfl, h⟩
theorem LeL.drop {t : Nat} {y : XV} {r q : Env} (h : LeL r q) : LeL ((t, .s .none) :: r) ((t, y) :: q) := ⟨rfl, .inl rfl, h⟩
theorem LeL.eq {t : Nat} {x y : XV} {r q : Env} (he : x = y) (h : LeL r q) : LeL ((t, x) :: r) ((t, y) :: q) := ⟨rfl, .inr he, h⟩

theorem LeL.get : ∀ {e e' : Env}, LeL e e' → ∀ t, e.get t = .s .none ∨ e.get t = e'.get t
  | [], [], _, _ => .inr rfl
  | (a, x) :: r, (b, y) :: q, h, t => by
    obtain ⟨rfl, h2, h3⟩ := h
    rw [Env.get_cons, Env.get_cons]
    by_cases he : a = t
    · rw [if_pos he, if_pos he]; exact h2
    · rw [if_neg he, if_neg he]; exact LeL.get h3 t
  | [], _ :: _, h, _ => h.elim
  | _ :: _, [], h, _ => h.elim

theorem Weak.refl (n m : Nat) (e : Env) (H : List AO) : Weak n m e H e H := fun _ G _ hx _ hS hH hE => ⟨G, rfl, hx, hS, hH, hE⟩

theorem Weak.trans {n m e H e1 H1 e2 H2} (h : Weak n m e H e1 H1) (h' : Weak n m e1 H1 e2 H2) : Weak n m e H e2 H2 := fun G0 G a hx hm hS hH hE => by
  obtain ⟨G1, hw, hx1, hs, hh, hr⟩ := h G0 G a hx hm hS hH hE
  obtain ⟨G2, hw2, hx2, hs2, hh2, hr2⟩ := h' G0 G1 a hx1 hm hs hh (by exact hr)
  exact ⟨G2, hw2.trans hw, hx2, hs2, hh2, hr2⟩

theorem Weak.le {n m : Nat} {e e' : Env} (H : List AO) (h : LeL e' e) : Weak n m e H e' H := fun G0 G a hx hm hS hH hE => by
  refine ⟨G, rfl, hx, hS, hH, fun t => ?_, hE.size, hE.defers⟩
  rcases h.get t with h1 | h1
  · rw [h1]; trivial
  · rw [h1]; exact hE.get t


/-! Nothing at all can be taken for a slice of one's own. -/
def OwnL (id : Nat) (c : CT) : Env → Env → Prop
  | [], [] => True
  | (t, x) :: r, (u, y) :: q => t = u ∧ (x = .s .none ∨ x = y ∨ (x = .s (.a (.c (.own id c []))) ∧ y = .s (.v (.slice none 0 0)))) ∧ OwnL id c r q
  | _, _ => False

theorem OwnL.nil {id c} : OwnL id c [] [] := trivial
theorem OwnL.same {id : Nat} {c : CT} {t : Nat} {x : XV} {r q : Env} (h : OwnL id c r q) : OwnL id c ((t, x) :: r) ((t, x) :: q) := ⟨rfl, .inr (.inl rfl), h⟩
theorem OwnL.drop {id : Nat} {c : CT} {t : Nat} {y : XV} {r q : Env} (h : OwnL id c r q) : OwnL id c ((t, .s .none) :: r) ((t, y) :: q) := ⟨rfl, .inl rfl, h⟩
theorem OwnL.own {id : Nat} {c : CT} {t : Nat} {r q : Env} (h : OwnL id c r q) : OwnL id c ((t, .s (.a (.c (.own id c [])))) :: r) ((t, .s (.v (.slice none 0 0))) :: q) := ⟨rfl, .inr (.inr ⟨rfl, rfl⟩), h⟩

theorem OwnL.get {id : Nat} {c : CT} : ∀ {e e' : Env}, OwnL id c e e' → ∀ t, e.get t = .s .none ∨ e.get t = e'.get t ∨ (e.get t = .s (.a (.c (.own id c []))) ∧ e'.get t = .s (.v (.slice none 0 0)))
  | [], [], _, _ => .inr (.inl rfl)
  | (a, x) :: r, (b, y) :: q, h, t => by
    obtain ⟨rfl, h2, h3⟩ := h
    rw [Env.get_cons, Env.get_cons]
    by_cases he : a = t
    · rw [if_pos he, if_pos he]; exact h2
    · rw [if_neg he, if_neg he]; exact OwnL.get h3 t
  | [], _ :: _, h, _ => h.elim
  | _ :: _, [], h, _ => h.elim

theorem Weak.own {n m : Nat} {e e' : Env} {H : List AO} (t : TypeId) {c : CT} (h : OwnL H.length c e' e) : Weak n m e H e' (H ++ [.tok t c 0 true]) := fun G0 G a hx0 hm hS hH hE => by
  subst hH
  have hnb : ¬ (AO.tok t c 0 true).blocked := by intro hb; rcases hb with hb | hb <;> simp at hb
  have hx : Ext G (G.obj G.w.heap.size (.tok t c 0 true)) := Ext.obj_self G fun hb => absurd hb hnb
  refine ⟨G.obj G.w.heap.size (.tok t c 0 true), rfl, hx0.trans hx, hS.obj (fun id hid => absurd (hS.lt hid) (Nat.lt_irrefl _)) fun hb => absurd hb hnb, rfl, fun u => ?_, hE.size, hE.defers⟩
  rcases h.get u with h1 | h1 | ⟨h1, h2⟩
  · rw [h1]; trivial
  · rw [h1]; exact RepX.mono hx (hE.get u)
  · rw [h1]
    have hv := hE.get u
    rw [h2] at hv
    obtain ⟨_, hv⟩ := hv
    rw [hv]
    refine ⟨.inl ⟨rfl, rfl⟩, t, 0, true, ?_, Nat.le_refl _, fun _ => .inl ⟨rfl, rfl, rfl⟩⟩
    show (G.H ++ [_])[G.H.length]? = _
    simp

/-! Of the objects only some are kept. -/
def KeepL (L : List Nat) : Env → Env → Prop
  | [], [] => True
  | (t, x) :: r, (u, y) :: q => t = u ∧ (x = .s .none ∨ ∃ z z', y = .s z ∧ renS L z = some z' ∧ x = .s z') ∧ KeepL L r q
  | _, _ => False

theorem KeepL.nil {L} : KeepL L [] [] := trivial
theorem KeepL.drop {L : List Nat} {t : Nat} {y : XV} {r q : Env} (h : KeepL L r q) : KeepL L ((t, .s .none) :: r) ((t, y) :: q) := ⟨rfl, .inl rfl, h⟩
theorem KeepL.ren {L : List Nat} {t : Nat} {z z' : SV} {r q : Env} (hz : renS L z = some z') (h : KeepL L r q) : KeepL L ((t, .s z') :: r) ((t, .s z) :: q) := ⟨rfl, .inr ⟨z, z', rfl, hz, rfl⟩, h⟩

theorem KeepL.get {L : List Nat} : ∀ {e e' : Env}, KeepL L e e' → ∀ t, e.get t = .s .none ∨ ∃ z z', e'.get t = .s z ∧ renS L z = some z' ∧ e.get t = .s z'
  | [], [], _, _ => .inl rfl
  | (a, x) :: r, (b, y) :: q, h, t => by
    obtain ⟨rfl, h2, h3⟩ := h
    rw [Env.get_cons, Env.get_cons]
    by_cases he : a = t
    · rw [if_pos he, if_pos he]; exact h2
    · rw [if_neg he, if_neg he]; exact KeepL.get h3 t
  | [], _ :: _, h, _ => h.elim
  | _ :: _, [], h, _ => h.elim

theorem Weak.keep {n m : Nat} {e e' : Env} {H H' : List AO} (L : List Nat) (hsub : subH L H L = some H') (hnd : nodup L = true) (hid : ∀ k, k < m → L[k]? = some k) (h : KeepL L e' e) : Weak n m e H e' H' := fun G0 G a hx hm hS hH hE => by
  subst hH
  refine ⟨G.sub L H', rfl, hx.keep hsub hnd fun k hk => hid k (by omega), hS.sub hsub hnd, rfl, fun u => ?_, hE.size, hE.defers⟩
  rcases h.get u with h1 | ⟨z, z', h1, h2, h3⟩
  · rw [h1]; trivial
  · rw [h3]
    have hv := hE.get u
    rw [h1] at hv
    exact renS_rep hsub h2 hv

/-- The head of a loop again. -/
@[irreducible] def Head {σ : Type} (n m0 : Nat) (st : σ → Env) (hp : σ → List AO) (Inv : σ → Prop) (μ : σ → Nat) (m : Nat) (e : Env) (H : List AO) : Prop :=
  ∃ s, Weak n m0 e H (st s) (hp s) ∧ Inv s ∧ μ s < m

theorem head_intro {σ : Type} {n m0 : Nat} {st : σ → Env} {hp : σ → List AO} {Inv : σ → Prop} {μ : σ → Nat} {m : Nat} {e : Env} {H : List AO} (s : σ) (hl : LeL (st s) e) (hH : H = hp s) (hI : Inv s) (hm : μ s < m) :
    Head n m0 st hp Inv μ m e H := by
  unfold Head
  exact ⟨s, hH ▸ Weak.le H hl, hI, hm⟩

theorem head_weak {σ : Type} {n m0 : Nat} {st : σ → Env} {hp : σ → List AO} {Inv : σ → Prop} {μ : σ → Nat} {m : Nat} {e : Env} {H : List AO} (s : σ) (hw : Weak n m0 e H (st s) (hp s)) (hI : Inv s) (hm : μ s < m) :
    Head n m0 st hp Inv μ m e H := by
  unfold Head
  exact ⟨s, hw, hI, hm⟩

/-- The head again, and some objects are dropped. -/
theorem head_keep {σ : Type} {n m0 : Nat} {st : σ → Env} {hp : σ → List AO} {Inv : σ → Prop} {μ : σ → Nat} {m : Nat} {e : Env} {H : List AO} (s : σ) (L : List Nat) (hnd : nodup L = true) (hid : ∀ k, k < m0 → L[k]? = some k)
    (hsub : subH L H L = some (hp s)) (h : KeepL L (st s) e) (hI : Inv s) (hm : μ s < m) : Head n m0 st hp Inv μ m e H :=
  head_weak s (Weak.keep L hsub hnd hid h) hI hm

theorem loop_weak {σ : Type} {n : Nat} {B : Body} {e : Env} {H : List AO} {K : Exit → Env → List AO → Prop} (st : σ → Env) (hp : σ → List AO) (Inv : σ → Prop) (μ : σ → Nat) (s0 : σ)
    (h0 : Weak n H.length e H (st s0) (hp s0)) (hI : Inv s0)
    (hstep : ∀ s, Inv s → B (st s) (hp s) fun ex e' H' => match ex with | .normal => Head n H.length st hp Inv μ (μ s) e' H' | ex => K ex e' H') : LoopA n B e H K := by
  let R : Env → List AO → Nat → Prop := fun e H k => ∃ s, e = st s ∧ H = hp s ∧ Inv s ∧ μ s = k
  refine ⟨fun e H => ∃ k, R e H k, fun e H => sInf' (R e H), ⟨_, _, h0, ⟨_, s0, rfl, rfl, hI, rfl⟩⟩, fun e' H' hI' => ?_⟩
  obtain ⟨s, rfl, rfl, hs, hm⟩ := sInf'_mem (R e' H') hI'
  have h := hstep s hs
  have hk : (fun (ex : Exit) (e1 : Env) (H1 : List AO) => match ex with | .normal => Head n H.length st hp Inv μ (μ s) e1 H1 | ex => K ex e1 H1) =
      fun ex e'' H'' => match ex with
      | .normal => ∃ e1 H1, Weak n H.length e'' H'' e1 H1 ∧ (∃ k, R e1 H1 k) ∧ sInf' (R e1 H1) < sInf' (R (st s) (hp s))
      | ex => K ex e'' H'' := by
    funext ex e1 H1
    cases ex with
    | normal =>
      refine propext ⟨fun h => ?_, fun ⟨e2, H2, hw, hR, hlt⟩ => ?_⟩
      · unfold Head at h
        obtain ⟨s', hw, hi, hlt⟩ := h
        have hR : R (st s') (hp s') (μ s') := ⟨s', rfl, rfl, hi, rfl⟩
        exact ⟨_, _, hw, ⟨_, hR⟩, Nat.lt_of_le_of_lt (sInf'_le _ hR) (hm ▸ hlt)⟩
      · obtain ⟨s', rfl, rfl, hi, hmu⟩ := sInf'_mem _ hR
        unfold Head
        exact ⟨s', hw, hi, by rw [hm, hmu]; exact hlt⟩
    | _ => rfl
  exact hk ▸ h

/-- A loop: what its state is made of, what holds of that, and a number that every round lowers. -/
theorem loop_intro {σ : Type} {n : Nat} {B : Body} {e : Env} {H : List AO} {K : Exit → Env → List AO → Prop} (st : σ → Env) (hp : σ → List AO) (Inv : σ → Prop) (μ : σ → Nat) (s0 : σ)
    (h0 : LeL (st s0) e) (hH : H = hp s0) (hI : Inv s0)
    (hstep : ∀ s, Inv s → B (st s) (hp s) fun ex e' H' => match ex with | .normal => Head n H.length st hp Inv μ (μ s) e' H' | ex => K ex e' H') : LoopA n B e H K :=
  loop_weak st hp Inv μ s0 (hH ▸ Weak.le H h0) hI hstep

/-! Lines of tables: functions that look at no object. -/
def saysU (g : Int → Option Prop × SV) : Says := fun args H => match args, H with
  | [.c (.p (.v (.int .u8 x)))], [] => some ((g x).1, (g x).2, [])
  | _, _ => none

theorem extU {P : Program} {T : Table} (hT : TSound P T) (f : FuncId) {fn : Func} (hf : P.funcs[f]? = some fn) (hname : (fn.name == "runtime.NumGoroutine") = false) (hn : 1 ≤ fn.ntmps) (g : Int → Option Prop × SV) (ks : List Nat)
    (h : ∀ (x : Int), holdsO (g x).1 → runF ⟨P, T⟩ fn ks [] [.c (.p (.v (.int .u8 x)))] [] fun r' H'' => Ends r' H'' (g x).2 []) : TSound P (ext T f (saysU g)) :=
  ext_run hT hf hname ks fun args H p r H' hs hp => by
    unfold saysU at hs
    split at hs
    · cases hs
      exact ⟨hn, [], rfl, fun k hk => absurd hk (Nat.not_lt_zero k), h _ hp⟩
    · cases hs

def saysS (g : ByteArray → Option Prop × SV) : Says := fun args H => match args, H with
  | [.c (.p (.v (.string x)))], [] => some ((g x).1, (g x).2, [])
  | _, _ => none

theorem extS {P : Program} {T : Table} (hT : TSound P T) (f : FuncId) {fn : Func} (hf : P.funcs[f]? = some fn) (hname : (fn.name == "runtime.NumGoroutine") = false) (hn : 1 ≤ fn.ntmps) (g : ByteArray → Option Prop × SV) (ks : List Nat)
    (h : ∀ (x : ByteArray), holdsO (g x).1 → runF ⟨P, T⟩ fn ks [] [.c (.p (.v (.string x)))] [] fun r' H'' => Ends r' H'' (g x).2 []) : TSound P (ext T f (saysS g)) :=
  ext_run hT hf hname ks fun args H p r H' hs hp => by
    unfold saysS at hs
    split at hs
    · cases hs
      exact ⟨hn, [], rfl, fun k hk => absurd hk (Nat.not_lt_zero k), h _ hp⟩
    · cases hs

def saysI (g : Int → Option Prop × SV) : Says := fun args H => match args, H with
  | [.c (.p (.v (.int .i64 x)))], [] => some ((g x).1, (g x).2, [])
  | _, _ => none

theorem extI {P : Program} {T : Table} (hT : TSound P T) (f : FuncId) {fn : Func} (hf : P.funcs[f]? = some fn) (hname : (fn.name == "runtime.NumGoroutine") = false) (hn : 1 ≤ fn.ntmps) (g : Int → Option Prop × SV) (ks : List Nat)
    (h : ∀ (x : Int), holdsO (g x).1 → runF ⟨P, T⟩ fn ks [] [.c (.p (.v (.int .i64 x)))] [] fun r' H'' => Ends r' H'' (g x).2 []) : TSound P (ext T f (saysI g)) :=
  ext_run hT hf hname ks fun args H p r H' hs hp => by
    unfold saysI at hs
    split at hs
    · cases hs
      exact ⟨hn, [], rfl, fun k hk => absurd hk (Nat.not_lt_zero k), h _ hp⟩
    · cases hs

def saysSI (g : ByteArray → Int → Option Prop × SV) : Says := fun args H => match args, H with
  | [.c (.p (.v (.string x))), .c (.p (.v (.int .i64 y)))], [] => some ((g x y).1, (g x y).2, [])
  | _, _ => none

theorem extSI {P : Program} {T : Table} (hT : TSound P T) (f : FuncId) {fn : Func} (hf : P.funcs[f]? = some fn) (hname : (fn.name == "runtime.NumGoroutine") = false) (hn : 2 ≤ fn.ntmps) (g : ByteArray → Int → Option Prop × SV) (ks : List Nat)
    (h : ∀ (x : ByteArray) (y : Int), holdsO (g x y).1 → runF ⟨P, T⟩ fn ks [] [.c (.p (.v (.string x))), .c (.p (.v (.int .i64 y)))] [] fun r' H'' => Ends r' H'' (g x y).2 []) : TSound P (ext T f (saysSI g)) :=
  ext_run hT hf hname ks fun args H p r H' hs hp => by
    unfold saysSI at hs
    split at hs
    · cases hs
      exact ⟨hn, [], rfl, fun k hk => absurd hk (Nat.not_lt_zero k), h _ _ hp⟩
    · cases hs

def saysSS (g : ByteArray → ByteArray → Option Prop × SV) : Says := fun args H => match args, H with
  | [.c (.p (.v (.string x))), .c (.p (.v (.string y)))], [] => some ((g x y).1, (g x y).2, [])
  | _, _ => none

theorem extSS {P : Program} {T : Table} (hT : TSound P T) (f : FuncId) {fn : Func} (hf : P.funcs[f]? = some fn) (hname : (fn.name == "runtime.NumGoroutine") = false) (hn : 2 ≤ fn.ntmps) (g : ByteArray → ByteArray → Option Prop × SV) (ks : List Nat)
    (h : ∀ (x : ByteArray) (y : ByteArray), holdsO (g x y).1 → runF ⟨P, T⟩ fn ks [] [.c (.p (.v (.string x))), .c (.p (.v (.string y)))] [] fun r' H'' => Ends r' H'' (g x y).2 []) : TSound P (ext T f (saysSS g)) :=
  ext_run hT hf hname ks fun args H p r H' hs hp => by
    unfold saysSS at hs
    split at hs
    · cases hs
      exact ⟨hn, [], rfl, fun k hk => absurd hk (Nat.not_lt_zero k), h _ _ hp⟩
    · cases hs

def saysSU (g : ByteArray → Int → Option Prop × SV) : Says := fun args H => match args, H with
  | [.c (.p (.v (.string x))), .c (.p (.v (.int .u8 y)))], [] => some ((g x y).1, (g x y).2, [])
  | _, _ => none

theorem extSU {P : Program} {T : Table} (hT : TSound P T) (f : FuncId) {fn : Func} (hf : P.funcs[f]? = some fn) (hname : (fn.name == "runtime.NumGoroutine") = false) (hn : 2 ≤ fn.ntmps) (g : ByteArray → Int → Option Prop × SV) (ks : List Nat)
    (h : ∀ (x : ByteArray) (y : Int), holdsO (g x y).1 → runF ⟨P, T⟩ fn ks [] [.c (.p (.v (.string x))), .c (.p (.v (.int .u8 y)))] [] fun r' H'' => Ends r' H'' (g x y).2 []) : TSound P (ext T f (saysSU g)) :=
  ext_run hT hf hname ks fun args H p r H' hs hp => by
    unfold saysSU at hs
    split at hs
    · cases hs
      exact ⟨hn, [], rfl, fun k hk => absurd hk (Nat.not_lt_zero k), h _ _ hp⟩
    · cases hs

def saysUS (g : Int → ByteArray → Option Prop × SV) : Says := fun args H => match args, H with
  | [.c (.p (.v (.int .u8 x))), .c (.p (.v (.string y)))], [] => some ((g x y).1, (g x y).2, [])
  | _, _ => none

theorem extUS {P : Program} {T : Table} (hT : TSound P T) (f : FuncId) {fn : Func} (hf : P.funcs[f]? = some fn) (hname : (fn.name == "runtime.NumGoroutine") = false) (hn : 2 ≤ fn.ntmps) (g : Int → ByteArray → Option Prop × SV) (ks : List Nat)
    (h : ∀ (x : Int) (y : ByteArray), holdsO (g x y).1 → runF ⟨P, T⟩ fn ks [] [.c (.p (.v (.int .u8 x))), .c (.p (.v (.string y)))] [] fun r' H'' => Ends r' H'' (g x y).2 []) : TSound P (ext T f (saysUS g)) :=
  ext_run hT hf hname ks fun args H p r H' hs hp => by
    unfold saysUS at hs
    split at hs
    · cases hs
      exact ⟨hn, [], rfl, fun k hk => absurd hk (Nat.not_lt_zero k), h _ _ hp⟩
    · cases hs

def saysII (g : Int → Int → Option Prop × SV) : Says := fun args H => match args, H with
  | [.c (.p (.v (.int .i64 x))), .c (.p (.v (.int .i64 y)))], [] => some ((g x y).1, (g x y).2, [])
  | _, _ => none

theorem extII {P : Program} {T : Table} (hT : TSound P T) (f : FuncId) {fn : Func} (hf : P.funcs[f]? = some fn) (hname : (fn.name == "runtime.NumGoroutine") = false) (hn : 2 ≤ fn.ntmps) (g : Int → Int → Option Prop × SV) (ks : List Nat)
    (h : ∀ (x : Int) (y : Int), holdsO (g x y).1 → runF ⟨P, T⟩ fn ks [] [.c (.p (.v (.int .i64 x))), .c (.p (.v (.int .i64 y)))] [] fun r' H'' => Ends r' H'' (g x y).2 []) : TSound P (ext T f (saysII g)) :=
  ext_run hT hf hname ks fun args H p r H' hs hp => by
    unfold saysII at hs
    split at hs
    · cases hs
      exact ⟨hn, [], rfl, fun k hk => absurd hk (Nat.not_lt_zero k), h _ _ hp⟩
    · cases hs

def saysIIB (g : Int → Int → Bool → Option Prop × SV) : Says := fun args H => match args, H with
  | [.c (.p (.v (.int .i64 x))), .c (.p (.v (.int .i64 y))), .c (.p (.v (.bool z)))], [] => some ((g x y z).1, (g x y z).2, [])
  | _, _ => none

theorem extIIB {P : Program} {T : Table} (hT : TSound P T) (f : FuncId) {fn : Func} (hf : P.funcs[f]? = some fn) (hname : (fn.name == "runtime.NumGoroutine") = false) (hn : 3 ≤ fn.ntmps) (g : Int → Int → Bool → Option Prop × SV) (ks : List Nat)
    (h : ∀ (x : Int) (y : Int) (z : Bool), holdsO (g x y z).1 → runF ⟨P, T⟩ fn ks [] [.c (.p (.v (.int .i64 x))), .c (.p (.v (.int .i64 y))), .c (.p (.v (.bool z)))] [] fun r' H'' => Ends r' H'' (g x y z).2 []) : TSound P (ext T f (saysIIB g)) :=
  ext_run hT hf hname ks fun args H p r H' hs hp => by
    unfold saysIIB at hs
    split at hs
    · cases hs
      exact ⟨hn, [], rfl, fun k hk => absurd hk (Nat.not_lt_zero k), h _ _ _ hp⟩
    · cases hs

def saysSIB (g : ByteArray → Int → Bool → Option Prop × SV) : Says := fun args H => match args, H with
  | [.c (.p (.v (.string x))), .c (.p (.v (.int .i64 y))), .c (.p (.v (.bool z)))], [] => some ((g x y z).1, (g x y z).2, [])
  | _, _ => none

theorem extSIB {P : Program} {T : Table} (hT : TSound P T) (f : FuncId) {fn : Func} (hf : P.funcs[f]? = some fn) (hname : (fn.name == "runtime.NumGoroutine") = false) (hn : 3 ≤ fn.ntmps) (g : ByteArray → Int → Bool → Option Prop × SV) (ks : List Nat)
    (h : ∀ (x : ByteArray) (y : Int) (z : Bool), holdsO (g x y z).1 → runF ⟨P, T⟩ fn ks [] [.c (.p (.v (.string x))), .c (.p (.v (.int .i64 y))), .c (.p (.v (.bool z)))] [] fun r' H'' => Ends r' H'' (g x y z).2 []) : TSound P (ext T f (saysSIB g)) :=
  ext_run hT hf hname ks fun args H p r H' hs hp => by
    unfold saysSIB at hs
    split at hs
    · cases hs
      exact ⟨hn, [], rfl, fun k hk => absurd hk (Nat.not_lt_zero k), h _ _ _ hp⟩
    · cases hs

def saysSII (g : ByteArray → Int → Int → Option Prop × SV) : Says := fun args H => match args, H with
  | [.c (.p (.v (.string x))), .c (.p (.v (.int .i64 y))), .c (.p (.v (.int .i64 z)))], [] => some ((g x y z).1, (g x y z).2, [])
  | _, _ => none

theorem extSII {P : Program} {T : Table} (hT : TSound P T) (f : FuncId) {fn : Func} (hf : P.funcs[f]? = some fn) (hname : (fn.name == "runtime.NumGoroutine") = false) (hn : 3 ≤ fn.ntmps) (g : ByteArray → Int → Int → Option Prop × SV) (ks : List Nat)
    (h : ∀ (x : ByteArray) (y : Int) (z : Int), holdsO (g x y z).1 → runF ⟨P, T⟩ fn ks [] [.c (.p (.v (.string x))), .c (.p (.v (.int .i64 y))), .c (.p (.v (.int .i64 z)))] [] fun r' H'' => Ends r' H'' (g x y z).2 []) : TSound P (ext T f (saysSII g)) :=
  ext_run hT hf hname ks fun args H p r H' hs hp => by
    unfold saysSII at hs
    split at hs
    · cases hs
      exact ⟨hn, [], rfl, fun k hk => absurd hk (Nat.not_lt_zero k), h _ _ _ hp⟩
    · cases hs

/-- A line of a table, from a contract that was proved otherwise: the world stays. -/
theorem ext_calls {P : Program} {T : Table} (hT : TSound P T) (f : FuncId) {fn : Func} (hf : P.funcs[f]? = some fn) (hname : (fn.name == "runtime.NumGoroutine") = false) (hb : fn.body.isNone = false) {s : Says}
    (h : ∀ args H p r H', s args H = some (p, r, H') → holdsO p → H' = H ∧ ∀ G : View, Sim G → G.H = H → ∀ cargs : List Value, All2 (RepA G) args cargs →
      ∃ v, RepS G r v ∧ Calls P f cargs.toArray G.w fun e w' => e = .returned v ∧ w' = G.w) : TSound P (ext T f s) :=
  ext_sound hT fun args H p r H' hs hp G hS hH cargs ha => by
    obtain ⟨rfl, hc⟩ := h args H p r H' hs hp
    obtain ⟨v, hv, hcalls⟩ := hc G hS hH cargs ha
    refine .inr ⟨?_, hcalls.mono fun e w' ⟨he, hw⟩ => ⟨v, G, he, hw.symm, Ext.refl G, hS, hH, hv⟩⟩
    have hn' : ¬ fn.name = "runtime.NumGoroutine" := by simpa using hname
    have hb' : ∃ c, fn.body = some c := by
      cases h : fn.body with
      | none => rw [h] at hb; cases hb
      | some c => exact ⟨c, rfl⟩
    obtain ⟨c, hc⟩ := hb'
    simp [callFunc, hf, hn', hc]

/-- To look at the head of a loop while a proof is written. -/
@[irreducible] def Probe (_ : Env) (_ : List AO) : Prop := True

end Go.Ab

/- The characters of package token. -/
namespace Go.Ab
open Go.Proofs
set_option linter.unusedSectionVars false
set_option maxRecDepth 100000
variable [Base]

def letterB (c : Int) : Bool := decide (97 ≤ c) && decide (c ≤ 122) || (decide (65 ≤ c) && decide (c ≤ 90))
def digitB (c : Int) : Bool := decide (48 ≤ c) && decide (c ≤ 57)
def firstB (c : Int) : Bool := letterB c || decide (c = 95)
def wordB (c : Int) : Bool := firstB c || digitB c
def idxB (s : ByteArray) (c : Int) : Int := Lib.indexByte s.data.toList c.toNat.toUInt8
def nameB (c : Int) : Bool := wordB c || decide (0 ≤ idxB ⟨#[44, 46, 43, 45, 63, 35, 64]⟩ c)
def slashB (c : Int) : Bool := decide (97 ≤ c) && decide (c ≤ 122) || decide (c = 45)
def spaceB (c : Int) : Bool := decide (c = 32) || decide (c = 9) || decide (c = 13) || decide (c = 10)
def lineB (c : Int) : Bool := !decide (c = 10)

def T1 : Table := ext noTable 134 (saysSU fun s c => (none, .int .i64 (idxB s c)))
def T2 : Table := ext T1 127 (saysU fun c => (none, .bool (letterB c)))
def T3 : Table := ext T2 99 (saysU fun c => (none, .bool (digitB c)))
def T4 : Table := ext T3 97 (saysU fun c => (none, .bool (firstB c)))
def T5 : Table := ext T4 103 (saysU fun c => (none, .bool (wordB c)))
def T6 : Table := ext T5 128 (saysU fun c => (none, .bool (nameB c)))
def T7 : Table := ext T6 133 (saysU fun c => (none, .bool (slashB c)))
def T8 : Table := ext T7 109 (saysU fun c => (none, .bool (spaceB c)))
def T9 : Table := ext T8 107 (saysU fun c => (none, .bool (lineB c)))

theorem t1 : TSound Tryz.prog T1 := by
  refine ext_calls (noTable_sound _) 134 (fn := Tryz.f134) rfl rfl rfl fun args H p r H' hs hp => ?_
  unfold saysSU at hs
  split at hs
  · cases hs
    refine ⟨rfl, fun G hS hH cargs ha => ?_⟩
    cases ha with
    | cons h1 t1 =>
      cases t1 with
      | cons h2 t2 =>
        cases t2
        obtain ⟨_, rfl⟩ := h1
        obtain ⟨_, rfl⟩ := h2
        exact ⟨_, ⟨rfl, rfl⟩, Tryz.strings_IndexByte _ _ _⟩
  · cases hs

theorem t2 : TSound Tryz.prog T2 := by
  refine extU t1 127 (fn := Tryz.f127) rfl rfl (by decide) _ [0, 2] fun c _ => ?_
  conv => whnf
  exact ends_eq ⟨rfl, rfl⟩

theorem t3 : TSound Tryz.prog T3 := by
  refine extU t2 99 (fn := Tryz.f99) rfl rfl (by decide) _ [0, 2] fun c _ => ?_
  conv => whnf
  exact ends_eq ⟨rfl, rfl⟩

theorem t4 : TSound Tryz.prog T4 := by
  refine extU t3 97 (fn := Tryz.f97) rfl rfl (by decide) _ [0, 2] fun c _ => ?_
  conv => whnf
  exact ends_eq ⟨rfl, rfl⟩

theorem t5 : TSound Tryz.prog T5 := by
  refine extU t4 103 (fn := Tryz.f103) rfl rfl (by decide) _ [0, 2] fun c _ => ?_
  conv => whnf
  exact ends_eq ⟨rfl, rfl⟩

theorem t6 : TSound Tryz.prog T6 := by
  refine extU t5 128 (fn := Tryz.f128) rfl rfl (by decide) _ [0, 2] fun c _ => ?_
  conv => whnf
  exact ends_eq ⟨rfl, rfl⟩

theorem t7 : TSound Tryz.prog T7 := by
  refine extU t6 133 (fn := Tryz.f133) rfl rfl (by decide) _ [0, 2] fun c _ => ?_
  conv => whnf
  exact ends_eq ⟨rfl, rfl⟩

theorem t8 : TSound Tryz.prog T8 := by
  refine extU t7 109 (fn := Tryz.f109) rfl rfl (by decide) _ [0, 2] fun c _ => ?_
  conv => whnf
  exact ends_eq ⟨rfl, rfl⟩

theorem t9 : TSound Tryz.prog T9 := by
  refine extU t8 107 (fn := Tryz.f107) rfl rfl (by decide) _ [0, 2] fun c _ => ?_
  conv => whnf
  exact ends_eq ⟨rfl, rfl⟩


/-- How many characters of a class a text begins with. -/
def leadN (p : Int → Bool) (s : ByteArray) : Nat := (s.data.toList.takeWhile fun u : UInt8 => p ((u.toNat : Nat) : Int)).length

theorem takeWhile_len {α : Type} (P : α → Bool) (d : α) : ∀ (l : List α) (i : Nat), i ≤ l.length → (∀ j, j < i → P (l.getD j d) = true) → (i = l.length ∨ P (l.getD i d) = false) → (l.takeWhile P).length = i
  | [], i, h, _, _ => by simp at h; simp [h]
  | x :: l, 0, _, _, h => by
    rcases h with h | h
    · simp at h
    · simp at h; simp [h]
  | x :: l, i + 1, h, ha, hb => by
    have h0 : P x = true := by simpa using ha 0 (Nat.succ_pos i)
    have := takeWhile_len P d l i (by simpa using h) (fun j hj => by simpa using ha (j + 1) (by omega)) (by simpa using hb)
    simp [h0, this]

theorem takeWhile_le {α : Type} (P : α → Bool) : ∀ (l : List α), (l.takeWhile P).length ≤ l.length
  | [] => Nat.le_refl _
  | x :: l => by
    have := takeWhile_le P l
    simp only [List.takeWhile_cons]
    split
    · simp only [List.length_cons]; omega
    · simp

theorem size_list (s : ByteArray) : s.data.toList.length = s.size := rfl

theorem leadN_eq {p : Int → Bool} {s : ByteArray} (i : Nat) (h : i ≤ s.size) (ha : ∀ j : Nat, j < i → p (byteAt s j) = true) (hb : i = s.size ∨ p (byteAt s i) = false) : leadN p s = i :=
  takeWhile_len (fun u : UInt8 => p ((u.toNat : Nat) : Int)) 0 s.data.toList i h ha hb

theorem leadN_le (p : Int → Bool) (s : ByteArray) : leadN p s ≤ s.size := takeWhile_le _ _

abbrev fits (s : ByteArray) : Prop := s.size ≤ 1000000000

def cls (f : FuncId) : Option (Int → Bool) := match Nat.beq f 128, Nat.beq f 103, Nat.beq f 107, Nat.beq f 109, Nat.beq f 133 with
  | true, _, _, _, _ => some nameB
  | _, true, _, _, _ => some wordB
  | _, _, true, _, _ => some lineB
  | _, _, _, true, _ => some spaceB
  | _, _, _, _, true => some slashB
  | _, _, _, _, _ => none

theorem cls_cases {f : FuncId} {p : Int → Bool} (h : cls f = some p) : (f = 128 ∧ p = nameB) ∨ (f = 103 ∧ p = wordB) ∨ (f = 107 ∧ p = lineB) ∨ (f = 109 ∧ p = spaceB) ∨ (f = 133 ∧ p = slashB) := by
  unfold cls at h
  by_cases h1 : f = 128
  · subst h1; exact .inl ⟨rfl, (Option.some.inj h).symm⟩
  by_cases h2 : f = 103
  · subst h2; exact .inr (.inl ⟨rfl, (Option.some.inj h).symm⟩)
  by_cases h3 : f = 107
  · subst h3; exact .inr (.inr (.inl ⟨rfl, (Option.some.inj h).symm⟩))
  by_cases h4 : f = 109
  · subst h4; exact .inr (.inr (.inr (.inl ⟨rfl, (Option.some.inj h).symm⟩)))
  by_cases h5 : f = 133
  · subst h5; exact .inr (.inr (.inr (.inr ⟨rfl, (Option.some.inj h).symm⟩)))
  have e : ∀ n, ¬ f = n → Nat.beq f n = false := fun n hn => by
    cases hb : Nat.beq f n with
    | false => rfl
    | true => exact absurd (Nat.eq_of_beq_eq_true hb) hn
  rw [e _ h1, e _ h2, e _ h3, e _ h4, e _ h5] at h
  cases h

def saysLead : Says := fun args H => match args, H with
  | [.c (.p (.v (.string s))), .c (.p (.v (.func (.func f) a b)))], [] => match cls f, a.toList, b.toList with
    | some p, [], [] => some (some (fits s), .int .i64 (leadN p s), [])
    | _, _, _ => none
  | _, _ => none

def T10 : Table := ext T9 102 saysLead

theorem lead32 (s : ByteArray) (hs : fits s) :
    runF ⟨Tryz.prog, T9⟩ Tryz.f102 [0, 1, 4, 5, 7, 8, 9, 16] [] [.c (.p (.v (.string s))), .c (.p (.v (.func (.func 128) #[] #[])))] [] fun r' H'' => Ends r' H'' (.int .i64 (leadN nameB s)) [] := by
  conv => whnf
  refine loop_intro (σ := Nat) (fun i => [(0, XV.s (SV.str s)), (1, XV.s (.v (.func (.func 128) #[] #[]))), (4, XV.s (SV.int .i64 0)), (5, XV.s .none), (7, XV.s (.int .i64 s.size)), (8, XV.s (.int .i64 i)), (9, XV.s .none), (16, XV.s .none)]) (fun _ => [])
    (fun i => i ≤ s.size ∧ ∀ j : Nat, j < i → nameB (byteAt s j) = true) (fun i => s.size - i) 0 ?_ rfl ?_ fun i hI => ?_
  · repeat (first | exact LeL.nil | refine LeL.drop ?_ | refine LeL.same ?_)
  · exact ⟨Nat.zero_le _, fun j hj => absurd hj (Nat.not_lt_zero j)⟩
  conv => whnf
  refine cond_intro (fun h => ?_) (fun h => ?_)
  · have h' : i < s.size := by simpa using h
    conv => whnf
    refine ⟨by omega, ?_⟩
    conv => whnf
    refine cond_intro (fun h2 => ?_) (fun h2 => ?_)
    · have h3 : nameB (byteAt s i) = false := by simpa using h2
      conv => whnf
      refine ends_eq ⟨?_, rfl⟩
      rw [leadN_eq i hI.1 hI.2 (.inr h3)]
    · have h3 : nameB (byteAt s i) = true := by simpa using h2
      conv => whnf
      refine ⟨by unfold inI64; omega, ?_⟩
      conv => whnf
      refine head_intro (i + 1) ?_ rfl ?_ ?_
      · repeat (first | exact LeL.nil | refine LeL.drop ?_ | refine LeL.same ?_)
      · refine ⟨h', fun j hj => ?_⟩
        rcases Nat.lt_succ_iff_lt_or_eq.1 hj with h4 | rfl
        · exact hI.2 j h4
        · exact h3
      · omega
  · have h' : ¬ i < s.size := by simpa using h
    conv => whnf
    refine ends_eq ⟨?_, rfl⟩
    rw [leadN_eq s.size (Nat.le_refl _) (fun j hj => hI.2 j (by omega)) (.inl rfl)]

theorem lead35 (s : ByteArray) (hs : fits s) :
    runF ⟨Tryz.prog, T9⟩ Tryz.f102 [0, 1, 4, 5, 7, 8, 9, 16] [] [.c (.p (.v (.string s))), .c (.p (.v (.func (.func 103) #[] #[])))] [] fun r' H'' => Ends r' H'' (.int .i64 (leadN wordB s)) [] := by
  conv => whnf
  refine loop_intro (σ := Nat) (fun i => [(0, XV.s (SV.str s)), (1, XV.s (.v (.func (.func 103) #[] #[]))), (4, XV.s (SV.int .i64 0)), (5, XV.s .none), (7, XV.s (.int .i64 s.size)), (8, XV.s (.int .i64 i)), (9, XV.s .none), (16, XV.s .none)]) (fun _ => [])
    (fun i => i ≤ s.size ∧ ∀ j : Nat, j < i → wordB (byteAt s j) = true) (fun i => s.size - i) 0 ?_ rfl ?_ fun i hI => ?_
  · repeat (first | exact LeL.nil | refine LeL.drop ?_ | refine LeL.same ?_)
  · exact ⟨Nat.zero_le _, fun j hj => absurd hj (Nat.not_lt_zero j)⟩
  conv => whnf
  refine cond_intro (fun h => ?_) (fun h => ?_)
  · have h' : i < s.size := by simpa using h
    conv => whnf
    refine ⟨by omega, ?_⟩
    conv => whnf
    refine cond_intro (fun h2 => ?_) (fun h2 => ?_)
    · have h3 : wordB (byteAt s i) = false := by simpa using h2
      conv => whnf
      refine ends_eq ⟨?_, rfl⟩
      rw [leadN_eq i hI.1 hI.2 (.inr h3)]
    · have h3 : wordB (byteAt s i) = true := by simpa using h2
      conv => whnf
      refine ⟨by unfold inI64; omega, ?_⟩
      conv => whnf
      refine head_intro (i + 1) ?_ rfl ?_ ?_
      · repeat (first | exact LeL.nil | refine LeL.drop ?_ | refine LeL.same ?_)
      · refine ⟨h', fun j hj => ?_⟩
        rcases Nat.lt_succ_iff_lt_or_eq.1 hj with h4 | rfl
        · exact hI.2 j h4
        · exact h3
      · omega
  · have h' : ¬ i < s.size := by simpa using h
    conv => whnf
    refine ends_eq ⟨?_, rfl⟩
    rw [leadN_eq s.size (Nat.le_refl _) (fun j hj => hI.2 j (by omega)) (.inl rfl)]

theorem lead60 (s : ByteArray) (hs : fits s) :
    runF ⟨Tryz.prog, T9⟩ Tryz.f102 [0, 1, 4, 5, 7, 8, 9, 16] [] [.c (.p (.v (.string s))), .c (.p (.v (.func (.func 107) #[] #[])))] [] fun r' H'' => Ends r' H'' (.int .i64 (leadN lineB s)) [] := by
  conv => whnf
  refine loop_intro (σ := Nat) (fun i => [(0, XV.s (SV.str s)), (1, XV.s (.v (.func (.func 107) #[] #[]))), (4, XV.s (SV.int .i64 0)), (5, XV.s .none), (7, XV.s (.int .i64 s.size)), (8, XV.s (.int .i64 i)), (9, XV.s .none), (16, XV.s .none)]) (fun _ => [])
    (fun i => i ≤ s.size ∧ ∀ j : Nat, j < i → lineB (byteAt s j) = true) (fun i => s.size - i) 0 ?_ rfl ?_ fun i hI => ?_
  · repeat (first | exact LeL.nil | refine LeL.drop ?_ | refine LeL.same ?_)
  · exact ⟨Nat.zero_le _, fun j hj => absurd hj (Nat.not_lt_zero j)⟩
  conv => whnf
  refine cond_intro (fun h => ?_) (fun h => ?_)
  · have h' : i < s.size := by simpa using h
    conv => whnf
    refine ⟨by omega, ?_⟩
    conv => whnf
    refine cond_intro (fun h2 => ?_) (fun h2 => ?_)
    · have h3 : lineB (byteAt s i) = false := by simpa using h2
      conv => whnf
      refine ends_eq ⟨?_, rfl⟩
      rw [leadN_eq i hI.1 hI.2 (.inr h3)]
    · have h3 : lineB (byteAt s i) = true := by simpa using h2
      conv => whnf
      refine ⟨by unfold inI64; omega, ?_⟩
      conv => whnf
      refine head_intro (i + 1) ?_ rfl ?_ ?_
      · repeat (first | exact LeL.nil | refine LeL.drop ?_ | refine LeL.same ?_)
      · refine ⟨h', fun j hj => ?_⟩
        rcases Nat.lt_succ_iff_lt_or_eq.1 hj with h4 | rfl
        · exact hI.2 j h4
        · exact h3
      · omega
  · have h' : ¬ i < s.size := by simpa using h
    conv => whnf
    refine ends_eq ⟨?_, rfl⟩
    rw [leadN_eq s.size (Nat.le_refl _) (fun j hj => hI.2 j (by omega)) (.inl rfl)]

theorem lead62 (s : ByteArray) (hs : fits s) :
    runF ⟨Tryz.prog, T9⟩ Tryz.f102 [0, 1, 4, 5, 7, 8, 9, 16] [] [.c (.p (.v (.string s))), .c (.p (.v (.func (.func 109) #[] #[])))] [] fun r' H'' => Ends r' H'' (.int .i64 (leadN spaceB s)) [] := by
  conv => whnf
  refine loop_intro (σ := Nat) (fun i => [(0, XV.s (SV.str s)), (1, XV.s (.v (.func (.func 109) #[] #[]))), (4, XV.s (SV.int .i64 0)), (5, XV.s .none), (7, XV.s (.int .i64 s.size)), (8, XV.s (.int .i64 i)), (9, XV.s .none), (16, XV.s .none)]) (fun _ => [])
    (fun i => i ≤ s.size ∧ ∀ j : Nat, j < i → spaceB (byteAt s j) = true) (fun i => s.size - i) 0 ?_ rfl ?_ fun i hI => ?_
  · repeat (first | exact LeL.nil | refine LeL.drop ?_ | refine LeL.same ?_)
  · exact ⟨Nat.zero_le _, fun j hj => absurd hj (Nat.not_lt_zero j)⟩
  conv => whnf
  refine cond_intro (fun h => ?_) (fun h => ?_)
  · have h' : i < s.size := by simpa using h
    conv => whnf
    refine ⟨by omega, ?_⟩
    conv => whnf
    refine cond_intro (fun h2 => ?_) (fun h2 => ?_)
    · have h3 : spaceB (byteAt s i) = false := by simpa using h2
      conv => whnf
      refine ends_eq ⟨?_, rfl⟩
      rw [leadN_eq i hI.1 hI.2 (.inr h3)]
    · have h3 : spaceB (byteAt s i) = true := by simpa using h2
      conv => whnf
      refine ⟨by unfold inI64; omega, ?_⟩
      conv => whnf
      refine head_intro (i + 1) ?_ rfl ?_ ?_
      · repeat (first | exact LeL.nil | refine LeL.drop ?_ | refine LeL.same ?_)
      · refine ⟨h', fun j hj => ?_⟩
        rcases Nat.lt_succ_iff_lt_or_eq.1 hj with h4 | rfl
        · exact hI.2 j h4
        · exact h3
      · omega
  · have h' : ¬ i < s.size := by simpa using h
    conv => whnf
    refine ends_eq ⟨?_, rfl⟩
    rw [leadN_eq s.size (Nat.le_refl _) (fun j hj => hI.2 j (by omega)) (.inl rfl)]

theorem lead71 (s : ByteArray) (hs : fits s) :
    runF ⟨Tryz.prog, T9⟩ Tryz.f102 [0, 1, 4, 5, 7, 8, 9, 16] [] [.c (.p (.v (.string s))), .c (.p (.v (.func (.func 133) #[] #[])))] [] fun r' H'' => Ends r' H'' (.int .i64 (leadN slashB s)) [] := by
  conv => whnf
  refine loop_intro (σ := Nat) (fun i => [(0, XV.s (SV.str s)), (1, XV.s (.v (.func (.func 133) #[] #[]))), (4, XV.s (SV.int .i64 0)), (5, XV.s .none), (7, XV.s (.int .i64 s.size)), (8, XV.s (.int .i64 i)), (9, XV.s .none), (16, XV.s .none)]) (fun _ => [])
    (fun i => i ≤ s.size ∧ ∀ j : Nat, j < i → slashB (byteAt s j) = true) (fun i => s.size - i) 0 ?_ rfl ?_ fun i hI => ?_
  · repeat (first | exact LeL.nil | refine LeL.drop ?_ | refine LeL.same ?_)
  · exact ⟨Nat.zero_le _, fun j hj => absurd hj (Nat.not_lt_zero j)⟩
  conv => whnf
  refine cond_intro (fun h => ?_) (fun h => ?_)
  · have h' : i < s.size := by simpa using h
    conv => whnf
    refine ⟨by omega, ?_⟩
    conv => whnf
    refine cond_intro (fun h2 => ?_) (fun h2 => ?_)
    · have h3 : slashB (byteAt s i) = false := by simpa using h2
      conv => whnf
      refine ends_eq ⟨?_, rfl⟩
      rw [leadN_eq i hI.1 hI.2 (.inr h3)]
    · have h3 : slashB (byteAt s i) = true := by simpa using h2
      conv => whnf
      refine ⟨by unfold inI64; omega, ?_⟩
      conv => whnf
      refine head_intro (i + 1) ?_ rfl ?_ ?_
      · repeat (first | exact LeL.nil | refine LeL.drop ?_ | refine LeL.same ?_)
      · refine ⟨h', fun j hj => ?_⟩
        rcases Nat.lt_succ_iff_lt_or_eq.1 hj with h4 | rfl
        · exact hI.2 j h4
        · exact h3
      · omega
  · have h' : ¬ i < s.size := by simpa using h
    conv => whnf
    refine ends_eq ⟨?_, rfl⟩
    rw [leadN_eq s.size (Nat.le_refl _) (fun j hj => hI.2 j (by omega)) (.inl rfl)]

theorem t10 : TSound Tryz.prog T10 := by
  refine ext_run t9 (f := 102) (fn := Tryz.f102) rfl rfl [0, 1, 4, 5, 7, 8, 9, 16] fun args H p r H' hs hp => ?_
  unfold saysLead at hs
  split at hs
  · rename_i s f a b
    split at hs
    · rename_i q hc ha hb
      cases hs
      have ha' : a = #[] := by simpa using ha
      have hb' : b = #[] := by simpa using hb
      subst ha' hb'
      refine ⟨by show 2 ≤ _; decide, [], rfl, fun k hk => absurd hk (Nat.not_lt_zero k), ?_⟩
      rcases cls_cases hc with ⟨rfl, rfl⟩ | ⟨rfl, rfl⟩ | ⟨rfl, rfl⟩ | ⟨rfl, rfl⟩ | ⟨rfl, rfl⟩
      · exact lead32 s hp
      · exact lead35 s hp
      · exact lead60 s hp
      · exact lead62 s hp
      · exact lead71 s hp
    · cases hs
  · cases hs
end Go.Ab
