/- Package include: the loader. -/
import Derived.Test.YteidakoieemlgaaGreatTX21toY20
namespace Go.Ab
open Go.Proofs
set_option linter.unusedSectionVars false
set_option maxRecDepth 100000
variable [Glob]

theorem topsS_vld : ∀ (k : Nat) {r : Sr}, Vld r → (topsS k r).1 = 0 → Vld (topsS k r).2 := by
  intro k
  induction k with
  | zero => intro r h h0; exact h
  | succ k ih =>
    intro r h h0
    unfold topsS at h0 ⊢
    by_cases h8 : r.tok.1 = 8
    · rw [if_pos h8]
      exact h
    · rw [if_neg h8] at h0 ⊢
      have g := topS_good h
      by_cases h1 : (topS r).1 = 0
      · rw [if_pos h1] at h0 ⊢
        rw [h1] at g
        exact ih (g.vld h) h0
      · rw [if_neg h1] at h0
        exact absurd h0 h1
theorem srcV_dl (s : ByteArray) (f : Int) : (srcV s f).defs.length ≤ 12002 := by
  unfold srcV
  by_cases h0 : (readV s f).err = 0
  · rw [if_pos h0]
    dsimp only
    by_cases h1 : (topsS (readV s f).toks.length ⟨(readV s f).toks, 0, 0, []⟩).1 = 0
    · rw [if_pos h1]
      have v := topsS_vld _ (srV_vld' h0) h1
      have := v.dfs
      have := v.len
      have := v.lt
      show (topsS (readV s f).toks.length ⟨(readV s f).toks, 0, 0, []⟩).2.defs.length ≤ 12002
      omega
    · rw [if_neg h1]
      exact Nat.zero_le _
  · rw [if_neg h0]
    exact Nat.zero_le _

abbrev spC : CT := .pair .bool (.pair (.int .i64) (.int .i64))
abbrev Ps : Type := Int × Int × Int
structure Ld where
  files : List flC.den
  names : List ByteArray
  es : List (ByteArray × spC.den)
  defs : List defC.den
abbrev LdR : Type := (Ps × Int) × Ld
abbrev LdI : Type := ByteArray → Ps → Ld → Option LdR

/-! What is read, as far as no file is included again when it has been read: 'none' stands for what is not said. -/
def Ld.put (l : Ld) (d : defC.den) : Ld := { l with defs := l.defs ++ [d] }
def addF (inc : LdI) (d : defC.den) (l : Ld) : Option LdR :=
  if d.1 = 6 then inc d.2.2.1 d.2.2.2.2 l
  else if 6000 ≤ l.defs.length then some ((d.2.2.2.2, 3), l) else some (((0, 0, 0), 0), l.put d)
def goF (inc : LdI) : List defC.den → Ld → Option LdR
  | [], l => some (((0, 0, 0), 0), l)
  | d :: r, l => match addF inc d l with
    | some x => if x.1.2 = 0 then goF inc r x.2 else some x
    | none => none
def Ld.nm (l : Ld) (i : Nat) : ByteArray := (l.files.getD i flC.dflt).1
def Ld.src (l : Ld) (i : Nat) : SrcV := srcV (l.files.getD i flC.dflt).2 i
def Ld.opened (l : Ld) (i : Nat) : Ld := { l with names := l.names ++ [l.nm i], es := setE (k := .str) (v := spC) (l.nm i) (true, 0, 0) l.es }
def Ld.closed (l l' : Ld) (i : Nat) : Ld := { l' with es := setE (k := .str) (v := spC) (l.nm i) (false, (l.defs.length : Nat), (l'.defs.length : Nat)) l'.es }
def readF (inc : LdI) (i : Nat) (l : Ld) : Option LdR :=
  if (l.src i).err ≠ 0 then some ((((l.src i).file, (l.src i).line, (l.src i).column), (l.src i).err), l)
  else if 1000000 ≤ l.names.length then none
  else match goF inc (l.src i).defs (l.opened i) with
    | some x => if x.1.2 = 0 then some (((0, 0, 0), 0), l.closed x.2 i) else some x
    | none => none
def incF : Nat → LdI
  | 0, _, _, _ => none
  | k + 1, nm, p, l =>
    if seekV l.files nm < 0 then some ((p, 4), l)
    else match findE (k := .str) (v := spC) l.es nm with
      | some s => if s.1 = true then some ((p, 10), l) else none
      | none => readF (incF k) (seekV l.files nm).toNat l

def KpF (inc : LdI) : Prop := ∀ nm p l x, inc nm p l = some x → x.2.files = l.files
theorem addF_kp {inc : LdI} (hi : KpF inc) {d : defC.den} {l : Ld} {x : LdR} (h : addF inc d l = some x) : x.2.files = l.files := by
  unfold addF at h
  split at h
  · exact hi _ _ _ _ h
  · split at h
    · cases h; rfl
    · cases h; rfl
theorem goF_kp {inc : LdI} (hi : KpF inc) : ∀ (ds : List defC.den) {l : Ld} {x : LdR}, goF inc ds l = some x → x.2.files = l.files := by
  intro ds
  induction ds with
  | nil => intro l x h; cases h; rfl
  | cons d r ih =>
    intro l x h
    unfold goF at h
    split at h
    · rename_i y hy
      have h1 := addF_kp hi hy
      split at h
      · exact (ih h).trans h1
      · cases h; exact h1
    · cases h
theorem readF_kp {inc : LdI} (hi : KpF inc) {i : Nat} {l : Ld} {x : LdR} (h : readF inc i l = some x) : x.2.files = l.files := by
  unfold readF at h
  split at h
  · cases h; rfl
  · split at h
    · cases h
    · split at h
      · rename_i y hy
        have h1 := goF_kp hi _ hy
        split at h
        · cases h; exact h1
        · cases h; exact h1
      · cases h
theorem incF_kp : ∀ k, KpF (incF k) := by
  intro k
  induction k with
  | zero => intro nm p l x h; cases h
  | succ k ih =>
    intro nm p l x h
    unfold incF at h
    split at h
    · cases h; rfl
    · split at h
      · split at h
        · cases h; rfl
        · cases h
      · exact readF_kp ih h

abbrev ldT (l : Ld) : List AO := [.tok 9 .str l.names.length true, .map .str spC l.es, .tok 52 defC l.defs.length true]
abbrev ldH (l : Ld) : List AO := .row [.p (.l flC l.files), .own 1 .str l.names, .mp 2, .own 3 defC l.defs] :: ldT l
def ldOf (H : List AO) : Option Ld :=
  match H with
  | [.row [.p (.l c0 fs), .own _ c1 ns, _, .own _ c2 ds], .tok _ _ _ _, .map ck cv es, .tok _ _ _ _] =>
    match castD (e := flC) (e' := c0) fs, castD (e := .str) (e' := c1) ns, castD (e := defC) (e' := c2) ds, castD (e := .pair .str spC) (e' := .pair ck cv) es with
    | some fs, some ns, some ds, some es => some ⟨fs, ns, es, ds⟩
    | _, _, _, _ => none
  | _ => none

abbrev psA (p : Ps) : List AC := [.int .i64 p.1, .int .i64 p.2.1, .int .i64 p.2.2]
abbrev resL (x : Ps × Int) : SV := .tup [.agg (psA x.1), .c (.int .i64 x.2)]

/-- A function of the loader, as far as something is said. -/
def saysL {α : Type} (da : List AV → Option α) (ea : α → List AV) (pre : Ld → α → Prop) (g : Ld → α → Option LdR) : Says := fun args H => match args with
  | .c (.ptr 0 0) :: al => match da al, ldOf H with
    | some a, some l => some (some (al = ea a ∧ H = ldH l ∧ pre l a ∧ (g l a).isSome = true), resL ((g l a).getD (((0, 0, 0), 0), l)).1, ldH ((g l a).getD (((0, 0, 0), 0), l)).2)
    | _, _ => none
  | _ => none

theorem id4L : ∀ k, k < 4 → [0, 1, 2, 3][k]? = some k := fun k hk => by
  have : k = 0 ∨ k = 1 ∨ k = 2 ∨ k = 3 := by omega
  rcases this with rfl | rfl | rfl | rfl <;> rfl

theorem extLd {α : Type} {P : Program} {T : Table} (hT : TSound P T) (f : FuncId) {fn : Func} (hf : P.funcs[f]? = some fn) (hname : (fn.name == "runtime.NumGoroutine") = false) (da : List AV → Option α) (ea : α → List AV) (pre : Ld → α → Prop) (g : Ld → α → Option LdR) (hn : ∀ a, (ea a).length + 1 ≤ fn.ntmps) (ks : List Nat)
    (h : ∀ l a x, pre l a → g l a = some x → runF ⟨P, T⟩ fn ks [0, 1, 2, 3] (.c (.ptr 0 0) :: ea a) (ldH l) fun r' H'' => Ends r' H'' (resL x.1) (ldH x.2)) : TSound P (ext T f (saysL da ea pre g)) :=
  ext_run hT hf hname ks fun args H p r H' hs hp => by
    unfold saysL at hs
    split at hs
    · split at hs
      · rename_i a l _ _
        cases hs
        obtain ⟨rfl, rfl, hpre, hx⟩ := hp
        obtain ⟨x, hx⟩ := Option.isSome_iff_exists.1 hx
        rw [hx]
        exact ⟨hn _, [0, 1, 2, 3], rfl, id4L, h _ _ _ hpre hx⟩
      · cases hs
    · cases hs

def daInc : List AV → Option (ByteArray × Ps)
  | [.c (.p (.v (.string n))), .agg [.p (.v (.int .i64 a)), .p (.v (.int .i64 b)), .p (.v (.int .i64 c))]] => some (n, a, b, c)
  | _ => none
def eaInc (x : ByteArray × Ps) : List AV := [.c (.str x.1), .agg (psA x.2)]
def daDef : List AV → Option defC.den
  | [.agg [.p (.v (.int .i64 k)), .p (.v (.string a)), .p (.v (.string b)), .p (.l c0 ps), .p (.v (.int .i64 x)), .p (.v (.int .i64 y)), .p (.v (.int .i64 z))]] => match castD (e := prtC) (e' := c0) ps with
    | some ps => some (k, a, b, ps, x, y, z)
    | none => none
  | _ => none
def eaDef (d : defC.den) : List AV := [.agg [.int .i64 d.1, .str d.2.1, .str d.2.2.1, .p (.l prtC d.2.2.2.1), .int .i64 d.2.2.2.2.1, .int .i64 d.2.2.2.2.2.1, .int .i64 d.2.2.2.2.2.2]]

def sI (k : Nat) : Says := saysL daInc eaInc (fun l _ => l.files.length ≤ 1000000000) fun l x => incF k x.1 x.2 l
def sA (k : Nat) : Says := saysL daDef eaDef (fun l _ => l.files.length ≤ 1000000000) fun l d => addF (incF k) d l
def sRd (k : Nat) : Says := saysL daN' eaN' (fun l i => l.files.length ≤ 1000000000 ∧ i < l.files.length) fun l i => readF (incF k) i l
where
  daN' : List AV → Option Nat
    | [.c (.p (.v (.int .i64 n)))] => some n.toNat
    | _ => none
  eaN' (n : Nat) : List AV := [.c (.int .i64 (n : Int))]

section
variable {T : Table}
abbrev tI (T : Table) (k : Nat) : Table := ext (I4 T) 67 (sI k)
abbrev tA (T : Table) (k : Nat) : Table := ext (tI T k) 121 (sA k)
abbrev tRd (T : Table) (k : Nat) : Table := ext (tA T k) 93 (sRd k)

theorem iA (k : Nat) (hk : TSound Tryz.prog (tI T k)) : TSound Tryz.prog (tA T k) := by
  refine extLd hk 121 (fn := Tryz.f121) rfl rfl daDef eaDef _ _ (fun _ => Nat.le_of_ble_eq_true rfl) [0, 1, 3, 4, 5, 8, 22] fun l d x hp hx => ?_
  have hp : l.files.length ≤ 1000000000 := hp
  have hx : addF (incF k) d l = some x := hx
  unfold addF at hx
  repeat ((conv => whnf); refine ⟨by first | (unfold inI64; omega) | omega | exact ⟨by omega, by omega⟩ | exact rfl | decide +kernel, ?_⟩)
  conv => whnf
  refine cond_intro (fun h => ?_) (fun h => ?_)
  · have h1 : d.1 = 6 := of_decide_eq_true h
    rw [if_pos h1] at hx
    have hs : (incF k d.2.2.1 d.2.2.2.2 l).isSome = true := by rw [hx]; rfl
    have hg : ((incF k d.2.2.1 d.2.2.2.2 l).getD (((0, 0, 0), 0), l)) = x := by rw [hx]; rfl
    repeat ((conv => whnf); refine ⟨by first | exact ⟨rfl, rfl, hp, hs⟩ | (unfold inI64; omega) | omega | exact ⟨by omega, by omega⟩ | exact rfl | decide +kernel, ?_⟩)
    conv => whnf
    rw [← hg]
    exact ends_eq ⟨rfl, rfl⟩
  have h1 : ¬ d.1 = 6 := of_decide_eq_false h
  rw [if_neg h1] at hx
  repeat ((conv => whnf); refine ⟨by first | (unfold inI64; omega) | omega | exact ⟨by omega, by omega⟩ | exact rfl | decide +kernel, ?_⟩)
  conv => whnf
  refine cond_intro (fun h2 => ?_) (fun h2 => ?_)
  · have h3 : 6000 ≤ l.defs.length := by
      have : (6000 : Int) ≤ (l.defs.length : Nat) := of_decide_eq_true h2
      omega
    rw [if_pos h3] at hx
    cases hx
    repeat ((conv => whnf); refine ⟨by first | (unfold inI64; omega) | omega | exact ⟨by omega, by omega⟩ | exact rfl | decide +kernel, ?_⟩)
    conv => whnf
    exact ends_eq ⟨rfl, rfl⟩
  · have h3 : ¬ 6000 ≤ l.defs.length := by
      have : ¬ (6000 : Int) ≤ (l.defs.length : Nat) := of_decide_eq_false h2
      omega
    rw [if_neg h3] at hx
    cases hx
    have hc : l.defs.length + 1 ≤ 1000000000000 := by omega
    repeat ((conv => whnf); refine ⟨by first | exact hc | (unfold inI64; omega) | omega | exact ⟨by omega, by omega⟩ | exact rfl | decide +kernel, ?_⟩)
    conv => whnf
    refine ends_eq ⟨rfl, ?_⟩
    show [_, AO.tok 9 .str l.names.length true, .map .str spC l.es, .tok 52 defC (l.defs.length + 1) true] = ldH (l.put d)
    show _ = [_, AO.tok 9 .str l.names.length true, .map .str spC l.es, .tok 52 defC (l.defs ++ [d]).length true]
    rw [List.length_append]
    rfl

theorem id7L : ∀ k, k < 7 → [0, 1, 2, 3, 4, 5, 6][k]? = some k := fun k hk => by
  have : k = 0 ∨ k = 1 ∨ k = 2 ∨ k = 3 ∨ k = 4 ∨ k = 5 ∨ k = 6 := by omega
  rcases this with rfl | rfl | rfl | rfl | rfl | rfl | rfl <;> rfl
theorem goF_cons {inc : LdI} {d : defC.den} {r : List defC.den} {l : Ld} {y : LdR} (h : goF inc (d :: r) l = some y) : ∃ z, addF inc d l = some z ∧ ((z.1.2 = 0 ∧ goF inc r z.2 = some y) ∨ (z.1.2 ≠ 0 ∧ z = y)) := by
  unfold goF at h
  split at h
  · rename_i z hz
    refine ⟨z, hz, ?_⟩
    split at h
    · rename_i h0
      exact .inl ⟨h0, h⟩
    · rename_i h0
      cases h
      exact .inr ⟨h0, rfl⟩
  · cases h

set_option maxHeartbeats 1000000 in
theorem iR (k : Nat) (hk : TSound Tryz.prog (tA Z5 k)) : TSound Tryz.prog (tRd Z5 k) := by
  refine extLd hk 93 (fn := Tryz.f93) rfl rfl sRd.daN' sRd.eaN' _ _ (fun _ => Nat.le_of_ble_eq_true rfl) [0, 1, 4, 5, 6, 7, 8, 9, 10, 12, 13, 14, 30, 62, 63, 64, 65, 75] fun l i x hp hx => ?_
  have hp : l.files.length ≤ 1000000000 ∧ i < l.files.length := hp
  obtain ⟨hl, hi⟩ := hp
  have hx : readF (incF k) i l = some x := hx
  unfold readF at hx
  have hin : 0 ≤ (i : Int) ∧ (i : Int) < (l.files.length : Nat) := by omega
  repeat ((conv => whnf); refine ⟨by first | exact hin | (unfold inI64; omega) | omega | exact ⟨by omega, by omega⟩ | exact rfl | decide +kernel, ?_⟩)
  conv => whnf
  refine cond_intro (fun h => ?_) (fun h => ?_)
  · have h1 : (l.src i).err ≠ 0 := by
      have h2 : (!decide ((l.src i).err = 0)) = true := h
      simpa using h2
    rw [if_pos h1] at hx
    cases hx
    repeat ((conv => whnf); refine ⟨by first | (unfold inI64; omega) | omega | exact ⟨by omega, by omega⟩ | exact rfl | decide +kernel, ?_⟩)
    conv => whnf
    exact ends_eq ⟨rfl, rfl⟩
  have h1 : ¬ (l.src i).err ≠ 0 := by
    have h2 : (!decide ((l.src i).err = 0)) = false := h
    simpa using h2
  rw [if_neg h1] at hx
  by_cases hn : 1000000 ≤ l.names.length
  · rw [if_pos hn] at hx
    cases hx
  rw [if_neg hn] at hx
  have hc : l.names.length + 1 ≤ 1000000000000 := by omega
  repeat ((conv => whnf); refine ⟨by first | exact hin | exact hc | (unfold inI64; omega) | omega | exact ⟨by omega, by omega⟩ | exact rfl | decide +kernel, ?_⟩)
  conv => whnf
  obtain ⟨y, hy⟩ : ∃ y, goF (incF k) (l.src i).defs (l.opened i) = some y := by
    cases hg : goF (incF k) (l.src i).defs (l.opened i) with
    | none => rw [hg] at hx; cases hx
    | some y => exact ⟨y, rfl⟩
  rw [hy] at hx
  dsimp only at hx
  have hdl : (l.src i).defs.length ≤ 12002 := srcV_dl _ _
  refine loop_intro (σ := Nat × Ld) (fun ⟨j, _⟩ => [(0, XV.s (.a (.c (.ptr 0 0)))), (1, XV.s .none), (4, XV.s (.a (.c (.ptr 4 0)))), (5, XV.s .none), (6, XV.s .none), (7, XV.s .none), (8, XV.s .none), (9, XV.s (.str (l.nm i))), (10, XV.s (.int .i64 (l.defs.length : Nat))), (12, XV.s .none), (13, XV.s .none), (14, XV.s .none), (30, XV.s .none), (62, XV.s (.a (.c (.p (.l defC (l.src i).defs))))), (63, XV.s (.int .i64 ((l.src i).defs.length : Nat))), (64, XV.s (.int .i64 (j : Nat))), (65, XV.s .none), (75, XV.s .none)])
    (fun ⟨_, l'⟩ => ldH l' ++ [.row [.int .i64 0, .int .i64 0, .int .i64 0], .row [.int .i64 (l.src i).file, .int .i64 (l.src i).line, .int .i64 (l.src i).column], .tok 9 .str 1 false])
    (fun ⟨j, l'⟩ => j ≤ (l.src i).defs.length ∧ l'.files = l.files ∧ goF (incF k) ((l.src i).defs.drop j) l' = some y) (fun ⟨j, _⟩ => (l.src i).defs.length - j) (0, l.opened i) ?_ ?_ ?_ ?_
  · repeat (first | exact LeL.nil | refine LeL.drop ?_ | refine LeL.same ?_)
  · show _ = [_, AO.tok 9 .str (l.names ++ [l.nm i]).length true, _, _, _, _, _]
    rw [List.length_append]
    rfl
  · exact ⟨Nat.zero_le _, rfl, hy⟩
  rintro ⟨j, l'⟩ ⟨hj, hf, hg⟩
  have hfl : l'.files.length ≤ 1000000000 := by rw [hf]; exact hl
  repeat ((conv => whnf); refine ⟨by first | (unfold inI64; omega) | omega | exact ⟨by omega, by omega⟩ | exact rfl | decide +kernel, ?_⟩)
  conv => whnf
  refine cond_intro (fun h3 => ?_) (fun h3 => ?_)
  · have h4 : j < (l.src i).defs.length := by
      have : (j : Int) < ((l.src i).defs.length : Nat) := of_decide_eq_true h3
      omega
    have hjn : 0 ≤ (j : Int) ∧ (j : Int) < ((l.src i).defs.length : Nat) := by omega
    have hd : (l.src i).defs.drop j = (l.src i).defs.getD j defC.dflt :: (l.src i).defs.drop (j + 1) := by
      rw [List.drop_eq_getElem_cons h4]
      simp [h4]
    rw [hd] at hg
    generalize hD : (l.src i).defs.getD j defC.dflt = d at hg
    obtain ⟨z, hz, hzy⟩ := goF_cons hg
    have hzs : (addF (incF k) ((l.src i).defs.getD j defC.dflt) l').isSome = true := by rw [hD, hz]; rfl
    have hzg : (addF (incF k) ((l.src i).defs.getD j defC.dflt) l').getD (((0, 0, 0), 0), l') = z := by rw [hD, hz]; rfl
    have hzf := addF_kp (incF_kp k) hz
    repeat ((conv => whnf); refine ⟨by first | exact hjn | exact ⟨rfl, rfl, hfl, hzs⟩ | (unfold inI64; omega) | omega | exact ⟨by omega, by omega⟩ | exact rfl | decide +kernel, ?_⟩)
    conv => whnf
    refine cond_intro (fun h5 => ?_) (fun h5 => ?_)
    · have h6 : z.1.2 ≠ 0 := by
        rw [← hzg]
        have h7 : (!decide (((addF (incF k) ((l.src i).defs.getD j defC.dflt) l').getD (((0, 0, 0), 0), l')).1.2 = 0)) = true := h5
        simpa using h7
      obtain rfl : z = y := by
        rcases hzy with ⟨h7, _⟩ | ⟨_, h7⟩
        · exact absurd h7 h6
        · exact h7
      rw [if_neg h6] at hx
      cases hx
      repeat ((conv => whnf); refine ⟨by first | (unfold inI64; omega) | omega | exact ⟨by omega, by omega⟩ | exact rfl | decide +kernel, ?_⟩)
      conv => whnf
      rw [← hzg]
      exact ends_eq ⟨rfl, rfl⟩
    · have h6 : z.1.2 = 0 := by
        rw [← hzg]
        have h7 : (!decide (((addF (incF k) ((l.src i).defs.getD j defC.dflt) l').getD (((0, 0, 0), 0), l')).1.2 = 0)) = false := h5
        simpa using h7
      have hgo : goF (incF k) ((l.src i).defs.drop (j + 1)) z.2 = some y := by
        rcases hzy with ⟨_, h7⟩ | ⟨h7, _⟩
        · exact h7
        · exact absurd h6 h7
      repeat ((conv => whnf); refine ⟨by first | (unfold inI64; omega) | omega | exact ⟨by omega, by omega⟩ | exact rfl | decide +kernel, ?_⟩)
      conv => whnf
      refine head_keep (j + 1, z.2) [0, 1, 2, 3, 4, 5, 6] rfl id7L ?_ ?_ ?_ ?_
      · rw [← hzg]
        rfl
      · repeat (first | exact KeepL.nil | refine KeepL.drop ?_ | refine KeepL.ren rfl ?_)
      · exact ⟨h4, hzf.trans hf, hgo⟩
      · show (l.src i).defs.length - (j + 1) < (l.src i).defs.length - j
        omega
  · have h4 : j = (l.src i).defs.length := by
      have : ¬ (j : Int) < ((l.src i).defs.length : Nat) := of_decide_eq_false h3
      omega
    subst h4
    rw [List.drop_length] at hg
    cases hg
    rw [if_pos rfl] at hx
    cases hx
    repeat ((conv => whnf); refine ⟨by first | (unfold inI64; omega) | omega | exact ⟨by omega, by omega⟩ | exact rfl | decide +kernel, ?_⟩)
    conv => whnf
    exact ends_eq ⟨rfl, rfl⟩

set_option maxHeartbeats 1000000 in
theorem iI (k : Nat) (hk : TSound Tryz.prog (tRd Z5 k)) : TSound Tryz.prog (ext (tRd Z5 k) 67 (sI (k + 1))) := by
  refine extLd hk 67 (fn := Tryz.f67) rfl rfl daInc eaInc _ _ (fun _ => Nat.le_of_ble_eq_true rfl) [0, 1, 2, 5, 6, 7, 8, 9, 10, 26, 30, 34] fun l a x hp hx => ?_
  obtain ⟨nm, ps⟩ := a
  have hl : l.files.length ≤ 1000000000 := hp
  have hx : incF (k + 1) nm ps l = some x := hx
  unfold incF at hx
  repeat ((conv => whnf); refine ⟨by first | exact ⟨rfl, hl⟩ | (unfold inI64; omega) | omega | exact ⟨by omega, by omega⟩ | exact rfl | decide +kernel, ?_⟩)
  conv => whnf
  refine cond_intro (fun h => ?_) (fun h => ?_)
  · have h1 : seekV l.files nm < 0 := of_decide_eq_true h
    rw [if_pos h1] at hx
    cases hx
    repeat ((conv => whnf); refine ⟨by first | (unfold inI64; omega) | omega | exact ⟨by omega, by omega⟩ | exact rfl | decide +kernel, ?_⟩)
    conv => whnf
    exact ends_eq ⟨rfl, rfl⟩
  have h1 : ¬ seekV l.files nm < 0 := of_decide_eq_false h
  rw [if_neg h1] at hx
  repeat ((conv => whnf); refine ⟨by first | (unfold inI64; omega) | omega | exact ⟨by omega, by omega⟩ | exact rfl | decide +kernel, ?_⟩)
  conv => whnf
  cases hF : findE (k := .str) (v := spC) l.es nm with
  | some s =>
    rw [hF] at hx
    dsimp only at hx
    by_cases hs : s.1 = true
    · rw [if_pos hs] at hx
      cases hx
      obtain ⟨b, s2⟩ := s
      obtain rfl : b = true := hs
      repeat ((conv => whnf); refine ⟨by first | (unfold inI64; omega) | omega | exact ⟨by omega, by omega⟩ | exact rfl | decide +kernel, ?_⟩)
      conv => whnf
      exact ends_eq ⟨rfl, rfl⟩
    · rw [if_neg hs] at hx
      cases hx
  | none =>
    rw [hF] at hx
    dsimp only at hx
    have hlt := (seek_lt (Int.not_lt.1 h1)).1
    have hs : (readF (incF k) (seekV l.files nm).toNat l).isSome = true := by rw [hx]; rfl
    have hg : ((readF (incF k) (seekV l.files nm).toNat l).getD (((0, 0, 0), 0), l)) = x := by rw [hx]; rfl
    have hz : (((seekV l.files nm).toNat : Nat) : Int) = seekV l.files nm := Int.toNat_of_nonneg (Int.not_lt.1 h1)
    repeat ((conv => whnf); refine ⟨by first | exact ⟨congrArg (fun n => [AV.c (AC.int .i64 n)]) hz.symm, rfl, ⟨hl, hlt⟩, hs⟩ | (unfold inI64; omega) | omega | exact ⟨by omega, by omega⟩ | exact rfl | decide +kernel, ?_⟩)
    conv => whnf
    rw [← hg]
    exact ends_eq ⟨rfl, rfl⟩

theorem tIk : ∀ k, TSound Tryz.prog (tI Z5 k) := by
  intro k
  induction k with
  | zero =>
    refine extLd (i4 z5) 67 (fn := Tryz.f67) rfl rfl daInc eaInc _ _ (fun _ => Nat.le_of_ble_eq_true rfl) [] fun l a x hp hx => ?_
    cases hx
  | succ k ih => exact ext_only (iI k (iR k (iA k ih))) (i4 z5)
end
end Go.Ab

/- Package include: Load. -/
namespace Go.Ab
open Go.Proofs
set_option linter.unusedSectionVars false
set_option maxRecDepth 100000
variable [Glob]

/-- A line of a table at objects that may be taken for others, in another order. -/
theorem ext_weakG {P : Program} {T : Table} (hT : TSound P T) (f : FuncId) (s : Says)
    (h : ∀ args H p r H', s args H = some (p, r, H') → holdsO p → ∃ p' H2, callWith ⟨P, T⟩ f args H2 = some (p', r, H') ∧ holdsO p' ∧ ∀ G : View, Sim G → G.H = H → ∃ G' : View, G'.w = G.w ∧ Ext G G' ∧ Sim G' ∧ G'.H = H2) : TSound P (ext T f s) :=
  ext_sound hT fun args H p r H' hs hp G hS hH cargs ha => by
    obtain ⟨p', H2, hc, hp', hw⟩ := h args H p r H' hs hp
    obtain ⟨G1, hw1, hx, hS1, hH1⟩ := hw G hS hH
    have := callWith_sound (M := ⟨P, T⟩) hT hS1 (by rw [hH1]; exact hc) hp' (ha.mono fun _ _ h => h.mono hx)
    exact this.trans hw1 hx

def ldO (K : Nat) (fs : List flC.den) (nm : ByteArray) : Option LdR := incF K nm (0, 0, 0) ⟨fs, [], [], []⟩
def ldX (K : Nat) (fs : List flC.den) (nm : ByteArray) : LdR := (ldO K fs nm).getD (((0, 0, 0), 0), ⟨fs, [], [], []⟩)

abbrev nilB : AC := .p (.v (.slice none 0 0))
abbrev ldN (fs : List flC.den) : List AO := [.row [.p (.l flC fs), nilB, .mp 1, nilB], .map .str spC []]
abbrev ldF (l : Ld) : List AO := [.row [.p (.l flC l.files), .own 2 .str l.names, .mp 1, .own 3 defC l.defs], .map .str spC l.es, .tok 9 .str l.names.length true, .tok 52 defC l.defs.length true]

def saysLdN (K : Nat) : Says := fun args H => match args, H with
  | .c (.ptr 0 0) :: al, [.row [a, _, _, _], .map _ _ _] => match daInc al, daFl (.c a) with
    | some x, some fs => some (some (al = eaInc x ∧ x.2 = (0, 0, 0) ∧ H = ldN fs ∧ fs.length ≤ 1000000000 ∧ (ldO K fs x.1).isSome = true), resL (ldX K fs x.1).1, ldF (ldX K fs x.1).2)
    | _, _ => none
  | _, _ => none

theorem weak_ld (fs : List flC.den) : ∀ G : View, Sim G → G.H = ldN fs → ∃ G' : View, G'.w = G.w ∧ Ext G G' ∧ Sim G' ∧ G'.H = ldF ⟨fs, [], [], []⟩ := by
  intro G hS hH
  obtain ⟨G1, w1, x1, s1, h1⟩ := weak_ow hS (id := 0) (by rw [hH]; rfl) 1 rfl 9 .str
  rw [hH] at h1
  obtain ⟨G2, w2, x2, s2, h2⟩ := weak_ow s1 (id := 0) (by rw [h1]; rfl) 3 rfl 52 defC
  rw [h1] at h2
  exact ⟨G2, w2.trans w1, x1.trans x2, s2, h2⟩

theorem call_ld (K : Nat) (fs : List flC.den) (nm : ByteArray) : callWith ⟨Tryz.prog, tI Z5 K⟩ 67 (.c (.ptr 0 0) :: eaInc (nm, (0, 0, 0))) (ldF ⟨fs, [], [], []⟩) =
    some (some (eaInc (nm, (0, 0, 0)) = eaInc (nm, (0, 0, 0)) ∧ ldH ⟨fs, [], [], []⟩ = ldH ⟨fs, [], [], []⟩ ∧ fs.length ≤ 1000000000 ∧ (ldO K fs nm).isSome = true), resL (ldX K fs nm).1, ldF (ldX K fs nm).2) := by
  have g1 : gather (ldF ⟨fs, [], [], []⟩) (.c (.ptr 0 0) :: eaInc (nm, (0, 0, 0))) = [0, 2, 1, 3] := (gatherK_eq _ _ fun L => L).symm.trans (by conv => lhs; whnf)
  have g2 : renAs [0, 2, 1, 3] (.c (.ptr 0 0) :: eaInc (nm, (0, 0, 0))) = some (.c (.ptr 0 0) :: eaInc (nm, (0, 0, 0))) := by rfl
  have g3 : subH [0, 2, 1, 3] (ldF ⟨fs, [], [], []⟩) [0, 2, 1, 3] = some (ldH ⟨fs, [], [], []⟩) := by rfl
  have g4 : tI Z5 K 67 (.c (.ptr 0 0) :: eaInc (nm, (0, 0, 0))) (ldH ⟨fs, [], [], []⟩) = some (some (eaInc (nm, (0, 0, 0)) = eaInc (nm, (0, 0, 0)) ∧ ldH ⟨fs, [], [], []⟩ = ldH ⟨fs, [], [], []⟩ ∧ fs.length ≤ 1000000000 ∧ (ldO K fs nm).isSome = true), resL (ldX K fs nm).1, ldH (ldX K fs nm).2) := by rfl
  unfold callWith callWithL
  rw [g1, g2, g3]
  have g5 : nodup [0, 2, 1, 3] = true := by rfl
  rw [g5]
  simp only [g4]
  rfl

abbrev J1 (K : Nat) : Table := ext (tI Z5 K) 67 (saysLdN K)
theorem j1 (K : Nat) : TSound Tryz.prog (J1 K) := by
  refine ext_weakG (tIk K) 67 _ fun args H p r H' hs hp => ?_
  unfold saysLdN at hs
  split at hs
  · split at hs
    · rename_i al a _ _ _ _ _ _ x fs _ _
      cases hs
      obtain ⟨rfl, hps, hH, hl, hsm⟩ := hp
      rw [hH]
      obtain ⟨nm, ps⟩ := x
      obtain rfl : ps = (0, 0, 0) := hps
      refine ⟨_, ldF ⟨fs, [], [], []⟩, call_ld K fs nm, ⟨rfl, rfl, hl, hsm⟩, weak_ld fs⟩
    · cases hs
  · cases hs

/-- What is loaded: names, definitions, place, error. -/
structure LoV where
  names : List ByteArray
  defs : List defC.den
  pos : Ps
  err : Int
def LoV.bad (p : Ps) (e : Int) : LoV := ⟨[], [], p, e⟩
def loX (x : LdR) : LoV := if x.1.2 = 0 then ⟨x.2.names, x.2.defs, (0, 0, 0), 0⟩ else .bad x.1.1 x.1.2
def loV (K : Nat) (fs : List flC.den) (nm : ByteArray) : LoV := if chkV fs = 0 then loX (ldX K fs nm) else .bad (0, 0, 0) (chkV fs)
def LoV.ld (v : LoV) : SV := .tup [.agg [.any, .p (.l .str v.names), .any, .p (.l defC v.defs)], .agg (psA v.pos), .c (.int .i64 v.err)]
def LoV.sv (v : LoV) : SV := .tup [.c (.p (.l defC v.defs)), .agg (psA v.pos), .c (.int .i64 v.err)]

theorem one_l {I : Cells} {w : World} {e : CT} {zs : List e.den} {v : Value} (h : RepV I w (.l e zs) v) : v.oneCell' = true := by
  rcases h with ⟨_, h⟩ | ⟨b, off, cap, h, _⟩
  · cases h; rfl
  · cases h; rfl

theorem agg_any {G : View} {a b c d : AC} {rest : List AV} {v : Value} {a' b' c' d' : AC} (ha : ∀ x, RepC G a x → RepC G a' x) (hb : ∀ x, RepC G b x → RepC G b' x) (hc : ∀ x, RepC G c x → RepC G c' x) (hd : ∀ x, RepC G d x → RepC G d' x)
    (h : RepS G (.tup (.agg [a, b, c, d] :: rest)) v) : RepS G (.tup (.agg [a', b', c', d'] :: rest)) v := by
  obtain ⟨vs, rfl, hv⟩ := h
  cases hv with
  | cons h1 t =>
    obtain ⟨cs, rfl, hcs⟩ := h1
    cases hcs with
    | cons h1 t1 => cases t1 with
      | cons h2 t2 => cases t2 with
        | cons h3 t3 => cases t3 with
          | cons h4 t4 => exact ⟨_, rfl, .cons ⟨_, rfl, .cons (ha _ h1) (.cons (hb _ h2) (.cons (hc _ h3) (.cons (hd _ h4) t4)))⟩ t⟩

theorem any_l {G : View} {e : CT} {zs : List e.den} {x : Value} (h : RepC G (.p (.l e zs)) x) : RepC G .any x := one_l h
theorem nil_l {G : View} {e : CT} {x : Value} (h : RepC G nilB x) : RepC G (.p (.l e [])) x := by
  obtain ⟨_, rfl⟩ := h
  exact .inl ⟨rfl, rfl⟩
theorem nil_any {G : View} {x : Value} (h : RepC G nilB x) : RepC G .any x := by
  obtain ⟨_, rfl⟩ := h
  rfl
theorem map_any {G : View} {x : Value} (h : RepC G (.p (.v (.map none))) x) : RepC G .any x := by
  obtain ⟨_, rfl⟩ := h
  rfl

def saysLo (K : Nat) (g : LoV → SV) : Says := fun args H => match args, H with
  | [a, .c (.p (.v (.string n)))], [] => match daFl a with
    | some fs => some (some (args = [.c (.p (.l flC fs)), .c (.str n)] ∧ fs.length ≤ 1000000000 ∧ (ldO K fs n).isSome = true), g (loV K fs n), [])
    | none => none
  | _, _ => none

abbrev J2 (K : Nat) : Table := ext (J1 K) 42 (saysLo K LoV.ld)
theorem j2 (K : Nat) : TSound Tryz.prog (J2 K) := by
  refine ext_run (j1 K) (f := 42) (fn := Tryz.f42) rfl rfl [0, 1, 4, 5, 6, 7, 8, 9, 10, 14, 28] fun args H p r' H' hs hp => ?_
  unfold saysLo at hs
  split at hs
  · split at hs
    · rename_i a n _ fs _
      cases hs
      obtain ⟨ha, hl, hsm⟩ := hp
      rw [ha]
      refine ⟨Nat.le_of_ble_eq_true rfl, [], rfl, fun k hk => absurd hk (Nat.not_lt_zero k), ?_⟩
      unfold loV
      repeat ((conv => whnf); refine ⟨by first | exact ⟨rfl, hl⟩ | (unfold inI64; omega) | omega | exact ⟨by omega, by omega⟩ | exact rfl | decide +kernel, ?_⟩)
      conv => whnf
      refine cond_intro (fun h => ?_) (fun h => ?_)
      · have h1 : ¬ chkV fs = 0 := by
          have h2 : (!decide (chkV fs = 0)) = true := h
          simpa using h2
        rw [if_neg h1]
        repeat ((conv => whnf); refine ⟨by first | (unfold inI64; omega) | omega | exact ⟨by omega, by omega⟩ | exact rfl | decide +kernel, ?_⟩)
        conv => whnf
        refine ends_of (fun G v hv => ?_) rfl
        exact agg_any (fun _ h => nil_any h) (fun _ h => nil_l h) (fun _ h => map_any h) (fun _ h => nil_l h) hv
      have h1 : chkV fs = 0 := by
        have h2 : (!decide (chkV fs = 0)) = false := h
        simpa using h2
      rw [if_pos h1]
      repeat ((conv => whnf); refine ⟨by first | exact ⟨rfl, rfl, rfl, hl, hsm⟩ | (unfold inI64; omega) | omega | exact ⟨by omega, by omega⟩ | exact rfl | decide +kernel, ?_⟩)
      conv => whnf
      unfold loX
      refine cond_intro (fun h3 => ?_) (fun h3 => ?_)
      · have h4 : ¬ (ldX K fs n).1.2 = 0 := by
          have h2 : (!decide ((ldX K fs n).1.2 = 0)) = true := h3
          simpa using h2
        rw [if_neg h4]
        repeat ((conv => whnf); refine ⟨by first | (unfold inI64; omega) | omega | exact ⟨by omega, by omega⟩ | exact rfl | decide +kernel, ?_⟩)
        conv => whnf
        refine ⟨by (conv => whnf); exact ⟨⟨rfl, rfl, rfl⟩, trivial⟩, ?_⟩
        repeat ((conv => whnf); refine ⟨by first | (unfold inI64; omega) | omega | exact ⟨by omega, by omega⟩ | exact rfl | decide +kernel, ?_⟩)
        conv => whnf
        refine ends_of (fun G v hv => ?_) rfl
        exact agg_any (fun _ h => nil_any h) (fun _ h => nil_l h) (fun _ h => map_any h) (fun _ h => nil_l h) hv
      · have h4 : (ldX K fs n).1.2 = 0 := by
          have h2 : (!decide ((ldX K fs n).1.2 = 0)) = false := h3
          simpa using h2
        rw [if_pos h4]
        repeat ((conv => whnf); refine ⟨by first | (unfold inI64; omega) | omega | exact ⟨by omega, by omega⟩ | exact rfl | decide +kernel, ?_⟩)
        conv => whnf
        refine ends_of (fun G v hv => ?_) rfl
        refine agg_any ?_ ?_ ?_ ?_ hv
        · exact fun _ h => any_l h
        · exact fun _ h => h
        · exact fun _ h => h
        · exact fun _ h => h
    · cases hs
  · cases hs

abbrev J3 (K : Nat) : Table := ext (J2 K) 20 (saysLo K LoV.sv)
theorem j3 (K : Nat) : TSound Tryz.prog (J3 K) := by
  refine ext_run (j2 K) (f := 20) (fn := Tryz.f20) rfl rfl [0, 1, 4, 5, 6, 7, 8, 9] fun args H p r' H' hs hp => ?_
  unfold saysLo at hs
  split at hs
  · split at hs
    · rename_i a n _ fs _
      cases hs
      obtain ⟨ha, hl, hsm⟩ := hp
      rw [ha]
      refine ⟨Nat.le_of_ble_eq_true rfl, [], rfl, fun k hk => absurd hk (Nat.not_lt_zero k), ?_⟩
      repeat ((conv => whnf); refine ⟨by first | exact ⟨rfl, hl, hsm⟩ | (unfold inI64; omega) | omega | exact ⟨by omega, by omega⟩ | exact rfl | decide +kernel, ?_⟩)
      conv => whnf
      exact ends_eq ⟨rfl, rfl⟩
    · cases hs
  · cases hs
end Go.Ab
