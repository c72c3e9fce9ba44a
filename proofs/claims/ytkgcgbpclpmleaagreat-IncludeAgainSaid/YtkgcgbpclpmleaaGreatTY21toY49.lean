/- Package include: the loader. -/
import Derived.Test.YtkgcgbpclpmleaaGreatTU5toY47
namespace Go.Ab
open Go.Proofs
set_option linter.unusedSectionVars false
set_option maxRecDepth 100000
variable [Glob]
theorem topsS_vld : ∀ (k : Nat) {r : Sr}, Vld r → (topsS k r).1 = 0 → Vld (topsS k r).2 := by
 intro k
 induction k with
 | zero => intro r h h0; exact h
 | succ k ih =>
  intro r h h0
  unfold topsS at h0 ⊢
  by_cases h8 : r.tok.1 = 8
  ·rw [if_pos h8]
   exact h
  ·rw [if_neg h8] at h0 ⊢
   have g := topS_good h
   by_cases h1 : (topS r).1 = 0
   ·rw [if_pos h1] at h0 ⊢
    rw [h1] at g
    exact ih (g.vld h) h0
   ·rw [if_neg h1] at h0
    exact absurd h0 h1
theorem srcV_dl (s : ByteArray) (f : Int) : (srcV s f).defs.length ≤ 12002 := by
 unfold srcV
 by_cases h0 : (readV s f).err = 0
 ·rw [if_pos h0]
  dsimp only
  by_cases h1 : (topsS (readV s f).toks.length ⟨(readV s f).toks, 0, 0, []⟩).1 = 0
  ·rw [if_pos h1]
   have v := topsS_vld _ (srV_vld' h0) h1
   have := v.dfs
   have := v.len
   have := v.lt
   show (topsS (readV s f).toks.length ⟨(readV s f).toks, 0, 0, []⟩).2.defs.length ≤ 12002
   omega
  ·rw [if_neg h1]
   exact nZ9 _
 ·rw [if_neg h0]
  exact nZ9 _
abbrev spC : CT := .pair .bool (.pair (.int .i64) (.int .i64))
abbrev Ps : Type := Int × Int × Int
structure Ld where
 files : List flC.den
 names : List ByteArray
 es : List (ByteArray × spC.den)
 defs : List defC.den
abbrev LdR : Type := (Ps × Int) × Ld
abbrev LdI : Type := ByteArray → Ps → Ld → Option LdR
def Ld.put (l : Ld) (d : defC.den) : Ld := { l with defs := l.defs ++ [d] }
def addF (inc : LdI) (d : defC.den) (l : Ld) : Option LdR :=
 if d.1 = 6 then inc d.2.2.1 d.2.2.2.2 l
 else if 6000 ≤ l.defs.length then some ((d.2.2.2.2, 3), l) else some (((0, 0, 0), 0), l.put d)
def goF (inc : LdI) : List defC.den → Ld → Option LdR
 | [], l => some (((0, 0, 0), 0), l)
 | d :: r, l => match addF inc d l with
  | some x => if x.1.2 = 0 then goF inc r x.2 else some x
  | none => none
def Ld.nm (l : Ld) (i : Nat) : ByteArray := (l.files.getD i flC.dflt).1
def Ld.src (l : Ld) (i : Nat) : SrcV := srcV (l.files.getD i flC.dflt).2 i
def Ld.opened (l : Ld) (i : Nat) : Ld := { l with names := l.names ++ [l.nm i], es := setE (k := .str) (v := spC) (l.nm i) (true, 0, 0) l.es }
def Ld.closed (l l' : Ld) (i : Nat) : Ld := { l' with es := setE (k := .str) (v := spC) (l.nm i) (false, (l.defs.length : Nat), (l'.defs.length : Nat)) l'.es }
def readF (inc : LdI) (i : Nat) (l : Ld) : Option LdR :=
 if (l.src i).err ≠ 0 then some ((((l.src i).file, (l.src i).line, (l.src i).column), (l.src i).err), l)
 else if 1000000 ≤ l.names.length then none
 else match goF inc (l.src i).defs (l.opened i) with
  | some x => if x.1.2 = 0 then some (((0, 0, 0), 0), l.closed x.2 i) else some x
  | none => none
def Ld.span (l : Ld) (s : spC.den) : List defC.den := (l.defs.take s.2.2.toNat).drop s.2.1.toNat
def okRp (s : spC.den) (l : Ld) : Prop := 0 ≤ s.2.1 ∧ s.2.1 ≤ s.2.2 ∧ s.2.2 ≤ (l.defs.length : Nat) ∧ l.defs.length ≤ 1000000 ∧ ∀ d ∈ l.defs, okCp d
instance (s : spC.den) (l : Ld) : Decidable (okRp s l) := by unfold okRp; exact inferInstance
def repF (inc : LdI) (s : spC.den) (l : Ld) : Option LdR := if okRp s l then goF inc (l.span s) l else none
def incF : Nat → LdI
 | 0, _, _, _ => none
 | k + 1, nm, p, l =>
  if seekV l.files nm < 0 then some ((p, 4), l)
  else match findE (k := .str) (v := spC) l.es nm with
   | some s => if s.1 = true then some ((p, 10), l) else repF (incF k) s l
   | none => readF (incF k) (seekV l.files nm).toNat l
def KpF (inc : LdI) : Prop := ∀ nm p l x, inc nm p l = some x → x.2.files = l.files
theorem addF_kp {inc : LdI} (hi : KpF inc) {d : defC.den} {l : Ld} {x : LdR} (h : addF inc d l = some x) : x.2.files = l.files := by
 unfold addF at h
 split at h
 ·exact hi _ _ _ _ h
 ·split at h
  ·cases h; rfl
  ·cases h; rfl
theorem goF_kp {inc : LdI} (hi : KpF inc) : ∀ (ds : List defC.den) {l : Ld} {x : LdR}, goF inc ds l = some x → x.2.files = l.files := by
 intro ds
 induction ds with
 | nil => intro l x h; cases h; rfl
 | cons d r ih =>
  intro l x h
  unfold goF at h
  split at h
  ·rename_i y hy
   have h1 := addF_kp hi hy
   split at h
   ·exact (ih h).trans h1
   ·cases h; exact h1
  ·cases h
theorem readF_kp {inc : LdI} (hi : KpF inc) {i : Nat} {l : Ld} {x : LdR} (h : readF inc i l = some x) : x.2.files = l.files := by
 unfold readF at h
 split at h
 ·cases h; rfl
 ·split at h
  ·cases h
  ·split at h
   ·rename_i y hy
    have h1 := goF_kp hi _ hy
    split at h
    ·cases h; exact h1
    ·cases h; exact h1
   ·cases h
theorem repF_kp {inc : LdI} (hi : KpF inc) {s : spC.den} {l : Ld} {x : LdR} (h : repF inc s l = some x) : x.2.files = l.files := by
 unfold repF at h
 split at h
 ·exact goF_kp hi _ h
 ·cases h
theorem incF_kp : ∀ k, KpF (incF k) := by
 intro k
 induction k with
 | zero => intro nm p l x h; cases h
 | succ k ih =>
  intro nm p l x h
  unfold incF at h
  split at h
  ·cases h; rfl
  ·split at h
   ·split at h
    ·cases h; rfl
    ·exact repF_kp ih h
   ·exact readF_kp ih h
abbrev ldT (l : Ld) : List AO := [.tok 9 .str l.names.length true, .map .str spC l.es, .tok 39 defC l.defs.length true]
abbrev ldH (l : Ld) : List AO := .row [.p (.l flC l.files), .own 1 .str l.names, .mp 2, .own 3 defC l.defs] :: ldT l
def ldOf (H : List AO) : Option Ld :=
 match H with
 | [.row [.p (.l c0 fs), .own _ c1 ns, _, .own _ c2 ds], .tok _ _ _ _, .map ck cv es, .tok _ _ _ _] =>
  match castD (e := flC) (e' := c0) fs, castD (e := .str) (e' := c1) ns, castD (e := defC) (e' := c2) ds, castD (e := .pair .str spC) (e' := .pair ck cv) es with
  | some fs, some ns, some ds, some es => some ⟨fs, ns, es, ds⟩
  | _, _, _, _ => none
 | _ => none
abbrev psA (p : Ps) : List AC := [.int .i64 p.1, .int .i64 p.2.1, .int .i64 p.2.2]
abbrev resL (x : Ps × Int) : SV := .tup [.agg (psA x.1), .c (.int .i64 x.2)]
def saysL {α : Type} (da : List AV → Option α) (ea : α → List AV) (pre : Ld → α → Prop) (g : Ld → α → Option LdR) : Says := fun args H => match args with
 | .c (.ptr 0 0) :: al => match da al, ldOf H with
  | some a, some l => some (some (al = ea a ∧ H = ldH l ∧ pre l a ∧ (g l a).isSome = true), resL ((g l a).getD (((0, 0, 0), 0), l)).1, ldH ((g l a).getD (((0, 0, 0), 0), l)).2)
  | _, _ => none
 | _ => none
theorem id4L : ∀ k, k < 4 → [0, 1, 2, 3][k]? = some k := fun k hk => by
 have : k = 0 ∨ k = 1 ∨ k = 2 ∨ k = 3 := by omega
 rcases this with rfl | rfl | rfl | rfl <;> rfl
theorem extLd {α : Type} {P : Program} {T : Table} (hT : TSound P T) (f : FuncId) {fn : Func} (hf : P.funcs[f]? = some fn) (hname : NG9 fn) (da : List AV → Option α) (ea : α → List AV) (pre : Ld → α → Prop) (g : Ld → α → Option LdR) (hn : ∀ a, (ea a).length + 1 ≤ fn.ntmps) (ks : List Nat)
  (h : ∀ l a x, pre l a → g l a = some x → runF ⟨P, T⟩ fn ks [0, 1, 2, 3] (.c (.ptr 0 0) :: ea a) (ldH l) fun r' H'' => Ends r' H'' (resL x.1) (ldH x.2)) : TSound P (ext T f (saysL da ea pre g)) :=
 ext_run hT hf hname ks fun args H p r H' hs hp => by
  unfold saysL at hs
  split at hs
  ·split at hs
   ·rename_i a l _ _
    cases hs
    obtain ⟨rfl, rfl, hpre, hx⟩ := hp
    obtain ⟨x, hx⟩ := Option.isSome_iff_exists.1 hx
    rw [hx]
    exact ⟨hn _, [0, 1, 2, 3], rfl, id4L, h _ _ _ hpre hx⟩
   ·cases hs
  ·cases hs
def daInc : List AV → Option (ByteArray × Ps)
 | [.c (.p (.v (.string n))), .agg [.p (.v (.int .i64 a)), .p (.v (.int .i64 b)), .p (.v (.int .i64 c))]] => some (n, a, b, c)
 | _ => none
def eaInc (x : ByteArray × Ps) : List AV := [.c (.str x.1), .agg (psA x.2)]
def sI (k : Nat) : Says := saysL daInc eaInc (fun l _ => l.files.length ≤ 1000000000) fun l x => incF k x.1 x.2 l
def sA (k : Nat) : Says := saysL daDef eaDef (fun l _ => l.files.length ≤ 1000000000) fun l d => addF (incF k) d l
def sRd (k : Nat) : Says := saysL daN' eaN' (fun l i => l.files.length ≤ 1000000000 ∧ i < l.files.length) fun l i => readF (incF k) i l
where
 daN' : List AV → Option Nat
  | [.c (.p (.v (.int .i64 n)))] => some n.toNat
  | _ => none
 eaN' (n : Nat) : List AV := [.c (.int .i64 (n : Int))]
def daSp : List AV → Option spC.den
 | [.agg [.p (.v (.bool o)), .p (.v (.int .i64 a)), .p (.v (.int .i64 b))]] => some (o, a, b)
 | _ => none
def eaSp (s : spC.den) : List AV := [.agg [.bool s.1, .int .i64 s.2.1, .int .i64 s.2.2]]
def sRpt (k : Nat) : Says := saysL daSp eaSp (fun l _ => l.files.length ≤ 1000000000) fun l s => repF (incF k) s l
section
variable {T : Table}
abbrev tI (T : Table) (k : Nat) : Table := ext (I4 T) 28 (sI k)
abbrev tA (T : Table) (k : Nat) : Table := ext (tI T k) 58 (sA k)
abbrev tRd (T : Table) (k : Nat) : Table := ext (tA T k) 40 (sRd k)
abbrev tCp (T : Table) (k : Nat) : Table := ext (tRd T k) 59 saysCp
abbrev tRp (T : Table) (k : Nat) : Table := ext (tCp T k) 39 (sRpt k)
theorem iA (k : Nat) (hk : TS9 (tI T k)) : TS9 (tA T k) := by
 refine extLd hk 58 (fn := Tryz.f58) rfl rfl daDef eaDef _ _ (fun _ => nB9 rfl) [0, 1, 3, 4, 5, 8, 22] fun l d x hp hx => ?_
 have hp : l.files.length ≤ 1000000000 := hp
 have hx : addF (incF k) d l = some x := hx
 unfold addF at hx
 conv => whnf
 refine cI9 ?_ ?_<;>intro h
 ·have h1 : d.1 = 6 := oT9 h
  rw [if_pos h1] at hx
  have hs : (incF k d.2.2.1 d.2.2.2.2 l).isSome = true := by rw [hx]; rfl
  have hg : ((incF k d.2.2.1 d.2.2.2.2 l).getD (((0, 0, 0), 0), l)) = x := by rw [hx]; rfl
  repeat ((conv => whnf); refine ⟨⟨rfl, rfl, hp, hs⟩, ?_⟩)
  conv => whnf
  rw [← hg]
  exact eR9
 have h1 : ¬ d.1 = 6 := oF9 h
 rw [if_neg h1] at hx
 conv => whnf
 refine cI9 ?_ ?_<;>intro h2
 ·have h3 : 6000 ≤ l.defs.length := by
   have : (6000 : Int) ≤ (l.defs.length : Nat) := oT9 h2
   omega
  rw [if_pos h3] at hx
  cases hx
  conv => whnf
  exact eR9
 ·have h3 : ¬ 6000 ≤ l.defs.length := by
   have : ¬ (6000 : Int) ≤ (l.defs.length : Nat) := oF9 h2
   omega
  rw [if_neg h3] at hx
  cases hx
  have hc : l.defs.length + 1 ≤ 1000000000000 := by omega
  repeat ((conv => whnf); refine ⟨by first | exact hc | omega | exact rfl, ?_⟩)
  conv => whnf
  refine eE9 ⟨rfl, ?_⟩
  show [_, AO.tok 9 .str l.names.length true, .map .str spC l.es, .tok 39 defC (l.defs.length + 1) true] = ldH (l.put d)
  show _ = [_, AO.tok 9 .str l.names.length true, .map .str spC l.es, .tok 39 defC (l.defs ++ [d]).length true]
  rw [zP9]
  rfl
theorem id7L : ∀ k, k < 7 → [0, 1, 2, 3, 4, 5, 6][k]? = some k := fun k hk => by
 have : k = 0 ∨ k = 1 ∨ k = 2 ∨ k = 3 ∨ k = 4 ∨ k = 5 ∨ k = 6 := by omega
 rcases this with rfl | rfl | rfl | rfl | rfl | rfl | rfl <;> rfl
theorem goF_cons {inc : LdI} {d : defC.den} {r : List defC.den} {l : Ld} {y : LdR} (h : goF inc (d :: r) l = some y) : ∃ z, addF inc d l = some z ∧ ((z.1.2 = 0 ∧ goF inc r z.2 = some y) ∨ (z.1.2 ≠ 0 ∧ z = y)) := by
 unfold goF at h
 split at h
 ·rename_i z hz
  refine ⟨z, hz, ?_⟩
  split at h
  ·rename_i h0
   exact .inl ⟨h0, h⟩
  ·rename_i h0
   cases h
   exact .inr ⟨h0, rfl⟩
 ·cases h
set_option maxHeartbeats 1000000 in
theorem iR (k : Nat) (hk : TS9 (tA Z5 k)) : TS9 (tRd Z5 k) := by
 refine extLd hk 40 (fn := Tryz.f40) rfl rfl sRd.daN' sRd.eaN' _ _ (fun _ => nB9 rfl) [0, 1, 4, 5, 6, 7, 8, 9, 10, 12, 13, 14, 30, 62, 63, 64, 65, 75] fun l i x hp hx => ?_
 have hp : l.files.length ≤ 1000000000 ∧ i < l.files.length := hp
 obtain ⟨hl, hi⟩ := hp
 have hx : readF (incF k) i l = some x := hx
 unfold readF at hx
 have hin : 0 ≤ (i : Int) ∧ (i : Int) < (l.files.length : Nat) := by omega
 repeat ((conv => whnf); refine ⟨hin, ?_⟩)
 conv => whnf
 refine cI9 ?_ ?_<;>intro h
 ·have h1 : (l.src i).err ≠ 0 := by
   have h2 : (!decide ((l.src i).err = 0)) = true := h
   simpa using h2
  rw [if_pos h1] at hx
  cases hx
  conv => whnf
  exact eR9
 have h1 : ¬ (l.src i).err ≠ 0 := by
  have h2 : (!decide ((l.src i).err = 0)) = false := h
  simpa using h2
 rw [if_neg h1] at hx
 by_cases hn : 1000000 ≤ l.names.length
 ·rw [if_pos hn] at hx
  cases hx
 rw [if_neg hn] at hx
 have hc : l.names.length + 1 ≤ 1000000000000 := by omega
 repeat ((conv => whnf); refine ⟨by first | exact hin | exact hc | omega | exact rfl, ?_⟩)
 conv => whnf
 obtain ⟨y, hy⟩ : ∃ y, goF (incF k) (l.src i).defs (l.opened i) = some y := by
  cases hg : goF (incF k) (l.src i).defs (l.opened i) with
  | none => rw [hg] at hx; cases hx
  | some y => exact ⟨y, rfl⟩
 rw [hy] at hx
 dsimp only at hx
 have hdl : (l.src i).defs.length ≤ 12002 := srcV_dl _ _
 refine lI9 (σ := Nat × Ld) (fun ⟨j, _⟩ => [(0, XV.s (.a (.c (.ptr 0 0)))), (1, nX9), (4, XV.s (.a (.c (.ptr 4 0)))), (5, nX9), (6, nX9), (7, nX9), (8, nX9), (9, XV.s (.str (l.nm i))), (10, XV.s (.int .i64 (l.defs.length : Nat))), (12, nX9), (13, nX9), (14, nX9), (30, nX9), (62, XV.s (.a (.c (.p (.l defC (l.src i).defs))))), (63, XV.s (.int .i64 ((l.src i).defs.length : Nat))), (64, XV.s (.int .i64 (j : Nat))), (65, nX9), (75, nX9)])
  (fun ⟨_, l'⟩ => ldH l' ++ [.row [.int .i64 0, .int .i64 0, .int .i64 0], .row [.int .i64 (l.src i).file, .int .i64 (l.src i).line, .int .i64 (l.src i).column], .tok 9 .str 1 false])
  (fun ⟨j, l'⟩ => j ≤ (l.src i).defs.length ∧ l'.files = l.files ∧ goF (incF k) ((l.src i).defs.drop j) l' = some y) (fun ⟨j, _⟩ => (l.src i).defs.length - j) (0, l.opened i) ?_ ?_ ?_ ?_
 ·repeat first|exact lN9|refine lD9 ?_|refine lS9 ?_
 ·show _ = [_, AO.tok 9 .str (l.names ++ [l.nm i]).length true, _, _, _, _, _]
  rw [zP9]
  rfl
 ·exact ⟨nZ9 _, rfl, hy⟩
 rintro ⟨j, l'⟩ ⟨hj, hf, hg⟩
 have hfl : l'.files.length ≤ 1000000000 := by rw [hf]; exact hl
 conv => whnf
 refine cI9 ?_ ?_<;>intro h3
 ·have h4 : j < (l.src i).defs.length := by
   have : (j : Int) < ((l.src i).defs.length : Nat) := oT9 h3
   omega
  have hjn : 0 ≤ (j : Int) ∧ (j : Int) < ((l.src i).defs.length : Nat) := by omega
  have hd : (l.src i).defs.drop j = (l.src i).defs.getD j defC.dflt :: (l.src i).defs.drop (j + 1) := by
   rw [List.drop_eq_getElem_cons h4]
   simp [h4]
  rw [hd] at hg
  generalize hD : (l.src i).defs.getD j defC.dflt = d at hg
  obtain ⟨z, hz, hzy⟩ := goF_cons hg
  have hzs : (addF (incF k) ((l.src i).defs.getD j defC.dflt) l').isSome = true := by rw [hD, hz]; rfl
  have hzg : (addF (incF k) ((l.src i).defs.getD j defC.dflt) l').getD (((0, 0, 0), 0), l') = z := by rw [hD, hz]; rfl
  have hzf := addF_kp (incF_kp k) hz
  repeat ((conv => whnf); refine ⟨by first | exact hjn | exact ⟨rfl, rfl, hfl, hzs⟩, ?_⟩)
  conv => whnf
  refine cI9 ?_ ?_<;>intro h5
  ·have h6 : z.1.2 ≠ 0 := by
    rw [← hzg]
    have h7 : (!decide (((addF (incF k) ((l.src i).defs.getD j defC.dflt) l').getD (((0, 0, 0), 0), l')).1.2 = 0)) = true := h5
    simpa using h7
   obtain rfl : z = y := by
    rcases hzy with ⟨h7, _⟩ | ⟨_, h7⟩
    ·exact absurd h7 h6
    ·exact h7
   rw [if_neg h6] at hx
   cases hx
   conv => whnf
   rw [← hzg]
   exact eR9
  ·have h6 : z.1.2 = 0 := by
    rw [← hzg]
    have h7 : (!decide (((addF (incF k) ((l.src i).defs.getD j defC.dflt) l').getD (((0, 0, 0), 0), l')).1.2 = 0)) = false := h5
    simpa using h7
   have hgo : goF (incF k) ((l.src i).defs.drop (j + 1)) z.2 = some y := by
    rcases hzy with ⟨_, h7⟩ | ⟨h7, _⟩
    ·exact h7
    ·exact absurd h6 h7
   repeat ((conv => whnf); refine ⟨by (unfold inI64; omega), ?_⟩)
   conv => whnf
   refine kI9 (j + 1, z.2) [0, 1, 2, 3, 4, 5, 6] rfl id7L ?_ ?_ ?_ ?_
   ·rw [← hzg]
    rfl
   ·repeat first|exact kN9|refine kD9 ?_|refine kR9 rfl ?_
   ·exact ⟨h4, hzf.trans hf, hgo⟩
   ·show (l.src i).defs.length - (j + 1) < (l.src i).defs.length - j
    omega
 ·have h4 : j = (l.src i).defs.length := by
   have : ¬ (j : Int) < ((l.src i).defs.length : Nat) := oF9 h3
   omega
  subst h4
  rw [List.drop_length] at hg
  cases hg
  rw [if_pos rfl] at hx
  cases hx
  repeat ((conv => whnf); refine ⟨rfl, ?_⟩)
  conv => whnf
  exact eR9
theorem id66 : ∀ k, k < 6 → [0, 1, 2, 3, 4, 5][k]? = some k := fun k hk => by
 have : k = 0 ∨ k = 1 ∨ k = 2 ∨ k = 3 ∨ k = 4 ∨ k = 5 := by omega
 rcases this with rfl | rfl | rfl | rfl | rfl | rfl <;> rfl
theorem span_mem {l : Ld} {s : spC.den} {d : defC.den} (h : d ∈ l.span s) : d ∈ l.defs := List.mem_of_mem_take (List.mem_of_mem_drop h)
theorem span_len (l : Ld) (s : spC.den) : (l.span s).length ≤ l.defs.length := by
 unfold Ld.span
 rw [List.length_drop, List.length_take]
 omega
set_option maxHeartbeats 1000000 in
theorem iRp (k : Nat) (hk : TS9 (tCp Z5 k)) : TS9 (tRp Z5 k) := by
 refine extLd hk 39 (fn := Tryz.f39) rfl rfl daSp eaSp _ _ (fun _ => nB9 rfl) [0, 1, 3, 4, 5, 7, 8, 9, 18, 19, 20, 21, 32] fun l s x hp hx => ?_
 have hl : l.files.length ≤ 1000000000 := hp
 have hx : repF (incF k) s l = some x := hx
 unfold repF at hx
 split at hx
 ·rename_i hok
  obtain ⟨h0, h1, h2, h9, hcp⟩ := hok
  have hsl : 0 ≤ s.2.1 ∧ s.2.1 ≤ s.2.2 ∧ s.2.2 ≤ (l.defs.length : Nat) := ⟨h0, h1, h2⟩
  repeat ((conv => whnf); refine ⟨by first | exact hsl | exact rfl, ?_⟩)
  conv => whnf
  have hsn := span_len l s
  refine lI9 (σ := Nat × Ld) (fun ⟨j, _⟩ => [(0, XV.s (.a (.c (.ptr 0 0)))), (1, nX9), (3, nX9), (4, XV.s (.a (.c (.ptr 5 0)))), (5, nX9), (7, nX9), (8, nX9), (9, nX9), (18, XV.s (.a (.c (.p (.l defC (l.span s)))))), (19, XV.s (.int .i64 ((l.span s).length : Nat))), (20, XV.s (.int .i64 (j : Nat))), (21, nX9), (32, nX9)])
   (fun ⟨_, l'⟩ => ldH l' ++ [.row [.bool s.1, .int .i64 s.2.1, .int .i64 s.2.2], .row [.int .i64 0, .int .i64 0, .int .i64 0]])
   (fun ⟨j, l'⟩ => j ≤ (l.span s).length ∧ l'.files = l.files ∧ goF (incF k) ((l.span s).drop j) l' = some x) (fun ⟨j, _⟩ => (l.span s).length - j) (0, l) ?_ rfl ?_ ?_
  ·repeat first|exact lN9|refine lD9 ?_|refine lS9 ?_
  ·exact ⟨nZ9 _, rfl, hx⟩
  rintro ⟨j, l'⟩ ⟨hj, hf, hg⟩
  have hfl : l'.files.length ≤ 1000000000 := by rw [hf]; exact hl
  conv => whnf
  refine cI9 ?_ ?_<;>intro h3
  ·have h4 : j < (l.span s).length := by
    have : (j : Int) < ((l.span s).length : Nat) := oT9 h3
    omega
   have hjn : 0 ≤ (j : Int) ∧ (j : Int) < ((l.span s).length : Nat) := by omega
   have hd : (l.span s).drop j = (l.span s).getD j defC.dflt :: (l.span s).drop (j + 1) := by
    rw [List.drop_eq_getElem_cons h4]
    simp [h4]
   rw [hd] at hg
   have hokd : okCp ((l.span s).getD j defC.dflt) := by
    have he : (l.span s).getD j defC.dflt = (l.span s)[j] := by simp [h4]
    rw [he]
    exact hcp _ (span_mem (List.getElem_mem h4))
   generalize hD : (l.span s).getD j defC.dflt = d at hg hokd
   obtain ⟨z, hz, hzy⟩ := goF_cons hg
   have hzs : (addF (incF k) ((l.span s).getD j defC.dflt) l').isSome = true := by rw [hD, hz]; rfl
   have hzg : (addF (incF k) ((l.span s).getD j defC.dflt) l').getD (((0, 0, 0), 0), l') = z := by rw [hD, hz]; rfl
   have hzf := addF_kp (incF_kp k) hz
   rw [← hD] at hokd
   repeat ((conv => whnf); refine ⟨by first | exact hjn | exact ⟨rfl, hokd⟩ | exact ⟨rfl, rfl, hfl, hzs⟩, ?_⟩)
   conv => whnf
   refine cI9 ?_ ?_<;>intro h5
   ·have h6 : z.1.2 ≠ 0 := by
     rw [← hzg]
     have h7 : (!decide (((addF (incF k) ((l.span s).getD j defC.dflt) l').getD (((0, 0, 0), 0), l')).1.2 = 0)) = true := h5
     simpa using h7
    obtain rfl : z = x := by
     rcases hzy with ⟨h7, _⟩ | ⟨_, h7⟩
     ·exact absurd h7 h6
     ·exact h7
    conv => whnf
    rw [← hzg]
    exact eR9
   ·have h6 : z.1.2 = 0 := by
     rw [← hzg]
     have h7 : (!decide (((addF (incF k) ((l.span s).getD j defC.dflt) l').getD (((0, 0, 0), 0), l')).1.2 = 0)) = false := h5
     simpa using h7
    have hgo : goF (incF k) ((l.span s).drop (j + 1)) z.2 = some x := by
     rcases hzy with ⟨_, h7⟩ | ⟨h7, _⟩
     ·exact h7
     ·exact absurd h6 h7
    repeat ((conv => whnf); refine ⟨by (unfold inI64; omega), ?_⟩)
    conv => whnf
    refine kI9 (j + 1, z.2) [0, 1, 2, 3, 4, 5] rfl id66 ?_ ?_ ?_ ?_
    ·rw [← hzg]
     rfl
    ·repeat first|exact kN9|refine kD9 ?_|refine kR9 rfl ?_
    ·exact ⟨h4, hzf.trans hf, hgo⟩
    ·show (l.span s).length - (j + 1) < (l.span s).length - j
     omega
  ·have h4 : j = (l.span s).length := by
    have : ¬ (j : Int) < ((l.span s).length : Nat) := oF9 h3
    omega
   subst h4
   rw [List.drop_length] at hg
   cases hg
   conv => whnf
   exact eR9
 ·cases hx
set_option maxHeartbeats 1000000 in
theorem iI (k : Nat) (hk : TS9 (tRp Z5 k)) : TS9 (ext (tRp Z5 k) 28 (sI (k + 1))) := by
 refine extLd hk 28 (fn := Tryz.f28) rfl rfl daInc eaInc _ _ (fun _ => nB9 rfl) [0, 1, 2, 5, 6, 7, 8, 9, 10, 26, 30, 34] fun l a x hp hx => ?_
 obtain ⟨nm, ps⟩ := a
 have hl : l.files.length ≤ 1000000000 := hp
 have hx : incF (k + 1) nm ps l = some x := hx
 unfold incF at hx
 repeat ((conv => whnf); refine ⟨⟨rfl, hl⟩, ?_⟩)
 conv => whnf
 refine cI9 ?_ ?_<;>intro h
 ·have h1 : seekV l.files nm < 0 := oT9 h
  rw [if_pos h1] at hx
  cases hx
  conv => whnf
  exact eR9
 have h1 : ¬ seekV l.files nm < 0 := oF9 h
 rw [if_neg h1] at hx
 conv => whnf
 cases hF : findE (k := .str) (v := spC) l.es nm with
 | some s =>
  rw [hF] at hx
  dsimp only at hx
  by_cases hs : s.1 = true
  ·rw [if_pos hs] at hx
   cases hx
   obtain ⟨b, s2⟩ := s
   obtain rfl : b = true := hs
   conv => whnf
   exact eR9
  ·rw [if_neg hs] at hx
   obtain ⟨b, s2⟩ := s
   obtain rfl : b = false := by
    cases b
    ·rfl
    ·exact absurd rfl hs
   have hs' : (repF (incF k) (false, s2) l).isSome = true := by rw [hx]; rfl
   have hg : ((repF (incF k) (false, s2) l).getD (((0, 0, 0), 0), l)) = x := by rw [hx]; rfl
   repeat ((conv => whnf); refine ⟨⟨rfl, rfl, hl, hs'⟩, ?_⟩)
   conv => whnf
   rw [← hg]
   exact eR9
 | none =>
  rw [hF] at hx
  dsimp only at hx
  have hlt := (seek_lt (Int.not_lt.1 h1)).1
  have hs : (readF (incF k) (seekV l.files nm).toNat l).isSome = true := by rw [hx]; rfl
  have hg : ((readF (incF k) (seekV l.files nm).toNat l).getD (((0, 0, 0), 0), l)) = x := by rw [hx]; rfl
  have hz : (((seekV l.files nm).toNat : Nat) : Int) = seekV l.files nm := Int.toNat_of_nonneg (Int.not_lt.1 h1)
  repeat ((conv => whnf); refine ⟨⟨congrArg (fun n => [AV.c (AC.int .i64 n)]) hz.symm, rfl, ⟨hl, hlt⟩, hs⟩, ?_⟩)
  conv => whnf
  rw [← hg]
  exact eR9
theorem tIk : ∀ k, TS9 (tI Z5 k) := by
 intro k
 induction k with
 | zero =>
  refine extLd (i4 z5) 28 (fn := Tryz.f28) rfl rfl daInc eaInc _ _ (fun _ => nB9 rfl) [] fun l a x hp hx => ?_
  cases hx
 | succ k ih => exact ext_only (iI k (iRp k (cp (iR k (iA k ih))))) (i4 z5)
end
def okPt (p : prtC.den) : Prop := p.2.1.length ≤ 6001
def okLs (ps : List prtC.den) : Prop := ps.length ≤ 6001 ∧ ∀ p ∈ ps, okPt p
def okDf (d : defC.den) : Prop := okLs d.2.2.2.1
structure BK (r : Sr) : Prop where
 len : r.toks.length ≤ 6001
 fit : ∀ d ∈ r.defs, okDf d
theorem BK.same {r q : Sr} (h : BK r) (ht : q.toks = r.toks) (hd : q.defs = r.defs) : BK q := ⟨by rw [ht]; exact h.len, by rw [hd]; exact h.fit⟩
theorem BK.add {r : Sr} (h : BK r) {d : defC.den} (hd : okDf d) : BK (r.add d) := ⟨h.len, fun x hx => by
 rcases List.mem_append.1 hx with hx | hx
 ·exact h.fit x hx
 ·obtain rfl := List.mem_singleton.1 hx
  exact hd⟩
theorem dfn_ok (kind : Int) (l n : ByteArray) {ps : List prtC.den} (h : okLs ps) (t : tkC.den) : okDf (dfn kind l n ps t) := h
theorem nil_ok : okLs [] := ⟨nZ9 _, fun z hz => by cases hz⟩
theorem mustS_bk (s : ByteArray) {r : Sr} (h : BK r) : BK (mustS s r).2 := by
 unfold mustS
 split
 ·exact h.same rfl rfl
 ·exact h
theorem takeS_bk (k : Int) (v : ByteArray → Bool) {r : Sr} (h : BK r) : BK (takeS k v r).2 := by
 unfold takeS
 split
 ·split
  ·exact h.same rfl rfl
  ·exact h
 ·exact h
theorem nmS_bk (nm : Nm) {r : Sr} (h : BK r) : BK (nmS nm r).2 := by
 cases nm with
 | root => exact mustS_bk _ h
 | ref => exact takeS_bk _ _ h
 | node => exact takeS_bk _ _ h
 | prop => exact takeS_bk _ _ h
 | str => exact takeS_bk _ _ h
theorem cmdS_bk (kind : Int) (nm : Nm) {r : Sr} (h : BK r) : BK (cmdS kind nm r).2 := by
 have h1 := nmS_bk nm (h.same (q := r.adv) rfl rfl)
 unfold cmdS
 simp only
 split
 ·exact mustS_bk _ (h1.add (dfn_ok _ _ _ nil_ok _))
 ·exact h1
theorem numsS_bk : ∀ (k : Nat) {r : Sr} (out : List Int), BK r → BK (numsS k r out).2 := by
 intro k
 induction k with
 | zero => intro r out h; exact h
 | succ k ih =>
  intro r out h
  unfold numsS
  split
  ·exact h.same rfl rfl
  ·split
   ·split
    ·exact h
    ·exact ih _ (h.same rfl rfl)
   ·exact h
theorem celS_bk {r : Sr} (h : BK r) : BK (celS r).2 := by
 unfold celS
 split
 ·exact takeS_bk _ _ h
 ·simp only
  split
  ·exact h.same rfl rfl
  ·exact h
theorem celsS_bk : ∀ (k : Nat) {r : Sr} (out : List celC.den), BK r → BK (celsS k r out).2 ∧ (celsS k r out).1.1.length ≤ out.length + k := by
 intro k
 induction k with
 | zero => intro r out h; exact ⟨h, nZ9 _⟩
 | succ k ih =>
  intro r out h
  unfold celsS
  split
  ·exact ⟨h.same rfl rfl, Nat.le_add_right _ _⟩
  ·split
   ·obtain ⟨a, b⟩ := ih (out ++ [(celS r).1.1]) (celS_bk h)
    refine ⟨a, ?_⟩
    rw [zP9] at b
    have : [(celS r).1.1].length = 1 := rfl
    omega
   ·exact ⟨celS_bk h, nZ9 _⟩
theorem prtS_bk {r : Sr} (h : BK r) : BK (prtS r).2 ∧ okPt (prtS r).1.1 := by
 have z : ∀ (k : Int) (t : ByteArray), okPt (k, [], t) := fun _ _ => nZ9 _
 unfold prtS
 split
 ·obtain ⟨a, b⟩ := celsS_bk r.toks.length [] (h.same (q := r.adv) rfl rfl)
  refine ⟨a, ?_⟩
  have := h.len
  have e0 : ([] : List celC.den).length = 0 := rfl
  show (celsS r.toks.length r.adv []).1.1.length ≤ 6001
  omega
 ·split
  ·exact ⟨numsS_bk _ _ (h.same rfl rfl), z _ _⟩
  ·split
   ·exact ⟨takeS_bk _ _ h, z _ _⟩
   ·exact ⟨takeS_bk _ _ h, z _ _⟩
theorem prtsS_bk : ∀ (k : Nat) {r : Sr} (out : List prtC.den), BK r → (∀ p ∈ out, okPt p) → BK (prtsS k r out).2 ∧ (prtsS k r out).1.1.length ≤ out.length + k ∧ ∀ p ∈ (prtsS k r out).1.1, okPt p := by
 intro k
 induction k with
 | zero => intro r out h ho; exact ⟨h, nZ9 _, fun p hp => by cases hp⟩
 | succ k ih =>
  intro r out h ho
  obtain ⟨h1, h2⟩ := prtS_bk h
  have hn : (out ++ [(prtS r).1.1]).length = out.length + 1 := by rw [zP9]; rfl
  have hm : ∀ p ∈ out ++ [(prtS r).1.1], okPt p := fun p hp => by
   rcases List.mem_append.1 hp with hp | hp
   ·exact ho p hp
   ·obtain rfl := List.mem_singleton.1 hp
    exact h2
  unfold prtsS
  split
  ·split
   ·obtain ⟨a, b, c⟩ := ih (out ++ [(prtS r).1.1]) (h1.same (q := (prtS r).2.adv) rfl rfl) hm
    exact ⟨a, by omega, c⟩
   ·exact ⟨h1, by show (out ++ [(prtS r).1.1]).length ≤ _; omega, hm⟩
  ·exact ⟨h1, Nat.le_add_right _ _, ho⟩
theorem prpS_bk {r : Sr} (h : BK r) : BK (prpS r).2 := by
 have h1 := nmS_bk .prop h
 unfold prpS
 simp only
 split
 ·by_cases hs : sgnI (nmS .prop r).2.tok ⟨#[61]⟩ = true
  ·rw [if_pos hs]
   obtain ⟨a, b, c⟩ := prtsS_bk (nmS .prop r).2.toks.length [] (h1.same (q := (nmS .prop r).2.adv) rfl rfl) (fun p hp => by cases hp)
   split
   ·refine mustS_bk _ (a.add (dfn_ok _ _ _ ⟨?_, c⟩ _))
    have := h1.len
    have e0 : ([] : List prtC.den).length = 0 := rfl
    show (prtsS (nmS .prop r).2.toks.length (nmS .prop r).2.adv []).1.1.length ≤ 6001
    omega
   ·exact a
  ·rw [if_neg hs]
   simp only [if_true]
   exact mustS_bk _ (h1.add (dfn_ok _ _ _ nil_ok _))
 ·exact h1
theorem nodF_bk {body : Sr → Int × Sr} (hb : ∀ q, BK q → BK (body q).2) (nm : Nm) {r : Sr} (h : BK r) : BK (nodF body nm r).2 := by
 have go : ∀ (l : ByteArray) (q : Sr), BK q → BK (if (nmS nm q).1.2 = 0 then (if (body ((nmS nm q).2.add (dfn 1 l (nmS nm q).1.1 [] r.tok))).1 = 0 then mustS ⟨#[59]⟩ (body ((nmS nm q).2.add (dfn 1 l (nmS nm q).1.1 [] r.tok))).2 else body ((nmS nm q).2.add (dfn 1 l (nmS nm q).1.1 [] r.tok))) else ((nmS nm q).1.2, (nmS nm q).2)).2 := by
  intro l q hq
  have h1 := nmS_bk nm hq
  have h2 := hb _ (h1.add (dfn_ok 1 l (nmS nm q).1.1 nil_ok r.tok))
  split
  ·split
   ·exact mustS_bk _ h2
   ·exact h2
  ·exact h1
 unfold nodF
 simp only
 by_cases h5 : r.tok.1 = 5
 ·rw [if_pos h5]
  have h1 := takeS_bk 5 labB h
  split
  ·exact go _ _ h1
  ·exact h1
 ·rw [if_neg h5]
  simp only [if_true]
  exact go _ _ h
theorem memF_bk {node : Nm → Sr → Int × Sr} (hn : ∀ r nm, BK r → BK (node nm r).2) {r : Sr} (h : BK r) : BK (memF node r).2 := by
 unfold memF
 split
 ·exact cmdS_bk _ _ h
 ·split
  ·exact cmdS_bk _ _ h
  ·split
   ·exact prpS_bk h
   ·exact hn _ _ h
theorem memsF_bk {mem : Sr → Int × Sr} (hm : ∀ r, BK r → BK (mem r).2) : ∀ (k : Nat) {r : Sr}, BK r → BK (memsF mem k r).2 := by
 intro k
 induction k with
 | zero => intro r h; exact h
 | succ k ih =>
  intro r h
  unfold memsF
  split
  ·exact h
  ·split
   ·exact ih (hm r h)
   ·exact hm r h
theorem bodF_bk {mem : Sr → Int × Sr} (hm : ∀ r, BK r → BK (mem r).2) {r : Sr} (h : BK r) : BK (bodF mem r).2 := by
 unfold bodF
 split
 ·split
  ·exact h
  ·have h1 := memsF_bk hm r.toks.length (h.same (q := { r.adv with bod := r.bod + 1 }) rfl rfl)
   simp only
   split
   ·exact mustS_bk _ (BK.add (⟨h1.len, h1.fit⟩ : BK { (memsF mem r.toks.length { r.adv with bod := r.bod + 1 }).2 with bod := (memsF mem r.toks.length { r.adv with bod := r.bod + 1 }).2.bod - 1 }) (dfn_ok _ _ _ nil_ok _))
   ·exact h1
 ·exact h
theorem bodS_bk : ∀ (k : Nat) {r : Sr}, BK r → BK (bodS k r).2 := by
 intro k
 induction k with
 | zero => intro r h; exact h
 | succ k ih => intro r h; exact bodF_bk (fun r h => memF_bk (fun r nm h => nodF_bk (fun q hq => ih hq) nm h) h) h
theorem topS_bk {r : Sr} (h : BK r) : BK (topS r).2 := by
 unfold topS
 split
 ·exact cmdS_bk _ _ h
 ·split
  ·exact cmdS_bk _ _ h
  ·split
   ·exact nodF_bk (fun q hq => bodS_bk _ hq) _ h
   ·exact nodF_bk (fun q hq => bodS_bk _ hq) _ h
theorem topsS_bk : ∀ (k : Nat) {r : Sr}, BK r → BK (topsS k r).2 := by
 intro k
 induction k with
 | zero => intro r h; exact h
 | succ k ih =>
  intro r h
  unfold topsS
  split
  ·exact h
  ·split
   ·exact ih (topS_bk h)
   ·exact topS_bk h
theorem srcV_ok (s : ByteArray) (f : Int) : ∀ d ∈ (srcV s f).defs, okCp d := by
 have fin : ∀ d : defC.den, okDf d → okCp d := fun d h => ⟨Nat.le_trans h.1 (by omega), fun p hp => Nat.le_trans (h.2 p hp) (by omega)⟩
 unfold srcV
 split
 ·rename_i h0
  simp only
  have v := srV_vld' h0
  have hb := topsS_bk (readV s f).toks.length (r := ⟨(readV s f).toks, 0, 0, []⟩) ⟨v.len, fun d hd => by cases hd⟩
  split
  ·exact fun d hd => fin d (hb.fit d hd)
  ·intro d hd
   cases hd
 ·intro d hd
  cases hd
theorem findE_set (a b : ByteArray) (x : spC.den) : ∀ es : List (ByteArray × spC.den), findE (k := .str) (v := spC) (setE (k := .str) (v := spC) a x es) b = if b = a then some x else findE (k := .str) (v := spC) es b := by
 have ke : ∀ p q : ByteArray, keyEq .str p q = decide (p = q) := fun _ _ => rfl
 intro es
 induction es with
 | nil =>
  simp only [setE, findE, ke]
  by_cases h : b = a
  ·simp [h]
  ·simp [h]
 | cons y r ih =>
  obtain ⟨c, y⟩ := y
  simp only [setE, ke]
  by_cases h1 : a = c
  ·subst h1
   simp only [decide_true, findE, ke]
   by_cases h : b = a
   ·simp [h]
   ·simp [h]
  ·simp only [h1, decide_false, findE, ke, ih]
   by_cases h : b = c
   ·subst h
    have : ¬ b = a := fun e => h1 e.symm
    simp [this]
   ·simp [h]
def Ld.un (l : Ld) : Nat := (l.files.filter fun f => (findE (k := .str) (v := spC) l.es f.1).isNone).length
def okE (n : Nat) (s : spC.den) : Prop := s.1 = true ∨ (0 ≤ s.2.1 ∧ s.2.1 ≤ s.2.2 ∧ s.2.2 ≤ (n : Nat))
structure LdOk (l : Ld) : Prop where
 nms : l.names.length + l.un ≤ 1000
 dfs : l.defs.length ≤ 6000
 ok : ∀ d ∈ l.defs, d.1 ≠ 6 ∧ okCp d
 es : ∀ nm s, findE (k := .str) (v := spC) l.es nm = some s → okE l.defs.length s
structure LdTo (l m : Ld) : Prop where
 ok : LdOk m
 un : m.un ≤ l.un
 files : m.files = l.files
 dfs : l.defs.length ≤ m.defs.length
theorem LdTo.refl {l : Ld} (h : LdOk l) : LdTo l l := ⟨h, nR9 _, rfl, nR9 _⟩
theorem LdTo.trans {l m n : Ld} (h : LdTo l m) (k : LdTo m n) : LdTo l n := ⟨k.ok, Nat.le_trans k.un h.un, k.files.trans h.files, Nat.le_trans h.dfs k.dfs⟩
def Tot (B : Nat) (inc : LdI) : Prop := ∀ nm p l, LdOk l → l.un < B → ∃ x, inc nm p l = some x ∧ LdTo l x.2
theorem addF_tot {inc : LdI} {B : Nat} {d : defC.den} (hi : d.1 = 6 → Tot B inc) (hd : okCp d) {l : Ld} (hl : LdOk l) (hb : d.1 = 6 → l.un < B) : ∃ x, addF inc d l = some x ∧ LdTo l x.2 := by
 unfold addF
 by_cases h6 : d.1 = 6
 ·rw [if_pos h6]
  exact hi h6 _ _ _ hl (hb h6)
 ·rw [if_neg h6]
  split
  ·exact ⟨_, rfl, LdTo.refl hl⟩
  ·rename_i hn
   have hlen : (l.put d).defs.length = l.defs.length + 1 := by
    show (l.defs ++ [d]).length = _
    rw [zP9]
    rfl
   have hn' : l.defs.length < 6000 := Nat.lt_of_not_le hn
   have e1 : (l.put d).defs.length ≤ 6000 := by rw [hlen]; exact hn'
   have e2 : l.defs.length ≤ (l.put d).defs.length := by rw [hlen]; exact Nat.le_succ _
   refine ⟨_, rfl, ⟨⟨hl.nms, e1, fun x hx => ?_, fun nm s hs => ?_⟩, nR9 _, rfl, e2⟩⟩
   ·rcases List.mem_append.1 hx with hx | hx
    ·exact hl.ok x hx
    ·obtain rfl := List.mem_singleton.1 hx
     exact ⟨h6, hd⟩
   ·show okE (l.put d).defs.length s
    rcases hl.es nm s hs with h1 | ⟨h1, h2, h3⟩
    ·exact .inl h1
    ·exact .inr ⟨h1, h2, Int.le_trans h3 (Int.ofNat_le.2 e2)⟩
theorem goF_tot {inc : LdI} {B : Nat} : ∀ (ds : List defC.den), (∀ d ∈ ds, okCp d) → (∀ d ∈ ds, d.1 = 6 → Tot B inc) → ∀ l, LdOk l → (∀ d ∈ ds, d.1 = 6 → l.un < B) → ∃ x, goF inc ds l = some x ∧ LdTo l x.2 := by
 intro ds
 induction ds with
 | nil => intro _ _ l hl _; exact ⟨_, rfl, LdTo.refl hl⟩
 | cons d r ih =>
  intro hok hi l hl hb
  obtain ⟨x, hx, hto⟩ := addF_tot (hi d (by simp)) (hok d (by simp)) hl (hb d (by simp))
  unfold goF
  rw [hx]
  simp only
  split
  ·obtain ⟨y, hy, hy2⟩ := ih (fun e he => hok e (by simp [he])) (fun e he => hi e (by simp [he])) x.2 hto.ok fun e he h6 => Nat.lt_of_le_of_lt hto.un (hb e (by simp [he]) h6)
   exact ⟨y, hy, hto.trans hy2⟩
  ·exact ⟨_, rfl, hto⟩
theorem filter_lt {α : Type} {p q : α → Bool} : ∀ {l : List α}, (∀ x ∈ l, q x = true → p x = true) → (l.filter q).length ≤ (l.filter p).length ∧ ((∃ x ∈ l, p x = true ∧ q x = false) → (l.filter q).length < (l.filter p).length) := by
 intro l
 induction l with
 | nil => intro _; exact ⟨nR9 _, fun ⟨x, hx, _⟩ => by cases hx⟩
 | cons a l ih =>
  intro h
  obtain ⟨i1, i2⟩ := ih fun x hx => h x (by simp [hx])
  have ha := h a (by simp)
  cases hq : q a with
  | true =>
   have hp := ha hq
   rw [List.filter_cons_of_pos hq, List.filter_cons_of_pos hp]
   refine ⟨by simpa using i1, fun ⟨x, hx, h1, h2⟩ => ?_⟩
   rcases List.mem_cons.1 hx with rfl | hx
   ·rw [hq] at h2; cases h2
   ·simpa using i2 ⟨x, hx, h1, h2⟩
  | false =>
   rw [List.filter_cons_of_neg (by simp [hq])]
   cases hp : p a with
   | true =>
    rw [List.filter_cons_of_pos hp]
    exact ⟨by simp only [zC9]; omega, fun _ => by simp only [zC9]; omega⟩
   | false =>
    rw [List.filter_cons_of_neg (by simp [hp])]
    refine ⟨i1, fun ⟨x, hx, h1, h2⟩ => ?_⟩
    rcases List.mem_cons.1 hx with rfl | hx
    ·rw [hp] at h1; cases h1
    ·exact i2 ⟨x, hx, h1, h2⟩
theorem un_set {l m : Ld} {a : ByteArray} {x : spC.den} (hf : m.files = l.files) (he : m.es = setE (k := .str) (v := spC) a x l.es) : m.un ≤ l.un ∧ ((∃ f ∈ l.files, f.1 = a ∧ findE (k := .str) (v := spC) l.es f.1 = none) → m.un < l.un) := by
 unfold Ld.un
 rw [hf, he]
 have h := filter_lt (p := fun f : flC.den => (findE (k := .str) (v := spC) l.es f.1).isNone) (q := fun f : flC.den => (findE (k := .str) (v := spC) (setE (k := .str) (v := spC) a x l.es) f.1).isNone) (l := l.files) fun f _ hq => by
  rw [findE_set] at hq
  split at hq
  ·cases hq
  ·exact hq
 refine ⟨h.1, fun ⟨f, hf, h1, h2⟩ => h.2 ⟨f, hf, by rw [h2]; rfl, by rw [findE_set, if_pos h1]; rfl⟩⟩
theorem readF_tot {inc : LdI} {B : Nat} (hi : Tot B inc) {i : Nat} {l : Ld} (hl : LdOk l) (hlt : i < l.files.length) (hn : findE (k := .str) (v := spC) l.es (l.nm i) = none) (hb : l.un < B + 1) : ∃ x, readF inc i l = some x ∧ LdTo l x.2 := by
 unfold readF
 split
 ·exact ⟨_, rfl, LdTo.refl hl⟩
 ·have h1 := hl.nms
  rw [if_neg (by omega)]
  have hm : l.files.getD i flC.dflt ∈ l.files := by
   have : l.files.getD i flC.dflt = l.files[i] := by simp [hlt]
   rw [this]
   exact List.getElem_mem hlt
  obtain ⟨u1, u2⟩ := un_set (l := l) (m := l.opened i) rfl rfl
  have u2 := u2 ⟨_, hm, rfl, hn⟩
  have hnl : (l.opened i).names.length = l.names.length + 1 := by
   show (l.names ++ [_]).length = _
   rw [zP9]
   rfl
  have ho : LdOk (l.opened i) := ⟨by omega, hl.dfs, hl.ok, fun nm s hs => by
   have hs : findE (k := .str) (v := spC) (setE (k := .str) (v := spC) (l.nm i) (true, 0, 0) l.es) nm = some s := hs
   rw [findE_set] at hs
   split at hs
   ·cases hs; exact .inl rfl
   ·exact hl.es nm s hs⟩
  obtain ⟨x, hx, hto⟩ := goF_tot (inc := inc) (B := B) (l.src i).defs (srcV_ok _ _) (fun _ _ _ => hi) (l.opened i) ho fun _ _ _ => by omega
  rw [hx]
  simp only
  have back : LdTo l x.2 := ⟨hto.ok, by have := hto.un; omega, hto.files, hto.dfs⟩
  split
  ·refine ⟨_, rfl, ?_⟩
   obtain ⟨v1, _⟩ := un_set (l := x.2) (m := l.closed x.2 i) rfl rfl
   have hd : l.defs.length ≤ x.2.defs.length := hto.dfs
   refine ⟨⟨?_, hto.ok.dfs, hto.ok.ok, fun nm s hs => ?_⟩, Nat.le_trans v1 back.un, hto.files, hd⟩
   ·have := hto.ok.nms
    show x.2.names.length + (l.closed x.2 i).un ≤ 1000
    omega
   ·have hs : findE (k := .str) (v := spC) (setE (k := .str) (v := spC) (l.nm i) (false, (l.defs.length : Nat), (x.2.defs.length : Nat)) x.2.es) nm = some s := hs
    rw [findE_set] at hs
    split at hs
    ·cases hs
     exact .inr ⟨by show (0 : Int) ≤ (l.defs.length : Nat); omega, by show ((l.defs.length : Nat) : Int) ≤ (x.2.defs.length : Nat); omega, Int.le_refl _⟩
    ·exact hto.ok.es nm s hs
  ·exact ⟨_, rfl, back⟩
theorem repF_tot {inc : LdI} {s : spC.den} {l : Ld} (hl : LdOk l) (hs : okE l.defs.length s) (h1 : ¬ s.1 = true) : ∃ x, repF inc s l = some x ∧ LdTo l x.2 := by
 have hr : okRp s l := by
  rcases hs with h2 | ⟨h2, h3, h4⟩
  ·exact absurd h2 h1
  ·exact ⟨h2, h3, h4, Nat.le_trans hl.dfs (by omega), fun d hd => (hl.ok d hd).2⟩
 unfold repF
 rw [if_pos hr]
 exact goF_tot (B := 0) (l.span s) (fun d hd => (hl.ok d (span_mem hd)).2) (fun d hd h6 => absurd h6 (hl.ok d (span_mem hd)).1) l hl fun d hd h6 => absurd h6 (hl.ok d (span_mem hd)).1
theorem seekV_name {files : List flC.den} {name : ByteArray} (h : ¬ seekV files name < 0) : (files.getD (seekV files name).toNat flC.dflt).1 = name := by
 have key : ∀ (l : List flC.den) (i : Nat), 0 ≤ seekGo name l i → i ≤ (seekGo name l i).toNat ∧ (l.getD ((seekGo name l i).toNat - i) flC.dflt).1 = name := by
  intro l
  induction l with
  | nil => intro i h0; exact absurd h0 (by show ¬ (0 : Int) ≤ -1; decide)
  | cons f r ih =>
   intro i h0
   unfold seekGo at h0 ⊢
   by_cases hf : f.1 = name
   ·rw [if_pos hf]
    refine ⟨by omega, ?_⟩
    have : ((i : Nat) : Int).toNat - i = 0 := by omega
    rw [this]
    exact hf
   ·rw [if_neg hf] at h0 ⊢
    obtain ⟨h1, h2⟩ := ih (i + 1) h0
    refine ⟨by omega, ?_⟩
    have : (seekGo name r (i + 1)).toNat - i = ((seekGo name r (i + 1)).toNat - (i + 1)) + 1 := by omega
    rw [this]
    exact h2
 have := (key files 0 (Int.not_lt.1 h)).2
 rw [Nat.sub_zero] at this
 exact this
theorem incF_tot : ∀ k, Tot k (incF k) := by
 intro k
 induction k with
 | zero => intro nm p l _ h; exact absurd h (nN9 _)
 | succ k ih =>
  intro nm p l hl hb
  unfold incF
  by_cases h0 : seekV l.files nm < 0
  ·rw [if_pos h0]
   exact ⟨_, rfl, LdTo.refl hl⟩
  ·rw [if_neg h0]
   have hlt := (seek_lt (Int.not_lt.1 h0)).1
   have hnm : l.nm (seekV l.files nm).toNat = nm := seekV_name h0
   cases hF : findE (k := .str) (v := spC) l.es nm with
   | some s =>
    simp only
    split
    ·exact ⟨_, rfl, LdTo.refl hl⟩
    ·rename_i h1
     exact repF_tot hl (hl.es nm s hF) h1
   | none =>
    simp only
    exact readF_tot ih hl hlt (by rw [hnm]; exact hF) hb
theorem ldO_some (fs : List flC.den) (nm : ByteArray) (h : fs.length ≤ 1000) : (incF 1001 nm (0, 0, 0) ⟨fs, [], [], []⟩).isSome = true := by
 have hu : (⟨fs, [], [], []⟩ : Ld).un ≤ fs.length := List.length_filter_le _ _
 obtain ⟨x, hx, _⟩ := incF_tot 1001 nm (0, 0, 0) ⟨fs, [], [], []⟩ ⟨by show 0 + _ ≤ 1000; omega, by show 0 ≤ 6000; omega, fun d hd => absurd hd (List.not_mem_nil), fun nm s hs => nomatch (show (none : Option spC.den) = some s from hs)⟩ (by omega)
 rw [hx]
 rfl
end Go.Ab
