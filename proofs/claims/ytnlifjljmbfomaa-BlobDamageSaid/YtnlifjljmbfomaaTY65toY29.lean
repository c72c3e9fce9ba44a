/- Package tree: what Add needs. -/
import Derived.Test.YtnlifjljmbfomaaTY64toU6
import Derived.Test.YtnlifjljmbfomaaTOtoP
import Derived.Test.YtnlifjljmbfomaaTX0toY60
namespace Go.Ab
open Go.Proofs
set_option linter.unusedSectionVars false
set_option maxRecDepth 100000
variable [Base]

theorem id3 : ∀ k, k < 3 → [0, 1, 2][k]? = some k := fun k hk => by
  obtain rfl | rfl | rfl : k = 0 ∨ k = 1 ∨ k = 2 := by omega
  all_goals rfl
abbrev hpR3 (ns : List Nd) (k : Int) (s : ByteArray) : List AO := [.row [.p (.l ndC ns)], .row [.int .i64 k], .row [.str s]]
def daR3 : List AO → Option (List Nd × Int × ByteArray)
  | [.row [.p (.l c0 ns)], .row [.p (.v (.int .i64 k))], .row [.p (.v (.string s))]] => match castD (e := ndC) (e' := c0) ns with | some ns => some (ns, k, s) | none => none
  | _ => none
def samB (ns : List Nd) (k : Int) (s : ByteArray) (i : Nat) : Bool := decide ((ndAt ns i).1 = k) && decide ((ndAt ns i).2.1 = s)
def saysSam1 : Says := fun args H => match args, daR3 H with
  | [.c (.p (.v (.int .i64 i))), .c (.ptr 0 0), .c (.ptr 1 0), .c (.ptr 2 0)], some (ns, k, s) => some (some (H = hpR3 ns k s ∧ 0 ≤ i ∧ i < (ns.length : Nat)), .bool (samB ns k s i.toNat), hpR3 ns k s)
  | _, _ => none
abbrev A24 : Table := A23
theorem a24 : TSound Try.prog A24 := a23
abbrev A25 : Table := A24
theorem a25 : TSound Try.prog A25 := a24
def daNIS : List AV → Option (List Nd × Int × ByteArray)
  | [.c (.p (.l c0 ns)), .c (.p (.v (.int .i64 n))), .c (.p (.v (.string s)))] => match castD (e := ndC) (e' := c0) ns with | some ns => some (ns, n, s) | none => none
  | _ => none
def eaNIS (a : List Nd × Int × ByteArray) : List AV := [.c (.p (.l ndC a.1)), .c (.int .i64 a.2.1), .c (.str a.2.2)]
def adbV (a : List Nd × Int × ByteArray) : Int :=
  if namB a.2.2 = false then 1 else if skV (samB a.1 a.2.1 a.2.2) a.1.length < a.1.length then 5 else if 8 ≤ dpV a.1 a.2.1.toNat then 2 else if 120 ≤ a.1.length then 3 else 0
abbrev A26 : Table := A25
theorem a26 : TSound Try.prog A26 := a25
/-! end. -/
abbrev hpE (ns : List Nd) (k : Int) : List AO := [.row [.int .i64 k], .row [.p (.l ndC ns)]]
def daE : List AO → Option (List Nd × Int)
  | [.row [.p (.v (.int .i64 k))], .row [.p (.l c0 ns)]] => match castD (e := ndC) (e' := c0) ns with | some ns => some (ns, k) | none => none
  | _ => none
def behB (ns : List Nd) (k : Int) (i : Nat) : Bool := decide (k < (i : Int)) && decide ((ndAt ns i).1 < k)
def saysEnd1 : Says := fun args H => match args, daE H with
  | [.c (.p (.v (.int .i64 i))), .c (.ptr 0 0), .c (.ptr 1 0)], some (ns, k) => some (some (H = hpE ns k ∧ 0 ≤ i ∧ i < (ns.length : Nat)), .bool (decide (k < i) && decide ((ndAt ns i.toNat).1 < k)), hpE ns k)
  | _, _ => none
abbrev A27 : Table := A26
theorem a27 : TSound Try.prog A27 := a26
abbrev A28 : Table := A27
theorem a28 : TSound Try.prog A28 := a27
abbrev A29 : Table := A28
theorem a29 : TSound Try.prog A29 := a28

abbrev ndT : TypeId := 41
abbrev hpN (ns : List Nd) : List AO := [.arr ndT ndC ns 0]
theorem nd_set {ns : List Nd} {i : Nat} (h : i < ns.length) : ns.set i (ns.getD i ndC.dflt) = ns := by
  have he : ns.getD i ndC.dflt = ns[i] := by simp [h]
  rw [he]
  exact List.set_getElem_self h
def saysCpN : Says := fun args H => match H with
  | [] => match daN args with
    | some ns => some (some (args = eaN ns ∧ LenN ns ∧ 0 < ns.length), .a (.c (.sl 0 ndC 0 ns.length)), hpN ns)
    | none => none
  | _ => none
abbrev A30 : Table := A29
theorem a30 : TSound Try.prog A30 := a29
/-! The place of a child that is added. -/
abbrev hpA1 (b : Int) (ns : List Nd) (k : Int) (s : ByteArray) : List AO := [.row [.int .i64 b], .row [.sl 4 ndC 0 ns.length], .row [.int .i64 k], .row [.str s], .arr ndT ndC ns 0]
def daA1 : List AO → Option (Int × List Nd × Int × ByteArray)
  | [.row [.p (.v (.int .i64 b))], .row [.sl _ _ _ _], .row [.p (.v (.int .i64 k))], .row [.p (.v (.string s))], .arr _ c0 ns _] => match castD (e := ndC) (e' := c0) ns with | some ns => some (b, ns, k, s) | none => none
  | _ => none
def addB (b : Int) (ns : List Nd) (k : Int) (s : ByteArray) (i : Nat) : Bool := decide ((i : Int) = b) || (decide ((ndAt ns i).1 = k) && !bLe (ndAt ns i).2.1 s)
def saysAdd1 : Says := fun args H => match args, daA1 H with
  | [.c (.p (.v (.int .i64 i))), .c (.ptr 0 0), .c (.ptr 1 0), .c (.ptr 2 0), .c (.ptr 3 0)], some (b, ns, k, s) => some (some (H = hpA1 b ns k s ∧ 0 ≤ i ∧ i < (ns.length : Nat)), .bool (decide (i = b) || (decide ((ndAt ns i.toNat).1 = k) && !bLe (ndAt ns i.toNat).2.1 s)), hpA1 b ns k s)
  | _, _ => none
theorem id5 : ∀ k, k < 5 → [0, 1, 2, 3, 4][k]? = some k := fun k hk => by
  obtain rfl | rfl | rfl | rfl | rfl : k = 0 ∨ k = 1 ∨ k = 2 ∨ k = 3 ∨ k = 4 := by omega
  all_goals rfl
abbrev A31 : Table := A30
theorem a31 : TSound Try.prog A31 := a30
abbrev hpA2 (b : Int) (ns : List Nd) (k : Int) (s : ByteArray) : List AO := [.arr ndT ndC ns 0, .row [.int .i64 b], .row [.sl 0 ndC 0 ns.length], .row [.int .i64 k], .row [.str s]]
def daA2 : List AO → Option (Int × List Nd × Int × ByteArray)
  | [.arr _ c0 ns _, .row [.p (.v (.int .i64 b))], .row [.sl _ _ _ _], .row [.p (.v (.int .i64 k))], .row [.p (.v (.string s))]] => match castD (e := ndC) (e' := c0) ns with | some ns => some (b, ns, k, s) | none => none
  | _ => none
abbrev A32 : Table := A31
theorem a32 : TSound Try.prog A32 := a31
/-! The parents move on. -/
def mvGo (fr by' : Int) (n : Nd) : Nd := if fr ≤ n.1 then (n.1 + by', n.2.1, n.2.2) else n
def mvP (g : Nd → Nd) (ns : List Nd) (i : Nat) : List Nd := (ns.take i).map g ++ ns.drop i
theorem mvP_length (g : Nd → Nd) (ns : List Nd) (i : Nat) : (mvP g ns i).length = ns.length := by
  unfold mvP
  rw [List.length_append, List.length_map, List.length_take, List.length_drop]
  omega
theorem mvP_at (g : Nd → Nd) {ns : List Nd} {i : Nat} (h : i < ns.length) : (mvP g ns i).getD i ndC.dflt = ndAt ns i := by
  unfold mvP ndAt
  have h1 : ((ns.take i).map g).length = i := by rw [List.length_map, List.length_take]; omega
  rw [List.getD_eq_getElem?_getD, List.getElem?_append_right (by omega), h1, Nat.sub_self, List.drop_eq_getElem_cons h]
  simp [h]
theorem mvP_set (g : Nd → Nd) {ns : List Nd} {i : Nat} (h : i < ns.length) : (mvP g ns i).set i (g (ndAt ns i)) = mvP g ns (i + 1) := by
  unfold mvP
  have h1 : ((ns.take i).map g).length = i := by rw [List.length_map, List.length_take]; omega
  rw [List.set_append_right _ _ (by omega), h1, Nat.sub_self, List.drop_eq_getElem_cons h, List.set_cons_zero, List.take_succ_eq_append_getElem h, List.map_append, List.map_cons, List.map_nil, List.append_assoc]
  have e : ndAt ns i = ns[i] := by unfold ndAt; simp [h]
  rw [e]
  rfl
theorem mvP_end (g : Nd → Nd) (ns : List Nd) : mvP g ns ns.length = ns.map g := by
  unfold mvP
  rw [List.take_length, List.drop_length, List.append_nil]
def ParM (ns : List Nd) : Prop := ∀ n ∈ ns, @LE.le Int _ (-1000) n.1 ∧ @LE.le Int _ n.1 1000000000
def saysMv : Says := fun args H => match args, H with
  | [.c (.sl _ _ _ _), .c (.p (.v (.int .i64 fr))), .c (.p (.v (.int .i64 d)))], [.arr _ c0 ns _] => match castD (e := ndC) (e' := c0) ns with
    | some ns => some (some (args = [.c (.sl 0 ndC 0 ns.length), .c (.int .i64 fr), .c (.int .i64 d)] ∧ H = hpN ns ∧ ns.length ≤ 1000000000 ∧ (-1000 ≤ d ∧ d ≤ 1000) ∧ ParM ns), .tup [], hpN (ns.map (mvGo fr d)))
    | none => none
  | _, _ => none
abbrev A33 : Table := A32
theorem a33 : TSound Try.prog A33 := a32

def wiV (a : List Nd × Int × Int × ByteArray) : List Nd := a.1.take a.2.1.toNat ++ (a.2.2.1, a.2.2.2, []) :: a.1.drop a.2.1.toNat
/-- A node without properties. -/
abbrev ndA (n : Int × ByteArray) : AV := .agg [.int .i64 n.1, .str n.2, .p (.v (.slice none 0 0))]
def daNIN : List AV → Option (List Nd × Int × Int × ByteArray)
  | [.c (.p (.l c0 ns)), .c (.p (.v (.int .i64 k))), .agg [.p (.v (.int .i64 p)), .p (.v (.string s)), .p (.v (.slice none 0 0))]] => match castD (e := ndC) (e' := c0) ns with | some ns => some (ns, k, p, s) | _ => none
  | _ => none
def eaNIN (a : List Nd × Int × Int × ByteArray) : List AV := [.c (.p (.l ndC a.1)), .c (.int .i64 a.2.1), ndA a.2.2]
abbrev A34 : Table := A33
theorem a34 : TSound Try.prog A34 := a33
/-! The same with a slice of one's own. -/
def saysWiS : Says := fun args H => match args, H with
  | [.c (.sl _ _ _ _), .c (.p (.v (.int .i64 k))), .agg [.p (.v (.int .i64 p)), .p (.v (.string s)), .p (.v (.slice none 0 0))]], [.arr _ c0 ns _] => match castD (e := ndC) (e' := c0) ns with
    | some ns => some (some (args = [.c (.sl 0 ndC 0 ns.length), .c (.int .i64 k), ndA (p, s)] ∧ H = hpN ns ∧ 0 < ns.length ∧ ns.length ≤ 1000000000 ∧ 0 ≤ k ∧ k ≤ (ns.length : Nat)), .a (.c (.p (.l ndC (wiV (ns, k, p, s))))), [.dead])
    | _ => none
  | _, _ => none
abbrev A35 : Table := A33
theorem castD_self {c : CT} (zs : List c.den) : castD (e := c) (e' := c) zs = some zs := by
  unfold castD
  rw [dif_pos rfl]
theorem saysG_at {α : Type} {da : List AV → Option α} {ea : α → List AV} {g : α → Option Prop × SV} {a : α} (h : da (ea a) = some a) (hp : holdsO (g a).1) : ∃ q, holdsO q ∧ saysG da ea g (ea a) [] = some (q, (g a).2, []) := by
  refine ⟨some (ea a = ea a ∧ holdsO (g a).1), ⟨rfl, hp⟩, ?_⟩
  unfold saysG
  dsimp only
  rw [h]
theorem daNIN_at (a : List Nd × Int × Int × ByteArray) : daNIN (eaNIN a) = some a := by
  show (match castD (e := ndC) (e' := ndC) a.1 with | some ns => some (ns, a.2.1, a.2.2.1, a.2.2.2) | _ => none) = some a
  rw [castD_self]
theorem daNIS_at (a : List Nd × Int × ByteArray) : daNIS (eaNIS a) = some a := by
  unfold daNIS eaNIS
  dsimp only
  rw [castD_self]
theorem daNI_at (a : List Nd × Int) : daNI (eaNI a) = some a := by
  unfold daNI eaNI
  dsimp only
  rw [castD_self]
theorem a35 : TSound Try.prog A35 := a33
/-! Readers of a slice of one's own. -/
def saysAdbS : Says := fun args H => match args, H with
  | [.c (.sl _ _ _ _), .c (.p (.v (.int .i64 k))), .c (.p (.v (.string s)))], [.arr _ c0 ns _] => match castD (e := ndC) (e' := c0) ns with
    | some ns => some (some (args = [.c (.sl 0 ndC 0 ns.length), .c (.int .i64 k), .c (.str s)] ∧ H = hpN ns ∧ 0 < ns.length ∧ ns.length ≤ 1000000000 ∧ ParOk ns ∧ 0 ≤ k ∧ k < (ns.length : Nat)), .int .i64 (adbV (ns, k, s)), hpN ns)
    | none => none
  | _, _ => none
abbrev A36 : Table := A35
theorem a36 : TSound Try.prog A36 := a35
def saysEndS : Says := fun args H => match args, H with
  | [.c (.sl _ _ _ _), .c (.p (.v (.int .i64 k)))], [.arr _ c0 ns _] => match castD (e := ndC) (e' := c0) ns with
    | some ns => some (some (args = [.c (.sl 0 ndC 0 ns.length), .c (.int .i64 k)] ∧ H = hpN ns ∧ 0 < ns.length ∧ ns.length ≤ 1000000000), .int .i64 (skV (behB ns k) ns.length : Nat), hpN ns)
    | none => none
  | _, _ => none
abbrev A37 : Table := A36
theorem a37 : TSound Try.prog A37 := a36

def atV (ns : List Nd) (k : Int) (s : ByteArray) : Nat := skV (addB (skV (behB ns k) ns.length : Nat) ns k s) ns.length
def adV (ns : List Nd) (k : Int) (s : ByteArray) : List Nd := wiV (ns.map (mvGo (atV ns k s : Nat) 1), (atV ns k s : Nat), k, s)
def adR (a : List Nd × Int × ByteArray) : List Nd := if adbV a = 0 then adV a.1 a.2.1 a.2.2 else []
abbrev adS (a : List Nd × Int × ByteArray) : SV := .tup [.c (.p (.l ndC (adR a))), .c (.int .i64 (adbV a))]
structure AdOk (ns : List Nd) (k : Int) : Prop where
  pos : 0 < ns.length
  len : ns.length ≤ 1000000000
  par : ParOk ns
  pm : ParM ns
  k0 : 0 ≤ k
  k1 : k < (ns.length : Nat)
def saysAddX (c : List Nd × Int × ByteArray → Prop) (h : List Nd → List AO) : Says := fun args H => match args, H with
  | [.c (.sl _ _ _ _), .c (.p (.v (.int .i64 k))), .c (.p (.v (.string s)))], [.arr _ c0 ns _] => match castD (e := ndC) (e' := c0) ns with
    | some ns => some (some (args = [.c (.sl 0 ndC 0 ns.length), .c (.int .i64 k), .c (.str s)] ∧ H = hpN ns ∧ AdOk ns k ∧ c (ns, k, s)), adS (ns, k, s), h ns)
    | none => none
  | _, _ => none
def saysAdd : Says := saysAddX (fun _ => True) fun _ => [.dead]
abbrev A38 : Table := A37
theorem a38 : TSound Try.prog A38 := a37
/-! The change as a closure. -/
def saysAd1 : Says := fun args H => match args, H with
  | [.c (.sl _ _ _ _), .c (.p (.v (.int .i64 k))), .c (.ptr 1 0)], [.arr _ c0 ns _, .row [.p (.v (.string s))]] => match castD (e := ndC) (e' := c0) ns with
    | some ns => some (some (args = [.c (.sl 0 ndC 0 ns.length), .c (.int .i64 k), .c (.ptr 1 0)] ∧ H = [.arr ndT ndC ns 0, .row [.str s]] ∧ AdOk ns k), adS (ns, k, s), [.dead, .row [.str s]])
    | none => none
  | _, _ => none
abbrev A39 : Table := A38
theorem a39 : TSound Try.prog A39 := a38

theorem nd_mem {ns : List Nd} {n : Nd} (h : n ∈ ns) : ∃ i, i < ns.length ∧ n = ndAt ns i := by
  obtain ⟨i, hi, rfl⟩ := List.getElem_of_mem h
  exact ⟨i, hi, by unfold ndAt; simp [hi]⟩
theorem frm_pm {ns : List Nd} (h : frmV ns = true) (hl : ns.length ≤ 120) : ParM ns := by
  intro n hn
  obtain ⟨i, hi, rfl⟩ := nd_mem hn
  by_cases h0 : 0 < i
  · have h1 := frm_par h i h0 hi
    have h2 : (ndAt ns i).1 = paI ns i := rfl
    rw [h2]
    constructor <;> omega
  · obtain rfl : i = 0 := by omega
    have h1 := frm_nd h hi
    unfold ndFrm at h1
    obtain ⟨h2, _⟩ := Bool.and_eq_true_iff.1 h1
    obtain ⟨h3, _⟩ := Bool.and_eq_true_iff.1 h2
    have h4 : (ndAt ns 0).1 = -1 := by
      by_cases hx : (ndAt ns 0).1 = -1
      · exact hx
      · rw [decide_eq_false hx] at h3
        simp at h3
    rw [h4]
    exact ⟨Int.le_of_sub_nonneg (by decide), Int.le_of_sub_nonneg (by decide)⟩
theorem vld_ad {ns : List Nd} {p : ByteArray} (hv : VldT ns) (hf : (fndV (ns, p)).2 = true) : AdOk ns (fndV (ns, p)).1 := by
  obtain ⟨_, h1, h2⟩ := lim_len hv.lim
  have h3 : 0 ≤ (fndV (ns, p)).1 ∧ (fndV (ns, p)).1 < (ns.length : Nat) := by
    unfold fndV at *
    dsimp only at *
    split at hf
    · cases hf
    · rename_i h4
      rw [if_neg h4]
      dsimp only
      have := skV_le (isB ns p) ns.length
      omega
  exact ⟨h1, by omega, frm_par hv.frm, frm_pm hv.frm h2, h3.1, h3.2⟩

def AddV (a : List Nd × ByteArray × ByteArray) : List Nd × Int :=
  if chkP a.1 = 0 then if (fndV (a.1, a.2.1)).2 = true then (adR (a.1, (fndV (a.1, a.2.1)).1, a.2.2), adbV (a.1, (fndV (a.1, a.2.1)).1, a.2.2)) else ([], 4) else ([], chkP a.1)
abbrev treR (x : List Nd × Int) : SV := .tup [.agg [.p (.l ndC x.1)], .c (.int .i64 x.2)]
theorem ends_nil {e : Int} {x : List Nd × Int} {H : List AO} (h : x = ([], e)) : Ends (.tup [.agg [.p (.v (.slice none 0 0))], .c (.int .i64 e)]) H (treR x) H := by
  subst h
  refine ends_of (fun G v hv => ?_) rfl
  obtain ⟨vs, rfl, hvs⟩ := hv
  cases hvs with
  | cons a b =>
    refine ⟨_, rfl, .cons ?_ b⟩
    obtain ⟨cs, rfl, hcs⟩ := a
    cases hcs with
    | cons c d =>
      refine ⟨_, rfl, .cons ?_ d⟩
      obtain ⟨_, rfl⟩ := c
      exact .inl ⟨rfl, rfl⟩
abbrev A40 : Table := A39
theorem a40 : TSound Try.prog A40 := a39
def daTSS : List AV → Option (List Nd × ByteArray × ByteArray)
  | [.agg [.p (.l c0 ns)], .c (.p (.v (.string p))), .c (.p (.v (.string s)))] => match castD (e := ndC) (e' := c0) ns with | some ns => some (ns, p, s) | none => none
  | _ => none
def eaTSS (a : List Nd × ByteArray × ByteArray) : List AV := [.agg [.p (.l ndC a.1)], .c (.str a.2.1), .c (.str a.2.2)]
abbrev A41 : Table := A40
theorem a41 : TSound Try.prog A41 := a40

abbrev rtL : List Nd := [(-1, ⟨#[]⟩, [])]
abbrev awL1 : List Nd := [(-1, ⟨#[]⟩, []), (0, ⟨#[98]⟩, [])]
abbrev awL2 : List Nd := [(-1, ⟨#[]⟩, []), (0, ⟨#[98]⟩, []), (1, ⟨#[99]⟩, [])]
abbrev awL3 : List Nd := [(-1, ⟨#[]⟩, []), (0, ⟨#[97]⟩, []), (0, ⟨#[98]⟩, []), (2, ⟨#[99]⟩, [])]
theorem aw_1 : AddV (rtL, ⟨#[47]⟩, ⟨#[98]⟩) = (awL1, 0) := by decide +kernel
theorem aw_2 : AddV (awL1, ⟨#[47, 98]⟩, ⟨#[99]⟩) = (awL2, 0) := by decide +kernel
theorem aw_3 : AddV (awL2, ⟨#[47]⟩, ⟨#[97]⟩) = (awL3, 0) := by decide +kernel
theorem aw_4 : FindV (awL3, ⟨#[47, 98, 47, 99]⟩) = (3, true) := by decide +kernel
theorem aw_5 : PathV (awL3, 3) = ⟨#[47, 98, 47, 99]⟩ := by decide +kernel

theorem ext_sub {P : Program} {T : Table} {f : FuncId} {s s' : Says} (h1 : TSound P (ext T f s)) (hT : TSound P T)
    (h : ∀ args H p r H', s' args H = some (p, r, H') → holdsO p → ∃ q, holdsO q ∧ s args H = some (q, r, H')) : TSound P (ext T f s') :=
  ext_case h1 h1 hT fun args H p r H' hs hp => .inl (h args H p r H' hs hp)
theorem daTSS_at (a : List Nd × ByteArray × ByteArray) : daTSS (eaTSS a) = some a := by
  unfold daTSS eaTSS
  dsimp only
  rw [castD_self]
theorem daTS_at (a : List Nd × ByteArray) : daTS (eaTS a) = some a := by
  unfold daTS eaTS
  dsimp only
  rw [castD_self]
theorem daTI_at (a : List Nd × Int) : daTI (eaTI a) = some a := by
  unfold daTI eaTI
  dsimp only
  rw [castD_self]
abbrev B1 : Table := A41
theorem b1 : TSound Try.prog B1 := a41
/-- What the example's calls give. -/
def saysAwA : Says := fun args H => match args, H with
  | [.agg [.p (.l c0 ns)], .c (.p (.v (.string _))), .c (.p (.v (.string _)))], [] => match castD (e := ndC) (e' := c0) ns with
    | some [_] => some (some (args = eaTSS (rtL, ⟨#[47]⟩, ⟨#[98]⟩)), treR (awL1, 0), [])
    | some [_, _] => some (some (args = eaTSS (awL1, ⟨#[47, 98]⟩, ⟨#[99]⟩)), treR (awL2, 0), [])
    | some [_, _, _] => some (some (args = eaTSS (awL2, ⟨#[47]⟩, ⟨#[97]⟩)), treR (awL3, 0), [])
    | _ => none
  | _, _ => none
abbrev B2 : Table := B1
theorem b2 : TSound Try.prog B2 := b1
def saysAwF : Says := fun args H => match args, H with
  | [.agg _, .c (.p (.v (.string _)))], [] => some (some (args = eaTS (awL3, ⟨#[47, 98, 47, 99]⟩)), fndR (3, true), [])
  | _, _ => none
abbrev B3 : Table := B2
theorem b3 : TSound Try.prog B3 := b2
def saysAwP : Says := fun args H => match args, H with
  | [.agg _, .c (.p (.v (.int .i64 _)))], [] => some (some (args = eaTI (awL3, 3)), .str ⟨#[47, 98, 47, 99]⟩, [])
  | _, _ => none
abbrev B4 : Table := B3
theorem b4 : TSound Try.prog B4 := b3
def saysAwake : Says := fun args H => match args, H with | [], [] => some (none, .bool true, []) | _, _ => none
abbrev A42 : Table := A41
theorem a42 : TSound Try.prog A42 := a41
end Go.Ab
namespace Go.Ab

abbrev B (l : List UInt8) : ByteArray := ⟨⟨l⟩⟩

theorem B_data (s : ByteArray) : B s.data.toList = s := rfl
theorem B_size (l : List UInt8) : (B l).size = l.length := rfl
theorem B_inj {l m : List UInt8} : B l = B m ↔ l = m := by
  constructor
  · intro h
    have := congrArg (fun s : ByteArray => s.data.toList) h
    exact this
  · intro h; rw [h]
theorem B_eq (l m : List UInt8) : decide (B l = B m) = decide (l = m) := by
  rw [Bool.eq_iff_iff]; simp only [decide_eq_true_eq]; exact B_inj
theorem B_append (l m : List UInt8) : B l ++ B m = B (l ++ m) := by
  have h : ∀ a b : ByteArray, a.data.toList = b.data.toList → a = b := fun a b h => (B_inj (l := a.data.toList) (m := b.data.toList)).2 h
  apply h
  rw [ByteArray.data_append]
  simp
theorem B_extract (l : List UInt8) (a b : Nat) : (B l).extract a b = B ((l.take b).drop a) := by
  have h : ∀ a b : ByteArray, a.data.toList = b.data.toList → a = b := fun a b h => (B_inj (l := a.data.toList) (m := b.data.toList)).2 h
  apply h
  rw [ByteArray.data_extract]
  simp [List.drop_take]
theorem byteAt_B (l : List UInt8) (i : Nat) : byteAt (B l) i = ((l.getD i 0).toNat : Int) := rfl
theorem byteAt_cons (a : UInt8) (l : List UInt8) : byteAt (B (a :: l)) 0 = (a.toNat : Int) := rfl
theorem byteAt_cons1 (a b : UInt8) (l : List UInt8) : byteAt (B (a :: b :: l)) 1 = (b.toNat : Int) := rfl
theorem byteAt_succ (a : UInt8) (l : List UInt8) (i : Nat) : byteAt (B (a :: l)) ((i + 1 : Nat) : Int) = byteAt (B l) i := rfl
end Go.Ab
namespace Go.Ab
open Go.Proofs
set_option linter.unusedSectionVars false
set_option maxRecDepth 100000
variable [Base]

theorem idx_mem9 : ∀ (l : List UInt8) (c : UInt8), (0 ≤ Lib.indexByte l c) = (l.contains c = true)
  | [], c => by simp [Lib.indexByte]
  | b :: l, c => by
    have ih := idx_mem9 l c
    have hge := Lib.indexByte_ge l c
    unfold Lib.indexByte
    rw [List.contains_cons]
    by_cases h : b = c
    · subst h; simp
    · have h1 : (b == c) = false := by simpa using h
      have h2 : (c == b) = false := by simpa using fun h' : c = b => h h'.symm
      rw [h1, h2, Bool.false_or, ← ih]
      by_cases h3 : Lib.indexByte l c = -1
      · simp [h3]
      · simp only [Bool.false_eq_true, if_false]
        rw [if_neg (by simpa using h3)]
        apply propext
        constructor <;> intro _ <;> omega

theorem namB_cons (a : UInt8) (r : List UInt8) : namB (B (a :: r)) = (decide (((r.length + 1 : Nat) : Int) ≤ 31) && firstB ((a.toNat : Nat) : Int) && (nameB ((a.toNat : Nat) : Int) && r.all fun u : UInt8 => nameB ((u.toNat : Nat) : Int))) := by
  unfold namB consB
  rw [lead_all]
  have h1 : decide (B (a :: r) = ⟨#[]⟩) = false := decide_eq_false fun h => by
    have := congrArg ByteArray.size h
    rw [B_size] at this
    have h0 : (⟨#[]⟩ : ByteArray).size = 0 := rfl
    rw [h0] at this
    simp at this
  have h2 : byteAt (B (a :: r)) 0 = ((a.toNat : Nat) : Int) := rfl
  have h3 : ((B (a :: r)).size : Int) = ((r.length + 1 : Nat) : Int) := rfl
  rw [h1, h2, h3]
  have h4 : allB nameB (B (a :: r)) = (nameB ((a.toNat : Nat) : Int) && r.all fun u : UInt8 => nameB ((u.toNat : Nat) : Int)) := by
    unfold allB
    rfl
  rw [h4]
  rfl

theorem namB_nil : namB (B []) = false := by decide

def has64 : List UInt8 → Bool
  | [] => false
  | a :: r => if ((a.toNat : Nat) : Int) = 64 then true else has64 r
theorem has64_cons (a : UInt8) (r : List UInt8) : has64 (a :: r) = if ((a.toNat : Nat) : Int) = 64 then true else has64 r := rfl
theorem has64_at (l : List UInt8) : has64 l = atB (B l) := by
  have h : atB (B l) = l.contains 64 := by
    unfold atB
    show decide (0 ≤ Lib.indexByte l 64) = _
    have := idx_mem9 l 64
    cases hc : l.contains 64 with
    | true => rw [hc] at this; exact decide_eq_true (by rw [this])
    | false => rw [hc] at this; exact decide_eq_false (by rw [this]; simp)
  rw [h]
  induction l with
  | nil => rfl
  | cons a r ih =>
    unfold has64
    rw [List.contains_cons]
    have ih' := ih (by
      unfold atB
      show decide (0 ≤ Lib.indexByte r 64) = _
      have := idx_mem9 r 64
      cases hc : r.contains 64 with
      | true => rw [hc] at this; exact decide_eq_true (by rw [this])
      | false => rw [hc] at this; exact decide_eq_false (by rw [this]; simp))
    by_cases ha : ((a.toNat : Nat) : Int) = 64
    · have : a = 64 := by
        apply UInt8.toNat_inj.1
        have h64 : (64 : UInt8).toNat = 64 := rfl
        omega
      rw [if_pos ha, this]
      rfl
    · have : ((64 : UInt8) == a) = false := by
        refine beq_eq_false_iff_ne.2 fun h => ha ?_
        rw [← h]
        rfl
      rw [if_neg ha, ih', this, Bool.false_or]

/-- The name of a property, as the reference has it. -/
def rPrp (s : ByteArray) : Bool :=
  if (s.size : Int) < 1 ∨ 31 < (s.size : Int) then false
  else if has64 s.data.toList = true then false
  else if byteAt s 0 = 35 then (decide ((s.size : Int) = 1) || namB (⟨#[97]⟩ ++ s.extract 1 s.size)) else namB s

theorem prp_same (s : ByteArray) : rPrp s = prpB s := by
  obtain ⟨l, rfl⟩ : ∃ l, s = B l := ⟨s.data.toList, rfl⟩
  unfold rPrp prpB
  rw [show has64 (B l).data.toList = atB (B l) from has64_at l]
  cases l with
  | nil => decide
  | cons a r =>
    have hs : ((B (a :: r)).size : Int) = ((r.length + 1 : Nat) : Int) := rfl
    rw [hs]
    by_cases h1 : 31 < ((r.length + 1 : Nat) : Int)
    · rw [if_pos (.inr h1), if_pos h1]
    rw [if_neg (by omega), if_neg h1]
    by_cases h2 : atB (B (a :: r)) = true
    · rw [if_pos h2, if_pos h2]
    rw [if_neg h2, if_neg h2]
    have hb : byteAt (B (a :: r)) 0 = ((a.toNat : Nat) : Int) := rfl
    rw [hb]
    by_cases h3 : ((a.toNat : Nat) : Int) = 35
    · have ha : a = 35 := by
        apply UInt8.toNat_inj.1
        have h35 : (35 : UInt8).toNat = 35 := rfl
        omega
      subst ha
      have e1 : (B (35 :: r)).extract 1 (B (35 :: r)).size = B r := by
        rw [B_extract, B_size]
        simp
      have hp : prefB (B (35 :: r)) ⟨#[35]⟩ = true := by
        unfold prefB
        have : (B (35 :: r)).extract 0 (⟨#[35]⟩ : ByteArray).size = ⟨#[35]⟩ := by
          show (B (35 :: r)).extract 0 1 = B [35]
          rw [B_extract]
          simp
        rw [this]
        have h1 : (((⟨#[35]⟩ : ByteArray).size : Nat) : Int) ≤ ((B (35 :: r)).size : Nat) := by
          rw [B_size]
          show ((1 : Nat) : Int) ≤ ((r.length + 1 : Nat) : Int)
          omega
        rw [decide_eq_true h1]
        simp
      have ht : trimP (B (35 :: r)) ⟨#[35]⟩ = B r := by
        unfold trimP
        rw [if_pos hp]
        exact e1
      rw [if_pos h3, if_pos hp, ht, e1]
      have f1 : (⟨#[97]⟩ ++ B r : ByteArray) = B (97 :: r) := by show B [97] ++ B r = _; rw [B_append]; rfl
      have f2 : (⟨#[95]⟩ ++ B r : ByteArray) = B (95 :: r) := by show B [95] ++ B r = _; rw [B_append]; rfl
      rw [f1, f2, namB_cons, namB_cons]
      have g1 : firstB (((97 : UInt8).toNat : Nat) : Int) = true := by decide
      have g2 : firstB (((95 : UInt8).toNat : Nat) : Int) = true := by decide
      have g3 : nameB (((97 : UInt8).toNat : Nat) : Int) = true := by decide +kernel
      have g4 : nameB (((95 : UInt8).toNat : Nat) : Int) = true := by decide +kernel
      rw [g1, g2, g3, g4]
      cases r with
      | nil => decide
      | cons b r =>
        rw [decide_eq_false (show ¬ (((b :: r).length + 1 : Nat) : Int) = 1 by simp only [List.length_cons]; omega)]
        rfl
    · have hp : prefB (B (a :: r)) ⟨#[35]⟩ = false := by
        unfold prefB
        have : ¬ (B (a :: r)).extract 0 (⟨#[35]⟩ : ByteArray).size = ⟨#[35]⟩ := by
          show ¬ (B (a :: r)).extract 0 1 = B [35]
          rw [B_extract]
          intro h
          have h5 : B [a] = B [35] := by simpa using h
          have h6 : byteAt (B [a]) 0 = byteAt (B [35]) 0 := by rw [h5]
          exact h3 h6
        rw [decide_eq_false this]
        simp
      rw [if_neg h3, if_neg (by rw [hp]; simp)]
section
variable {T : Table} (hT : TSound Try.prog T)
theorem nam_big {s : ByteArray} (h : 31 < s.size) : namB s = false := by
  unfold namB consB
  rw [decide_eq_false (show ¬ (s.size : Int) ≤ 31 by omega), Bool.and_false, Bool.false_and, Bool.false_and]
theorem en_big : TSound Try.prog (ext T18 61 (saysS fun s => (some (31 < s.size), .bool (namB s)))) := by
  refine extS t18 61 (fn := Try.f61) rfl rfl (by decide) _ [0, 2, 3, 22, 26, 33] fun s hs => ?_
  have hs' : 31 < s.size := hs
  conv => whnf
  refine ⟨fun h => ?_, ?_⟩
  · simp [lit] at h; omega
  conv => whnf
  refine ⟨fun h => ?_, ?_⟩
  · simp [lit] at h; omega
  conv => whnf
  refine cond_intro (fun h0 => ?_) (fun h0 => ?_)
  · conv => whnf
    refine ends_eq ⟨?_, rfl⟩
    rw [nam_big hs']
  · exfalso
    rw [show decide ((31 : Int) < (s.size : Nat)) = true from decide_eq_true (by omega)] at h0
    simp at h0
theorem ext_or2 {f : FuncId} {s1 s2 s' : Says} (h1 : TSound Try.prog (ext T18 f s1)) (h2 : TSound Try.prog (ext T18 f s2)) (hT : TSound Try.prog T)
    (h : ∀ args H p r H', s' args H = some (p, r, H') → holdsO p → (∃ q, holdsO q ∧ s1 args H = some (q, r, H')) ∨ ∃ q, holdsO q ∧ s2 args H = some (q, r, H')) : TSound Try.prog (ext T f s') := by
  intro g args H p r H' hg hp G hS hH cargs ha
  unfold ext at hg
  split at hg
  · rename_i hb
    have hb' : Nat.beq g f = true := hb
    rcases h args H p r H' hg hp with ⟨q, hq, hs⟩ | ⟨q, hq, hs⟩
    · exact h1 g args H q r H' (by unfold ext; rw [hb']; exact hs) hq G hS hH cargs ha
    · exact h2 g args H q r H' (by unfold ext; rw [hb']; exact hs) hq G hS hH cargs ha
  · exact hT g args H p r H' hg hp G hS hH cargs ha
abbrev EN (T : Table) : Table := ext T 61 (saysS fun s => (none, .bool (namB s)))
include hT in
theorem en : TSound Try.prog (EN T) := by
  refine ext_or2 t19 en_big hT fun args H p r H' hs hp => ?_
  unfold saysS at hs
  split at hs
  · rename_i s
    cases hs
    by_cases h : 31 < s.size
    · exact .inr ⟨some (31 < s.size), h, rfl⟩
    · refine .inl ⟨some (fits s), (show s.size ≤ 1000000000 by omega), ?_⟩
      show some (some (fits s), SV.bool (rNameS s), ([] : List AO)) = some (some (fits s), SV.bool (namB s), [])
      rw [nameS_same]
      rfl
  · cases hs
abbrev EP (T : Table) : Table := ext (EN T) 36 (saysS fun s => (none, .bool (prpB s)))
include hT in
theorem ep : TSound Try.prog (EP T) := by
  refine extS (en hT) 36 (fn := Try.f36) rfl rfl (by decide) _ [0, 2, 3, 11, 15, 21, 24] fun s _ => ?_
  dsimp only
  rw [← prp_same]
  unfold rPrp
  repeat ((conv => whnf); refine ⟨by first | (unfold inI64; omega) | omega | exact ⟨by omega, by omega⟩ | (intro hg; first | (unfold inI64; omega) | omega | exact ⟨by omega, by omega⟩ | (simp [lit] at hg; unfold inI64; omega) | (simp [lit] at hg; omega) | (simp [lit] at hg; exact ⟨by omega, by omega⟩)) | (show (_ : Nat) + 1 ≤ 1000000000000; omega) | exact rfl | (unfold inI64; dsimp only; omega) | (dsimp only; omega) | (intro hg; simp [lit] at hg; first | (unfold inI64; dsimp only; omega) | (dsimp only; omega)) | decide +kernel, ?_⟩)
  conv => whnf
  refine cond_intro (fun h => ?_) (fun h => ?_)
  · have h1 : (s.size : Int) < 1 ∨ 31 < (s.size : Int) := by
      have h2 : (decide ((s.size : Int) < 1) || decide (31 < (s.size : Int))) = true := h
      simpa using h2
    rw [if_pos h1]
    repeat ((conv => whnf); refine ⟨by first | (unfold inI64; omega) | omega | exact ⟨by omega, by omega⟩ | exact rfl | decide +kernel, ?_⟩)
    conv => whnf
    exact ends_eq ⟨rfl, rfl⟩
  have h1 : ¬ ((s.size : Int) < 1 ∨ 31 < (s.size : Int)) := by
    have h2 : (decide ((s.size : Int) < 1) || decide (31 < (s.size : Int))) = false := h
    simp at h2
    omega
  rw [if_neg h1]
  repeat ((conv => whnf); refine ⟨by first | (unfold inI64; omega) | omega | exact ⟨by omega, by omega⟩ | exact rfl | decide +kernel, ?_⟩)
  conv => whnf
  obtain ⟨l, rfl⟩ : ∃ l, s = B l := ⟨s.data.toList, rfl⟩
  have hB : (B l).size = l.length := rfl
  have hd : (B l).data.toList = l := rfl
  rw [hd]
  refine loop_intro (σ := Nat) (fun i => [(0, XV.s (.str (B l))), (2, XV.s .none), (3, XV.s (.int .i64 (i : Nat))), (11, XV.s .none), (15, XV.s .none), (21, XV.s .none), (24, XV.s .none)])
    (fun _ => []) (fun i => i ≤ l.length ∧ has64 (l.drop i) = has64 l) (fun i => l.length - i) 0 ?_ rfl ?_ fun i hI => ?_
  · repeat (first | exact LeL.nil | refine LeL.drop ?_ | refine LeL.same ?_)
  · exact ⟨Nat.zero_le _, rfl⟩
  obtain ⟨h2, h3⟩ := hI
  repeat ((conv => whnf); refine ⟨by first | (unfold inI64; omega) | omega | exact ⟨by omega, by omega⟩ | exact rfl | decide +kernel, ?_⟩)
  conv => whnf
  refine cond_intro (fun h4 => ?_) (fun h4 => ?_)
  · have h5 : i < l.length := by
      have h6 : (i : Int) < ((B l).size : Nat) := of_decide_eq_true h4
      omega
    have hin : 0 ≤ (i : Int) ∧ (i : Int) < ((B l).size : Nat) := by omega
    have hb : byteAt (B l) (i : Int) = (((l[i]).toNat : Nat) : Int) := by
      rw [byteAt_B]
      simp [h5]
    rw [List.drop_eq_getElem_cons h5, has64_cons] at h3
    repeat ((conv => whnf); refine ⟨by first | exact hin | (unfold inI64; omega) | omega | exact ⟨by omega, by omega⟩ | exact rfl | decide +kernel, ?_⟩)
    conv => whnf
    refine cond_intro (fun h6 => ?_) (fun h6 => ?_)
    · have h7 : ((l[i].toNat : Nat) : Int) = 64 := by rw [← hb]; exact of_decide_eq_true h6
      rw [if_pos h7] at h3
      rw [if_pos h3.symm]
      repeat ((conv => whnf); refine ⟨by first | (unfold inI64; omega) | omega | exact ⟨by omega, by omega⟩ | exact rfl | decide +kernel, ?_⟩)
      conv => whnf
      exact ends_eq ⟨rfl, rfl⟩
    · have h7 : ¬ ((l[i].toNat : Nat) : Int) = 64 := by rw [← hb]; exact of_decide_eq_false h6
      rw [if_neg h7] at h3
      repeat ((conv => whnf); refine ⟨by first | (unfold inI64; omega) | omega | exact ⟨by omega, by omega⟩ | exact rfl | decide +kernel, ?_⟩)
      conv => whnf
      refine head_intro (i + 1) ?_ rfl ?_ ?_
      · repeat (first | exact LeL.nil | refine LeL.drop ?_ | refine LeL.same ?_)
      · exact ⟨h5, h3⟩
      · omega
  · have h5 : i = l.length := by
      have h6 : ¬ (i : Int) < ((B l).size : Nat) := of_decide_eq_false h4
      omega
    subst h5
    rw [List.drop_length] at h3
    rw [if_neg (by rw [← h3]; decide)]
    have h0 : 0 ≤ (0 : Int) ∧ (0 : Int) < ((B l).size : Nat) := by omega
    repeat ((conv => whnf); refine ⟨by first | exact h0 | (unfold inI64; omega) | omega | exact ⟨by omega, by omega⟩ | exact rfl | decide +kernel, ?_⟩)
    conv => whnf
    refine cond_intro (fun h6 => ?_) (fun h6 => ?_)
    · have h7 : byteAt (B l) 0 = 35 := of_decide_eq_true h6
      rw [if_pos h7]
      have e1 : (⟨#[97]⟩ : ByteArray).size = 1 := rfl
      have e2 : ((B l).extract 1 (B l).size).size ≤ (B l).size := by rw [ByteArray.size_extract]; omega
      have e3 : (((⟨#[97]⟩ : ByteArray).size + ((B l).extract 1 (B l).size).size : Nat) : Int) ≤ 9223372036854775807 := by omega
      have e4 : (⟨#[97]⟩ ++ (B l).extract 1 (B l).size : ByteArray).size ≤ 1000000000 := by
        rw [ByteArray.size_append, e1]
        have : ((B l).size : Int) ≤ 31 := by omega
        omega
      have e5 : 0 ≤ (1 : Int) ∧ (1 : Int) ≤ ((B l).size : Nat) ∧ ((B l).size : Int) ≤ ((B l).size : Nat) := by omega
      repeat ((conv => whnf); refine ⟨by first | exact fun _ => e5 | exact fun _ => e3 | (unfold inI64; omega) | omega | exact ⟨by omega, by omega⟩ | exact rfl | decide +kernel, ?_⟩)
      conv => whnf
      refine ends_eq ⟨congrArg SV.bool ?_, rfl⟩
      rfl
    · have h7 : ¬ byteAt (B l) 0 = 35 := of_decide_eq_false h6
      rw [if_neg h7]
      repeat ((conv => whnf); refine ⟨by first | (unfold inI64; omega) | omega | exact ⟨by omega, by omega⟩ | exact rfl | decide +kernel, ?_⟩)
      conv => whnf
      exact ends_eq ⟨rfl, rfl⟩

end
end Go.Ab
