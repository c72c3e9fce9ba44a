/- The abstract machine: its operations and its code. A statement 'op .. K' says: the operation can be run, and then K holds of what it leaves. -/
import Derived.Test.YtnlifjljmbfomaaGreatTC
namespace Go.Ab
set_option linter.unusedSectionVars false
variable [Base]
inductive XV where
 | s (x : SV)
 | g (k : Nat × Bool) (c : Bool) (x : SV)
abbrev Env := List (Nat × XV)
def Env.get : Env → Nat → XV
 | [], _ => .s .none
 | (u, x) :: r, t => match Nat.beq u t with | true => x | false => Env.get r t
def Env.put (e : Env) : Option Tmp → XV → Env
 | none, _ => e
 | some t, x => (t, x) :: e
def Env.only (e : Env) (ks : List Nat) : Env := ks.map fun t => (t, e.get t)
abbrev SV.v (x : Value) : SV := .a (.c (.p (.v x)))
abbrev SV.int (k : IntKind) (n : Int) : SV := .v (.int k n)
abbrev SV.bool (b : Bool) : SV := .v (.bool b)
abbrev SV.str (s : ByteArray) : SV := .v (.string s)
abbrev SV.list (e : CT) (zs : List e.den) : SV := .a (.c (.p (.l e zs)))
abbrev SV.fn (f : FuncId) : SV := .v (.func (.func f) #[] #[])
abbrev AC.int (k : IntKind) (n : Int) : AC := .p (.v (.int k n))
abbrev AC.bool (b : Bool) : AC := .p (.v (.bool b))
abbrev AC.str (s : ByteArray) : AC := .p (.v (.string s))
def evalX (e : Env) : Operand → XV
 | .tmp t => e.get t
 | .const v => match flat v with | true => .s (.v v) | false => .s .none
 | .global _ => .s .none
 | .func f => .s (.fn f)
def XV.strip : XV → SV
 | .s x => x
 | .g _ _ x => x
def andO : Option Prop → Prop → Prop
 | none, p => p
 | some q, p => q ∧ p
def byteAt (s : ByteArray) (i : Int) : Int := ((s.data.toList.getD i.toNat 0).toNat : Int)
abbrev Table := FuncId → List AV → List AO → Option (Option Prop × SV × List AO)
structure Mach where
 P : Program
 T : Table
def sizeP (P : Program) (t : TypeId) : Option Nat := match P.info? t with | some i => some i.size | none => none
def aggP (P : Program) (t : TypeId) : Option Bool := match P.underlying t with | some (.struct _) | some (.array ..) => some true | some _ => some false | none => none
def AV.cells : AV → List AC
 | .c x => [x]
 | .agg l => l
def AV.isAgg : AV → Bool
 | .c _ => false
 | .agg _ => true
def ofCells (P : Program) (t : TypeId) (cs : List AC) (off : Nat) : Option AV :=
 match aggP P t, sizeP P t with
 | some true, some n => match Nat.ble (off + n) cs.length with | true => some (.agg ((cs.drop off).take n)) | false => none
 | some false, _ => match cs[off]? with | some x => some (.c x) | none => none
 | _, _ => none
def AC.pure? : AC → Option PV
 | .p x => some x
 | .own _ e zs => some (.l e zs)
 | .nl c z _ => some (.l c [z])
 | _ => none
def pureCells : List AC → Option (List PV)
 | [] => some []
 | x :: r => match x.pure?, pureCells r with | some y, some ys => some (y :: ys) | _, _ => none
def AC.drop : AC → AC
 | .own _ e zs => .p (.l e zs)
 | .fl e zs => .p (.l e zs)
 | .nl c z _ => .p (.l c [z])
 | x => x
def AV.drop : AV → AV
 | .c x => .c x.drop
 | .agg l => .agg (l.map AC.drop)
def SV.drop : SV → SV
 | .none => .none
 | .a x => .a x.drop
 | .tup l => .tup (l.map AV.drop)
def AC.loose : AC → Bool
 | .p _ | .pp .. => true
 | _ => false
def AV.loose : AV → Bool
 | .c x => x.loose
 | .agg l => l.all AC.loose
def SV.loose : SV → Bool
 | .none => true
 | .a x => x.loose
 | .tup l => l.all AV.loose
inductive Sl where
 | nil
 | l (e : CT) (zs : List e.den) (id : Option Nat)
def slOf : SV → Option Sl
 | .a (.c (.p (.v (.slice none 0 0)))) => some .nil
 | .a (.c (.p (.l e zs))) => some (.l e zs none)
 | .a (.c (.own id e zs)) => some (.l e zs (some id))
 | .a (.c (.nl c z _)) => some (.l c [z] none)
 | _ => none
def inI64 (n : Int) : Prop := -9223372036854775808 ≤ n ∧ n ≤ 9223372036854775807
def intRes (k : IntKind) (n : Int) : Option (Option Prop × SV) :=
 match k with
 | .i64 => some (some (inI64 n), .int .i64 n)
 | k => some (none, .int k (k.wrap n))
def bitsA (op : BinOp) (k : IntKind) (x y : Int) : Int :=
 let a := BitVec.ofInt k.bits x
 let b := BitVec.ofInt k.bits y
 match op with
 | .and => k.wrap (a &&& b).toNat
 | .or => k.wrap (a ||| b).toNat
 | .xor => k.wrap (a ^^^ b).toNat
 | _ => k.wrap (a &&& ~~~b).toNat
def intOp (op : BinOp) (k : IntKind) (x y : Int) : Option (Option Prop × SV) :=
 match op with
 | .add => intRes k (x + y)
 | .sub => intRes k (x - y)
 | .mul => intRes k (x * y)
 | .quo => some (some (y ≠ 0), .int k (k.wrap (x.tdiv y)))
 | .rem => some (some (y ≠ 0), .int k (x.tmod y))
 | .and | .or | .xor | .andNot => some (none, .int k (bitsA op k x y))
 | .eql => some (none, .bool (decide (x = y)))
 | .neq => some (none, .bool (!decide (x = y)))
 | .lss => some (none, .bool (decide (x < y)))
 | .leq => some (none, .bool (decide (x ≤ y)))
 | .gtr => some (none, .bool (decide (y < x)))
 | .geq => some (none, .bool (decide (y ≤ x)))
 | _ => none
def strOp (op : BinOp) (x y : ByteArray) : Option (Option Prop × SV) :=
 match op with
 | .add => some (some (((x.size + y.size : Nat) : Int) ≤ 9223372036854775807), .str (x ++ y))
 | .eql => some (none, .bool (decide (x = y)))
 | .neq => some (none, .bool (!decide (x = y)))
 | .lss => some (none, .bool (Op.bytesLess x.toList y.toList))
 | .leq => some (none, .bool (Op.bytesLess x.toList y.toList || decide (x = y)))
 | .gtr => some (none, .bool (!(Op.bytesLess x.toList y.toList || decide (x = y))))
 | .geq => some (none, .bool (!Op.bytesLess x.toList y.toList))
 | _ => none
def statOk (P : Program) : Nat → TypeId → Bool
 | 0, _ => true
 | d + 1, t => match P.underlying t with
  | some (.struct fs) => !P.stoodInHeld t && fs.toList.all fun f => !decide (f.name = "_") && statOk P d f.type
  | _ => true
def eqGood (P : Program) (t : TypeId) : Prop := P.eqGuardType P.depth t = false ∧ statOk P 100 t = true
def eqFieldsA (P : Program) (eq : TypeId → List AC → List AC → Option Bool) (xs ys : List AC) : List Field → Option Bool
 | [] => some true
 | f :: fs => match ofCells P f.type xs f.offset, ofCells P f.type ys f.offset with
  | some a, some b => match eq f.type a.cells b.cells with
   | some r => match fs with
    | [] => some r
    | _ => match eqFieldsA P eq xs ys fs with
     | some r' => some (r && r')
     | none => none
   | none => none
  | _, _ => none
def eqA (P : Program) : Nat → TypeId → List AC → List AC → Option Bool
 | 0, _, _, _ => none
 | d + 1, t, xs, ys =>
  match P.underlying t with
  | some (.int _) => match xs, ys with
   | [.p (.v (.int k a))], [.p (.v (.int k' b))] => match decide (k = k') with | true => some (decide (a = b)) | false => none
   | _, _ => none
  | some .bool => match xs, ys with
   | [.p (.v (.bool a))], [.p (.v (.bool b))] => some (a == b)
   | _, _ => none
  | some .string => match xs, ys with
   | [.p (.v (.string a))], [.p (.v (.string b))] => some (decide (a = b))
   | _, _ => none
  | some (.struct fs) => eqFieldsA P (eqA P d) xs ys fs.toList
  | _ => none
def eqOp (P : Program) (t : TypeId) (x y : SV) : Option (Option Prop × Bool) :=
 match x, y with
 | .a (.agg xs), .a (.agg ys) => match aggP P t with
  | some true => match eqA P 100 t xs ys with | some b => some (some (eqGood P t), b) | none => none
  | _ => none
 | .bool a, .bool b => match P.underlying t with | some .bool => some (none, a == b) | _ => none
 | .a (.c (.p (.l _ zs))), .v (.slice none 0 0) => match P.underlying t with | some (.slice _) => some (some (zs ≠ []), false) | _ => none
 | .a (.c (.own _ _ zs)), .v (.slice none 0 0) => match P.underlying t with | some (.slice _) => some (some (zs ≠ []), false) | _ => none
 | .v (.slice none 0 0), .v (.slice none 0 0) => match P.underlying t with | some (.slice _) => some (none, true) | _ => none
 | .a (.c (.ptr ..)), .v (.pointer none) => match P.underlying t with | some (.pointer _) => some (none, false) | _ => none
 | .v (.pointer none), .v (.pointer none) => match P.underlying t with | some (.pointer _) => some (none, true) | _ => none
 | _, _ => none
def binA (P : Program) (op : BinOp) (t : TypeId) (x y : SV) : Option (Option Prop × SV) :=
 match op, x, y with
 | .shl, .int k a, .int _ b => some (some (0 ≤ b), .int k (k.wrap (a * 2 ^ min b.toNat k.bits)))
 | .shr, .int k a, .int _ b => some (some (0 ≤ b), .int k (a.fdiv (2 ^ min b.toNat k.bits)))
 | op, .int k a, .int k' b => match decide (k = k') with | true => intOp op k a b | false => none
 | op, .str a, .str b => strOp op a b
 | .eql, x, y => match eqOp P t x y with | some (p, b) => some (p, .bool b) | none => none
 | .neq, x, y => match eqOp P t x y with | some (p, b) => some (p, .bool (!b)) | none => none
 | _, _, _ => none
def unA (op : UnOp) (x : SV) : Option (Option Prop × SV) :=
 match op, x with
 | .not, .bool b => some (none, .bool (!b))
 | .neg, .int k n => intRes k (0 - n)
 | .xor, .int k n => some (none, .int k (bitsA .xor k (if k.signed then -1 else k.max) n))
 | _, _ => none
def bytesOf (zs : List Int) : ByteArray := ⟨(zs.map fun n => UInt8.ofNat n.toNat).toArray⟩
def convA (P : Program) (src dst : TypeId) (x : SV) : Option (Option Prop × SV) :=
 match P.underlying src, P.underlying dst, x with
 | some _, some (.int k), .int _ n => intRes k n
 | some _, some .string, .int _ n => some (none, .str (Utf8.encode n))
 | some _, some .string, .str s => some (none, .str s)
 | some (.slice e), some .string, .a (.c (.p (.l (.int .u8) zs))) => match P.underlying e with | some (.int .u8) => some (none, .str (bytesOf zs)) | _ => none
 | some (.slice e), some .string, .a (.c (.own _ (.int .u8) zs)) => match P.underlying e with | some (.int .u8) => some (none, .str (bytesOf zs)) | _ => none
 | some (.slice e), some .string, .v (.slice none 0 0) => match P.underlying e with | some (.int .u8) => some (none, .str ByteArray.empty) | _ => none
 | _, _, _ => none
def fieldOf (P : Program) (s : TypeId) (f : Nat) : Option Field :=
 match P.underlying s with
 | some (.struct fs) => fs[f]?
 | _ => none
def overlay : List AC → List AC → Option (List AC)
 | [], cs => some cs
 | x :: xs, cs => match cs with
  | _ :: r => match overlay xs r with | some q => some (x :: q) | none => none
  | [] => none
def setCells : Nat → List AC → List AC → Option (List AC)
 | 0, new, cs => overlay new cs
 | n + 1, new, cs => match cs with
  | c :: r => match setCells n new r with | some q => some (c :: q) | none => none
  | [] => none
theorem overlay_eq : ∀ {new cs r : List AC}, overlay new cs = some r → new.length ≤ cs.length ∧ r = new ++ cs.drop new.length := by
 intro new
 induction new with
 | nil => intro cs r h; simp only [overlay] at h; cases h; simp
 | cons x xs ih =>
  intro cs r h
  simp only [overlay] at h
  split at h
  ·rename_i c cs'
   split at h
   ·rename_i q hq
    cases h
    obtain ⟨h1, h2⟩ := ih hq
    simp [h2]
    exact h1
   ·cases h
  ·cases h
theorem setCells_eq : ∀ {off : Nat} {new cs r : List AC}, setCells off new cs = some r → off + new.length ≤ cs.length ∧ r = cs.take off ++ new ++ cs.drop (off + new.length) := by
 intro off
 induction off with
 | zero =>
  intro new cs r h
  obtain ⟨h1, h2⟩ := overlay_eq h
  simp [h1, h2]
 | succ n ih =>
  intro new cs r h
  simp only [setCells] at h
  split at h
  ·rename_i c cs'
   split at h
   ·rename_i q hq
    cases h
    obtain ⟨h1, h2⟩ := ih hq
    rw [show n + 1 + new.length = (n + new.length) + 1 by omega]
    simp [h2]
    omega
   ·cases h
  ·cases h
def fillA (place : Nat → Option (Nat × Nat)) (cells : List AC) : List (Nat × SV) → Option (List AC)
 | [] => some cells
 | (i, x) :: rest =>
  match place i, x with
  | some (off, size), .a v =>
   match Nat.beq v.cells.length size with
   | true => match setCells off v.cells cells with
    | some cs => fillA place cs rest
    | none => none
   | false => none
  | _, _ => none
def zeroCellsA (P : Program) (t : TypeId) : Option (List AC) :=
 match P.info? t with
 | some i => match i.zero with
  | some (.agg cs) => match cs.toList.all flat with | true => some (cs.toList.map fun v => .p (.v v)) | false => none
  | some v => match flat v with | true => some [.p (.v v)] | false => none
  | none => none
 | none => none
def placesOf (P : Program) (fs : List Field) (i : Nat) : Option (Nat × Nat) :=
 match fs[i]? with
 | some f => match sizeP P f.type with | some n => some (f.offset, n) | none => none
 | none => none
def allSized (P : Program) : List Field → Bool
 | [] => true
 | f :: fs => match sizeP P f.type with | some _ => allSized P fs | none => false
def buildA (P : Program) (t : TypeId) (parts : List (Nat × SV)) : Option (Option Prop × SV) :=
 match zeroCellsA P t, P.underlying t with
 | some z, some (.struct fs) => match allSized P fs.toList with
  | true => match fillA (placesOf P fs.toList) z parts with
   | some cs => some (none, .a (.agg cs))
   | none => none
  | false => none
 | some z, some (.array _ e) => match sizeP P e with
  | some n => match fillA (fun i => some (i * n, n)) z parts with
   | some cs => some (none, .a (.agg cs))
   | none => none
  | none => none
 | _, _ => none
def boundA (x : Option SV) (dflt : Int) : Option Int :=
 match x with
 | none => some dflt
 | some (.int _ n) => some n
 | _ => none
def sliceM (P : Program) (t : TypeId) (x : SV) (low high max : Option SV) : Option (Option Prop × SV) :=
 match low, high, max, P.underlying t with
 | none, some hi, some mx, some (.slice e) => match slOf x, boundA (some hi) 0, boundA (some mx) 0, sizeP P e with
  | some (.l c zs _), some h, some m, some n => match Nat.beq n c.width with
   | true => some (some (0 ≤ h ∧ m = h ∧ h ≤ zs.length), .a (.c (.fl c (zs.take h.toNat))))
   | false => none
  | _, _, _, _ => none
 | _, _, _, _ => none
def sliceA (P : Program) (t : TypeId) (x : SV) (low high max : Option SV) : Option (Option Prop × SV) :=
 match max with
 | some m => sliceM P t x low high (some m)
 | none =>
 match P.underlying t, x with
 | some .string, .str s => match boundA low 0, boundA high s.size with
  | some l, some h => some (some (0 ≤ l ∧ l ≤ h ∧ h ≤ s.size), .str (s.extract l.toNat h.toNat))
  | _, _ => none
 | some (.slice e), x => match slOf x with
  | some (.l c zs _) => match boundA low 0, boundA high zs.length, sizeP P e with
   | some l, some h, some n => match Nat.beq n c.width with
    | true => some (some (0 ≤ l ∧ l ≤ h ∧ h ≤ zs.length), .list c ((zs.take h.toNat).drop l.toNat))
    | false => none
   | _, _, _ => none
  | some .nil => match boundA low 0, boundA high 0, sizeP P e with
   | some l, some h, some _ => some (some (l = 0 ∧ h = 0), .v (.slice none 0 0))
   | _, _, _ => none
  | none => none
 | _, _ => none
def lenA (P : Program) (t : TypeId) (x : SV) : Option (Option Prop × SV) :=
 match P.underlying t, x with
 | some .string, .str s => some (none, .int .i64 s.size)
 | some (.slice _), x => match slOf x with
  | some (.l _ zs _) => some (none, .int .i64 zs.length)
  | some .nil => some (none, .int .i64 0)
  | none => none
 | _, _ => none
def minA : List SV → Option (Option Prop × SV)
 | [.int k x, .int k' y] => match decide (k = k') with | true => some (none, .int k (if y < x then y else x)) | false => none
 | _ => none
def maxA : List SV → Option (Option Prop × SV)
 | [.int k x, .int k' y] => match decide (k = k') with | true => some (none, .int k (if x < y then y else x)) | false => none
 | _ => none
def fnOf : SV → Option FuncId
 | .a (.c (.p (.v (.func (.func f) first captured)))) => match first.toList, captured.toList with | [], [] => some f | _, _ => none
 | _ => none
def avs : List SV → Option (List AV)
 | [] => some []
 | .a x :: r => match avs r with | some l => some (x :: l) | none => none
 | _ :: _ => none
def seen : SV → Option (Option Prop × SV)
 | .none => some (none, .none)
 | .a (.c x) => some (none, .a (.c x))
 | .a (.agg l) => some (none, .a (.agg l))
 | .tup l => some (none, .tup l)
theorem seen_eq (x : SV) : seen x = some (none, x) := by
 cases x with
 | none => rfl
 | a x => cases x <;> rfl
 | tup l => rfl
def pickA (t : Bool) (a b : Operand) (va vb : SV) : Option (Option Prop × SV) :=
 match a, b with
 | .const (.bool true), _ => match vb with | .bool y => some (none, .bool (t || y)) | _ => none
 | _, .const (.bool false) => match va with | .bool y => some (none, .bool (t && y)) | _ => none
 | _, _ => none
def ptrIds : List SV → Option (List Nat)
 | [] => some []
 | x :: r => match x, ptrIds r with
  | .a (.c (.ptr id 0)), some l => some (id :: l)
  | _, _ => none
def pureOp0 (M : Mach) (ev : Operand → SV) (H : List AO) (op : Op) : Option (Option Prop × SV) :=
 match op with
 | .move x | .assign x => seen (ev x)
 | .pick c a b => match ev c with
  | .bool t => pickA t a b (ev a) (ev b)
  | _ => none
 | .extract t i => match ev t with
  | .tup l => match l[i]? with | some v => some (none, .a v) | none => none
  | _ => none
 | .build t parts => buildA M.P t (parts.toList.map fun p => (p.1, ev p.2))
 | .load t a => match ev a with
  | .a (.c (.ptr id off)) => match H[id]? with
   | some (.row cs) => match ofCells M.P t cs off with | some v => some (none, .a v) | none => none
   | _ => none
  | .a (.c (.pp e z k)) => match ofCells M.P t ((enc e z).map AC.p) k with | some v => some (none, .a v) | none => none
  | _ => none
 | .nilCheck x => match ev x with
  | .a (.c (.ptr id off)) => some (none, .a (.c (.ptr id off)))
  | .a (.c (.pp e z k)) => some (none, .a (.c (.pp e z k)))
  | _ => none
 | .binOp op t x y _ => binA M.P op t (ev x) (ev y)
 | .unOp op _ x => unA op (ev x)
 | .convert src dst x => convA M.P src dst (ev x)
 | .fieldAddr s x f => match fieldOf M.P s f with
  | some fd => match sizeP M.P fd.type with
   | some (_ + 1) => match ev x with
    | .a (.c (.ptr id off)) => some (none, .a (.c (.ptr id (off + fd.offset))))
    | .a (.c (.pp e z k)) => some (none, .a (.c (.pp e z (k + fd.offset))))
    | _ => none
   | _ => none
  | none => none
 | .field t x f => match fieldOf M.P t f with
  | some fd => match ev x with
   | .a (.agg cs) => match ofCells M.P fd.type cs fd.offset with | some v => some (none, .a v) | none => none
   | _ => none
  | none => none
 | .indexAddr t x ix => match M.P.underlying t, ev ix with
  | some (.slice e), .int _ i => match slOf (ev x), sizeP M.P e with
   | some (.l c zs _), some n => match Nat.beq n c.width with
    | true => some (some (0 ≤ i ∧ i < zs.length), .a (.c (.pp c (zs.getD i.toNat c.dflt) 0)))
    | false => none
   | _, _ => none
  | _, _ => none
 | .index t x ix => match M.P.underlying t, ev x, ev ix with
  | some .string, .str s, .int _ i => some (some (0 ≤ i ∧ i < s.size), .int .u8 (byteAt s i))
  | _, _, _ => none
 | .slice t x lo hi mx => sliceA M.P t (ev x) (lo.map ev) (hi.map ev) (mx.map ev)
 | .makeFunc fn first captured => match fn, first.toList, captured.toList with
  | .func f, [], [] => some (none, .fn f)
  | .func f, [x], [] => match ev x with | .a (.c (.ptr id 0)) => some (none, .a (.c (.clo true f [id]))) | _ => none
  | .func f, [], [x] => match ev x with | .a (.c (.ptr id 0)) => some (none, .a (.c (.clo false f [id]))) | _ => none
  | .func f, [], x :: y :: r => match ptrIds (ev x :: ev y :: r.map ev) with | some ids => some (none, .a (.c (.clo false f ids))) | none => none
  | _, _, _ => none
 | .call c => match c.callee with
  | .builtin .len => match c.args.toList, c.argTypes.toList with | [x], [t] => lenA M.P t (ev x) | _, _ => none
  | .builtin .min => minA (c.args.toList.map ev)
  | .builtin .max => maxA (c.args.toList.map ev)
  | .value f => match fnOf (ev f) with
   | some f => match avs ((c.args.toList.map ev).map SV.drop) with
    | some args => match args.all AV.loose with
     | true => match M.T f args [] with
      | some (p, r, []) => match r.loose with | true => some (p, r) | false => none
      | _ => none
     | false => none
    | none => none
   | none => none
  | _ => none
 | _ => none
def arrOf (H : List AO) (id : Nat) (e : CT) : Option (List e.den × Nat) :=
 match H[id]? with
 | some (.arr _ _ zs ver) => match castD zs with | some zs => some (zs, ver) | none => none
 | _ => none
def vecOf (H : List AO) (id : Nat) : Option CT :=
 match H[id]? with
 | some (.vec _ e _ _ _ _) => some e
 | _ => none
def gvecOf (H : List AO) (id : Nat) : Option (CT × Nat) :=
 match H[id]? with
 | some (.gvec _ e _ _ _ _ ver) => some (e, ver)
 | _ => none
def CT.isPair : CT → Bool
 | .pair .. => true
 | _ => false
def keyEq : (k : CT) → k.den → k.den → Bool
 | .int _, a, b => decide ((a : Int) = b)
 | .bool, a, b => (a : Bool) == b
 | .str, a, b => decide ((a : ByteArray) = b)
 | .pair a b, x, y => keyEq a x.1 y.1 && keyEq b x.2 y.2
 | _, _, _ => false
def findE {k v : CT} : List (k.den × v.den) → k.den → Option v.den
 | [], _ => none
 | (a, x) :: r, key => match keyEq k key a with | true => some x | false => findE r key
def setE {k v : CT} (key : k.den) (x : v.den) : List (k.den × v.den) → List (k.den × v.den)
 | [] => [(key, x)]
 | (a, y) :: r => match keyEq k key a with | true => (key, x) :: r | false => (a, y) :: setE key x r
def plainT (P : Program) (t : TypeId) (k : CT) : Bool :=
 match P.underlying t, k with
 | some (.int q), .int q' => decide (q = q')
 | some .bool, .bool => true
 | some .string, .str => true
 | _, _ => false
def plainFields (P : Program) : List Field → CT → Nat → Bool
 | [f], k, off => plainT P f.type k && Nat.beq f.offset off && !decide (f.name = "_")
 | f :: r, .pair a b, off => plainT P f.type a && Nat.beq f.offset off && !decide (f.name = "_") && plainFields P r b (off + 1)
 | _, _, _ => false
def keyT (P : Program) (t : TypeId) (k : CT) : Bool :=
 match P.underlying t with
 | some (.struct fs) => !P.stoodInHeld t && k.isPair && plainFields P fs.toList k 0
 | _ => plainT P t k
def avOf : List PV → Option AV
 | [] => none
 | [x] => some (.c (.p x))
 | l => some (.agg (l.map .p))
inductive MapIs where
 | mk (k v : CT) (es : List (k.den × v.den))
def mapOf (H : List AO) : SV → Option MapIs
 | .a (.c (.p (.m k v es))) => some ⟨k, v, es⟩
 | .a (.c (.mp id)) => match H[id]? with
  | some (.map k v es) => some ⟨k, v, es⟩
  | _ => none
 | _ => none
def keyOfA (k : CT) (x : SV) : Option k.den :=
 match x with
 | .a v => match decide (v.isAgg = k.isPair), pureCells v.cells with
  | true, some ps => match dec k ps with | some (z, []) => some z | _ => none
  | _, _ => none
 | _ => none
def zeroAgg (P : Program) (t : TypeId) : Option Bool :=
 match P.info? t with
 | some i => match i.zero with
  | some (.agg _) => some true
  | some _ => some false
  | none => none
 | none => none
def zeroD (P : Program) (et : TypeId) (v : CT) : Option v.den :=
 match zeroCellsA P et with
 | some z => match pureCells z with
  | some ps => match dec v ps with | some (d, []) => some d | _ => none
  | none => none
 | none => none
def keyF (P : Program) (t : TypeId) (k : CT) : Bool :=
 match P.underlying t with
 | some (.struct fs) => k.isPair && plainFields P fs.toList k 0
 | _ => plainT P t k
def keyO (P : Program) (t : TypeId) : Option Prop :=
 match P.underlying t with
 | some (.struct _) => some (P.stoodInHeld t = false)
 | _ => none
def lookup0 (P : Program) (H : List AO) (t : TypeId) (x k : SV) (ok : Bool) : Option SV :=
 match P.underlying t, mapOf H x with
 | some (.map kt et), some ⟨kc, vc, es⟩ => match keyF P kt kc && decide (zeroAgg P et = some vc.isPair), keyOfA kc k with
  | true, some key => match zeroD P et vc with
   | some d => match avOf (enc vc ((findE es key).getD d)) with
    | some a => match ok with
     | true => some (.tup [a, .c (.bool (findE es key).isSome)])
     | false => some (.a a)
    | none => none
   | none => match ok, vc.isPair with
    | true, false => match zeroCellsA P et with
     | some [_] => some (.tup [.c .any, .c (.bool (findE es key).isSome)])
     | _ => none
    | false, false => match findE es key with
     | some d => match avOf (enc vc d) with | some a => some (.a a) | none => none
     | none => none
    | _, true => none
  | _, _ => none
 | _, _ => none
def lookupA (P : Program) (H : List AO) (t : TypeId) (x k : SV) (ok : Bool) : Option (Option Prop × SV) :=
 match P.underlying t with
 | some (.map kt _) => match lookup0 P H t x k ok with | some r => some (keyO P kt, r) | none => none
 | _ => none
def idxArr (M : Mach) (H : List AO) (t : TypeId) (x ix : SV) : Option (Option Prop × SV) :=
 match M.P.underlying t, ix, x with
 | some (.array n e), .int _ i, .a (.c (.ptr id off)) => match sizeP M.P e with
  | some w => some (some (0 ≤ i ∧ i < n), .a (.c (.ptr id (off + i.toNat * w))))
  | none => none
 | some (.array n e), .int _ i, .a (.c (.ep id c ver a k)) => match sizeP M.P e, arrOf H id c with
  | some w, some (zs, ver') => match Nat.beq w c.width && Nat.beq a 0 && Nat.beq k 0 with
   | true => some (some (ver' = ver ∧ 0 ≤ i ∧ i < n ∧ n ≤ zs.length), .a (.c (.ep id c ver i.toNat 0)))
   | false => none
  | _, _ => none
 | _, _, _ => none
def loadG1 (P : Program) (t : TypeId) (id ver j l : Nat) (H : List AO) : Option (Option Prop × SV) :=
 match H[id]? with
 | some (.gvec _ e zs i k x ver') => match Nat.beq l k with
  | true => match ofCells P t [x] 0 with | some v => some (some (ver' = ver ∧ j = i), .a v) | none => none
  | false => match (enc e (zs.getD j e.dflt))[l]? with
   | some q => match ofCells P t [.p q] 0 with | some v => some (some (ver' = ver), .a v) | none => none
   | none => none
 | _ => none
def pureNew (M : Mach) (ev : Operand → SV) (H : List AO) (op : Op) : Option (Option Prop × SV) :=
 match op with
 | .load t a => match ev a with
  | .a (.c (.ge id ver j l)) => loadG1 M.P t id ver j l H
  | .a (.c (.ep id e ver i k)) => match arrOf H id e with
   | some (zs, ver') => match ofCells M.P t ((enc e (zs.getD i e.dflt)).map AC.p) k with | some v => some (some (ver' = ver), .a v) | none => none
   | none => none
  | _ => none
 | .nilCheck x => match ev x with
  | .a (.c (.ep id e ver i k)) => match arrOf H id e with
   | some (_, ver') => some (some (ver' = ver), .a (.c (.ep id e ver i k)))
   | none => none
  | .a (.c (.ve id i k)) => match vecOf H id with
   | some _ => some (none, .a (.c (.ve id i k)))
   | none => none
  | .a (.c (.ge id ver i k)) => match gvecOf H id with
   | some (_, ver') => some (some (ver' = ver), .a (.c (.ge id ver i k)))
   | none => none
  | _ => none
 | .fieldAddr s x f => match fieldOf M.P s f with
  | some fd => match sizeP M.P fd.type with
   | some (_ + 1) => match ev x with
    | .a (.c (.ep id e ver i k)) => match arrOf H id e with
     | some (_, ver') => some (some (ver' = ver), .a (.c (.ep id e ver i (k + fd.offset))))
     | none => none
    | .a (.c (.ve id i k)) => match vecOf H id with
     | some _ => some (none, .a (.c (.ve id i (k + fd.offset))))
     | none => none
    | .a (.c (.ge id ver i k)) => match gvecOf H id with
     | some (_, ver') => some (some (ver' = ver), .a (.c (.ge id ver i (k + fd.offset))))
     | none => none
    | _ => none
   | _ => none
  | none => none
 | .indexAddr t x ix => match idxArr M H t (ev x) (ev ix) with | some r => some r | none => match M.P.underlying t, ev ix, ev x with
  | some (.slice e), .int _ i, .a (.c (.sl id c ver len)) => match sizeP M.P e, arrOf H id c with
   | some n, some (_, ver') => match Nat.beq n c.width with
    | true => some (some (ver' = ver ∧ 0 ≤ i ∧ i < len), .a (.c (.ep id c ver i.toNat 0)))
    | false => none
   | _, _ => none
  | some (.slice e), .int _ i, .a (.c (.vs id len)) => match sizeP M.P e, vecOf H id with
   | some n, some c => match Nat.beq n c.width with
    | true => some (some (0 ≤ i ∧ i < len), .a (.c (.ve id i.toNat 0)))
    | false => none
   | _, _ => none
  | some (.slice e), .int _ i, .a (.c (.gs id ver len)) => match sizeP M.P e, gvecOf H id with
   | some n, some (c, ver') => match Nat.beq n c.width with
    | true => some (some (ver' = ver ∧ 0 ≤ i ∧ i < len), .a (.c (.ge id ver i.toNat 0)))
    | false => none
   | _, _ => none
  | _, _, _ => none
 | .slice t x lo hi mx => match mx, M.P.underlying t, ev x with
  | none, some (.slice e), .a (.c (.sl id c ver len)) => match boundA (lo.map ev) 0, boundA (hi.map ev) len, sizeP M.P e, arrOf H id c with
   | some l, some h, some n, some (_, ver') => match Nat.beq n c.width with
    | true => some (some (ver' = ver ∧ l = 0 ∧ 0 ≤ h ∧ h ≤ len), .a (.c (.sl id c ver h.toNat)))
    | false => none
   | _, _, _, _ => none
  | _, _, _ => none
 | .lookup t x k ok => lookupA M.P H t (ev x) (ev k) ok
 | .convert src dst x => match M.P.underlying src, M.P.underlying dst, ev x with
  | some (.slice e), some .string, .a (.c (.sl id (.int .u8) ver len)) => match M.P.underlying e, arrOf H id (.int .u8) with
   | some (.int .u8), some (zs, ver') => some (some (ver' = ver ∧ len = zs.length), .str (bytesOf zs))
   | _, _ => none
  | _, _, _ => none
 | .call c => match c.callee with
  | .builtin .len => match c.args.toList, c.argTypes.toList with
   | [x], [t] => match M.P.underlying t, ev x with
    | some (.slice _), .a (.c (.sl id c ver len)) => match arrOf H id c with
     | some (_, ver') => some (some (ver' = ver), .int .i64 len)
     | none => none
    | some (.slice _), .a (.c (.vs id len)) => match vecOf H id with
     | some _ => some (none, .int .i64 len)
     | none => none
    | some (.slice _), .a (.c (.gs id ver len)) => match gvecOf H id with
     | some (_, ver') => some (some (ver' = ver), .int .i64 len)
     | none => none
    | _, _ => none
   | _, _ => none
  | _ => none
 | _ => none
def pureOp (M : Mach) (ev : Operand → SV) (H : List AO) (op : Op) : Option (Option Prop × SV) :=
 match pureOp0 M ev H op with
 | some x => some x
 | none => pureNew M ev H op
def rowsOf (e : CT) : Nat → List PV → Option (List e.den)
 | 0, _ => some []
 | n + 1, cs => match dec e cs with
  | some (z, r) => match rowsOf e n r with | some zs => some (z :: zs) | none => none
  | none => none
def arrCt (c : CT) : Nat → Option CT
 | 0 => none
 | 1 => some c
 | n + 2 => match arrCt c (n + 1) with | some r => some (.pair c r) | none => none
def ctOf (P : Program) : Nat → TypeId → Option CT
 | 0, _ => none
 | d + 1, t => match P.underlying t with
  | some (.int k) => some (.int k)
  | some .bool => some .bool
  | some .string => some .str
  | some (.slice e) => match ctOf P d e with | some c => some (.list c) | none => none
  | some (.struct fs) => go (ctOf P d) fs.toList
  | some (.func ..) => some .fn
  | some (.array n e) => match ctOf P d e with | some c => arrCt c n | none => none
  | some (.map k v) => match ctOf P d k, ctOf P d v with | some a, some b => some (.map a b) | _, _ => none
  | _ => none
where
 go (f : TypeId → Option CT) : List Field → Option CT
  | [] => none
  | [x] => f x.type
  | x :: r => match f x.type, go f r with | some a, some b => some (.pair a b) | _, _ => none
def repeatCells (z : List AC) : Nat → List AC
 | 0 => []
 | n + 1 => z ++ repeatCells z n
def appended (e : CT) (x : SV) : Option (List e.den) :=
 match e, x with
 | .int .u8, .str s => some (s.data.toList.map fun b => (b.toNat : Int))
 | _, x => match slOf x with
  | some .nil => some []
  | some (.l _ zs _) => castD zs
  | none => none
def capBound : Nat := 1000000000000
def boxA (P : Program) (t : TypeId) (x : SV) (H : List AO) (K : SV → List AO → Prop) : Prop :=
 match x, sizeP P t with
 | .a v, some _ => K (.a (.c (.ptr H.length 0))) (H ++ [.row v.cells])
 | _, _ => False
def storeA (P : Program) (t : TypeId) (a x : SV) (H : List AO) (K : SV → List AO → Prop) : Prop :=
 match a, x, sizeP P t with
 | .a (.c (.ptr id off)), .a v, some n => match H[id]? with
  | some (.row cs) => match Nat.beq v.cells.length n && Nat.ble (off + n) cs.length with
   | true => K .none (H.set id (.row (cs.take off ++ v.cells ++ cs.drop (off + n))))
   | false => False
  | _ => False
 | _, _, _ => False
def buildSliceA (P : Program) (t : TypeId) (len : Nat) (parts : List (Nat × SV)) (H : List AO) (K : SV → List AO → Prop) : Prop :=
 match P.underlying t with
 | some (.slice e) => match ctOf P 20 e, sizeP P e, zeroCellsA P e with
  | some c, some n, some z => match Nat.beq n c.width && Nat.beq z.length n && Nat.ble 1 n && Nat.ble (len * n) 16777216 with
   | true => match fillA (fun i => some (i * n, n)) (repeatCells z len) parts with
    | some cs => match pureCells cs with
     | some ps => match rowsOf c len ps with
      | some zs => K (.a (.c (.own H.length c zs))) (H ++ [.tok e c len false])
      | none => False
     | none => False
    | none => False
   | false => False
  | _, _, _ => False
 | _ => False
def nilAt : List PV → Nat → Option Nat
 | [], _ => none
 | x :: r, i => match x with | .v (.slice none 0 0) => some i | _ => nilAt r (i + 1)
def builtP (c : CT) (zs : List c.den) (ps : List PV) : AC :=
 match zs, nilAt ps 0 with
 | [z], some k => .nl c z k
 | zs, _ => .p (.l c zs)
def builtCells (P : Program) (t : TypeId) (len : Nat) (parts : List (Nat × SV)) : Option (List PV) :=
 match P.underlying t with
 | some (.slice e) => match sizeP P e, zeroCellsA P e with
  | some n, some z => match fillA (fun i => some (i * n, n)) (repeatCells z len) parts with
   | some cs => pureCells cs
   | none => none
  | _, _ => none
 | _ => none
def buildSliceP (P : Program) (t : TypeId) (len : Nat) (parts : List (Nat × SV)) : Option (Option Prop × SV) :=
 match P.underlying t with
 | some (.slice e) => match ctOf P 20 e, sizeP P e, zeroCellsA P e with
  | some c, some n, some z => match Nat.beq n c.width && Nat.beq z.length n && Nat.ble 1 n && Nat.ble (len * n) 16777216 with
   | true => match fillA (fun i => some (i * n, n)) (repeatCells z len) parts with
    | some cs => match pureCells cs with
     | some ps => match rowsOf c len ps with
      | some zs => some (none, .a (.c (builtP c zs ps)))
      | none => none
     | none => none
    | none => none
   | false => none
  | _, _, _ => none
 | _ => none
def pureOpD0 (M : Mach) (ev : Operand → SV) (H : List AO) (op : Op) : Option (Option Prop × SV) :=
 match op with
 | .buildSlice t len parts => buildSliceP M.P t len (parts.toList.map fun p => (p.1, ev p.2))
 | op => pureOp0 M ev H op
def appendA (P : Program) (t tx : TypeId) (s x : SV) (H : List AO) (K : SV → List AO → Prop) : Prop :=
 match P.underlying t, P.underlying tx with
 | some (.slice e), some dx => match sizeP P e, P.info? e, zeroCellsA P e, ctOf P 20 e with
  | some n, some info, some z, some c => match Nat.beq n c.width && Nat.beq z.length n && Nat.ble 1 n && Nat.ble info.bytes 100 && (match dx with | .string => true | .slice _ => true | _ => false) with
   | true => match s with
    | .a (.c (.own id c' zs)) => match H[id]? with
     | some (.tok e' c'' m zf) => match decide (e' = e) && decide (c'' = c') && decide (c' = c) with
      | true => match appended c' x with
       | some ys => m = zs.length ∧ m + ys.length ≤ capBound ∧ K (.a (.c (.own id c' (zs ++ ys)))) (H.set id (.tok e' c'' (m + ys.length) zf))
       | none => False
      | false => False
     | _ => False
    | .a (.c (.fl c' zs)) => match decide (c' = c), appended c' x with
     | true, some ys => 0 < ys.length ∧ zs.length + ys.length ≤ capBound ∧ K (.a (.c (.own H.length c' (zs ++ ys)))) (H ++ [.tok e c' (zs.length + ys.length) true])
     | _, _ => False
    | .v (.slice none 0 0) => match appended c x with
     | some ys => ys.length ≤ capBound ∧ K (.a (.c (.own H.length c ys))) (H ++ [.tok e c ys.length true])
     | none => False
    | _ => False
   | false => False
  | _, _, _, _ => False
 | _, _ => False
def heapOp0 (M : Mach) (ev : Operand → SV) (H : List AO) (op : Op) (K : SV → List AO → Prop) : Prop :=
 match op with
 | .alloc t => match zeroCellsA M.P t, aggP M.P t with
  | some z, some g => boxA M.P t (.a (match g, z with | false, [x] => .c x | _, z => .agg z)) H K
  | _, _ => False
 | .box t x => boxA M.P t (ev x) H K
 | .store t a x => storeA M.P t (ev a) (ev x) H K
 | .buildSlice t len parts => buildSliceA M.P t len (parts.toList.map fun p => (p.1, ev p.2)) H K
 | .convert src dst x => match M.P.underlying src, M.P.underlying dst, ev x with
  | some .string, some (.slice e), .str s => match M.P.underlying e, sizeP M.P e with
   | some (.int .u8), some 1 => s.size ≤ capBound ∧ K (.list (.int .u8) (s.data.toList.map fun b => (b.toNat : Int))) H
   | _, _ => False
  | _, _, _ => False
 | .call c => match c.callee with
  | .builtin .append => match c.args.toList, c.argTypes.toList with
   | [s, x], [t, tx] => appendA M.P t tx (ev s) (ev x) H K
   | _, _ => False
  | _ => False
 | _ => False
def freezeK : List (Nat × SV) → List AO → (List (Nat × SV) → List AO → Prop) → Prop
 | [], H, K => K [] H
 | (i, x) :: r, H, K => match x with
  | .a (.c (.mp id)) => match H[id]? with
   | some (.map k v es) => freezeK r (H.set id .dead) fun r H => K ((i, .a (.c (.p (.m k v es)))) :: r) H
   | _ => False
  | x => freezeK r H fun r H => K ((i, x) :: r) H
def appendSl (P : Program) (t tx : TypeId) (id : Nat) (c : CT) (ver len : Nat) (x : SV) (H : List AO) (K : SV → List AO → Prop) : Prop :=
 match P.underlying t, P.underlying tx with
 | some (.slice e), some dx => match sizeP P e, P.info? e, zeroCellsA P e with
  | some n, some info, some z => match Nat.beq n c.width && Nat.beq z.length n && Nat.ble 1 n && Nat.ble info.bytes 100 && (match dx with | .string => true | .slice _ => true | _ => false) with
   | true => match H[id]? with
    | some (.arr e' c' zs ver') => match decide (e' = e), decide (c' = c) with
     | true, true => match appended c' x with
      | some ys => ver' = ver ∧ 0 < ys.length ∧ len + ys.length ≤ capBound ∧ K (.a (.c (.sl id c (ver + 1) (len + ys.length)))) (H.set id (.arr e' c' (zs.take len ++ ys) (ver + 1)))
      | none => False
     | _, _ => False
    | _ => False
   | false => False
  | _, _, _ => False
 | _, _ => False
def storeEp (P : Program) (t : TypeId) (id : Nat) (c : CT) (ver i k : Nat) (x : SV) (H : List AO) (K : SV → List AO → Prop) : Prop :=
 match x, sizeP P t, H[id]? with
 | .a v, some n, some (.arr e' c' zs ver') => match decide (c' = c), pureCells v.cells with
  | true, some ps => match Nat.beq ps.length n && Nat.ble (k + n) c'.width with
   | true => match dec c' ((enc c' (zs.getD i c'.dflt)).take k ++ ps ++ (enc c' (zs.getD i c'.dflt)).drop (k + n)) with
    | some (z, []) => ver' = ver ∧ K .none (H.set id (.arr e' c' (zs.set i z) ver'))
    | _ => False
   | false => False
  | _, _ => False
 | _, _, _ => False
def mapSetA (P : Program) (t : TypeId) (m k x : SV) (H : List AO) (K : SV → List AO → Prop) : Prop :=
 match P.underlying t, m with
 | some (.map kt et), .a (.c (.mp id)) => match H[id]? with
  | some (.map kc vc es) => match keyF P kt kc && decide (aggP P et = some vc.isPair), keyOfA kc k, keyOfA vc x with
   | true, some key, some d => andO (keyO P kt) (K .none (H.set id (.map kc vc (setE key d es))))
   | _, _, _ => False
  | _ => False
 | _, _ => False
def makeMapA (P : Program) (t : TypeId) (H : List AO) (K : SV → List AO → Prop) : Prop :=
 match P.underlying t with
 | some (.map kt et) => match ctOf P 20 kt, elemCt P et with
  | some k, some v => K (.a (.c (.mp H.length))) (H ++ [.map k v []])
  | _, _ => False
 | _ => False
where
 elemCt (P : Program) (et : TypeId) : Option CT := match P.underlying et with
  | some (.func ..) => some .fn
  | _ => ctOf P 20 et
def allocArr (P : Program) (t : TypeId) (n : Nat) (e : TypeId) (H : List AO) (K : SV → List AO → Prop) : Prop :=
 match ctOf P 20 e, sizeP P t, zeroCellsA P t with
 | some c, some _, some z => match Nat.beq z.length (n * c.width) && Nat.ble 1 n, pureCells z with
  | true, some ps => match rowsOf c n ps with
   | some zs => K (.a (.c (.ep H.length c 0 0 0))) (H ++ [.arr t c zs 0])
   | none => False
  | _, _ => False
 | _, _, _ => False
def sliceArr (P : Program) (t : TypeId) (x : SV) (lo hi : Option SV) (H : List AO) (K : SV → List AO → Prop) : Prop :=
 match P.underlying t, x, hi with
 | some (.array n e), .a (.c (.ep id c ver a k)), none => match boundA lo 0, sizeP P e, H[id]? with
  | some l, some w, some (.arr _ c' zs ver') => match decide (c' = c), Nat.beq w c'.width && Nat.beq a 0 && Nat.beq k 0 with
   | true, true => (ver' = ver ∧ 0 ≤ l ∧ l < n ∧ n = zs.length) ∧ K (.a (.c (.p (.l c' (zs.drop l.toNat))))) (H.set id .dead)
   | _, _ => False
  | _, _, _ => False
 | _, _, _ => False
def CT.deep : CT → Bool
 | .pair a b => a.deep || b.deep
 | .list _ => true
 | _ => false
def deepT (P : Program) (t : TypeId) : Bool :=
 match P.underlying t with
 | some (.slice e) => match ctOf P 20 e with | some c => c.deep | none => false
 | _ => false
def appendNew (P : Program) (t tx : TypeId) (x : SV) (H : List AO) (K : SV → List AO → Prop) : Prop :=
 match P.underlying t, P.underlying tx with
 | some (.slice e), some dx => match sizeP P e, P.info? e, zeroCellsA P e, ctOf P 20 e with
  | some n, some info, some z, some c => match Nat.beq n c.width && Nat.beq z.length n && Nat.ble 1 n && Nat.ble info.bytes 100 && (match dx with | .string => true | .slice _ => true | _ => false) with
   | true => match appended c x with
    | some ys => ys.length ≤ capBound ∧ K (.a (.c (.sl H.length c 0 ys.length))) (H ++ [.arr e c ys 0])
    | none => False
   | false => False
  | _, _, _, _ => False
 | _, _ => False
def appendVec (P : Program) (t tx : TypeId) (x : SV) (H : List AO) (K : SV → List AO → Prop) : Prop :=
 match P.underlying t, P.underlying tx with
 | some (.slice e), some dx => match sizeP P e, P.info? e, zeroCellsA P e, ctOf P 20 e with
  | some n, some info, some z, some c => match Nat.beq n c.width && Nat.beq z.length n && Nat.ble 1 n && Nat.ble info.bytes 100 && (match dx with | .string => true | .slice _ => true | _ => false) with
   | true => match appended c x with
    | some ys => ys.length ≤ capBound ∧ ∃ i k y, i < ys.length ∧ (enc c (ys.getD i c.dflt))[k]? = some y ∧ K (.a (.c (.vs H.length ys.length))) (H ++ [.vec e c ys i k (.p y)])
    | none => False
   | false => False
  | _, _, _, _ => False
 | _, _ => False
def holeFix (c : CT) (zs : List c.den) (i k : Nat) (x : AC) : Option (List c.den) :=
 match x.pure? with
 | some p => match dec c ((enc c (zs.getD i c.dflt)).set k p) with
  | some (z, []) => some (zs.set i z)
  | _ => none
 | none => none
def appendG0 (P : Program) (t tx : TypeId) (x : SV) (H : List AO) (K : SV → List AO → Prop) : Prop :=
 match P.underlying t, P.underlying tx, x with
 | some (.slice e), some dx, .a (.c (.nl c' z' k)) => match sizeP P e, P.info? e, zeroCellsA P e, ctOf P 20 e with
  | some n, some info, some z, some c => match Nat.beq n c.width && Nat.beq z.length n && Nat.ble 1 n && Nat.ble info.bytes 100 && Nat.blt k n && (match dx with | .string => true | .slice _ => true | _ => false) with
   | true => match appended c (.a (.c (.nl c' z' k))) with
    | some [y] => K (.a (.c (.gs H.length 0 1))) (H ++ [.gvec e c [y] 0 k (.p (.v (.slice none 0 0))) 0])
    | _ => False
   | false => False
  | _, _, _, _ => False
 | _, _, _ => False
def appendGs (P : Program) (t tx : TypeId) (id ver len : Nat) (x : SV) (H : List AO) (K : SV → List AO → Prop) : Prop :=
 match P.underlying t, P.underlying tx, x with
 | some (.slice e), some dx, .a (.c (.nl c' z' k')) => match sizeP P e, P.info? e, zeroCellsA P e, H[id]? with
  | some n, some info, some z, some (.gvec e' c zs i k y ver') => match Nat.beq n c.width && Nat.beq z.length n && Nat.ble 1 n && Nat.ble info.bytes 100 && Nat.blt k' n && decide (e' = e) && (match dx with | .string => true | .slice _ => true | _ => false) with
   | true => match holeFix c zs i k y, appended c (.a (.c (.nl c' z' k'))) with
    | some zs', some [q] => ver' = ver ∧ len + 1 ≤ capBound ∧ K (.a (.c (.gs id (ver + 1) (len + 1)))) (H.set id (.gvec e' c (zs' ++ [q]) len k' (.p (.v (.slice none 0 0))) (ver + 1)))
    | _, _ => False
   | false => False
  | _, _, _, _ => False
 | _, _, _ => False
def loadGe (P : Program) (t : TypeId) (id ver j l : Nat) (H : List AO) (K : SV → List AO → Prop) : Prop :=
 match H[id]? with
 | some (.gvec _ e zs i k x ver') => ver' = ver ∧
  ((¬ j = i ∧ match ofCells P t ((enc e (zs.getD j e.dflt)).map AC.p) l with | some v => K (.a v) H | none => False) ∨
  (j = i ∧ match ofCells P t (((enc e (zs.getD j e.dflt)).map AC.p).set k x) l with | some v => K (.a v) H | none => False))
 | _ => False
def storeGe (P : Program) (t : TypeId) (id ver j l : Nat) (x : SV) (H : List AO) (K : SV → List AO → Prop) : Prop :=
 match x, sizeP P t, H[id]? with
 | .a v, some n, some (.gvec T e zs i k y ver') => ver' = ver ∧
  ((¬ j = i ∧ match pureCells v.cells with
   | some ps => match Nat.beq ps.length n && Nat.ble (l + n) e.width with
    | true => match dec e ((enc e (zs.getD j e.dflt)).take l ++ ps ++ (enc e (zs.getD j e.dflt)).drop (l + n)) with
     | some (z, []) => K .none (H.set id (.gvec T e (zs.set j z) i k y ver'))
     | _ => False
    | false => False
   | none => False) ∨
  ((j = i ∧ l = k ∧ n = 1) ∧ match v with | .c z => K .none (H.set id (.gvec T e zs i k z ver')) | _ => False))
 | _, _, _ => False
def buildFl (P : Program) (t : TypeId) (len : Nat) (parts : List (Nat × SV)) (H : List AO) (K : SV → List AO → Prop) : Prop :=
 buildSliceA P t len parts H fun r _ => ∃ c, r = .a (.c (.own H.length c [])) ∧ K (.a (.c (.fl c []))) H
def flC : CT → Bool
 | .int .u8 => true
 | .pair .str .str => true
 | _ => false
def u8T (P : Program) (t : TypeId) : Bool :=
 match P.underlying t with
 | some (.slice e) => match ctOf P 20 e with | some c => flC c | none => false
 | _ => false
def holeAt : List AC → Nat → Option Nat
 | [], _ => none
 | x :: r, i => match x with
  | .sl .. => some i
  | .own .. => some i
  | _ => holeAt r (i + 1)
def oneCells (P : Program) (t : TypeId) (parts : List (Nat × SV)) : Option (List AC) :=
 match P.underlying t with
 | some (.slice e) => match sizeP P e, zeroCellsA P e with
  | some n, some z => fillA (fun i => some (i * n, n)) (repeatCells z 1) parts
  | _, _ => none
 | _ => none
def hasHole (P : Program) (t : TypeId) (parts : List (Nat × SV)) : Bool :=
 match oneCells P t parts with
 | some cs => match holeAt cs 0 with | some _ => true | none => false
 | none => false
def buildV (P : Program) (t : TypeId) (parts : List (Nat × SV)) (H : List AO) (K : SV → List AO → Prop) : Prop :=
 match P.underlying t with
 | some (.slice e) => match ctOf P 20 e, sizeP P e, zeroCellsA P e with
  | some c, some n, some z => match Nat.beq n c.width && Nat.beq z.length n && Nat.ble 1 n && Nat.ble n 16777216 with
   | true => match fillA (fun i => some (i * n, n)) (repeatCells z 1) parts with
    | some cs => match holeAt cs 0 with
     | some k => match cs[k]?, pureCells (cs.set k (.p (.v (.slice none 0 0)))) with
      | some x, some ps => match rowsOf c 1 ps with
       | some zs => K (.a (.c (.vs H.length 1))) (H ++ [.vec e c zs 0 k x])
       | none => False
      | _, _ => False
     | none => False
    | none => False
   | false => False
  | _, _, _ => False
 | _ => False
def buildS (P : Program) (t : TypeId) (len : Nat) (parts : List (Nat × SV)) (H : List AO) (K : SV → List AO → Prop) : Prop :=
 match len with
 | 0 => match u8T P t with
  | true => buildSliceA P t 0 parts H K ∨ buildFl P t 0 parts H K
  | false => buildSliceA P t 0 parts H K
 | 1 => match hasHole P t parts with
  | true => buildSliceA P t 1 parts H K ∨ buildV P t parts H K
  | false => buildSliceA P t 1 parts H K
 | n + 2 => buildSliceA P t (n + 2) parts H K
def appendFl (P : Program) (t tx : TypeId) (c : CT) (zs : List c.den) (x : SV) (H : List AO) (K : SV → List AO → Prop) : Prop :=
 match P.underlying t, P.underlying tx with
 | some (.slice e), some dx => match sizeP P e, P.info? e, zeroCellsA P e with
  | some n, some info, some z => match Nat.beq n c.width && Nat.beq z.length n && Nat.ble 1 n && Nat.ble info.bytes 100 && (match dx with | .string => true | .slice _ => true | _ => false) with
   | true => match appended c x with
    | some ys => (zs = [] ∧ 0 < ys.length ∧ ys.length ≤ capBound) ∧ K (.a (.c (.sl H.length c 0 ys.length))) (H ++ [.arr e c ys 0])
    | none => False
   | false => False
  | _, _, _ => False
 | _, _ => False
def appendFe (P : Program) (t tx : TypeId) (c : CT) (zs : List c.den) (x : SV) (H : List AO) (K : SV → List AO → Prop) : Prop :=
 match P.underlying t, P.underlying tx with
 | some (.slice e), some dx => match sizeP P e with
  | some n => match Nat.beq n c.width && (match dx with | .string => true | .slice _ => true | _ => false) with
   | true => match appended c x with
    | some ys => ys = [] ∧ K (.a (.c (.fl c zs))) H
    | none => False
   | false => False
  | none => False
 | _, _ => False
def appendFl0 (P : Program) (t tx : TypeId) (c : CT) (zs : List c.den) (x : SV) (H : List AO) (K : SV → List AO → Prop) (old : Prop) : Prop :=
 match flC c with
 | true => (old ∨ appendFl P t tx c zs x H K) ∨ appendFe P t tx c zs x H K
 | false => old
def appendGv0 (P : Program) (t tx : TypeId) (id2 len2 : Nat) (H : List AO) (K : SV → List AO → Prop) : Prop :=
 match P.underlying t, P.underlying tx, H[id2]? with
 | some (.slice e), some dx, some (.vec e2 c zs i k y) => match sizeP P e, P.info? e, zeroCellsA P e with
  | some n, some info, some z => match Nat.beq n c.width && Nat.beq z.length n && Nat.ble 1 n && Nat.ble info.bytes 100 && decide (e2 = e) && Nat.beq i 0 && Nat.beq zs.length 1 && Nat.beq len2 1 && (match dx with | .string => true | .slice _ => true | _ => false) with
   | true => K (.a (.c (.gs H.length 0 1))) (H ++ [.gvec e c zs 0 k y 0])
   | false => False
  | _, _, _ => False
 | _, _, _ => False
def appendGsV (P : Program) (t tx : TypeId) (id ver len id2 len2 : Nat) (H : List AO) (K : SV → List AO → Prop) : Prop :=
 match P.underlying t, P.underlying tx with
 | some (.slice e), some dx => match sizeP P e, P.info? e, zeroCellsA P e, H[id]? with
  | some n, some info, some z, some (.gvec e' c zs i k y ver') => match H[id2]? with
   | some (.vec e2 c2 zs2 i2 k2 y2) => match decide (c2 = c), Nat.beq n c.width && Nat.beq z.length n && Nat.ble 1 n && Nat.ble info.bytes 100 && decide (e' = e) && decide (e2 = e) && Nat.beq i2 0 && Nat.beq zs2.length 1 && Nat.beq len2 1 && (match dx with | .string => true | .slice _ => true | _ => false) with
    | true, true => match holeFix c zs i k y, castD (e := c) zs2 with
     | some zs', some zs2 => (ver' = ver ∧ len + 1 ≤ capBound) ∧ K (.a (.c (.gs id (ver + 1) (len + 1)))) (H.set id (.gvec e' c (zs' ++ zs2) len k2 y2 (ver + 1)))
     | _, _ => False
    | _, _ => False
   | _ => False
  | _, _, _, _ => False
 | _, _ => False
def appendGsP (P : Program) (t tx : TypeId) (id ver len : Nat) (x : SV) (H : List AO) (K : SV → List AO → Prop) : Prop :=
 match P.underlying t, P.underlying tx with
 | some (.slice e), some dx => match sizeP P e, P.info? e, zeroCellsA P e, H[id]? with
  | some n, some info, some z, some (.gvec e' c zs i k y ver') => match Nat.beq n c.width && Nat.beq z.length n && Nat.ble 1 n && Nat.ble info.bytes 100 && decide (e' = e) && (match dx with | .string => true | .slice _ => true | _ => false) with
   | true => match appended c x with
    | some [q] => (ver' = ver ∧ len + 1 ≤ capBound) ∧ K (.a (.c (.gs id (ver + 1) (len + 1)))) (H.set id (.gvec e' c (zs ++ [q]) i k y (ver + 1)))
    | _ => False
   | false => False
  | _, _, _, _ => False
 | _, _ => False
def hasVec : List AO → Bool
 | [] => false
 | o :: r => match o with | .vec .. => true | _ => hasVec r
def loadVe (P : Program) (t : TypeId) (id j l : Nat) (H : List AO) (K : SV → List AO → Prop) : Prop :=
 match H[id]? with
 | some (.vec _ e zs i k x) =>
  (¬ j = i ∧ match ofCells P t ((enc e (zs.getD j e.dflt)).map AC.p) l with | some v => K (.a v) H | none => False) ∨
  ((j = i ∧ l = k) ∧ match ofCells P t [x] 0 with | some v => K (.a v) H | none => False)
 | _ => False
def storeVe (P : Program) (t : TypeId) (id j l : Nat) (x : SV) (H : List AO) (K : SV → List AO → Prop) : Prop :=
 match x, sizeP P t, H[id]? with
 | .a v, some n, some (.vec T e zs i k y) =>
  (¬ j = i ∧ match pureCells v.cells with
   | some ps => match Nat.beq ps.length n && Nat.ble (l + n) e.width with
    | true => match dec e ((enc e (zs.getD j e.dflt)).take l ++ ps ++ (enc e (zs.getD j e.dflt)).drop (l + n)) with
     | some (z, []) => K .none (H.set id (.vec T e (zs.set j z) i k y))
     | _ => False
    | false => False
   | none => False) ∨
  ((j = i ∧ l = k ∧ n = 1) ∧ match v with | .c z => K .none (H.set id (.vec T e zs i k z)) | _ => False)
 | _, _, _ => False
def makeSl (P : Program) (t : TypeId) (l c : SV) (H : List AO) (K : SV → List AO → Prop) : Prop :=
 match P.underlying t, l, c with
 | some (.slice e), .a (.c (.p (.v (.int _ n)))), .a (.c (.p (.v (.int _ m)))) => match P.info? e, zeroCellsA P e with
  | some i, some [.p (.v (.int k z))] => match Nat.beq i.size 1 && Nat.ble i.bytes 100 && decide (z = 0) with
   | true => (m = n ∧ 0 < n ∧ n ≤ 1000000) ∧ K (.a (.c (.sl H.length (.int k) 0 n.toNat))) (H ++ [.arr e (.int k) (List.replicate n.toNat (0 : Int)) 0])
   | false => False
  | _, _ => False
 | _, _, _ => False
def isNl : SV → Bool
 | .a (.c (.nl ..)) => true
 | _ => false
def heapOp (M : Mach) (ev : Operand → SV) (H : List AO) (op : Op) (K : SV → List AO → Prop) : Prop :=
 match op with
 | .makeMap t r => match r with | none => makeMapA M.P t H K | some _ => False
 | .makeSlice t l c => makeSl M.P t (ev l) (ev c) H K
 | .alloc t => match M.P.underlying t with
  | some (.array n e) => match Nat.ble n 8 with
   | true => heapOp0 M ev H op K
   | false => allocArr M.P t n e H K
  | _ => heapOp0 M ev H op K
 | .slice t x lo hi mx => match mx with
  | none => sliceArr M.P t (ev x) (lo.map ev) (hi.map ev) H K
  | some _ => False
 | .mapUpdate t m k x => mapSetA M.P t (ev m) (ev k) (ev x) H K
 | .insert t m k x => mapSetA M.P t (ev m) (ev k) (ev x) H K
 | .store t a x => match ev a with
  | .a (.c (.ep id c ver i k)) => storeEp M.P t id c ver i k (ev x) H K
  | .a (.c (.ve id i k)) => storeVe M.P t id i k (ev x) H K
  | .a (.c (.ge id ver i k)) => storeGe M.P t id ver i k (ev x) H K
  | _ => heapOp0 M ev H op K
 | .load t a => match ev a with
  | .a (.c (.ve id i k)) => loadVe M.P t id i k H K
  | .a (.c (.ge id ver i k)) => loadGe M.P t id ver i k H K
  | _ => False
 | .buildSlice t len parts => freezeK (parts.toList.map fun p => (p.1, ev p.2)) H fun parts H => buildS M.P t len parts H K
 | .call c => match c.callee with
  | .builtin .append => match c.args.toList, c.argTypes.toList with
   | [s, x], [t, tx] => match ev s with
    | .a (.c (.sl id e ver len)) => appendSl M.P t tx id e ver len (ev x) H K
    | .a (.c (.gs id ver len)) => match ev x with
     | .a (.c (.nl c z k)) => appendGs M.P t tx id ver len (.a (.c (.nl c z k))) H K
     | .a (.c (.vs id2 len2)) => appendGsV M.P t tx id ver len id2 len2 H K
     | x => appendGsP M.P t tx id ver len x H K
    | .a (.c (.fl c zs)) => appendFl0 M.P t tx c zs (ev x) H K (heapOp0 M ev H op K)
    | .v (.slice none 0 0) => match deepT M.P t with
     | true => match isNl (ev x) with
      | true => heapOp0 M ev H op K ∨ appendG0 M.P t tx (ev x) H K
      | false => match ev x with
       | .a (.c (.vs id2 len2)) => appendGv0 M.P t tx id2 len2 H K
       | x => (heapOp0 M ev H op K ∨ appendVec M.P t tx x H K) ∨ appendNew M.P t tx x H K
     | false => match hasVec H with
      | true => heapOp0 M ev H op K ∨ appendNew M.P t tx (ev x) H K
      | false => heapOp0 M ev H op K
    | _ => heapOp0 M ev H op K
   | _, _ => False
  | _ => False
 | op => heapOp0 M ev H op K
end Go.Ab
