/- Members of a body: '/' is nowhere before 'i', and there are few signs. -/
import Derived.Test.YtkgcgbpclpmleaaGreatTX23toX24
import Derived.Test.YtkgcgbpclpmleaaGreatTY22toY54
import Derived.Test.YtkgcgbpclpmleaaGreatTY21toY49
import Derived.KernelRfl
import Derived.Test.YtkgcgbpclpmleaaGreatTY43toY30
import Derived.Test.YtkgcgbpclpmleaaGreatTY38toV32
import Derived.Test.YtkgcgbpclpmleaaGreatTX25toY20
import Derived.Test.YtkgcgbpclpmleaaGreatTX8toX10
namespace Go.Ab
open Go.Proofs
set_option linter.unusedSectionVars false
set_option maxRecDepth 100000
variable [Glob]
structure Tx (n : Nat) (b : ByteArray) : Prop where
 no : noSI b.data.toList = true
 last : b.data.toList.getLast? ≠ some 47
 cnt : cntL b.data.toList ≤ n
theorem cntL_append : ∀ a b : List UInt8, cntL (a ++ b) = cntL a + cntL b
 | [], b => (Nat.zero_add _).symm
 | x :: a, b => by
  show (if semB x = true then 1 else 0) + cntL (a ++ b) = (if semB x = true then 1 else 0) + cntL a + cntL b
  rw [cntL_append a b]
  omega
theorem noSI_append : ∀ a b : List UInt8, noSI a = true → noSI b = true → a.getLast? ≠ some 47 → noSI (a ++ b) = true
 | [], b, _, hb, _ => hb
 | [x], b, ha, hb, hl => by
  have hx : decide (x = 47) = false := dF9 fun h => hl (by rw [h]; rfl)
  show (!(decide (x = 47) && decide (b.head? = some 105)) && noSI b) = true
  rw [hx, hb]
  rfl
 | x :: y :: a, b, ha, hb, hl => by
  obtain ⟨h1, h2⟩ := bA9.1 ha
  have ih := noSI_append (y :: a) b h2 hb fun h => hl (by rw [List.getLast?_cons_cons]; exact h)
  show (!(decide (x = 47) && decide (((y :: a) ++ b).head? = some 105)) && noSI ((y :: a) ++ b)) = true
  rw [ih]
  have h1 : (!(decide (x = 47) && decide (some y = some 105))) = true := h1
  show (!(decide (x = 47) && decide (some y = some 105)) && true) = true
  rw [h1]
  rfl
theorem Tx.app {n m : Nat} {a b : ByteArray} (ha : Tx n a) (hb : Tx m b) : Tx (n + m) (a ++ b) := by
 have e : (a ++ b).data.toList = a.data.toList ++ b.data.toList := by simp
 refine ⟨?_, ?_, ?_⟩
 ·rw [e]; exact noSI_append _ _ ha.no hb.no ha.last
 ·rw [e, List.getLast?_append]
  intro h
  cases hl : b.data.toList.getLast? with
  | none => rw [hl] at h; exact ha.last h
  | some x => rw [hl] at h; exact hb.last (by rw [hl]; exact h)
 ·rw [e, cntL_append]
  have := ha.cnt
  have := hb.cnt
  omega
theorem Tx.le {n m : Nat} {a : ByteArray} (h : Tx n a) (hn : n ≤ m) : Tx m a := ⟨h.no, h.last, Nat.le_trans h.cnt hn⟩
instance (n : Nat) (b : ByteArray) : Decidable (Tx n b) := decidable_of_iff (noSI b.data.toList = true ∧ b.data.toList.getLast? ≠ some 47 ∧ cntL b.data.toList ≤ n) ⟨fun ⟨h1, h2, h3⟩ => ⟨h1, h2, h3⟩, fun ⟨h1, h2, h3⟩ => ⟨h1, h2, h3⟩⟩
theorem Tx.nil : Tx 0 ⟨#[]⟩ := by decide +kernel
theorem plain_tx : ∀ l : List UInt8, (∀ x ∈ l, x ≠ 47 ∧ semB x = false) → noSI l = true ∧ cntL l = 0
 | [], _ => ⟨rfl, rfl⟩
 | a :: r, h => by
  obtain ⟨h1, h2⟩ := plain_tx r fun x hx => h x (List.mem_cons_of_mem _ hx)
  obtain ⟨h3, h4⟩ := h a List.mem_cons_self
  refine ⟨?_, ?_⟩
  ·show (!(decide (a = 47) && _) && noSI r) = true
   rw [h1, dF9 h3]
   rfl
  ·show (if semB a = true then 1 else 0) + cntL r = 0
   rw [h2, h4]
   rfl
theorem Tx.plain {l : List UInt8} (h : ∀ x ∈ l, x ≠ 47 ∧ semB x = false) : Tx 0 (B l) :=
 ⟨(plain_tx l h).1, fun hl => (h 47 (List.mem_of_getLast? hl)).1 rfl, Nat.le_of_eq (plain_tx l h).2⟩
theorem dig_tx (n : Nat) : Tx 0 (B (basedV false 10 n)) :=
 Tx.plain (basedV_all (P := fun x => x ≠ 47 ∧ semB x = false) false 10 n (by decide) (by decide +kernel))
theorem pick_tx {L : List ByteArray} {m : Nat} (h : ∀ s ∈ L, Tx m s) (zs : List Int) (n : Int) : Tx m (pickS L zs n) := by
 unfold pickS
 rw [List.getD_eq_getElem?_getD]
 cases hx : L[(modV (rawV zs n) L.length).toNat]? with
 | none => exact Tx.le (by decide +kernel : Tx 0 ByteArray.empty) (nZ9 _)
 | some s => exact h s (List.mem_of_getElem? hx)
theorem in_tx {a : ByteArray} (h : Tx 0 a) : Tx 0 (inB a) := ((by decide +kernel : Tx 0 ⟨#[40]⟩).app h).app (by decide +kernel : Tx 0 ⟨#[41]⟩)
theorem bin_tx {a b s : ByteArray} (ha : Tx 0 a) (hb : Tx 0 b) (hs : Tx 0 s) : Tx 0 (a ++ s ++ b) := (ha.app hs).app hb
theorem opB_tx (op : Int) {a b : ByteArray} (x y : Int) (ha : Tx 0 a) (hb : Tx 0 b) : Tx 0 (opB op a x b y).1 := by
 unfold opB
 by_cases h0 : op = 0; · rw [if_pos h0]; exact (by decide +kernel : Tx 0 ⟨#[45]⟩).app ha
 rw [if_neg h0]
 by_cases h1 : op = 1; · rw [if_pos h1]; exact (by decide +kernel : Tx 0 ⟨#[126]⟩).app ha
 rw [if_neg h1]
 by_cases h2 : op = 2; · rw [if_pos h2]; exact (by decide +kernel : Tx 0 ⟨#[33]⟩).app ha
 rw [if_neg h2]
 by_cases h3 : op = 3; · rw [if_pos h3]; exact bin_tx ha hb (by decide +kernel)
 rw [if_neg h3]
 by_cases h4 : op = 4; · rw [if_pos h4]; exact bin_tx ha hb (by decide +kernel)
 rw [if_neg h4]
 by_cases h5 : op = 5; · rw [if_pos h5]; exact bin_tx ha hb (by decide +kernel)
 rw [if_neg h5]
 by_cases h6 : op = 6
 ·rw [if_pos h6]
  split
  ·exact ha.app (by decide +kernel : Tx 0 ⟨#[47, 32, 49]⟩)
  ·exact bin_tx ha hb (by decide +kernel)
 rw [if_neg h6]
 by_cases h7 : op = 7
 ·rw [if_pos h7]
  split
  ·exact ha.app (by decide +kernel : Tx 0 ⟨#[32, 37, 32, 55]⟩)
  ·exact bin_tx ha hb (by decide +kernel)
 rw [if_neg h7]
 by_cases h8 : op = 8; · rw [if_pos h8]; exact bin_tx ha hb (by decide +kernel)
 rw [if_neg h8]
 by_cases h9 : op = 9; · rw [if_pos h9]; exact bin_tx ha hb (by decide +kernel)
 rw [if_neg h9]
 by_cases h10 : op = 10; · rw [if_pos h10]; exact bin_tx ha hb (by decide +kernel)
 rw [if_neg h10]
 by_cases h11 : op = 11; · rw [if_pos h11]; exact bin_tx ha hb (by decide +kernel)
 rw [if_neg h11]
 by_cases h12 : op = 12; · rw [if_pos h12]; exact bin_tx ha hb (by decide +kernel)
 rw [if_neg h12]
 by_cases h13 : op = 13; · rw [if_pos h13]; exact bin_tx ha hb (by decide +kernel)
 rw [if_neg h13]
 by_cases h14 : op = 14; · rw [if_pos h14]; exact bin_tx ha hb (by decide +kernel)
 rw [if_neg h14]
 by_cases h15 : op = 15; · rw [if_pos h15]; exact bin_tx ha hb (by decide +kernel)
 rw [if_neg h15]
 by_cases h16 : op = 16; · rw [if_pos h16]; exact bin_tx ha hb (by decide +kernel)
 rw [if_neg h16]
 by_cases h17 : op = 17; · rw [if_pos h17]; exact bin_tx ha hb (by decide +kernel)
 rw [if_neg h17]
 by_cases h18 : op = 18; · rw [if_pos h18]; exact bin_tx ha hb (by decide +kernel)
 rw [if_neg h18]
 exact (bin_tx (s := ⟨#[32, 63, 32]⟩) ha hb (by decide +kernel)).app (by decide +kernel : Tx 0 ⟨#[32, 58, 32, 53]⟩)
theorem expr_tx (zs : List Int) : ∀ (d : Nat) (n : Int), Tx 0 (exprT zs d n).1 := by
 intro d
 induction d with
 | zero => intro n; exact dig_tx _
 | succ d ih =>
  intro n
  unfold exprT
  split
  ·exact dig_tx _
  ·exact opB_tx _ _ _ (in_tx (ih _)) (in_tx (ih _))
theorem lab_tx (zs : List Int) (n : Int) : Tx 0 (pickS labL zs n) := pick_tx (L := labL) (by decide +kernel) zs n
theorem celT_tx (zs : List Int) (n : Int) : Tx 0 (celT zs n).1 := by
 unfold celT
 split
 ·exact (by decide +kernel : Tx 0 ⟨#[38]⟩).app (lab_tx _ _)
 ·split
  ·exact in_tx (expr_tx _ _ _)
  ·exact pick_tx (L := num6L) (m := 0) (by decide +kernel) zs _
theorem celsG_tx (zs : List Int) : ∀ (k : Nat) {t : ByteArray} {m : Nat} (n : Int), Tx m t → Tx m (celsG zs k t n).1 := by
 intro k
 induction k with
 | zero => intro t m n h; exact h
 | succ k ih => intro t m n h; exact ih _ (h.app ((celT_tx zs n).app (by decide +kernel : Tx 0 ⟨#[32]⟩)))
theorem prtG_tx (zs : List Int) {t : ByteArray} {m : Nat} (n : Int) (h : Tx m t) : Tx m (prtG zs t n).1 := by
 unfold prtG
 split
 ·exact h.app (by decide +kernel : Tx 0 ⟨#[34, 116, 101, 120, 116, 34]⟩)
 split
 ·exact h.app (by decide +kernel : Tx 0 ⟨#[91, 32, 48, 32, 49, 55, 32, 50, 53, 53, 32, 93]⟩)
 split
 ·exact h.app ((by decide +kernel : Tx 0 ⟨#[38]⟩).app (lab_tx _ _))
 split
 ·exact h.app (by decide +kernel : Tx 0 ⟨#[34, 97, 92, 120, 52, 49, 92, 110, 34]⟩)
 ·exact (celsG_tx (m := m) zs _ _ (h.app (by decide +kernel : Tx 0 ⟨#[60]⟩))).app (by decide +kernel : Tx 0 ⟨#[62]⟩)
theorem valG_tx (zs : List Int) : ∀ (k : Nat) {t : ByteArray} {m : Nat} (n : Int), Tx m t → Tx m (valG zs k t n).1 := by
 intro k
 induction k with
 | zero => intro t m n h; exact h
 | succ k ih =>
  intro t m n h
  refine ih _ (prtG_tx zs _ ?_)
  unfold sepG
  split
  ·exact h
  ·exact h.app (by decide +kernel : Tx 0 ⟨#[44, 32]⟩)
theorem valT_tx (zs : List Int) (n : Int) : Tx 0 (valT zs n).1 := valG_tx zs _ _ .nil
theorem prop_tx (zs : List Int) (n : Int) : Tx 0 (pickS propL zs n) := pick_tx (by decide +kernel) zs n
theorem name_tx (zs : List Int) (n : Int) : Tx 0 (pickS nameL zs n) := pick_tx (by decide +kernel) zs n
def RecTx (r : Option (Int → ByteArray × Int)) (m : Nat) : Prop := match r with
 | some r => ∀ n, Tx m (r n).1
 | none => True
theorem nodG_tx {r : Int → ByteArray × Int} {m : Nat} (hr : RecTx (some r) m) (zs : List Int) {t : ByteArray} {c : Nat} (ht : Tx c t) (n : Int) : Tx (c + (m + 2)) (nodG r zs t n).1 := by
 have hr : ∀ n, Tx m (r n).1 := hr
 unfold nodG
 split
 ·exact ((ht.app ((lab_tx _ _).app (by decide +kernel : Tx 0 ⟨#[58, 32]⟩))).app ((((name_tx _ _).app (by decide +kernel : Tx 1 ⟨#[32, 123, 10]⟩)).app (hr _)).app (by decide +kernel : Tx 1 ⟨#[125, 59, 10]⟩))).le (by omega)
 ·exact (ht.app ((((name_tx _ _).app (by decide +kernel : Tx 1 ⟨#[32, 123, 10]⟩)).app (hr _)).app (by decide +kernel : Tx 1 ⟨#[125, 59, 10]⟩))).le (by omega)
theorem memP_tx {r : Option (Int → ByteArray × Int)} {m : Nat} (hr : RecTx r m) (zs : List Int) {t : ByteArray} {c : Nat} (ht : Tx c t) (n : Int) : Tx (c + (m + 2)) (memP r zs t n).1 := by
 unfold memP
 split
 ·exact (ht.app ((((prop_tx _ _).app (by decide +kernel : Tx 0 ⟨#[32, 61, 32]⟩)).app (valT_tx _ _)).app (by decide +kernel : Tx 1 ⟨#[59, 32]⟩))).le (by omega)
 split
 ·exact (ht.app ((prop_tx _ _).app (by decide +kernel : Tx 1 ⟨#[59, 32]⟩))).le (by omega)
 split
 ·exact (ht.app (((by decide +kernel : Tx 0 ⟨#[47, 100, 101, 108, 101, 116, 101, 45, 112, 114, 111, 112, 101, 114, 116, 121, 47, 32]⟩).app (prop_tx _ _)).app (by decide +kernel : Tx 1 ⟨#[59, 32]⟩))).le (by omega)
 split
 ·exact (ht.app (((by decide +kernel : Tx 0 ⟨#[47, 100, 101, 108, 101, 116, 101, 45, 110, 111, 100, 101, 47, 32]⟩).app (name_tx _ _)).app (by decide +kernel : Tx 1 ⟨#[59, 10]⟩))).le (by omega)
 split
 ·split
  ·exact (ht.app (((by decide +kernel : Tx 0 ⟨#[112, 104, 97, 110, 100, 108, 101, 32, 61, 32, 60]⟩).app (pick_tx (m := 0) (by decide +kernel) _ _)).app (by decide +kernel : Tx 1 ⟨#[62, 59, 32]⟩))).le (by omega)
  ·cases r with
   | some r => exact nodG_tx hr zs ht _
   | none => exact ht.le (Nat.le_add_right _ _)
 ·cases r with
  | some r => exact nodG_tx hr zs ht _
  | none => exact ht.le (Nat.le_add_right _ _)
theorem memG_tx {r : Option (Int → ByteArray × Int)} {m : Nat} (hr : RecTx r m) (zs : List Int) : ∀ (k : Nat) {t : ByteArray} {c : Nat} (n : Int), Tx c t → Tx (c + (m + 2) * k) (memG r zs k t n).1 := by
 intro k
 induction k with
 | zero => intro t c n h; exact h
 | succ k ih =>
  intro t c n h
  refine (ih (memP r zs t n).2 (memP_tx hr zs h n)).le ?_
  rw [Nat.mul_succ]
  omega
def memW : Nat → Nat
 | 0 => 8
 | d + 1 => (memW d + 2) * 4
theorem memT_tx (zs : List Int) : ∀ (d : Nat) (n : Int), Tx (memW d) (memT zs d n).1 := by
 intro d
 induction d with
 | zero =>
  intro n
  have hm := modV_lt (rawV zs n) 5 (by decide)
  refine (memG_tx (r := none) (m := 0) trivial zs (modV (rawV zs n) 5).toNat (rawN zs n) .nil).le ?_
  simp only [memW]
  omega
 | succ d ih =>
  intro n
  have hm := modV_lt (rawV zs n) 5 (by decide)
  refine (memG_tx (r := some (memT zs d)) (m := memW d) (fun n => ih n) zs (modV (rawV zs n) 5).toNat (rawN zs n) .nil).le ?_
  simp only [memW]
  have : (memW d + 2) * (modV (rawV zs n) 5).toNat ≤ (memW d + 2) * 4 := Nat.mul_le_mul_left _ (by omega)
  omega
def bdyT (zs : List Int) : ByteArray := ⟨#[47, 32, 123, 32]⟩ ++ (memT zs 1 0).1 ++ ⟨#[125, 59, 10]⟩
theorem bdyT_tx (zs : List Int) : Tx 42 (bdyT zs) :=
 (((by decide +kernel : Tx 1 ⟨#[47, 32, 123, 32]⟩).app (memT_tx zs 1 0)).app (by decide +kernel : Tx 1 ⟨#[125, 59, 10]⟩)).le (by decide)
theorem bdyT_src (zs : List Int) (f : Int) : (srcV (bdyT zs) f).defs.length ≤ 42 ∧ ∀ d ∈ (srcV (bdyT zs) f).defs, d.1 ≠ 6 := by
 have h := bdyT_tx zs
 have e : bdyT zs = B (bdyT zs).data.toList := rfl
 obtain ⟨h1, h2⟩ := srcV_w _ f h.no
 rw [e]
 exact ⟨Nat.le_trans h1 h.cnt, h2⟩
def xN : ByteArray := ⟨#[120]⟩
def mainN : ByteArray := ⟨#[109, 97, 105, 110]⟩
def incS : ByteArray := ⟨#[47, 105, 110, 99, 108, 117, 100, 101, 47, 32, 34, 120, 34, 59, 10]⟩
def mainT : Nat → ByteArray
 | 0 => ⟨#[]⟩
 | k + 1 => mainT k ++ incS
def repD (D : List defC.den) : Nat → List defC.den
 | 0 => []
 | k + 1 => D ++ repD D k
theorem repD_snoc (D : List defC.den) : ∀ k, repD D k ++ D = repD D (k + 1)
 | 0 => by show [] ++ D = D ++ []; simp
 | k + 1 => by show D ++ repD D k ++ D = D ++ repD D (k + 1); rw [List.append_assoc, repD_snoc D k]
theorem repD_len (D : List defC.den) : ∀ k, (repD D k).length = k * D.length
 | 0 => (Nat.zero_mul _).symm
 | k + 1 => by show (D ++ repD D k).length = _; rw [zP9, repD_len D k, Nat.succ_mul, Nat.add_comm]
theorem repD_mem {D : List defC.den} {d : defC.den} : ∀ {k}, d ∈ repD D k → d ∈ D
 | 0, h => absurd h List.not_mem_nil
 | k + 1, h => by
  rcases List.mem_append.1 h with h | h
  ·exact h
  ·exact repD_mem h
theorem repD_part (D : List defC.den) : ∀ (k i : Nat), i < k → ((repD D k).drop (i * D.length)).take D.length = D
 | 0, i, h => absurd h (nN9 _)
 | k + 1, 0, _ => by
  show ((D ++ repD D k).drop (0 * D.length)).take D.length = D
  rw [Nat.zero_mul, List.drop_zero, List.take_left]
 | k + 1, i + 1, h => by
  have ih := repD_part D k i (by omega)
  show ((D ++ repD D k).drop ((i + 1) * D.length)).take D.length = D
  rw [Nat.succ_mul, Nat.add_comm, ← List.drop_drop, List.drop_left]
  exact ih
theorem goF_put {inc : LdI} : ∀ (ds : List defC.den) (l : Ld), (∀ d ∈ ds, d.1 ≠ 6) → l.defs.length + ds.length ≤ 6000 → goF inc ds l = some (((0, 0, 0), 0), { l with defs := l.defs ++ ds }) := by
 intro ds
 induction ds with
 | nil => intro l _ _; show some (((0, 0, 0), 0), l) = some (((0, 0, 0), 0), { l with defs := l.defs ++ [] }); rw [List.append_nil]
 | cons d r ih =>
  intro l h hl
  have hl : l.defs.length + (r.length + 1) ≤ 6000 := hl
  have e : addF inc d l = some (((0, 0, 0), 0), l.put d) := by
   unfold addF
   rw [if_neg (h d List.mem_cons_self), if_neg (by omega)]
  unfold goF
  rw [e]
  dsimp only
  rw [if_pos rfl, ih (l.put d) (fun x hx => h x (List.mem_cons_of_mem _ hx)) (by show (l.defs ++ [d]).length + r.length ≤ 6000; rw [zP9]; simp only [zC9, zN9]; omega)]
  show some (((0, 0, 0), 0), ({ l with defs := (l.defs ++ [d]) ++ r } : Ld)) = some (((0, 0, 0), 0), { l with defs := l.defs ++ (d :: r) })
  rw [List.append_assoc]
  rfl
abbrev agF2 (b m : ByteArray) : List flC.den := [(xN, b), (mainN, m)]
theorem seek_x (b m : ByteArray) : seekV (agF2 b m) xN = 0 := by
 unfold seekV seekGo
 rw [if_pos rfl]
 rfl
theorem seek_m (b m : ByteArray) : seekV (agF2 b m) mainN = 1 := by
 have h : ¬ xN = mainN := by decide
 unfold seekV seekGo
 rw [if_neg h]
 unfold seekGo
 rw [if_pos rfl]
 rfl
theorem chk_ag (b m : ByteArray) : chkV (agF2 b m) = 0 := by
 unfold chkV
 show (if 8 < 2 then 3 else chkGo (agF2 b m) 2 0) = 0
 rw [if_neg (by decide)]
 rw [chkGo_succ]
 show (if seekV (agF2 b m) xN < 0 then 5 else chkGo (agF2 b m) 1 1) = 0
 rw [seek_x, if_neg (by decide), chkGo_succ]
 show (if seekV (agF2 b m) mainN < 1 then 5 else 0) = 0
 rw [seek_m, if_neg (by decide)]
structure AgOk (b m : ByteArray) (j : Nat) (l : Ld) : Prop where
 files : l.files = agF2 b m
 names : l.names = [mainN, xN]
 es : findE (k := .str) (v := spC) l.es xN = some ((false, (0 : Int), (((srcV b 0).defs.length : Nat) : Int)) : spC.den)
 defs : l.defs = repD (srcV b 0).defs j
theorem ag_inc {b m : ByteArray} (hd : ∀ d ∈ (srcV b 0).defs, d.1 ≠ 6) (K : Nat) (p : Ps) {j : Nat} {l : Ld} (h : AgOk b m (j + 1) l) (hl : (j + 2) * (srcV b 0).defs.length ≤ 6000) :
  ∃ l', incF (K + 1) xN p l = some (((0, 0, 0), 0), l') ∧ AgOk b m (j + 2) l' := by
 have hlen : l.defs.length = (j + 1) * (srcV b 0).defs.length := by rw [h.defs, repD_len]
 have e2 : (j + 2) * (srcV b 0).defs.length = (j + 1) * (srcV b 0).defs.length + (srcV b 0).defs.length := Nat.succ_mul _ _
 have hle : (srcV b 0).defs.length ≤ (j + 1) * (srcV b 0).defs.length := Nat.le_mul_of_pos_left _ (Nat.succ_pos j)
 unfold incF
 rw [h.files, seek_x, if_neg (by decide), h.es]
 dsimp only
 rw [if_neg (by decide)]
 have hsp : l.span ((false, (0 : Int), (((srcV b 0).defs.length : Nat) : Int)) : spC.den) = (srcV b 0).defs := by
  unfold Ld.span
  show (l.defs.take ((((srcV b 0).defs.length : Nat) : Int).toNat)).drop ((0 : Int).toNat) = _
  rw [Int.toNat_natCast, h.defs]
  show ((srcV b 0).defs ++ repD (srcV b 0).defs j).take (srcV b 0).defs.length = _
  exact List.take_left
 have hok : okRp ((false, (0 : Int), (((srcV b 0).defs.length : Nat) : Int)) : spC.den) l := ⟨Int.le_refl _, by show (0 : Int) ≤ ((srcV b 0).defs.length : Nat); omega, by show (((srcV b 0).defs.length : Nat) : Int) ≤ (l.defs.length : Nat); omega, by omega, fun d hm => srcV_ok _ _ d (repD_mem (by rw [← h.defs]; exact hm))⟩
 unfold repF
 rw [if_pos hok, hsp, goF_put _ _ hd (by omega)]
 refine ⟨_, rfl, ⟨h.files, h.names, h.es, ?_⟩⟩
 show l.defs ++ _ = _
 rw [h.defs]
 exact repD_snoc _ _
theorem ag_go {b m : ByteArray} (hd : ∀ d ∈ (srcV b 0).defs, d.1 ≠ 6) (K : Nat) : ∀ (es : List defC.den), (∀ d ∈ es, d.1 = 6 ∧ d.2.2.1 = xN) → ∀ {j : Nat} {l : Ld}, AgOk b m (j + 1) l → (j + 1 + es.length) * (srcV b 0).defs.length ≤ 6000 →
  ∃ l', goF (incF (K + 1)) es l = some (((0, 0, 0), 0), l') ∧ AgOk b m (j + 1 + es.length) l' := by
 intro es
 induction es with
 | nil => intro _ j l h _; exact ⟨l, rfl, h⟩
 | cons e r ih =>
  intro he j l h hl
  have hn : j + 1 + (e :: r).length = j + 1 + 1 + r.length := by simp only [zC9]; omega
  rw [hn] at hl ⊢
  obtain ⟨l1, h1, h2⟩ := ag_inc hd K e.2.2.2.2 h (Nat.le_trans (Nat.mul_le_mul_right _ (Nat.le_add_right _ _)) hl)
  obtain ⟨l2, h3, h4⟩ := ih (fun d hm => he d (List.mem_cons_of_mem _ hm)) h2 hl
  refine ⟨l2, ?_, h4⟩
  obtain ⟨e1, e2⟩ := he e List.mem_cons_self
  unfold goF addF
  rw [if_pos e1, e2, h1]
  dsimp only
  rw [if_pos rfl]
  exact h3
def mainOk (k : Nat) : Bool := decide ((srcV (mainT k) 1).err = 0) && decide ((srcV (mainT k) 1).defs.length = k) && (srcV (mainT k) 1).defs.all fun d => decide (d.1 = 6) && decide (d.2.2.1 = xN)
theorem main_all : ∀ k : Fin 6, mainOk k.val = true := by decide +kernel
theorem main_ok {k : Nat} (h : k ≤ 5) : (srcV (mainT k) 1).err = 0 ∧ (srcV (mainT k) 1).defs.length = k ∧ ∀ d ∈ (srcV (mainT k) 1).defs, d.1 = 6 ∧ d.2.2.1 = xN := by
 have := main_all ⟨k, by omega⟩
 unfold mainOk at this
 simp only [Bool.and_eq_true, decide_eq_true_eq, List.all_eq_true] at this
 exact ⟨this.1.1, this.1.2, this.2⟩
theorem readF_bad {inc : LdI} {i : Nat} {l : Ld} (h : (l.src i).err ≠ 0) : readF inc i l = some ((((l.src i).file, (l.src i).line, (l.src i).column), (l.src i).err), l) := by
 unfold readF
 rw [if_pos h]
theorem readF_go {inc : LdI} {i : Nat} {l : Ld} (h : (l.src i).err = 0) (hn : l.names.length < 1000000) {y : LdR} (hg : goF inc (l.src i).defs (l.opened i) = some y) : readF inc i l = if y.1.2 = 0 then some (((0, 0, 0), 0), l.closed y.2 i) else some y := by
 unfold readF
 rw [if_neg fun k => k h, if_neg (Nat.not_le_of_lt hn), hg]
theorem goF_one {inc : LdI} {d : defC.den} {r : List defC.den} {l : Ld} {z : LdR} (h : addF inc d l = some z) : goF inc (d :: r) l = if z.1.2 = 0 then goF inc r z.2 else some z := by
 show (match addF inc d l with
  | some x => if x.1.2 = 0 then goF inc r x.2 else some x
  | none => none) = _
 rw [h]
theorem addF_inc {inc : LdI} {d : defC.den} {l : Ld} (h : d.1 = 6) : addF inc d l = inc d.2.2.1 d.2.2.2.2 l := by
 unfold addF
 rw [if_pos h]
theorem again_ld {b : ByteArray} (hd : ∀ d ∈ (srcV b 0).defs, d.1 ≠ 6) (hn : (srcV b 0).defs.length ≤ 1200) {k : Nat} (h1 : 1 ≤ k) (h5 : k ≤ 5) (K : Nat) : ∃ x, incF (K + 3) mainN (0, 0, 0) ⟨agF2 b (mainT k), [], [], []⟩ = some x ∧
  ((srcV b 0).err ≠ 0 → x.1 = (((srcV b 0).file, (srcV b 0).line, (srcV b 0).column), (srcV b 0).err)) ∧
  ((srcV b 0).err = 0 → x.1.2 = 0 ∧ x.2.names = [mainN, xN] ∧ x.2.defs = repD (srcV b 0).defs k) := by
 obtain ⟨m1, m2, m3⟩ := main_ok h5
 have hk : k * (srcV b 0).defs.length ≤ 6000 := Nat.le_trans (Nat.mul_le_mul h5 hn) (by decide)
 obtain ⟨l0, hl0⟩ : ∃ l0 : Ld, l0 = ⟨agF2 b (mainT k), [], [], []⟩ := ⟨_, rfl⟩
 have s1 : l0.src 1 = srcV (mainT k) 1 := by rw [hl0]; rfl
 have s0 : (l0.opened 1).src 0 = srcV b 0 := by rw [hl0]; rfl
 have f0 : l0.files = agF2 b (mainT k) := by rw [hl0]
 have n0 : l0.names = [] := by rw [hl0]
 have n1 : (l0.opened 1).names = [mainN] := by rw [hl0]; rfl
 have d1 : (l0.opened 1).defs = [] := by rw [hl0]; rfl
 have i0 : incF (K + 3) mainN (0, 0, 0) l0 = readF (incF (K + 2)) 1 l0 := by
  show (if seekV l0.files mainN < 0 then _ else _) = _
  rw [f0, seek_m, if_neg (by decide), hl0]
  rfl
 have i1 : ∀ p, incF (K + 2) xN p (l0.opened 1) = readF (incF (K + 1)) 0 (l0.opened 1) := fun p => by
  show (if seekV l0.files xN < 0 then _ else _) = _
  rw [f0, seek_x, if_neg (by decide), hl0]
  rfl
 rw [← hl0, i0]
 cases hE : (srcV (mainT k) 1).defs with
 | nil =>
  rw [hE] at m2
  have m2 : 0 = k := m2
  omega
 | cons e r =>
  rw [hE] at m2 m3
  have m2 : r.length + 1 = k := m2
  obtain ⟨e1, e2⟩ := m3 e List.mem_cons_self
  have hD : (l0.src 1).defs = e :: r := by rw [s1]; exact hE
  have ha : addF (incF (K + 2)) e (l0.opened 1) = readF (incF (K + 1)) 0 (l0.opened 1) := by rw [addF_inc e1, e2, i1]
  by_cases he : (srcV b 0).err = 0
  ·have hp := goF_put (inc := incF (K + 1)) (srcV b 0).defs ((l0.opened 1).opened 0) hd (by show (l0.opened 1).defs.length + _ ≤ 6000; rw [d1]; show 0 + _ ≤ 6000; omega)
   have hr := readF_go (inc := incF (K + 1)) (i := 0) (l := l0.opened 1) (by rw [s0]; exact he) (by rw [n1]; decide) (by rw [s0]; exact hp)
   rw [if_pos rfl] at hr
   have h0 : AgOk b (mainT k) (0 + 1) ((l0.opened 1).closed { (l0.opened 1).opened 0 with defs := ((l0.opened 1).opened 0).defs ++ (srcV b 0).defs } 0) := by
    have x0 : (l0.opened 1).nm 0 = xN := by rw [hl0]; rfl
    refine ⟨f0, ?_, ?_, ?_⟩
    ·show (l0.opened 1).names ++ [(l0.opened 1).nm 0] = _
     rw [n1, x0]
     rfl
    ·show findE (k := .str) (v := spC) (setE (k := .str) (v := spC) ((l0.opened 1).nm 0) (false, (((l0.opened 1).defs.length : Nat) : Int), ((((l0.opened 1).defs ++ (srcV b 0).defs).length : Nat) : Int)) _) xN = _
     rw [findE_set, x0, if_pos rfl, d1]
     rfl
    ·show (l0.opened 1).defs ++ (srcV b 0).defs = (srcV b 0).defs ++ []
     rw [d1]
     simp
   obtain ⟨l', g1, g2⟩ := ag_go hd (K + 1) r (fun d hm => m3 d (List.mem_cons_of_mem _ hm)) h0 (by rw [show 0 + 1 + r.length = k by omega]; exact hk)
   have hg := goF_one (r := r) (ha.trans hr)
   rw [if_pos rfl] at hg
   have hR := readF_go (inc := incF (K + 2)) (i := 1) (l := l0) (by rw [s1]; exact m1) (by rw [n0]; decide) (by rw [hD]; exact hg.trans g1)
   rw [if_pos rfl] at hR
   refine ⟨_, hR, fun h => absurd he h, fun _ => ⟨rfl, g2.names, ?_⟩⟩
   have g3 := g2.defs
   rw [show 0 + 1 + r.length = k by omega] at g3
   exact g3
  ·have hr := readF_bad (inc := incF (K + 1)) (i := 0) (l := l0.opened 1) (by rw [s0]; exact he)
   have hg := goF_one (r := r) (ha.trans hr)
   rw [if_neg (by rw [s0]; exact he)] at hg
   have hR := readF_go (inc := incF (K + 2)) (i := 1) (l := l0) (by rw [s1]; exact m1) (by rw [n0]; decide) (by rw [hD]; exact hg)
   rw [if_neg (by rw [s0]; exact he)] at hR
   refine ⟨_, hR, fun _ => ?_, fun h => absurd h he⟩
   rw [s0]
theorem again_lo {b : ByteArray} (hd : ∀ d ∈ (srcV b 0).defs, d.1 ≠ 6) (hn : (srcV b 0).defs.length ≤ 1200) {k : Nat} (h1 : 1 ≤ k) (h5 : k ≤ 5) :
  loV 1001 (agF2 b (mainT k)) mainN = if (srcV b 0).err = 0 then ⟨[mainN, xN], repD (srcV b 0).defs k, (0, 0, 0), 0⟩ else .bad ((srcV b 0).file, (srcV b 0).line, (srcV b 0).column) (srcV b 0).err := by
 obtain ⟨x, hx, hb, hg⟩ := again_ld hd hn h1 h5 998
 have hx : ldO 1001 (agF2 b (mainT k)) mainN = some x := hx
 unfold loV ldX
 rw [if_pos (chk_ag _ _), hx]
 show loX x = _
 unfold loX
 by_cases he : (srcV b 0).err = 0
 ·obtain ⟨g1, g2, g3⟩ := hg he
  rw [if_pos g1, if_pos he, g2, g3]
 ·have g := hb he
  rw [if_neg he, g]
  exact if_neg he
def awN5 : ByteArray := ⟨#[109, 97, 105, 110]⟩
def awF5 : List flC.den := [(⟨#[109, 97, 105, 110]⟩, ⟨#[47, 105, 110, 99, 108, 117, 100, 101, 47, 32, 34, 97, 34, 59, 32, 47, 32, 123, 32, 112, 59, 32, 125, 59]⟩), (⟨#[97]⟩, ⟨#[47, 32, 123, 32, 113, 59, 32, 125, 59]⟩)]
def awD5 : List defC.den := [(1, ⟨#[]⟩, ⟨#[47]⟩, [], 1, 1, 1), (3, ⟨#[]⟩, ⟨#[113]⟩, [], 1, 1, 5), (2, ⟨#[]⟩, ⟨#[]⟩, [], 1, 1, 8), (1, ⟨#[]⟩, ⟨#[47]⟩, [], 0, 1, 16), (3, ⟨#[]⟩, ⟨#[112]⟩, [], 0, 1, 20), (2, ⟨#[]⟩, ⟨#[]⟩, [], 0, 1, 23)]
theorem aw5_some : (ldO 9 awF5 awN5).isSome = true := by decide +kernel
theorem aw5_lo : loV 9 awF5 awN5 = ⟨[⟨#[109, 97, 105, 110]⟩, ⟨#[97]⟩], awD5, (0, 0, 0), 0⟩ := by kernel_rfl
abbrev JA : Table := ext (J3 9) 10 (fun args H => match args, H with | [], [] => some (none, .bool true, []) | _, _ => none)
theorem ja : TS9 JA := by
 refine ext_run (j3 9) (f := 10) (fn := Tryz.f10) rfl rfl [0, 1, 3] fun args H p r H' hs hp => ?_
 split at hs
 ·cases hs
  refine ⟨nZ9 _, [], rfl, nK9, ?_⟩
  have c1 : awF5.length ≤ 1000000000 := by decide
  refine runF_shut rfl fun K0 hK0 => ?_
  refine seq_shut fun K1 hK1 => ?_
  conv => whnf
  rw [hK1]
  show runC _ _ _ (.seq _ _) _ _ _
  refine seq_shut fun K2 hK2 => ?_
  repeat ((conv => whnf); refine ⟨⟨rfl, c1, aw5_some⟩, ?_⟩)
  conv => whnf
  rw [hK2]
  show runC _ _ _ (.seq _ _) [(0, .s (.a (.c (.bool false)))), (1, .s (.a (.c (.p (.l defC (loV 9 awF5 awN5).defs))))), (3, .s (.a (.c (.int .i64 (loV 9 awF5 awN5).err))))] _ _
  rw [aw5_lo]
  repeat ((conv => whnf); refine ⟨by decide +kernel, ?_⟩)
  conv => whnf
  rw [hK0]
  conv => whnf
  refine eT9 ?_
  kernel_rfl
 ·cases hs
section
variable {T : Table} (hT : TS9 T)
def saysNms : Says := fun args H => match args, H with
 | [.c (.p (.l .str a)), .c (.p (.l .str b))], [] => some (some ((a : List ByteArray).length ≤ 9223372036854775807), .bool (decide ((a : List ByteArray) = b)), [])
 | _, _ => none
abbrev JN (T : Table) : Table := ext T 14 saysNms
theorem nm_len {a b : List ByteArray} (h : (!decide ((a.length : Int) = (b.length : Int))) = true) : ¬ a = b := fun e => by
 rw [e] at h
 simp at h
theorem nm_at {l : List ByteArray} {j : Nat} (h : j < l.length) : l.getD ((j : Int)).toNat ByteArray.empty = l[j] := by simp [h]
include hT in
theorem jn : TS9 (JN T) := by
 refine ext_run hT (f := 14) (fn := Tryz.f14) rfl rfl [0, 1, 4, 5, 10, 12, 13, 14, 24] fun args H p r H' hs hp => ?_
 unfold saysNms at hs
 split at hs
 ·rename_i a b
  cases hs
  have hl : (a : List ByteArray).length ≤ 9223372036854775807 := hp
  refine ⟨nB9 rfl, [], rfl, nK9, ?_⟩
  conv => whnf
  refine cI9 ?_ ?_<;>intro h
  ·have h1 := nm_len h
   conv => whnf
   refine eT9 ?_
   rw [dF9 h1]
  have h1 : (a : List ByteArray).length = (b : List ByteArray).length := by
   simp at h
   omega
  conv => whnf
  refine lI9 (σ := Nat) (fun j => [(0, XV.s (.a (.c (.p (.l .str a))))), (1, XV.s (.a (.c (.p (.l .str b))))), (4, nX9), (5, nX9), (10, nX9), (12, XV.s (.int .i64 (a : List ByteArray).length)), (13, XV.s (.int .i64 j)), (14, nX9), (24, nX9)]) (fun _ => [])
   (fun j => j ≤ (a : List ByteArray).length ∧ ∀ i : Nat, i < j → (a : List ByteArray)[i]? = (b : List ByteArray)[i]?) (fun j => (a : List ByteArray).length - j) 0 ?_ rfl ⟨nZ9 _, fun i hi => absurd hi (nN9 i)⟩ fun j hI => ?_
  ·repeat first|exact lN9|refine lD9 ?_|refine lS9 ?_
  obtain ⟨hj, hsame⟩ := hI
  conv => whnf
  refine cI9 ?_ ?_<;>intro g1
  ·have hlt : j < (a : List ByteArray).length := by have : (j : Int) < (a : List ByteArray).length := oT9 g1
                                                    omega
   have hin : 0 ≤ (j : Int) ∧ (j : Int) < ((a : List ByteArray).length : Nat) := by omega
   have hin2 : 0 ≤ (j : Int) ∧ (j : Int) < ((b : List ByteArray).length : Nat) := by omega
   repeat ((conv => whnf); refine ⟨by first | exact hin | exact hin2 | exact rfl, ?_⟩)
   conv => whnf
   have ex := nm_at hlt
   have ey := nm_at (l := b) (j := j) (by omega)
   refine cI9 ?_ ?_<;>intro g2
   ·have hne : ¬ a = b := fun hab => by
     subst hab
     simp at g2
    conv => whnf
    refine eT9 ?_
    rw [dF9 hne]
   ·have heq : (a : List ByteArray)[j] = (b : List ByteArray)[j]'(by omega) := by
     have g3 : (!decide ((a : List ByteArray).getD ((j : Int)).toNat ByteArray.empty = (b : List ByteArray).getD ((j : Int)).toNat ByteArray.empty)) = false := g2
     rw [ex, ey] at g3
     simpa using g3
    repeat ((conv => whnf); refine ⟨by (unfold inI64; omega), ?_⟩)
    conv => whnf
    refine hI9 (j + 1) ?_ rfl ⟨hlt, fun i hi => ?_⟩ ?_
    ·repeat first|exact lN9|refine lD9 ?_|refine lS9 ?_
    ·rcases Nat.lt_succ_iff_lt_or_eq.1 hi with h4 | rfl
     ·exact hsame i h4
     ·rw [List.getElem?_eq_getElem hlt, List.getElem?_eq_getElem (by omega), heq]
    ·show (a : List ByteArray).length - (j + 1) < (a : List ByteArray).length - j
     omega
  ·have hja : j = (a : List ByteArray).length := by have : ¬ (j : Int) < (a : List ByteArray).length := oF9 g1
                                                    omega
   subst hja
   conv => whnf
   refine eT9 ?_
   have : (a : List ByteArray) = b := by
    apply List.ext_getElem?
    intro i
    rcases Nat.lt_or_ge i (a : List ByteArray).length with h | h
    ·exact hsame i h
    ·rw [List.getElem?_eq_none (by omega), List.getElem?_eq_none (by omega)]
   rw [dT9 this]
 ·cases hs
end
def Zm : Table := ext Z8 11 (saysMem 3)
theorem zm : TS9 Zm := z9k 3
abbrev G0 (N : Nat) : Table := Q8 (ER N Zm)
theorem g0 {N : Nat} (hN : 20000 ≤ N) : TS9 (G0 N) := q8 (er zm hN)
abbrev G1 (N : Nat) : Table := ext (G0 N) 8 (saysLo 1001 LoV.sv)
theorem g1 {N : Nat} (hN : 20000 ≤ N) : TS9 (G1 N) := ext_only (j3 1001) (g0 hN)
abbrev G2 (N : Nat) : Table := ext (G1 N) 13 (saysLo 1001 LoV.nv)
theorem g2 {N : Nat} (hN : 20000 ≤ N) : TS9 (G2 N) := ext_only (j4 1001) (g1 hN)
abbrev G3 (N : Nat) : Table := ext (JN (G2 N)) 10 (fun args H => match args, H with | [], [] => some (none, .bool true, []) | _, _ => none)
theorem g3 {N : Nat} (hN : 20000 ≤ N) : TS9 (G3 N) := ext_only ja (jn (g2 hN))
def saysAgain : Says := fun args H => match args, H with
 | [.c (.p (.l (.int .i64) _)), .c (.p (.v (.int .u8 n)))], [] => some (some (0 ≤ n ∧ n ≤ 255), .bool true, [])
 | _, _ => none
abbrev G4 (N : Nat) : Table := ext (G3 N) 4 saysAgain
theorem tape_nw (zs : List Int) : tapeOk (zs.take 500) 0 := by
 have := List.length_take_le 500 zs
 exact ⟨by decide, by decide, by omega⟩
theorem mainT_size (k : Nat) : (mainT k).size = 15 * k := by
 induction k with
 | zero => rfl
 | succ k ih => simp only [mainT, zA9, ih]; show 15 * k + 15 = _; omega
set_option maxHeartbeats 4000000 in
theorem g4 {N : Nat} (hN : 20000 ≤ N) : TS9 (G4 N) := by
 refine ext_run (g3 hN) (f := 4) (fn := Tryz.f4) rfl rfl [0, 1, 4, 5, 6, 7, 8, 9, 10, 11, 13, 14, 16, 17, 18, 19, 32, 66, 68, 82, 85, 101] fun args H p r' H' hs hp => ?_
 unfold saysAgain at hs
 split at hs
 ·rename_i zs n
  cases hs
  obtain ⟨hn0, hn1⟩ := hp
  refine ⟨nB9 rfl, [], rfl, nK9, ?_⟩
  obtain ⟨k, hk⟩ : ∃ k : Nat, 1 + n.tmod 5 = k := ⟨(1 + n.tmod 5).toNat, by have := Int.tmod_nonneg 5 hn0; omega⟩
  have hk1 : 1 ≤ k ∧ k ≤ 5 := by
   have h1 := Int.tmod_nonneg 5 hn0
   have h2 := Int.tmod_lt_of_pos n (b := 5) (by decide)
   omega
  have ht0 := tape_nw zs
  generalize hz : (zs : List Int).take 500 = ys at ht0
  obtain ⟨z1, i1⟩ := memT_ok 1 ht0
  have z1 : (memT ys 1 0).1.size ≤ 80000 := z1
  have c1 : tapeOk ys 0 ∧ (0 : Int) ≤ 1 ∧ ((1 : Int) ≤ ((3 : Nat) : Int)) ∧ 3 ≤ 3 := ⟨ht0, by decide, by decide, by decide⟩
  have c2 : ((((⟨#[47, 32, 123, 32]⟩ : ByteArray).size + (memT ys 1 0).1.size : Nat)) : Int) ≤ 9223372036854775807 := by
   have e4 : (⟨#[47, 32, 123, 32]⟩ : ByteArray).size = 4 := rfl
   omega
  have c3 : ((((⟨#[47, 32, 123, 32]⟩ ++ (memT ys 1 0).1 : ByteArray).size + (⟨#[125, 59, 10]⟩ : ByteArray).size : Nat)) : Int) ≤ 9223372036854775807 := by
   have e4 : (⟨#[47, 32, 123, 32]⟩ : ByteArray).size = 4 := rfl
   have e3 : (⟨#[125, 59, 10]⟩ : ByteArray).size = 3 := rfl
   rw [zA9]
   omega
  conv => whnf
  rw [hz]
  conv => whnf
  refine ⟨by decide, ?_⟩
  conv => whnf
  refine ⟨by unfold inI64; omega, ?_⟩
  conv => whnf
  refine ⟨by unfold inI64; omega, ?_⟩
  conv => whnf
  refine ⟨c1, ?_⟩
  conv => whnf
  refine ⟨c2, ?_⟩
  conv => whnf
  refine ⟨c3, ?_⟩
  conv => whnf
  rw [hk]
  refine lI9 (σ := Nat) (fun i => [(0, nX9), (1, nX9), (4, nX9), (5, nX9), (6, XV.s (.int .i64 (k : Nat))), (7, XV.s (.str (bdyT ys))), (8, XV.s (.str (mainT i))), (9, XV.s (.int .i64 (i : Nat))), (10, nX9), (11, nX9), (13, nX9), (14, nX9), (16, nX9), (17, nX9), (18, nX9), (19, nX9), (32, nX9), (66, nX9), (68, nX9), (82, nX9), (85, nX9), (101, nX9)])
   (fun _ => [tapeO ys (memT ys 1 0).2]) (fun i => i ≤ k) (fun i => k - i) 0 ?_ rfl (nZ9 _) (fun i hi => ?_)
  ·repeat first|exact lN9|refine lD9 ?_|refine lS9 ?_
  have hms := mainT_size i
  have e15 : (⟨#[47, 105, 110, 99, 108, 117, 100, 101, 47, 32, 34, 120, 34, 59, 10]⟩ : ByteArray).size = 15 := rfl
  have c4 : ((((mainT i).size + (⟨#[47, 105, 110, 99, 108, 117, 100, 101, 47, 32, 34, 120, 34, 59, 10]⟩ : ByteArray).size : Nat)) : Int) ≤ 9223372036854775807 := by omega
  conv => whnf
  refine cI9 ?_ ?_<;>intro h
  ·have h1 : i < k := by
    have : (i : Int) < (k : Nat) := oT9 h
    omega
   repeat ((conv => whnf); refine ⟨by first | exact c4 | (unfold inI64; omega), ?_⟩)
   conv => whnf
   refine hI9 (i + 1) ?_ rfl h1 ?_
   ·repeat first|exact lN9|refine lD9 ?_|refine lS9 ?_
   ·omega
  have h1 : i = k := by
   have : ¬ (i : Int) < (k : Nat) := oF9 h
   omega
  subst h1
  conv => whnf
  have hsrc := bdyT_src ys 0
  have hfit := srcV_fit (bdyT ys) 0
  have hlo := again_lo (b := bdyT ys) hsrc.2 (by omega) hk1.1 hk1.2
  have hsm : (ldO 1001 (agF2 (bdyT ys) (mainT i)) mainN).isSome = true := ldO_some _ _ (show 2 ≤ 1000 by decide)
  obtain ⟨S, hS⟩ : ∃ S, S = srcV (bdyT ys) 0 := ⟨_, rfl⟩
  rw [← hS] at hsrc hfit hlo ⊢
  refine ⟨⟨rfl, show 2 ≤ 1000000000 by decide, hsm⟩, ?_⟩
  by_cases he : S.err = 0
  ·rw [if_pos he] at hlo
   conv in (loV _ _ _) =>
    change loV 1001 (agF2 (bdyT ys) (mainT i)) mainN
    rw [hlo]
   obtain ⟨D, fl, li, co, er⟩ := S
   obtain rfl : er = 0 := he
   conv => whnf
   refine ⟨⟨rfl, show 2 ≤ 1000000000 by decide, hsm⟩, ?_⟩
   conv in (loV _ _ _) =>
    change loV 1001 (agF2 (bdyT ys) (mainT i)) mainN
    rw [hlo]
   have hD : D.length ≤ 42 := hsrc.1
   have hfD : (CT.list defC).fit D := hfit
   have hm : ((i * D.length : Nat) : Int) = (i : Int) * (D.length : Int) := Int.natCast_mul _ _
   have hmb : i * D.length ≤ 5 * 42 := Nat.mul_le_mul hk1.2 hD
   have hrl := repD_len D i
   have hq : decide (((repD D i).length : Int) = (i : Int) * (D.length : Int)) = true := dT9 (by rw [hrl]; exact hm)
   conv => whnf
   refine ⟨by show inI64 ((i : Int) * (D.length : Int)); unfold inI64; omega, ?_⟩
   conv => whnf
   conv in (decide (_ = _ * _)) =>
    change decide (((repD D i).length : Int) = (i : Int) * (D.length : Int))
    rw [hq]
   conv => whnf
   refine ⟨fun _ => show 2 ≤ 9223372036854775807 by decide, ?_⟩
   conv => whnf
   refine cI9 ?_ ?_<;>intro h5
   ·exfalso
    have h6 : (!decide (((repD D i).length : Int) = (i : Int) * (D.length : Int)) || !decide ([mainN, xN] = [mainN, xN])) = true := h5
    rw [hq] at h6
    simp at h6
   conv => whnf
   refine lI9 (σ := Nat) (fun j => [(0, nX9), (1, nX9), (4, nX9), (5, nX9), (6, XV.s (.int .i64 (i : Nat))), (7, nX9), (8, nX9), (9, nX9), (10, nX9), (11, XV.s (.a (.c (.p (.l defC D))))), (13, nX9), (14, XV.s (.a (.c (.p (.l defC (repD D i)))))), (16, nX9), (17, nX9), (18, nX9), (19, XV.s (.int .i64 (j : Nat))), (32, nX9), (66, nX9), (68, nX9), (82, nX9), (85, nX9), (101, nX9)])
    (fun _ => _) (fun j => j ≤ i) (fun j => i - j) 0 ?_ rfl (nZ9 _) (fun j hj => ?_)
   ·repeat first|exact lN9|refine lD9 ?_|refine lS9 ?_
   clear hlo hsm hS hsrc hfit
   conv => whnf
   refine cI9 ?_ ?_<;>intro h7
   ·have h8 : j < i := by
     have : (j : Int) < (i : Nat) := oT9 h7
     omega
    have hm1 : ((j * D.length : Nat) : Int) = (j : Int) * (D.length : Int) := Int.natCast_mul _ _
    have hm2 : (((j + 1) * D.length : Nat) : Int) = ((j : Int) + 1) * (D.length : Int) := Int.natCast_mul _ _
    have hm3 : (j + 1) * D.length ≤ i * D.length := Nat.mul_le_mul_right _ h8
    have hm4 : (j + 1) * D.length = j * D.length + D.length := Nat.succ_mul _ _
    have hpart : (((repD D i).take (((j : Int) + 1) * (D.length : Int)).toNat).drop ((j : Int) * (D.length : Int)).toNat) = D := by
     rw [← hm2, ← hm1, Int.toNat_natCast, Int.toNat_natCast, List.drop_take, show (j + 1) * D.length - j * D.length = D.length by omega]
     exact repD_part D i j h8
    have hfs : (CT.list defC).fit (((repD D i).take (((j : Int) + 1) * (D.length : Int)).toNat).drop ((j : Int) * (D.length : Int)).toNat) := by rw [hpart]; exact hfD
    conv => whnf
    refine ⟨by unfold inI64; omega, ?_⟩
    conv => whnf
    refine ⟨by unfold inI64; omega, ?_⟩
    conv => whnf
    refine ⟨by unfold inI64; omega, ?_⟩
    conv => whnf
    refine ⟨⟨by omega, by omega, by omega⟩, ?_⟩
    conv => whnf
    refine ⟨hfs, ?_⟩
    conv => whnf
    refine cI9 ?_ ?_<;>intro h9
    ·exfalso
     have h10 : (!decide ((((repD D i).take (((j : Int) + 1) * (D.length : Int)).toNat).drop ((j : Int) * (D.length : Int)).toNat) = D)) = true := h9
     rw [hpart] at h10
     simp at h10
    conv => whnf
    repeat ((conv => whnf); refine ⟨by (unfold inI64; omega), ?_⟩)
    conv => whnf
    refine hI9 (j + 1) ?_ rfl h8 ?_
    ·repeat first|exact lN9|refine lD9 ?_|refine lS9 ?_
    ·omega
   ·skip
    conv => whnf
    exact eR9
  ·rw [if_neg he] at hlo
   conv in (loV _ _ _) =>
    change loV 1001 (agF2 (bdyT ys) (mainT i)) mainN
    rw [hlo]
   conv => whnf
   refine ⟨⟨rfl, show 2 ≤ 1000000000 by decide, hsm⟩, ?_⟩
   conv in (loV _ _ _) =>
    change loV 1001 (agF2 (bdyT ys) (mainT i)) mainN
    rw [hlo]
   conv => whnf
   refine cI9 ?_ ?_<;>intro h2
   ·exfalso
    revert h2
    simp [LoV.bad]
   conv => whnf
   refine cI9 ?_ ?_<;>intro h3
   ·skip
    conv => whnf
    exact eR9
   ·exfalso
    have h4 : (!decide (S.err = 0)) = false := h3
    rw [dF9 he] at h4
    cases h4
 ·cases hs
end Go.Ab
namespace Go.Ab
open Go.RowKit
set_option linter.unusedSectionVars false
variable {H : Type} {enc : TypeId × Value → H} {P : Program} {w : World} {base : Nat} {spare : Nat → Bool} {held : Bool} {I : Cells}
end Go.Ab
