/- Texts of pieces, and their tokens. -/
import Derived.Test.YtjphgbdjdldpjaaDoorTS5toS7
import Derived.Test.YtjphgbdjdldpjaaDoorTV14toQ
namespace Go.Ab
open Go.Proofs
set_option linter.unusedSectionVars false
set_option maxRecDepth 100000
variable [Glob]

/-- A number, a sign and a blank, a sign alone, a blank. -/
inductive Pc where
  | num (n : Nat)
  | sg (s : List UInt8)
  | s1 (c : UInt8)
  | sp

def Pc.txt : Pc → List UInt8
  | .num n => fmtL n
  | .sg s => s ++ [32]
  | .s1 c => [c]
  | .sp => [32]

def Pc.toks : Pc → List Tk
  | .num n => [tkNum n]
  | .sg s => [tkSg (B s)]
  | .s1 c => [tkSg (B [c])]
  | .sp => []

def pcTxt : List Pc → List UInt8
  | [] => []
  | p :: ps => p.txt ++ pcTxt ps

def pcToks : List Pc → List Tk
  | [] => []
  | p :: ps => p.toks ++ pcToks ps

/-- What may follow a number. -/
def Pc.after : List Pc → Bool
  | [] => true
  | .sp :: _ => true
  | .s1 c :: _ => plain1 c
  | .sg s :: _ => signs.contains s
  | .num _ :: _ => false

def pcOk : List Pc → Bool
  | [] => true
  | .num _ :: ps => Pc.after ps && pcOk ps
  | .sg s :: ps => signs.contains s && pcOk ps
  | .s1 c :: ps => plain1 c && pcOk ps
  | .sp :: ps => pcOk ps

theorem sign_head : ∀ s ∈ signs, ∀ u, s.head? = some u → wordB (bi u) = false := by decide +kernel
theorem sign_ne : ∀ s ∈ signs, s ≠ [] := by decide +kernel

theorem after_noWord {ps : List Pc} (h : Pc.after ps = true) : noWord (pcTxt ps) := by
  cases ps with
  | nil => exact noWord_nil
  | cons p ps =>
    cases p with
    | num n => cases h
    | sp => exact noWord_sp _
    | s1 c => exact noWord_plain h _
    | sg s =>
      have hs : s ∈ signs := by simpa [Pc.after] using h
      intro u hu
      have hne := sign_ne s hs
      cases hc : s with
      | nil => exact absurd hc hne
      | cons a r =>
        subst hc
        have hu' : some a = some u := hu
        cases hu'
        exact sign_head _ hs _ rfl

theorem pcLx : ∀ ps : List Pc, pcOk ps = true → (∀ n, Pc.num n ∈ ps → n ≤ 4294967295) → Lx (pcTxt ps) (pcToks ps) := by
  intro ps
  induction ps with
  | nil => intro _ _; exact Lx.nil
  | cons p ps ih =>
    intro h hn
    have hn' : ∀ n, Pc.num n ∈ ps → n ≤ 4294967295 := fun n hm => hn n (List.mem_cons_of_mem _ hm)
    cases p with
    | num n =>
      have h2 := Bool.and_eq_true_iff.1 h
      exact Lx.fmt (hn n (by simp)) (after_noWord h2.1) (ih h2.2 hn')
    | sp => exact Lx.sp (ih h hn')
    | s1 c =>
      have h2 := Bool.and_eq_true_iff.1 h
      exact Lx.sg1 h2.1 (ih h2.2 hn')
    | sg s =>
      have h2 := Bool.and_eq_true_iff.1 h
      have hs : s ∈ signs := by simpa using h2.1
      show Lx ((s ++ [32]) ++ pcTxt ps) _
      rw [List.append_assoc]
      exact Lx.sg hs (ih h2.2 hn')

theorem by0_nd {s : ByteArray} (h : divs s = false) (b : Int) : by0 s b = false := by
  unfold by0
  rw [h, Bool.and_false]

theorem oN (D : Nat) {n : Nat} (h : n < 4294967296) (ts : List Tk) : OpdOk D (tkNum n :: ts) n ts := (OpdOk.num (by omega) (by omega) ts).le (Nat.zero_le D)
theorem rE (D m : Nat) (x : Int) : RwsOk D m x [tkEnd] x [tkEnd] := (RwsOk.stop (.inl rfl)).le (Nat.zero_le D)
theorem rP (D m : Nat) (x : Int) (ts : List Tk) : RwsOk D m x (tkSg sRp :: ts) x (tkSg sRp :: ts) := (RwsOk.stop (.inl rfl)).le (Nat.zero_le D)
theorem rS (D m : Nat) (s : ByteArray) (h : Nat.ble m (betw s) = true) (x : Int) (ts : List Tk) : RwsOk D m x (tkSg s :: ts) x (tkSg s :: ts) := (RwsOk.stop (.inr (Nat.le_of_ble_eq_true h))).le (Nat.zero_le D)
theorem wE {D : Nat} {ts ts1 : List Tk} {x c : Int} (hD : D ≤ 8) (h1 : OpdOk D ts x ts1) (h2 : RwsOk D 11 x ts1 c [tkEnd]) : WhlOk D ts c [tkEnd] := WhlOk.plain hD h1 h2 (by decide)
theorem wP {D : Nat} {ts ts1 ts2 : List Tk} {x c : Int} (hD : D ≤ 8) (h1 : OpdOk D ts x ts1) (h2 : RwsOk D 11 x ts1 c (tkSg sRp :: ts2)) : WhlOk D ts c (tkSg sRp :: ts2) := WhlOk.plain hD h1 h2 (by rw [sgn_tk]; decide)
theorem oF {D : Nat} (s : ByteArray) (hs : frontV s = true) {ts ts' : List Tk} {x : Int} (h : OpdOk D ts x ts') : OpdOk D (tkSg s :: ts) (calcV 0 s 0 x) ts' := OpdOk.front hs h
theorem oP {D : Nat} {ts ts' : List Tk} {x : Int} (h : WhlOk D ts x (tkSg sRp :: ts')) : OpdOk (D + 1) (tkSg sLp :: ts) x ts' := OpdOk.paren h
/-- One sign between two operands, taken at once. -/
theorem rO {D m k : Nat} {s : ByteArray} {x y z : Int} {ts1 ts2 ts4 : List Tk} (hD : D ≤ 8) (hk : betw s = k) (hk0 : k ≠ 0) (hkm : k < m) (h1 : OpdOk D ts1 y ts2) (h2 : RwsOk D k y ts2 y ts2) (hb : by0 s y = false)
    (h3 : RwsOk D m (calcV k s x y) ts2 z ts4) : RwsOk D m x (tkSg s :: ts1) z ts4 := RwsOk.step hD hk hk0 hkm h1 h2 hb h3
end Go.Ab

/- Expressions: laws of the operations, modulo 2^32. -/
namespace Go.Ab
set_option linter.unusedSectionVars false

theorem and_add_or : ∀ (x y : Nat), (x &&& y) + (x ||| y) = x + y := by
  intro x
  induction x using Nat.strongRecOn with
  | _ x ih =>
    intro y
    by_cases hx : x = 0
    · subst hx; simp
    · have h := ih (x / 2) (by omega) (y / 2)
      have a1 : (x &&& y) / 2 = (x / 2) &&& (y / 2) := by have := @Nat.and_div_two_pow x y 1; simpa using this
      have a2 : (x ||| y) / 2 = (x / 2) ||| (y / 2) := by have := @Nat.or_div_two_pow x y 1; simpa using this
      have b1 : (x &&& y) % 2 = (x % 2) &&& (y % 2) := by have := @Nat.and_mod_two_pow x y 1; simpa using this
      have b2 : (x ||| y) % 2 = (x % 2) ||| (y % 2) := by have := @Nat.or_mod_two_pow x y 1; simpa using this
      rw [← a1, ← a2] at h
      have c : (x &&& y) % 2 + (x ||| y) % 2 = x % 2 + y % 2 := by
        rw [b1, b2]
        rcases Nat.mod_two_eq_zero_or_one x with h1 | h1 <;> rcases Nat.mod_two_eq_zero_or_one y with h2 | h2 <;> rw [h1, h2] <;> rfl
      omega

theorem w32_eq (n : Int) : w32 n = n % 4294967296 := by
  unfold w32 IntKind.wrap
  simp only [IntKind.signed, IntKind.bits]
  simp

theorem ofInt_nat {n : Nat} (h : n < 4294967296) : (BitVec.ofInt 32 (n : Int)).toNat = n := by
  simp
  omega

theorem bitsN_and {a b : Nat} (ha : a < 4294967296) (hb : b < 4294967296) : bitsA .and .u32 (a : Int) (b : Int) = ((a &&& b : Nat) : Int) := by
  show w32 (((BitVec.ofInt 32 (a : Int) &&& BitVec.ofInt 32 (b : Int)).toNat : Nat) : Int) = _
  rw [BitVec.toNat_and, ofInt_nat ha, ofInt_nat hb, w32_eq]
  have : a &&& b < 2 ^ 32 := Nat.and_lt_two_pow a hb
  omega

theorem bitsN_or {a b : Nat} (ha : a < 4294967296) (hb : b < 4294967296) : bitsA .or .u32 (a : Int) (b : Int) = ((a ||| b : Nat) : Int) := by
  show w32 (((BitVec.ofInt 32 (a : Int) ||| BitVec.ofInt 32 (b : Int)).toNat : Nat) : Int) = _
  rw [BitVec.toNat_or, ofInt_nat ha, ofInt_nat hb, w32_eq]
  have : a ||| b < 2 ^ 32 := Nat.or_lt_two_pow ha hb
  omega

theorem bitsN_xor {a b : Nat} (ha : a < 4294967296) (hb : b < 4294967296) : bitsA .xor .u32 (a : Int) (b : Int) = ((a ^^^ b : Nat) : Int) := by
  show w32 (((BitVec.ofInt 32 (a : Int) ^^^ BitVec.ofInt 32 (b : Int)).toNat : Nat) : Int) = _
  rw [BitVec.toNat_xor, ofInt_nat ha, ofInt_nat hb, w32_eq]
  have : a ^^^ b < 2 ^ 32 := Nat.xor_lt_two_pow ha hb
  omega

theorem tilde {x : Nat} (h : x < 4294967296) : bitsA .xor .u32 4294967295 (x : Int) = 4294967295 - (x : Int) := by
  show w32 (((BitVec.ofInt 32 4294967295 ^^^ BitVec.ofInt 32 (x : Int)).toNat : Nat) : Int) = _
  have : (BitVec.ofInt 32 4294967295 ^^^ BitVec.ofInt 32 (x : Int)) = ~~~(BitVec.ofInt 32 (x : Int)) := by rw [BitVec.not_def]; rfl
  rw [this, BitVec.toNat_not, ofInt_nat h, w32_eq]
  omega

theorem law1 {x y : Int} (hx : 0 ≤ x ∧ x ≤ 4294967295) : w32 (w32 (x + y) - y) = x := by
  rw [w32_eq, w32_eq]; omega

theorem law2 {x : Nat} (hx : x < 4294967296) : w32 (bitsA .xor .u32 4294967295 (x : Int) + 1) = w32 (0 - (x : Int)) := by
  rw [tilde hx, w32_eq, w32_eq]; omega

theorem law3 (x : Int) (i k : Nat) : w32 (w32 (x * 2 ^ i) * 2 ^ k) = w32 (x * 2 ^ min (i + k) 32) := by
  rw [w32_eq, w32_eq, w32_eq, Int.mul_emod (x * 2 ^ i % 4294967296), Int.emod_emod_of_dvd _ (Int.dvd_refl _), ← Int.mul_emod, Int.mul_assoc, ← Int.pow_add]
  by_cases h : i + k ≤ 32
  · rw [Nat.min_eq_left h]
  · rw [Nat.min_eq_right (by omega)]
    obtain ⟨m, hm⟩ : ∃ m, i + k = 32 + m := ⟨i + k - 32, by omega⟩
    rw [hm, Int.pow_add]
    have e : (2 : Int) ^ 32 = 4294967296 := by decide
    rw [e]
    have h1 : x * (4294967296 * 2 ^ m) = x * 2 ^ m * 4294967296 := by rw [Int.mul_comm 4294967296, Int.mul_assoc]
    rw [h1, Int.mul_emod_left, Int.mul_emod_left]

theorem law4 {x : Nat} (hx : x < 4294967296) (i k : Nat) : ((x : Int).fdiv (2 ^ i)).fdiv (2 ^ k) = (x : Int).fdiv (2 ^ min (i + k) 32) := by
  have pw : ∀ n : Nat, (0 : Int) ≤ 2 ^ n := fun n => Int.le_of_lt (Int.pow_pos (by decide))
  rw [Int.fdiv_eq_ediv_of_nonneg _ (pw i), Int.fdiv_eq_ediv_of_nonneg _ (pw k), Int.fdiv_eq_ediv_of_nonneg _ (pw _)]
  have c : ∀ n : Nat, ((2 : Int) ^ n) = ((2 ^ n : Nat) : Int) := fun n => by simp
  rw [c i, c k, c (min (i + k) 32)]
  have : (x / 2 ^ i) / 2 ^ k = x / 2 ^ min (i + k) 32 := by
    rw [Nat.div_div_eq_div_mul, ← Nat.pow_add]
    by_cases h : i + k ≤ 32
    · rw [Nat.min_eq_left h]
    · rw [Nat.min_eq_right (by omega)]
      have h32 : x < 2 ^ 32 := hx
      have hik : x < 2 ^ (i + k) := Nat.lt_of_lt_of_le h32 (Nat.pow_le_pow_right (by decide) (by omega))
      rw [Nat.div_eq_of_lt hik, Nat.div_eq_of_lt h32]
  exact_mod_cast this

theorem law5 {x o : Nat} (hx : x < 4294967296) (_ho : o < 4294967296) (_h0 : o ≠ 0) : w32 (w32 ((o : Int) * w32 ((x : Int).tdiv o)) + (x : Int).tmod o) = x := by
  have e1 : (x : Int).tdiv o = ((x / o : Nat) : Int) := rfl
  have e2 : (x : Int).tmod o = ((x % o : Nat) : Int) := rfl
  have h1 : x / o ≤ x := Nat.div_le_self x o
  have h2 : o * (x / o) ≤ x := Nat.mul_div_le x o
  have h3 := Nat.div_add_mod x o
  rw [e1, e2]
  generalize x / o = q at h1 h2 h3 ⊢
  generalize x % o = r at h3 ⊢
  rw [w32_id (v := ((q : Nat) : Int)) (by omega) (by omega)]
  have e3 : (o : Int) * ((q : Nat) : Int) = ((o * q : Nat) : Int) := by simp
  rw [e3]
  generalize o * q = s at h2 h3 ⊢
  rw [w32_id (v := ((s : Nat) : Int)) (by omega) (by omega), w32_id (by omega) (by omega)]
  omega

theorem law6 {x y : Nat} (hx : x < 4294967296) (hy : y < 4294967296) : bitsA .xor .u32 (bitsA .xor .u32 (x : Int) (y : Int)) (y : Int) = x := by
  have h : x ^^^ y < 2 ^ 32 := Nat.xor_lt_two_pow hx hy
  rw [bitsN_xor hx hy, bitsN_xor h hy, Nat.xor_assoc, Nat.xor_self, Nat.xor_zero]

theorem law7 (x y : Int) : tr (decide ((0 : Int) = tr (decide (x < y)))) = tr (decide (y ≤ x)) := by
  by_cases h : x < y
  · have : ¬ y ≤ x := by omega
    simp [h, this, tr]
  · have : y ≤ x := by omega
    simp [h, this, tr]

theorem law8 {x y : Nat} (hx : x < 4294967296) (hy : y < 4294967296) : w32 (bitsA .and .u32 (x : Int) (y : Int) + bitsA .or .u32 (x : Int) (y : Int)) = w32 ((x : Int) + y) := by
  rw [bitsN_and hx hy, bitsN_or hx hy]
  have := and_add_or x y
  congr 1
  omega

theorem or_one {y : Nat} (hy : y < 4294967296) : ∃ o : Nat, bitsA .or .u32 (y : Int) 1 = o ∧ o < 4294967296 ∧ o ≠ 0 := by
  have e := bitsN_or hy (b := 1) (by decide)
  refine ⟨y ||| 1, e, Nat.or_lt_two_pow (n := 32) hy (by decide), ?_⟩
  have : 1 ≤ y ||| 1 := Nat.right_le_or
  omega
end Go.Ab

/- ExpressionWraps: the texts. -/
namespace Go.Ab
open Go.Proofs
set_option linter.unusedSectionVars false
set_option maxRecDepth 100000
variable [GlobX]

theorem pcTxt_len : ∀ ps : List Pc, pcOk ps = true → (pcTxt ps).length ≤ 69 * ps.length := by
  intro ps
  induction ps with
  | nil => intro _; exact Nat.le_refl _
  | cons p ps ih =>
    intro h
    simp only [pcTxt, List.length_append, List.length_cons]
    have hp : p.txt.length ≤ 69 ∧ pcOk ps = true := by
      cases p with
      | num n => exact ⟨by have := fmtL_len n; simp only [Pc.txt]; omega, (Bool.and_eq_true_iff.1 h).2⟩
      | sp => exact ⟨by simp [Pc.txt], h⟩
      | s1 c => exact ⟨by simp [Pc.txt], (Bool.and_eq_true_iff.1 h).2⟩
      | sg s =>
        have h2 := Bool.and_eq_true_iff.1 h
        have hs : s ∈ signs := by simpa using h2.1
        have : ∀ s ∈ signs, s.length ≤ 2 := by decide +kernel
        have := this s hs
        exact ⟨by simp [Pc.txt]; omega, h2.2⟩
    have := ih hp.2
    omega

theorem pcToks_len : ∀ ps : List Pc, (pcToks ps).length ≤ ps.length := by
  intro ps
  induction ps with
  | nil => exact Nat.le_refl _
  | cons p ps ih =>
    simp only [pcToks, List.length_append, List.length_cons]
    cases p <;> simp only [Pc.toks, List.length_cons, List.length_nil] <;> omega

theorem cmp_pc {ps : List Pc} {x : Int} {D : Nat} (hok : pcOk ps = true) (hn : ∀ n, Pc.num n ∈ ps → n ≤ 4294967295) (hl : ps.length ≤ 200) (hD : D ≤ 8) (hw : WhlOk D (pcToks ps ++ [tkEnd]) x [tkEnd]) : cmpV (B (pcTxt ps)) = (x, 0) := by
  have h1 := pcTxt_len ps hok
  have h2 := pcToks_len ps
  exact cmp_ok (by omega) (pcLx ps hok hn) (by omega) hD hw

/-- Two texts with the same value. -/
def Alike (p : ByteArray × ByteArray) : Prop := (cmpV p.1).2 = 0 ∧ (cmpV p.2).2 = 0 ∧ (cmpV p.1).1 = (cmpV p.2).1

theorem alike_of {ps qs : List Pc} {s t : ByteArray} {x y : Int} (hs : s = B (pcTxt ps)) (ht : t = B (pcTxt qs)) (h1 : cmpV (B (pcTxt ps)) = (x, 0)) (h2 : cmpV (B (pcTxt qs)) = (y, 0)) (he : x = y) : Alike (s, t) := by
  subst he hs ht
  refine ⟨?_, ?_, ?_⟩ <;> simp only [h1, h2]

theorem Lx.bang {l : List UInt8} {ts : List Tk} (hl : Lx (40 :: l) ts) : Lx (33 :: 40 :: l) (tkSg (B [33]) :: ts) :=
  Lx.tok (p := [33]) (l := 40 :: l) (t := { kind := 4, text := B [33] }) (by kernel_rfl) (by kernel_rfl) (show (4 : Int) ≠ 8 by decide) hl

section
variable {x y i k : Nat} (hx : x < 4294967296) (hy : y < 4294967296) (hi : i < 20) (hk : k < 20)

theorem nums {ps : List Pc} (h : ∀ p ∈ ps, match p with | .num n => n < 4294967296 | _ => True) : ∀ n, Pc.num n ∈ ps → n ≤ 4294967295 := fun n hn => by
  have := h _ hn
  simp only at this
  omega

include hx in
theorem c_x : cmpV (B (pcTxt [.num x])) = ((x : Int), 0) :=
  cmp_pc (D := 2) rfl (nums (by simp [hx])) (Nat.le_of_ble_eq_true rfl) (by decide) (wE (by decide) (oN 2 hx _) (rE _ _ _))

include hx hy in
theorem c_1 : cmpV (B (pcTxt [.num x, .sp, .sg [43], .num y, .sp, .sg [45], .num y])) = (w32 (w32 ((x : Int) + y) - y), 0) :=
  cmp_pc (D := 2) rfl (nums (by simp [hx, hy])) (Nat.le_of_ble_eq_true rfl) (by decide) (wE (by decide) (oN 2 hx _)
    (rO (k := 2) (by decide) rfl (by decide) (by decide) (oN 2 hy _) (rS 2 2 _ rfl _ _) (by0_nd rfl _)
    (rO (k := 2) (by decide) rfl (by decide) (by decide) (oN 2 hy _) (rE _ _ _) (by0_nd rfl _) (rE _ _ _))))

include hx in
theorem c_2a : cmpV (B (pcTxt [.s1 45, .num x])) = (w32 (0 - (x : Int)), 0) :=
  cmp_pc (D := 2) rfl (nums (by simp [hx])) (Nat.le_of_ble_eq_true rfl) (by decide) (wE (by decide) (oF (B [45]) rfl (oN 2 hx _)) (rE _ _ _))

include hx in
theorem c_2b : cmpV (B (pcTxt [.s1 126, .num x, .sp, .sg [43], .num 1])) = (w32 (bitsA .xor .u32 4294967295 (x : Int) + 1), 0) :=
  cmp_pc (D := 2) rfl (nums (by simp [hx])) (Nat.le_of_ble_eq_true rfl) (by decide) (wE (by decide) (oF (B [126]) rfl (oN 2 hx _))
    (rO (k := 2) (by decide) rfl (by decide) (by decide) (oN 2 (n := 1) (by decide) _) (rE _ _ _) (by0_nd rfl _) (rE _ _ _)))

include hx hi hk in
theorem c_3a : cmpV (B (pcTxt [.num x, .sp, .sg [60, 60], .num i, .sp, .sg [60, 60], .num k])) = (w32 (w32 ((x : Int) * 2 ^ min (i : Int).toNat 32) * 2 ^ min (k : Int).toNat 32), 0) :=
  cmp_pc (D := 2) rfl (nums (by simp [hx]; omega)) (Nat.le_of_ble_eq_true rfl) (by decide) (wE (by decide) (oN 2 hx _)
    (rO (k := 3) (by decide) rfl (by decide) (by decide) (oN 2 (by omega) _) (rS 2 3 _ rfl _ _) (by0_nd rfl _)
    (rO (k := 3) (by decide) rfl (by decide) (by decide) (oN 2 (by omega) _) (rE _ _ _) (by0_nd rfl _) (rE _ _ _))))

theorem sum_ik (hi : i < 20) (hk : k < 20) : WhlOk 1 [tkNum i, tkSg (B [43]), tkNum k, tkSg sRp, tkEnd] (w32 ((i : Int) + k)) [tkSg sRp, tkEnd] :=
  wP (by decide) (oN 1 (by omega) _) (rO (k := 2) (by decide) rfl (by decide) (by decide) (oN 1 (by omega) _) (rP _ _ _ _) (by0_nd rfl _) (rP _ _ _ _))

include hx hi hk in
theorem c_3b : cmpV (B (pcTxt [.num x, .sp, .sg [60, 60], .s1 40, .num i, .sp, .sg [43], .num k, .s1 41])) = (w32 ((x : Int) * 2 ^ min (w32 ((i : Int) + k)).toNat 32), 0) :=
  cmp_pc (D := 2) rfl (nums (by simp [hx]; omega)) (Nat.le_of_ble_eq_true rfl) (by decide) (wE (by decide) (oN 2 hx _)
    (rO (k := 3) (by decide) rfl (by decide) (by decide) (oP (sum_ik hi hk)) (rE _ _ _) (by0_nd rfl _) (rE _ _ _)))

include hx hi hk in
theorem c_4a : cmpV (B (pcTxt [.num x, .sp, .sg [62, 62], .num i, .sp, .sg [62, 62], .num k])) = (((x : Int).fdiv (2 ^ min (i : Int).toNat 32)).fdiv (2 ^ min (k : Int).toNat 32), 0) :=
  cmp_pc (D := 2) rfl (nums (by simp [hx]; omega)) (Nat.le_of_ble_eq_true rfl) (by decide) (wE (by decide) (oN 2 hx _)
    (rO (k := 3) (by decide) rfl (by decide) (by decide) (oN 2 (by omega) _) (rS 2 3 _ rfl _ _) (by0_nd rfl _)
    (rO (k := 3) (by decide) rfl (by decide) (by decide) (oN 2 (by omega) _) (rE _ _ _) (by0_nd rfl _) (rE _ _ _))))

include hx hi hk in
theorem c_4b : cmpV (B (pcTxt [.num x, .sp, .sg [62, 62], .s1 40, .num i, .sp, .sg [43], .num k, .s1 41])) = ((x : Int).fdiv (2 ^ min (w32 ((i : Int) + k)).toNat 32), 0) :=
  cmp_pc (D := 2) rfl (nums (by simp [hx]; omega)) (Nat.le_of_ble_eq_true rfl) (by decide) (wE (by decide) (oN 2 hx _)
    (rO (k := 3) (by decide) rfl (by decide) (by decide) (oP (sum_ik hi hk)) (rE _ _ _) (by0_nd rfl _) (rE _ _ _)))

theorem or_y (D : Nat) (hD : D ≤ 7) (hy : y < 4294967296) (ts : List Tk) : OpdOk (D + 1) (tkSg sLp :: tkNum y :: tkSg (B [124]) :: tkNum 1 :: tkSg sRp :: ts) (bitsA .or .u32 (y : Int) 1) ts :=
  oP (wP (by omega) (oN D hy _) (rO (k := 8) (by omega) rfl (by decide) (by decide) (oN D (n := 1) (by decide) _) (rP _ _ _ _) (by0_nd rfl _) (rP _ _ _ _)))

include hx hy in
theorem c_5 (o : Nat) (ho : bitsA .or .u32 (y : Int) 1 = o) (h0 : o ≠ 0) : cmpV (B (pcTxt [.s1 40, .num y, .sp, .sg [124], .num 1, .s1 41, .sp, .sg [42], .s1 40, .num x, .sp, .sg [47], .s1 40, .num y, .sp, .sg [124], .num 1, .s1 41, .s1 41, .sp, .sg [43], .num x, .sp, .sg [37], .s1 40, .num y, .sp, .sg [124], .num 1, .s1 41])) =
    (w32 (w32 ((o : Int) * w32 ((x : Int).tdiv o)) + (x : Int).tmod o), 0) := by
  have hb : ∀ s, by0 s (o : Int) = false := fun s => by
    unfold by0
    rw [decide_eq_false (by omega)]
    rfl
  have hor := fun D hD ts => or_y (y := y) D hD hy ts
  rw [ho] at hor
  exact cmp_pc (D := 2) rfl (nums (by simp [hx, hy])) (Nat.le_of_ble_eq_true rfl) (by decide) (wE (by decide) (hor 1 (by decide) _)
    (rO (k := 1) (by decide) rfl (by decide) (by decide)
      (oP (wP (by decide) (oN 1 hx _) (rO (k := 1) (by decide) rfl (by decide) (by decide) (hor 0 (by decide) _) (rP _ _ _ _) (hb _) (rP _ _ _ _))))
      (rS 2 1 _ rfl _ _) (by0_nd rfl _)
    (RwsOk.step (k := 2) (by decide) rfl (by decide) (by decide) (oN 2 hx _)
      (rO (k := 1) (by decide) rfl (by decide) (by decide) (hor 1 (by decide) _) (rE _ _ _) (hb _) (rE _ _ _)) (by0_nd rfl _) (rE _ _ _))))

include hx hy in
theorem c_6 : cmpV (B (pcTxt [.num x, .sp, .sg [94], .num y, .sp, .sg [94], .num y])) = (bitsA .xor .u32 (bitsA .xor .u32 (x : Int) y) y, 0) :=
  cmp_pc (D := 2) rfl (nums (by simp [hx, hy])) (Nat.le_of_ble_eq_true rfl) (by decide) (wE (by decide) (oN 2 hx _)
    (rO (k := 7) (by decide) rfl (by decide) (by decide) (oN 2 hy _) (rS 2 7 _ rfl _ _) (by0_nd rfl _)
    (rO (k := 7) (by decide) rfl (by decide) (by decide) (oN 2 hy _) (rE _ _ _) (by0_nd rfl _) (rE _ _ _))))

include hx hy in
theorem c_7a : cmpV (B (33 :: pcTxt [.s1 40, .num x, .sp, .sg [60], .num y, .s1 41])) = (tr (decide ((0 : Int) = tr (decide ((x : Int) < y)))), 0) := by
  have hok : pcOk [.s1 40, .num x, .sp, .sg [60], .num y, .s1 41] = true := rfl
  have h1 := pcTxt_len [.s1 40, .num x, .sp, .sg [60], .num y, .s1 41] hok
  have h2 : Lx (33 :: pcTxt [.s1 40, .num x, .sp, .sg [60], .num y, .s1 41]) (tkSg (B [33]) :: pcToks [.s1 40, .num x, .sp, .sg [60], .num y, .s1 41]) :=
    Lx.bang (pcLx _ hok (nums (by simp [hx, hy])))
  exact cmp_ok (D := 2) (by simp only [List.length_cons] at h1 ⊢; simp only [List.length_nil] at h1; omega) h2 (Nat.le_of_ble_eq_true rfl) (by decide)
    (wE (by decide) (oF (B [33]) rfl (oP (wP (by decide) (oN 1 hx _) (rO (k := 4) (by decide) rfl (by decide) (by decide) (oN 1 hy _) (rP _ _ _ _) (by0_nd rfl _) (rP _ _ _ _))))) (rE _ _ _))

include hx hy in
theorem c_7b : cmpV (B (pcTxt [.num x, .sp, .sg [62, 61], .num y])) = (tr (decide ((y : Int) ≤ x)), 0) :=
  cmp_pc (D := 2) rfl (nums (by simp [hx, hy])) (Nat.le_of_ble_eq_true rfl) (by decide) (wE (by decide) (oN 2 hx _)
    (rO (k := 4) (by decide) rfl (by decide) (by decide) (oN 2 hy _) (rE _ _ _) (by0_nd rfl _) (rE _ _ _)))

include hx hy in
theorem c_8b : cmpV (B (pcTxt [.num x, .sp, .sg [43], .num y])) = (w32 ((x : Int) + y), 0) :=
  cmp_pc (D := 2) rfl (nums (by simp [hx, hy])) (Nat.le_of_ble_eq_true rfl) (by decide) (wE (by decide) (oN 2 hx _)
    (rO (k := 2) (by decide) rfl (by decide) (by decide) (oN 2 hy _) (rE _ _ _) (by0_nd rfl _) (rE _ _ _)))

include hx hy in
theorem c_8a : cmpV (B (pcTxt [.s1 40, .num x, .sp, .sg [38], .num y, .s1 41, .sp, .sg [43], .s1 40, .num x, .sp, .sg [124], .num y, .s1 41])) = (w32 (bitsA .and .u32 (x : Int) y + bitsA .or .u32 (x : Int) y), 0) :=
  cmp_pc (D := 2) rfl (nums (by simp [hx, hy])) (Nat.le_of_ble_eq_true rfl) (by decide) (wE (by decide)
    (oP (wP (by decide) (oN 1 hx _) (rO (k := 6) (by decide) rfl (by decide) (by decide) (oN 1 hy _) (rP _ _ _ _) (by0_nd rfl _) (rP _ _ _ _))))
    (rO (k := 2) (by decide) rfl (by decide) (by decide)
      (oP (wP (by decide) (oN 1 hx _) (rO (k := 8) (by decide) rfl (by decide) (by decide) (oN 1 hy _) (rP _ _ _ _) (by0_nd rfl _) (rP _ _ _ _)))) (rE _ _ _) (by0_nd rfl _) (rE _ _ _)))
end
end Go.Ab

/- ExpressionWraps: the law. -/
namespace Go.Ab
open Go.Proofs
set_option linter.unusedSectionVars false
set_option maxRecDepth 100000
variable [GlobX]

theorem bsz (a : Array UInt8) : (⟨a⟩ : ByteArray).size = a.size := rfl

/-- The pairs of texts. -/
def wrapsPs (x y i k : ByteArray) : List (ByteArray × ByteArray) :=
  [(x ++ ⟨#[32, 43, 32]⟩ ++ y ++ ⟨#[32, 45, 32]⟩ ++ y, x),
   (⟨#[45]⟩ ++ x, ⟨#[126]⟩ ++ x ++ ⟨#[32, 43, 32, 49]⟩),
   (x ++ ⟨#[32, 60, 60, 32]⟩ ++ i ++ ⟨#[32, 60, 60, 32]⟩ ++ k, x ++ ⟨#[32, 60, 60, 32, 40]⟩ ++ i ++ ⟨#[32, 43, 32]⟩ ++ k ++ ⟨#[41]⟩),
   (x ++ ⟨#[32, 62, 62, 32]⟩ ++ i ++ ⟨#[32, 62, 62, 32]⟩ ++ k, x ++ ⟨#[32, 62, 62, 32, 40]⟩ ++ i ++ ⟨#[32, 43, 32]⟩ ++ k ++ ⟨#[41]⟩),
   (⟨#[40]⟩ ++ y ++ ⟨#[32, 124, 32, 49, 41, 32, 42, 32, 40]⟩ ++ x ++ ⟨#[32, 47, 32, 40]⟩ ++ y ++ ⟨#[32, 124, 32, 49, 41, 41, 32, 43, 32]⟩ ++ x ++ ⟨#[32, 37, 32, 40]⟩ ++ y ++ ⟨#[32, 124, 32, 49, 41]⟩, x),
   (x ++ ⟨#[32, 94, 32]⟩ ++ y ++ ⟨#[32, 94, 32]⟩ ++ y, x),
   (⟨#[33, 40]⟩ ++ x ++ ⟨#[32, 60, 32]⟩ ++ y ++ ⟨#[41]⟩, x ++ ⟨#[32, 62, 61, 32]⟩ ++ y),
   (⟨#[40]⟩ ++ x ++ ⟨#[32, 38, 32]⟩ ++ y ++ ⟨#[41, 32, 43, 32, 40]⟩ ++ x ++ ⟨#[32, 124, 32]⟩ ++ y ++ ⟨#[41]⟩, x ++ ⟨#[32, 43, 32]⟩ ++ y)]

theorem wraps_alike {a b c d : Int} (ha : 0 ≤ a ∧ a ≤ 4294967295) (hb : 0 ≤ b ∧ b ≤ 4294967295) (hc : 0 ≤ c ∧ c < 20) (hd : 0 ≤ d ∧ d < 20) : ∀ p ∈ wrapsPs (fmtV a) (fmtV b) (fmtV c) (fmtV d), Alike p := by
  obtain ⟨x, rfl⟩ : ∃ n : Nat, a = n := ⟨a.toNat, by omega⟩
  obtain ⟨y, rfl⟩ : ∃ n : Nat, b = n := ⟨b.toNat, by omega⟩
  obtain ⟨i, rfl⟩ : ∃ n : Nat, c = n := ⟨c.toNat, by omega⟩
  obtain ⟨k, rfl⟩ : ∃ n : Nat, d = n := ⟨d.toNat, by omega⟩
  have hx : x < 4294967296 := by omega
  have hy : y < 4294967296 := by omega
  have hi : i < 20 := by omega
  have hk : k < 20 := by omega
  have f1 : (1 : Nat) < 4294967296 := by decide
  have e1 : fmtL 1 = [49] := by decide +kernel
  have bs : ∀ l : List UInt8, (⟨l.toArray⟩ : ByteArray) = B l := fun _ => rfl
  rw [fmtV_L ha.1 ha.2, fmtV_L hb.1 hb.2, fmtV_L hc.1 (by omega), fmtV_L hd.1 (by omega)]
  simp only [Int.toNat_natCast]
  obtain ⟨o, ho, ho1, ho2⟩ := or_one hy
  have hw : w32 ((i : Int) + k) = ((i + k : Nat) : Int) := by rw [w32_eq]; omega
  have m1 : min (i : Int).toNat 32 = i := by omega
  have m2 : min (k : Int).toNat 32 = k := by omega
  intro p hp
  simp only [wrapsPs, List.mem_cons, List.not_mem_nil, or_false] at hp
  rcases hp with rfl | rfl | rfl | rfl | rfl | rfl | rfl | rfl
  · refine alike_of ?_ ?_ (c_1 hx hy) (c_x hx) (law1 ⟨by omega, by omega⟩) <;> simp [bs, B_append, pcTxt, Pc.txt, List.append_assoc]
  · refine alike_of ?_ ?_ (c_2a hx) (c_2b hx) (law2 hx).symm <;> simp [bs, B_append, pcTxt, Pc.txt, e1]
  · refine alike_of ?_ ?_ (c_3a hx hi hk) (c_3b hx hi hk) (by rw [hw, m1, m2, Int.toNat_natCast]; exact law3 _ i k) <;> simp [bs, B_append, pcTxt, Pc.txt, List.append_assoc]
  · refine alike_of ?_ ?_ (c_4a hx hi hk) (c_4b hx hi hk) (by rw [hw, m1, m2, Int.toNat_natCast]; exact law4 hx i k) <;> simp [bs, B_append, pcTxt, Pc.txt, List.append_assoc]
  · refine alike_of ?_ ?_ (c_5 hx hy o ho ho2) (c_x hx) (law5 hx ho1 ho2) <;> simp [bs, B_append, pcTxt, Pc.txt, e1, List.append_assoc]
  · refine alike_of ?_ ?_ (c_6 hx hy) (c_x hx) (law6 hx hy) <;> simp [bs, B_append, pcTxt, Pc.txt, List.append_assoc]
  · have h7 := c_7a hx hy
    have h8 := c_7b hx hy
    rw [← law7] at h8
    have e7 : (⟨#[33, 40]⟩ ++ B (fmtL x) ++ ⟨#[32, 60, 32]⟩ ++ B (fmtL y) ++ ⟨#[41]⟩ : ByteArray) = B (33 :: pcTxt [.s1 40, .num x, .sp, .sg [60], .num y, .s1 41]) := by simp [bs, B_append, pcTxt, Pc.txt, List.append_assoc]
    have e8 : (B (fmtL x) ++ ⟨#[32, 62, 61, 32]⟩ ++ B (fmtL y) : ByteArray) = B (pcTxt [.num x, .sp, .sg [62, 61], .num y]) := by simp [bs, B_append, pcTxt, Pc.txt, List.append_assoc]
    rw [e7, e8]
    unfold Alike
    rw [h7, h8]
    exact ⟨rfl, rfl, rfl⟩
  · refine alike_of ?_ ?_ (c_8a hx hy) (c_8b hx hy) (law8 hx hy) <;> simp [bs, B_append, pcTxt, Pc.txt, List.append_assoc]

def saysWraps : Says := fun args H => match args, H with
  | [.c (.p (.v (.int .u32 a))), .c (.p (.v (.int .u32 b))), .c (.p (.v (.int .u8 c))), .c (.p (.v (.int .u8 d)))], [] => some (some ((0 ≤ a ∧ a ≤ 4294967295) ∧ (0 ≤ b ∧ b ≤ 4294967295) ∧ (0 ≤ c ∧ c ≤ 255) ∧ (0 ≤ d ∧ d ≤ 255)), .bool true, [])
  | _, _ => none

def X53 : Table := ext X52 3 saysWraps

set_option maxHeartbeats 4000000 in
theorem x53 : TSound Tryd.prog X53 := by
  refine ext_run x52 (f := 3) (fn := Tryd.f3) rfl rfl [0, 1, 2, 3, 8, 9, 10, 11, 12, 13, 15, 16, 17, 18, 19, 136, 137, 138, 139, 164] fun args H p r H' hs hp => ?_
  unfold saysWraps at hs
  split at hs
  · rename_i a b c d
    cases hs
    obtain ⟨ha, hb, hc, hd⟩ := hp
    refine ⟨Nat.le_of_ble_eq_true rfl, [], rfl, fun k hk => absurd hk (Nat.not_lt_zero k), ?_⟩
    have hc2 : 0 ≤ c.tmod 20 ∧ c.tmod 20 < 20 := ⟨Int.tmod_nonneg _ hc.1, Int.tmod_lt_of_pos _ (by decide)⟩
    have hd2 : 0 ≤ d.tmod 20 ∧ d.tmod 20 < 20 := ⟨Int.tmod_nonneg _ hd.1, Int.tmod_lt_of_pos _ (by decide)⟩
    have za := fmtV_size a
    have zb := fmtV_size b
    have zc := fmtV_size (c.tmod 20)
    have zd := fmtV_size (d.tmod 20)
    repeat ((conv => whnf); refine ⟨by first | (simp only [ByteArray.size_append, bsz, List.size_toArray, List.length_cons, List.length_nil]; omega) | decide | (unfold inI64; omega) | omega | exact ⟨by omega, by omega⟩ | (intro hg; first | (unfold inI64; omega) | omega | exact ⟨by omega, by omega⟩ | (simp [lit] at hg; unfold inI64; omega) | (simp [lit] at hg; omega) | (simp [lit] at hg; exact ⟨by omega, by omega⟩)) | (show (_ : Nat) + 1 ≤ 1000000000000; omega) | exact rfl | (unfold inI64; dsimp only; omega) | (dsimp only; omega) | (intro hg; simp [lit] at hg; first | (unfold inI64; dsimp only; omega) | (dsimp only; omega)) | decide +kernel, ?_⟩)
    conv => whnf
    refine loop_intro (σ := List (ByteArray × ByteArray) × Int) (fun ⟨ps, i⟩ => [(0, XV.s (.a (.c (.p (.v (.int .u32 a)))))), (1, XV.s (.a (.c (.p (.v (.int .u32 b)))))), (2, XV.s (.a (.c (.p (.v (.int .u8 c)))))), (3, XV.s (.a (.c (.p (.v (.int .u8 d)))))), (8, XV.s (.a (.c (.p (.v (.bool false)))))),
        (9, XV.s .none), (10, XV.s .none), (11, XV.s .none), (12, XV.s .none), (13, XV.s .none), (15, XV.s .none), (16, XV.s .none), (17, XV.s .none), (18, XV.s .none), (19, XV.s .none),
        (136, XV.s (.a (.c (.own 0 (.pair .str .str) ps)))), (137, XV.s (.a (.c (.p (.v (.int .i64 8)))))), (138, XV.s (.a (.c (.p (.v (.int .i64 i)))))), (139, XV.s .none), (164, XV.s .none)])
      (fun _ => [AO.tok 24 (CT.str.pair CT.str) 8 false]) (fun ⟨ps, i⟩ => ps.length = 8 ∧ (∀ p ∈ ps, Alike p) ∧ 0 ≤ i ∧ i ≤ 8) (fun ⟨_, i⟩ => 8 - i.toNat) (wrapsPs (fmtV a) (fmtV b) (fmtV (c.tmod 20)) (fmtV (d.tmod 20)), 0) ?_ ?_ ?_ ?_
    · unfold wrapsPs
      repeat (first | exact LeL.nil | refine LeL.drop ?_ | refine LeL.same ?_)
    · rfl
    · exact ⟨rfl, wraps_alike ha hb hc2 hd2, Int.le_refl _, by decide⟩
    · rintro ⟨ps, i⟩ ⟨hps, hal, hi0, hi8⟩
      conv => whnf
      refine cond_intro (fun h => ?_) (fun h => ?_)
      · have h1 : i < 8 := of_decide_eq_true h
        repeat ((conv => whnf); refine ⟨by first | (unfold inI64; omega) | omega | exact ⟨by omega, by omega⟩ | (intro hg; first | (unfold inI64; omega) | omega | exact ⟨by omega, by omega⟩ | (simp [lit] at hg; unfold inI64; omega) | (simp [lit] at hg; omega) | (simp [lit] at hg; exact ⟨by omega, by omega⟩)) | (show (_ : Nat) + 1 ≤ 1000000000000; omega) | exact rfl | (unfold inI64; dsimp only; omega) | (dsimp only; omega) | (intro hg; simp [lit] at hg; first | (unfold inI64; dsimp only; omega) | (dsimp only; omega)) | decide +kernel, ?_⟩)
        conv => whnf
        have hm : ps.getD i.toNat (CT.str.pair CT.str).dflt ∈ ps := by
          rw [List.getD_eq_getElem?_getD, List.getElem?_eq_getElem (by omega)]
          exact List.getElem_mem _
        obtain ⟨e1, e2, e3⟩ := hal _ hm
        refine cond_intro (fun hc => ?_) (fun hc => ?_)
        · exfalso
          rw [e1, e2, e3] at hc
          simp at hc
        · repeat ((conv => whnf); refine ⟨by first | (unfold inI64; omega) | omega | exact ⟨by omega, by omega⟩ | (intro hg; first | (unfold inI64; omega) | omega | exact ⟨by omega, by omega⟩ | (simp [lit] at hg; unfold inI64; omega) | (simp [lit] at hg; omega) | (simp [lit] at hg; exact ⟨by omega, by omega⟩)) | (show (_ : Nat) + 1 ≤ 1000000000000; omega) | exact rfl | (unfold inI64; dsimp only; omega) | (dsimp only; omega) | (intro hg; simp [lit] at hg; first | (unfold inI64; dsimp only; omega) | (dsimp only; omega)) | decide +kernel, ?_⟩)
          conv => whnf
          refine head_keep (ps, i + 1) [0] rfl (fun k hk => ?_) rfl ?_ ⟨hps, hal, by omega, by omega⟩ ?_
          · have h0 : k < 1 := hk
            obtain rfl : k = 0 := by omega
            rfl
          · repeat (first | exact KeepL.nil | refine KeepL.drop ?_ | refine KeepL.ren rfl ?_)
          · show 8 - (i + 1).toNat < 8 - i.toNat
            omega
      · conv => whnf
        exact ends_eq ⟨rfl, rfl⟩
  · cases hs
end Go.Ab
