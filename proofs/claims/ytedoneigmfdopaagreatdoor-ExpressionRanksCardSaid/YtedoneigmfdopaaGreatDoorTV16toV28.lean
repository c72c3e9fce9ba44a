/- ExpressionWraps: the texts. -/
import Derived.Test.YtedoneigmfdopaaGreatDoorTV14toG4
import Derived.Test.YtedoneigmfdopaaGreatDoorTV26
namespace Go.Ab
open Go.Proofs
set_option linter.unusedSectionVars false
set_option maxRecDepth 100000
variable [GlobX]

theorem pcTxt_len : ∀ ps : List Pc, pcOk ps = true → (pcTxt ps).length ≤ 69 * ps.length := by
  intro ps
  induction ps with
  | nil => intro _; exact Nat.le_refl _
  | cons p ps ih =>
    intro h
    simp only [pcTxt, List.length_append, List.length_cons]
    have hp : p.txt.length ≤ 69 ∧ pcOk ps = true := by
      cases p with
      | num n => exact ⟨by have := fmtL_len n; simp only [Pc.txt]; omega, (Bool.and_eq_true_iff.1 h).2⟩
      | sp => exact ⟨by simp [Pc.txt], h⟩
      | s1 c => exact ⟨by simp [Pc.txt], (Bool.and_eq_true_iff.1 h).2⟩
      | sg s =>
        have h2 := Bool.and_eq_true_iff.1 h
        have hs : s ∈ signs := by simpa using h2.1
        have : ∀ s ∈ signs, s.length ≤ 2 := by decide +kernel
        have := this s hs
        exact ⟨by simp [Pc.txt]; omega, h2.2⟩
    have := ih hp.2
    omega

theorem pcToks_len : ∀ ps : List Pc, (pcToks ps).length ≤ ps.length := by
  intro ps
  induction ps with
  | nil => exact Nat.le_refl _
  | cons p ps ih =>
    simp only [pcToks, List.length_append, List.length_cons]
    cases p <;> simp only [Pc.toks, List.length_cons, List.length_nil] <;> omega

theorem cmp_pc {ps : List Pc} {x : Int} {D : Nat} (hok : pcOk ps = true) (hn : ∀ n, Pc.num n ∈ ps → n ≤ 4294967295) (hl : ps.length ≤ 200) (hD : D ≤ 8) (hw : WhlOk D (pcToks ps ++ [tkEnd]) x [tkEnd]) : cmpV (B (pcTxt ps)) = (x, 0) := by
  have h1 := pcTxt_len ps hok
  have h2 := pcToks_len ps
  exact cmp_ok (by omega) (pcLx ps hok hn) (by omega) hD hw

/-- Two texts with the same value. -/
def Alike (p : ByteArray × ByteArray) : Prop := (cmpV p.1).2 = 0 ∧ (cmpV p.2).2 = 0 ∧ (cmpV p.1).1 = (cmpV p.2).1

theorem alike_of {ps qs : List Pc} {s t : ByteArray} {x y : Int} (hs : s = B (pcTxt ps)) (ht : t = B (pcTxt qs)) (h1 : cmpV (B (pcTxt ps)) = (x, 0)) (h2 : cmpV (B (pcTxt qs)) = (y, 0)) (he : x = y) : Alike (s, t) := by
  subst he hs ht
  refine ⟨?_, ?_, ?_⟩ <;> simp only [h1, h2]

theorem Lx.bang {l : List UInt8} {ts : List Tk} (hl : Lx (40 :: l) ts) : Lx (33 :: 40 :: l) (tkSg (B [33]) :: ts) :=
  Lx.tok (p := [33]) (l := 40 :: l) (t := { kind := 4, text := B [33] }) (by kernel_rfl) (by kernel_rfl) (show (4 : Int) ≠ 8 by decide) hl

section
variable {x y i k : Nat} (hx : x < 4294967296) (hy : y < 4294967296) (hi : i < 20) (hk : k < 20)

theorem nums {ps : List Pc} (h : ∀ p ∈ ps, match p with | .num n => n < 4294967296 | _ => True) : ∀ n, Pc.num n ∈ ps → n ≤ 4294967295 := fun n hn => by
  have := h _ hn
  simp only at this
  omega

include hx in
theorem c_x : cmpV (B (pcTxt [.num x])) = ((x : Int), 0) :=
  cmp_pc (D := 2) rfl (nums (by simp [hx])) (Nat.le_of_ble_eq_true rfl) (by decide) (wE (by decide) (oN 2 hx _) (rE _ _ _))

include hx hy in
theorem c_1 : cmpV (B (pcTxt [.num x, .sp, .sg [43], .num y, .sp, .sg [45], .num y])) = (w32 (w32 ((x : Int) + y) - y), 0) :=
  cmp_pc (D := 2) rfl (nums (by simp [hx, hy])) (Nat.le_of_ble_eq_true rfl) (by decide) (wE (by decide) (oN 2 hx _)
    (rO (k := 2) (by decide) rfl (by decide) (by decide) (oN 2 hy _) (rS 2 2 _ rfl _ _) (by0_nd rfl _)
    (rO (k := 2) (by decide) rfl (by decide) (by decide) (oN 2 hy _) (rE _ _ _) (by0_nd rfl _) (rE _ _ _))))

include hx in
theorem c_2a : cmpV (B (pcTxt [.s1 45, .num x])) = (w32 (0 - (x : Int)), 0) :=
  cmp_pc (D := 2) rfl (nums (by simp [hx])) (Nat.le_of_ble_eq_true rfl) (by decide) (wE (by decide) (oF (B [45]) rfl (oN 2 hx _)) (rE _ _ _))

include hx in
theorem c_2b : cmpV (B (pcTxt [.s1 126, .num x, .sp, .sg [43], .num 1])) = (w32 (bitsA .xor .u32 4294967295 (x : Int) + 1), 0) :=
  cmp_pc (D := 2) rfl (nums (by simp [hx])) (Nat.le_of_ble_eq_true rfl) (by decide) (wE (by decide) (oF (B [126]) rfl (oN 2 hx _))
    (rO (k := 2) (by decide) rfl (by decide) (by decide) (oN 2 (n := 1) (by decide) _) (rE _ _ _) (by0_nd rfl _) (rE _ _ _)))

include hx hi hk in
theorem c_3a : cmpV (B (pcTxt [.num x, .sp, .sg [60, 60], .num i, .sp, .sg [60, 60], .num k])) = (w32 (w32 ((x : Int) * 2 ^ min (i : Int).toNat 32) * 2 ^ min (k : Int).toNat 32), 0) :=
  cmp_pc (D := 2) rfl (nums (by simp [hx]; omega)) (Nat.le_of_ble_eq_true rfl) (by decide) (wE (by decide) (oN 2 hx _)
    (rO (k := 3) (by decide) rfl (by decide) (by decide) (oN 2 (by omega) _) (rS 2 3 _ rfl _ _) (by0_nd rfl _)
    (rO (k := 3) (by decide) rfl (by decide) (by decide) (oN 2 (by omega) _) (rE _ _ _) (by0_nd rfl _) (rE _ _ _))))

theorem sum_ik (hi : i < 20) (hk : k < 20) : WhlOk 1 [tkNum i, tkSg (B [43]), tkNum k, tkSg sRp, tkEnd] (w32 ((i : Int) + k)) [tkSg sRp, tkEnd] :=
  wP (by decide) (oN 1 (by omega) _) (rO (k := 2) (by decide) rfl (by decide) (by decide) (oN 1 (by omega) _) (rP _ _ _ _) (by0_nd rfl _) (rP _ _ _ _))

include hx hi hk in
theorem c_3b : cmpV (B (pcTxt [.num x, .sp, .sg [60, 60], .s1 40, .num i, .sp, .sg [43], .num k, .s1 41])) = (w32 ((x : Int) * 2 ^ min (w32 ((i : Int) + k)).toNat 32), 0) :=
  cmp_pc (D := 2) rfl (nums (by simp [hx]; omega)) (Nat.le_of_ble_eq_true rfl) (by decide) (wE (by decide) (oN 2 hx _)
    (rO (k := 3) (by decide) rfl (by decide) (by decide) (oP (sum_ik hi hk)) (rE _ _ _) (by0_nd rfl _) (rE _ _ _)))

include hx hi hk in
theorem c_4a : cmpV (B (pcTxt [.num x, .sp, .sg [62, 62], .num i, .sp, .sg [62, 62], .num k])) = (((x : Int).fdiv (2 ^ min (i : Int).toNat 32)).fdiv (2 ^ min (k : Int).toNat 32), 0) :=
  cmp_pc (D := 2) rfl (nums (by simp [hx]; omega)) (Nat.le_of_ble_eq_true rfl) (by decide) (wE (by decide) (oN 2 hx _)
    (rO (k := 3) (by decide) rfl (by decide) (by decide) (oN 2 (by omega) _) (rS 2 3 _ rfl _ _) (by0_nd rfl _)
    (rO (k := 3) (by decide) rfl (by decide) (by decide) (oN 2 (by omega) _) (rE _ _ _) (by0_nd rfl _) (rE _ _ _))))

include hx hi hk in
theorem c_4b : cmpV (B (pcTxt [.num x, .sp, .sg [62, 62], .s1 40, .num i, .sp, .sg [43], .num k, .s1 41])) = ((x : Int).fdiv (2 ^ min (w32 ((i : Int) + k)).toNat 32), 0) :=
  cmp_pc (D := 2) rfl (nums (by simp [hx]; omega)) (Nat.le_of_ble_eq_true rfl) (by decide) (wE (by decide) (oN 2 hx _)
    (rO (k := 3) (by decide) rfl (by decide) (by decide) (oP (sum_ik hi hk)) (rE _ _ _) (by0_nd rfl _) (rE _ _ _)))

theorem or_y (D : Nat) (hD : D ≤ 7) (hy : y < 4294967296) (ts : List Tk) : OpdOk (D + 1) (tkSg sLp :: tkNum y :: tkSg (B [124]) :: tkNum 1 :: tkSg sRp :: ts) (bitsA .or .u32 (y : Int) 1) ts :=
  oP (wP (by omega) (oN D hy _) (rO (k := 8) (by omega) rfl (by decide) (by decide) (oN D (n := 1) (by decide) _) (rP _ _ _ _) (by0_nd rfl _) (rP _ _ _ _)))

include hx hy in
theorem c_5 (o : Nat) (ho : bitsA .or .u32 (y : Int) 1 = o) (h0 : o ≠ 0) : cmpV (B (pcTxt [.s1 40, .num y, .sp, .sg [124], .num 1, .s1 41, .sp, .sg [42], .s1 40, .num x, .sp, .sg [47], .s1 40, .num y, .sp, .sg [124], .num 1, .s1 41, .s1 41, .sp, .sg [43], .num x, .sp, .sg [37], .s1 40, .num y, .sp, .sg [124], .num 1, .s1 41])) =
    (w32 (w32 ((o : Int) * w32 ((x : Int).tdiv o)) + (x : Int).tmod o), 0) := by
  have hb : ∀ s, by0 s (o : Int) = false := fun s => by
    unfold by0
    rw [decide_eq_false (by omega)]
    rfl
  have hor := fun D hD ts => or_y (y := y) D hD hy ts
  rw [ho] at hor
  exact cmp_pc (D := 2) rfl (nums (by simp [hx, hy])) (Nat.le_of_ble_eq_true rfl) (by decide) (wE (by decide) (hor 1 (by decide) _)
    (rO (k := 1) (by decide) rfl (by decide) (by decide)
      (oP (wP (by decide) (oN 1 hx _) (rO (k := 1) (by decide) rfl (by decide) (by decide) (hor 0 (by decide) _) (rP _ _ _ _) (hb _) (rP _ _ _ _))))
      (rS 2 1 _ rfl _ _) (by0_nd rfl _)
    (RwsOk.step (k := 2) (by decide) rfl (by decide) (by decide) (oN 2 hx _)
      (rO (k := 1) (by decide) rfl (by decide) (by decide) (hor 1 (by decide) _) (rE _ _ _) (hb _) (rE _ _ _)) (by0_nd rfl _) (rE _ _ _))))

include hx hy in
theorem c_6 : cmpV (B (pcTxt [.num x, .sp, .sg [94], .num y, .sp, .sg [94], .num y])) = (bitsA .xor .u32 (bitsA .xor .u32 (x : Int) y) y, 0) :=
  cmp_pc (D := 2) rfl (nums (by simp [hx, hy])) (Nat.le_of_ble_eq_true rfl) (by decide) (wE (by decide) (oN 2 hx _)
    (rO (k := 7) (by decide) rfl (by decide) (by decide) (oN 2 hy _) (rS 2 7 _ rfl _ _) (by0_nd rfl _)
    (rO (k := 7) (by decide) rfl (by decide) (by decide) (oN 2 hy _) (rE _ _ _) (by0_nd rfl _) (rE _ _ _))))

include hx hy in
theorem c_7a : cmpV (B (33 :: pcTxt [.s1 40, .num x, .sp, .sg [60], .num y, .s1 41])) = (tr (decide ((0 : Int) = tr (decide ((x : Int) < y)))), 0) := by
  have hok : pcOk [.s1 40, .num x, .sp, .sg [60], .num y, .s1 41] = true := rfl
  have h1 := pcTxt_len [.s1 40, .num x, .sp, .sg [60], .num y, .s1 41] hok
  have h2 : Lx (33 :: pcTxt [.s1 40, .num x, .sp, .sg [60], .num y, .s1 41]) (tkSg (B [33]) :: pcToks [.s1 40, .num x, .sp, .sg [60], .num y, .s1 41]) :=
    Lx.bang (pcLx _ hok (nums (by simp [hx, hy])))
  exact cmp_ok (D := 2) (by simp only [List.length_cons] at h1 ⊢; simp only [List.length_nil] at h1; omega) h2 (Nat.le_of_ble_eq_true rfl) (by decide)
    (wE (by decide) (oF (B [33]) rfl (oP (wP (by decide) (oN 1 hx _) (rO (k := 4) (by decide) rfl (by decide) (by decide) (oN 1 hy _) (rP _ _ _ _) (by0_nd rfl _) (rP _ _ _ _))))) (rE _ _ _))

include hx hy in
theorem c_7b : cmpV (B (pcTxt [.num x, .sp, .sg [62, 61], .num y])) = (tr (decide ((y : Int) ≤ x)), 0) :=
  cmp_pc (D := 2) rfl (nums (by simp [hx, hy])) (Nat.le_of_ble_eq_true rfl) (by decide) (wE (by decide) (oN 2 hx _)
    (rO (k := 4) (by decide) rfl (by decide) (by decide) (oN 2 hy _) (rE _ _ _) (by0_nd rfl _) (rE _ _ _)))

include hx hy in
theorem c_8b : cmpV (B (pcTxt [.num x, .sp, .sg [43], .num y])) = (w32 ((x : Int) + y), 0) :=
  cmp_pc (D := 2) rfl (nums (by simp [hx, hy])) (Nat.le_of_ble_eq_true rfl) (by decide) (wE (by decide) (oN 2 hx _)
    (rO (k := 2) (by decide) rfl (by decide) (by decide) (oN 2 hy _) (rE _ _ _) (by0_nd rfl _) (rE _ _ _)))

include hx hy in
theorem c_8a : cmpV (B (pcTxt [.s1 40, .num x, .sp, .sg [38], .num y, .s1 41, .sp, .sg [43], .s1 40, .num x, .sp, .sg [124], .num y, .s1 41])) = (w32 (bitsA .and .u32 (x : Int) y + bitsA .or .u32 (x : Int) y), 0) :=
  cmp_pc (D := 2) rfl (nums (by simp [hx, hy])) (Nat.le_of_ble_eq_true rfl) (by decide) (wE (by decide)
    (oP (wP (by decide) (oN 1 hx _) (rO (k := 6) (by decide) rfl (by decide) (by decide) (oN 1 hy _) (rP _ _ _ _) (by0_nd rfl _) (rP _ _ _ _))))
    (rO (k := 2) (by decide) rfl (by decide) (by decide)
      (oP (wP (by decide) (oN 1 hx _) (rO (k := 8) (by decide) rfl (by decide) (by decide) (oN 1 hy _) (rP _ _ _ _) (by0_nd rfl _) (rP _ _ _ _)))) (rE _ _ _) (by0_nd rfl _) (rE _ _ _)))
end
end Go.Ab

/- ExpressionRanks: signs and their ranks. -/
namespace Go.Ab
open Go.Proofs
set_option linter.unusedSectionVars false
set_option maxRecDepth 100000
variable [GlobX]

section
variable {a b c kp kq : Nat} {p q : List UInt8} (ha : a < 4294967296) (hb : b < 4294967296) (hc : c < 4294967296) (hp : p ∈ signs) (hq : q ∈ signs) (ep : betw (B p) = kp) (eq : betw (B q) = kq) (p0 : kp ≠ 0) (q0 : kq ≠ 0) (p1 : kp < 11) (q1 : kq < 11)

theorem sgc {s : List UInt8} (h : s ∈ signs) : signs.contains s = true := by simpa using h

include ha hb hc hp hq ep eq p0 q0 p1 q1 in
theorem rank_l1 (hk : kp ≤ kq) (bp : by0 (B p) b = false) (bq : by0 (B q) c = false) : cmpV (B (pcTxt [.num a, .sp, .sg p, .num b, .sp, .sg q, .num c])) = (calcV kq (B q) (calcV kp (B p) a b) c, 0) :=
  cmp_pc (D := 2) (by simp only [pcOk, Pc.after, sgc hp, sgc hq]; rfl) (nums (by simp [ha, hb, hc])) (Nat.le_of_ble_eq_true rfl) (by decide) (wE (by decide) (oN 2 ha _)
    (rO (k := kp) (by decide) ep p0 p1 (oN 2 hb _) (rS 2 kp _ (by rw [eq]; exact Nat.ble_eq_true_of_le hk) _ _) bp
    (rO (k := kq) (by decide) eq q0 q1 (oN 2 hc _) (rE _ _ _) bq (rE _ _ _))))

include ha hb hc hp hq ep eq p0 q0 p1 q1 in
theorem rank_l2 (bp : by0 (B p) b = false) (bq : by0 (B q) c = false) : cmpV (B (pcTxt [.s1 40, .num a, .sg p, .num b, .s1 41, .sg q, .num c])) = (calcV kq (B q) (calcV kp (B p) a b) c, 0) :=
  cmp_pc (D := 2) (by simp only [pcOk, Pc.after, sgc hp, sgc hq]; rfl) (nums (by simp [ha, hb, hc])) (Nat.le_of_ble_eq_true rfl) (by decide) (wE (by decide)
    (oP (wP (by decide) (oN 1 ha _) (rO (k := kp) (by decide) ep p0 p1 (oN 1 hb _) (rP _ _ _ _) bp (rP _ _ _ _))))
    (rO (k := kq) (by decide) eq q0 q1 (oN 2 hc _) (rE _ _ _) bq (rE _ _ _)))

include ha hb hc hp hq ep eq p0 q0 p1 q1 in
theorem rank_r1 (hk : kq < kp) (bp : divs (B p) = false) (bq : by0 (B q) c = false) : cmpV (B (pcTxt [.num a, .sp, .sg p, .num b, .sp, .sg q, .num c])) = (calcV kp (B p) a (calcV kq (B q) b c), 0) :=
  cmp_pc (D := 2) (by simp only [pcOk, Pc.after, sgc hp, sgc hq]; rfl) (nums (by simp [ha, hb, hc])) (Nat.le_of_ble_eq_true rfl) (by decide) (wE (by decide) (oN 2 ha _)
    (RwsOk.step (k := kp) (by decide) ep p0 p1 (oN 2 hb _) (rO (k := kq) (by decide) eq q0 hk (oN 2 hc _) (rE _ _ _) bq (rE _ _ _)) (by0_nd bp _) (rE _ _ _)))

include ha hb hc hp hq ep eq p0 q0 p1 q1 in
theorem rank_r2 (bp : divs (B p) = false) (bq : by0 (B q) c = false) : cmpV (B (pcTxt [.num a, .sp, .sg p, .s1 40, .num b, .sg q, .num c, .s1 41])) = (calcV kp (B p) a (calcV kq (B q) b c), 0) :=
  cmp_pc (D := 2) (by simp only [pcOk, Pc.after, sgc hp, sgc hq]; rfl) (nums (by simp [ha, hb, hc])) (Nat.le_of_ble_eq_true rfl) (by decide) (wE (by decide) (oN 2 ha _)
    (rO (k := kp) (by decide) ep p0 p1 (oP (wP (by decide) (oN 1 hb _) (rO (k := kq) (by decide) eq q0 q1 (oN 1 hc _) (rP _ _ _ _) bq (rP _ _ _ _)))) (rE _ _ _) (by0_nd bp _) (rE _ _ _)))
end

/-! The rows of signs as the law has them. -/
def rkL : List (List ByteArray) := [[⟨#[124, 124]⟩], [⟨#[38, 38]⟩], [⟨#[124]⟩], [⟨#[94]⟩], [⟨#[38]⟩], [⟨#[61, 61]⟩, ⟨#[33, 61]⟩], [⟨#[60]⟩, ⟨#[62]⟩, ⟨#[60, 61]⟩, ⟨#[62, 61]⟩], [⟨#[60, 60]⟩, ⟨#[62, 62]⟩], [⟨#[43]⟩, ⟨#[45]⟩], [⟨#[42]⟩, ⟨#[47]⟩, ⟨#[37]⟩]]
def rkB : List (List (List UInt8)) := [[[124, 124]], [[38, 38]], [[124]], [[94]], [[38]], [[61, 61], [33, 61]], [[60], [62], [60, 61], [62, 61]], [[60, 60], [62, 62]], [[43], [45]], [[42], [47], [37]]]

theorem rk_len : ∀ i : Fin 10, 1 ≤ (rkL.getD i.val []).length ∧ (rkL.getD i.val []).length ≤ 4 := by decide +kernel
theorem rk_fact : ∀ i : Fin 10, ∀ m : Fin 4, m.val < (rkL.getD i.val []).length → (rkL.getD i.val []).getD m.val ⟨#[]⟩ = B ((rkB.getD i.val []).getD m.val []) ∧ signs.contains ((rkB.getD i.val []).getD m.val []) = true ∧ ((rkB.getD i.val []).getD m.val []).length ≤ 2 ∧
    betw (B ((rkB.getD i.val []).getD m.val [])) = 10 - i.val ∧ (divs (B ((rkB.getD i.val []).getD m.val [])) = true → i.val = 9) := by decide +kernel

/-- A sign of the rows. -/
theorem rk_sign {i m : Int} (hi : 0 ≤ i ∧ i < 10) (hm : 0 ≤ m ∧ m < ((rkL.getD i.toNat []).length : Int)) : ∃ s : List UInt8, (rkL.getD i.toNat []).getD m.toNat ⟨#[]⟩ = B s ∧ s ∈ signs ∧ s.length ≤ 2 ∧ betw (B s) = 10 - i.toNat ∧ (divs (B s) = true → i = 9) := by
  have h1 : i.toNat < 10 := by omega
  have h2 := (rk_len ⟨i.toNat, h1⟩).2
  simp only at h2
  have h3 : m.toNat < 4 := by omega
  obtain ⟨e1, e2, e3, e4, e5⟩ := rk_fact ⟨i.toNat, h1⟩ ⟨m.toNat, h3⟩ (by have h5 := hm.2; have h6 := hm.1; show m.toNat < (rkL.getD i.toNat []).length; omega)
  exact ⟨_, e1, by simpa using e2, e3, e4, fun h => by have : i.toNat = 9 := e5 h; omega⟩
end Go.Ab

/- ExpressionRanks: the law. -/
namespace Go.Ab
open Go.Proofs
set_option linter.unusedSectionVars false
set_option maxRecDepth 100000
variable [GlobX]

def X72 : Table := ext X66 5 saysTapeLaw

abbrev vS (s : ByteArray) : XV := .s (.a (.c (.p (.v (.string s)))))
abbrev vI (n : Int) : XV := .s (.a (.c (.p (.v (.int .i64 n)))))
abbrev tokS (n : Nat) : AO := .tok 9 .str n false
abbrev rkToks : List AO := [tokS 1, tokS 1, tokS 1, tokS 1, tokS 1, tokS 2, tokS 4, tokS 2, tokS 2, tokS 3, .tok 33 (.list .str) 10 false]

set_option maxHeartbeats 4000000 in
theorem x72 : TSound Tryz.prog X72 := by
  refine ext_run x66 (f := 5) (fn := Tryz.f5) rfl rfl [0, 2, 3, 4, 5, 6, 7, 8, 9, 10, 11, 12, 13, 14, 15, 110] fun args H p r H' hs hp => ?_
  unfold saysTapeLaw at hs
  split at hs
  · rename_i zs
    cases hs
    refine ⟨Nat.le_of_ble_eq_true rfl, [], rfl, fun k hk => absurd hk (Nat.not_lt_zero k), ?_⟩
    have ht0 := tape_new zs
    generalize hz : (zs : List Int).take 500 = ys at ht0
    refine runF_shut rfl fun K0 hK0 => ?_
    refine seq_shut fun K1 hK1 => ?_
    repeat ((conv => whnf); refine ⟨by first | (unfold inI64; omega) | omega | exact ⟨by omega, by omega⟩ | (intro hg; first | (unfold inI64; omega) | omega | exact ⟨by omega, by omega⟩ | (simp [lit] at hg; unfold inI64; omega) | (simp [lit] at hg; omega) | (simp [lit] at hg; exact ⟨by omega, by omega⟩)) | (show (_ : Nat) + 1 ≤ 1000000000000; omega) | exact rfl | (unfold inI64; dsimp only; omega) | (dsimp only; omega) | (intro hg; simp [lit] at hg; first | (unfold inI64; dsimp only; omega) | (dsimp only; omega)) | decide +kernel, ?_⟩)
    conv => whnf
    rw [hK1]
    show runC _ _ _ (.seq _ _) _ _ _
    refine seq_shut fun K2 hK2 => ?_
    repeat ((conv => whnf); refine ⟨by first | (unfold inI64; omega) | omega | exact ⟨by omega, by omega⟩ | (intro hg; first | (unfold inI64; omega) | omega | exact ⟨by omega, by omega⟩ | (simp [lit] at hg; unfold inI64; omega) | (simp [lit] at hg; omega) | (simp [lit] at hg; exact ⟨by omega, by omega⟩)) | (show (_ : Nat) + 1 ≤ 1000000000000; omega) | exact rfl | (unfold inI64; dsimp only; omega) | (dsimp only; omega) | (intro hg; simp [lit] at hg; first | (unfold inI64; dsimp only; omega) | (dsimp only; omega)) | decide +kernel, ?_⟩)
    conv => whnf
    rw [hz, hK2]
    show runC _ _ _ (.seq _ _) _ _ _
    refine seq_shut fun K3 hK3 => ?_
    repeat ((conv => whnf); refine ⟨by first | (unfold inI64; omega) | omega | exact ⟨by omega, by omega⟩ | (intro hg; first | (unfold inI64; omega) | omega | exact ⟨by omega, by omega⟩ | (simp [lit] at hg; unfold inI64; omega) | (simp [lit] at hg; omega) | (simp [lit] at hg; exact ⟨by omega, by omega⟩)) | (show (_ : Nat) + 1 ≤ 1000000000000; omega) | exact rfl | (unfold inI64; dsimp only; omega) | (dsimp only; omega) | (intro hg; simp [lit] at hg; first | (unfold inI64; dsimp only; omega) | (dsimp only; omega)) | decide +kernel, ?_⟩)
    conv => whnf
    rw [hK3]
    show runC _ _ _ (.seq _ _) [(0, .s (.a (.c (.p (.l (.int .i64) zs))))), (2, .s (.bool false)), (3, .s (.a (.c (.ptr 0 0)))), (4, .s (.a (.c (.own 11 (.list .str) rkL)))), (5, .s .none), (6, .s .none), (7, .s .none), (8, .s .none), (9, .s .none), (10, .s .none), (11, .s .none), (12, .s .none), (13, .s .none), (14, .s .none), (15, .s .none), (110, .s .none)] (tapeO ys 0 :: rkToks) _
    refine seq_shut fun K4 hK4 => ?_
    have r1 := rawN_ok ht0
    have r2 := rawN_ok r1
    have r3 := rawN_ok r2
    have r4 := rawN_ok r3
    repeat ((conv => whnf); refine ⟨by first | exact ⟨ht0, by decide⟩ | exact ⟨r1, by decide⟩ | (unfold inI64; omega) | omega | exact ⟨by omega, by omega⟩ | (intro hg; first | (unfold inI64; omega) | omega | exact ⟨by omega, by omega⟩ | (simp [lit] at hg; unfold inI64; omega) | (simp [lit] at hg; omega) | (simp [lit] at hg; exact ⟨by omega, by omega⟩)) | (show (_ : Nat) + 1 ≤ 1000000000000; omega) | exact rfl | (unfold inI64; dsimp only; omega) | (dsimp only; omega) | (intro hg; simp [lit] at hg; first | (unfold inI64; dsimp only; omega) | (dsimp only; omega)) | decide +kernel, ?_⟩)
    conv => whnf
    rw [hK4]
    show runC _ _ _ (.seq _ _) [(0, .s (.a (.c (.p (.l (.int .i64) zs))))), (2, .s (.bool false)), (3, .s (.a (.c (.ptr 0 0)))), (4, .s (.a (.c (.own 11 (.list .str) rkL)))), (5, vI (modV (rawV ys 0) 10)), (6, vI (modV (rawV ys (rawN ys 0)) 10)), (7, .s .none), (8, .s .none), (9, .s .none), (10, .s .none), (11, .s .none), (12, .s .none), (13, .s .none), (14, .s .none), (15, .s .none), (110, .s .none)] (tapeO ys (rawN ys (rawN ys 0)) :: rkToks) _
    have hi : 0 ≤ (modV (rawV ys 0) 10) ∧ (modV (rawV ys 0) 10) < 10 := ⟨modV_nonneg _ _, modV_lt _ _ (by decide)⟩
    have hj : 0 ≤ (modV (rawV ys (rawN ys 0)) 10) ∧ (modV (rawV ys (rawN ys 0)) 10) < 10 := ⟨modV_nonneg _ _, modV_lt _ _ (by decide)⟩
    generalize (modV (rawV ys 0) 10) = i at hi ⊢
    generalize (modV (rawV ys (rawN ys 0)) 10) = j at hj ⊢
    generalize (rawN ys (rawN ys 0)) = n2 at r2 r3 r4 ⊢
    have li := rk_len ⟨i.toNat, by omega⟩
    have lj := rk_len ⟨j.toNat, by omega⟩
    simp only at li lj
    have mi : 0 ≤ (modV (rawV ys n2) ((rkL.getD i.toNat []).length : Int)) ∧ (modV (rawV ys n2) ((rkL.getD i.toNat []).length : Int)) < ((rkL.getD i.toNat []).length : Int) := ⟨modV_nonneg _ _, modV_lt _ _ (by omega)⟩
    have mj : 0 ≤ (modV (rawV ys (rawN ys n2)) ((rkL.getD j.toNat []).length : Int)) ∧ (modV (rawV ys (rawN ys n2)) ((rkL.getD j.toNat []).length : Int)) < ((rkL.getD j.toNat []).length : Int) := ⟨modV_nonneg _ _, modV_lt _ _ (by omega)⟩
    have ni : tapeOk ys n2 ∧ ((rkL.getD i.toNat []).length : Int) ≤ 4611686018427387904 := ⟨r2, by omega⟩
    have nj : tapeOk ys (rawN ys n2) ∧ ((rkL.getD j.toNat []).length : Int) ≤ 4611686018427387904 := ⟨r3, by omega⟩
    refine seq_shut fun K5 hK5 => ?_
    repeat ((conv => whnf); refine ⟨by first | exact hi | exact hj | exact ni | exact nj | exact mi | exact mj | decide +kernel, ?_⟩)
    conv => whnf
    rw [hK5]
    show runC _ _ _ (.seq _ _) [(0, .s (.a (.c (.p (.l (.int .i64) zs))))), (2, .s (.bool false)), (3, .s (.a (.c (.ptr 0 0)))), (4, .s (.a (.c (.own 11 (.list .str) rkL)))), (5, vI i), (6, vI j), (7, vS ((rkL.getD i.toNat []).getD (modV (rawV ys n2) ((rkL.getD i.toNat []).length : Int)).toNat ⟨#[]⟩)), (8, vS ((rkL.getD j.toNat []).getD (modV (rawV ys (rawN ys n2)) ((rkL.getD j.toNat []).length : Int)).toNat ⟨#[]⟩)), (9, .s .none), (10, .s .none), (11, .s .none), (12, .s .none), (13, .s .none), (14, .s .none), (15, .s .none), (110, .s .none)] (tapeO ys (rawN ys (rawN ys n2)) :: rkToks) _
    obtain ⟨sp, eP, hP1, hP2, hP3, hP4⟩ := rk_sign hi mi
    obtain ⟨sq, eQ, hQ1, hQ2, hQ3, hQ4⟩ := rk_sign hj mj
    rw [eP, eQ]
    generalize rawN ys (rawN ys n2) = n4 at r4 ⊢
    have r5 := tnN_ok r4
    have r6 := rawN_ok r5
    have na : In32 (tnV ys n4) := tnV_in _ _
    have nb := modV_nonneg (rawV ys (tnN ys n4)) 40
    have nb2 := modV_lt (rawV ys (tnN ys n4)) 40 (by decide)
    have nc := modV_nonneg (rawV ys (rawN ys (tnN ys n4))) 40
    have nc2 := modV_lt (rawV ys (rawN ys (tnN ys n4))) 40 (by decide)
    have ib : inI64 (1 + modV (rawV ys (tnN ys n4)) 40) := by unfold inI64; omega
    have ic : inI64 (1 + modV (rawV ys (rawN ys (tnN ys n4))) 40) := by unfold inI64; omega
    refine seq_shut fun K6 hK6 => ?_
    repeat ((conv => whnf); refine ⟨by first | exact r4 | exact ⟨r5, by decide⟩ | exact ⟨r6, by decide⟩ | exact ib | exact ic, ?_⟩)
    conv => whnf
    rw [hK6]
    show runC _ _ _ (.seq _ _) [(0, .s (.a (.c (.p (.l (.int .i64) zs))))), (2, .s (.bool false)), (3, .s (.a (.c (.ptr 0 0)))), (4, .s (.a (.c (.own 11 (.list .str) rkL)))), (5, vI i), (6, vI j), (7, vS (B sp)), (8, vS (B sq)), (9, vS (fmtV (tnV ys n4))), (10, vS (fmtV (1 + modV (rawV ys (tnN ys n4)) 40))), (11, vS (fmtV (1 + modV (rawV ys (rawN ys (tnN ys n4))) 40))), (12, .s .none), (13, .s .none), (14, .s .none), (15, .s .none), (110, .s .none)] (tapeO ys (rawN ys (rawN ys (tnN ys n4))) :: rkToks) _
    obtain ⟨a, ea⟩ : ∃ a : Nat, (tnV ys n4) = a := ⟨(tnV ys n4).toNat, by have := na.1; omega⟩
    obtain ⟨b, eb⟩ : ∃ b : Nat, (1 + modV (rawV ys (tnN ys n4)) 40) = b := ⟨(1 + modV (rawV ys (tnN ys n4)) 40).toNat, by omega⟩
    obtain ⟨c, ec⟩ : ∃ c : Nat, (1 + modV (rawV ys (rawN ys (tnN ys n4))) 40) = c := ⟨(1 + modV (rawV ys (rawN ys (tnN ys n4))) 40).toNat, by omega⟩
    have ha : a < 4294967296 := by have := na.2; omega
    have hb : b < 4294967296 ∧ b ≠ 0 := by omega
    have hc : c < 4294967296 ∧ c ≠ 0 := by omega
    rw [ea, eb, ec, fmtV_L (by omega) (by omega), fmtV_L (by omega) (by omega), fmtV_L (by omega) (by omega), Int.toNat_natCast, Int.toNat_natCast, Int.toNat_natCast]
    generalize rawN ys (rawN ys (tnN ys n4)) = n5
    clear ea eb ec nb nb2 nc nc2 ib ic na r5 r6 r4 eP eQ mi mj ni nj
    have la := fmtL_len a
    have lb := fmtL_len b
    have lc := fmtL_len c
    have bs : ∀ l : List UInt8, (⟨l.toArray⟩ : ByteArray) = B l := fun _ => rfl
    have e1 : B (fmtL a) ++ ⟨#[32]⟩ ++ B sp ++ ⟨#[32]⟩ ++ B (fmtL b) ++ ⟨#[32]⟩ ++ B sq ++ ⟨#[32]⟩ ++ B (fmtL c) = B (pcTxt [.num a, .sp, .sg sp, .num b, .sp, .sg sq, .num c]) := by simp [bs, B_append, pcTxt, Pc.txt, List.append_assoc]
    have e2 : ⟨#[40]⟩ ++ B (fmtL a) ++ B sp ++ ⟨#[32]⟩ ++ B (fmtL b) ++ ⟨#[41]⟩ ++ B sq ++ ⟨#[32]⟩ ++ B (fmtL c) = B (pcTxt [.s1 40, .num a, .sg sp, .num b, .s1 41, .sg sq, .num c]) := by simp [bs, B_append, pcTxt, Pc.txt, List.append_assoc]
    have e3 : B (fmtL a) ++ ⟨#[32]⟩ ++ B sp ++ ⟨#[32, 40]⟩ ++ B (fmtL b) ++ B sq ++ ⟨#[32]⟩ ++ B (fmtL c) ++ ⟨#[41]⟩ = B (pcTxt [.num a, .sp, .sg sp, .s1 40, .num b, .sg sq, .num c, .s1 41]) := by simp [bs, B_append, pcTxt, Pc.txt, List.append_assoc]
    refine seq_shut fun K7 hK7 => ?_
    repeat ((conv => whnf); refine ⟨by first | (simp only [ByteArray.size_append, bsz2, List.size_toArray, List.length_cons, List.length_nil]; omega) | (unfold inI64; omega) | omega | exact ⟨by omega, by omega⟩ | (intro hg; first | (unfold inI64; omega) | omega | exact ⟨by omega, by omega⟩ | (simp [lit] at hg; unfold inI64; omega) | (simp [lit] at hg; omega) | (simp [lit] at hg; exact ⟨by omega, by omega⟩)) | (show (_ : Nat) + 1 ≤ 1000000000000; omega) | exact rfl | (unfold inI64; dsimp only; omega) | (dsimp only; omega) | (intro hg; simp [lit] at hg; first | (unfold inI64; dsimp only; omega) | (dsimp only; omega)) | decide +kernel, ?_⟩)
    conv => whnf
    rw [e1, hK7]
    show runC _ _ _ (.seq _ _) _ _ _
    refine seq_shut fun K8 hK8 => ?_
    repeat ((conv => whnf); refine ⟨by first | (simp only [ByteArray.size_append, bsz2, List.size_toArray, List.length_cons, List.length_nil]; omega) | (unfold inI64; omega) | omega | exact ⟨by omega, by omega⟩ | (intro hg; first | (unfold inI64; omega) | omega | exact ⟨by omega, by omega⟩ | (simp [lit] at hg; unfold inI64; omega) | (simp [lit] at hg; omega) | (simp [lit] at hg; exact ⟨by omega, by omega⟩)) | (show (_ : Nat) + 1 ≤ 1000000000000; omega) | exact rfl | (unfold inI64; dsimp only; omega) | (dsimp only; omega) | (intro hg; simp [lit] at hg; first | (unfold inI64; dsimp only; omega) | (dsimp only; omega)) | decide +kernel, ?_⟩)
    conv => whnf
    rw [e2, hK8]
    show runC _ _ _ (.seq _ _) _ _ _
    repeat ((conv => whnf); refine ⟨by first | (unfold inI64; omega) | omega | exact ⟨by omega, by omega⟩ | (intro hg; first | (unfold inI64; omega) | omega | exact ⟨by omega, by omega⟩ | (simp [lit] at hg; unfold inI64; omega) | (simp [lit] at hg; omega) | (simp [lit] at hg; exact ⟨by omega, by omega⟩)) | (show (_ : Nat) + 1 ≤ 1000000000000; omega) | exact rfl | (unfold inI64; dsimp only; omega) | (dsimp only; omega) | (intro hg; simp [lit] at hg; first | (unfold inI64; dsimp only; omega) | (dsimp only; omega)) | decide +kernel, ?_⟩)
    conv => whnf
    refine cond_intro (fun hk => ?_) (fun hk => ?_)
    · have hk' : i < j := of_decide_eq_true hk
      have bp : divs (B sp) = false := by
        cases hd : divs (B sp) with
        | false => rfl
        | true => exfalso; have := hP4 hd; omega
      have v1 := rank_r1 ha hb.1 hc.1 hP1 hQ1 hP3 hQ3 (by omega) (by omega) (by omega) (by omega) (by omega) bp (by0_nz _ (by omega))
      have v2 := rank_r2 ha hb.1 hc.1 hP1 hQ1 hP3 hQ3 (by omega) (by omega) (by omega) (by omega) bp (by0_nz _ (by omega))
      repeat ((conv => whnf); refine ⟨by first | (simp only [ByteArray.size_append, bsz2, List.size_toArray, List.length_cons, List.length_nil]; omega) | (unfold inI64; omega) | omega | exact ⟨by omega, by omega⟩ | (intro hg; first | (unfold inI64; omega) | omega | exact ⟨by omega, by omega⟩ | (simp [lit] at hg; unfold inI64; omega) | (simp [lit] at hg; omega) | (simp [lit] at hg; exact ⟨by omega, by omega⟩)) | (show (_ : Nat) + 1 ≤ 1000000000000; omega) | exact rfl | (unfold inI64; dsimp only; omega) | (dsimp only; omega) | (intro hg; simp [lit] at hg; first | (unfold inI64; dsimp only; omega) | (dsimp only; omega)) | decide +kernel, ?_⟩)
      conv => whnf
      rw [hK0, e3, v1, v2]
      conv => whnf
      refine ends_eq ⟨?_, rfl⟩
      simp
    · have hk' : ¬ i < j := of_decide_eq_false hk
      have v1 := rank_l1 ha hb.1 hc.1 hP1 hQ1 hP3 hQ3 (by omega) (by omega) (by omega) (by omega) (by omega) (by0_nz _ (by omega)) (by0_nz _ (by omega))
      have v2 := rank_l2 ha hb.1 hc.1 hP1 hQ1 hP3 hQ3 (by omega) (by omega) (by omega) (by omega) (by0_nz _ (by omega)) (by0_nz _ (by omega))
      repeat ((conv => whnf); refine ⟨by first | (unfold inI64; omega) | omega | exact ⟨by omega, by omega⟩ | (intro hg; first | (unfold inI64; omega) | omega | exact ⟨by omega, by omega⟩ | (simp [lit] at hg; unfold inI64; omega) | (simp [lit] at hg; omega) | (simp [lit] at hg; exact ⟨by omega, by omega⟩)) | (show (_ : Nat) + 1 ≤ 1000000000000; omega) | exact rfl | (unfold inI64; dsimp only; omega) | (dsimp only; omega) | (intro hg; simp [lit] at hg; first | (unfold inI64; dsimp only; omega) | (dsimp only; omega)) | decide +kernel, ?_⟩)
      conv => whnf
      rw [hK0, v1, v2]
      conv => whnf
      refine ends_eq ⟨?_, rfl⟩
      simp
  · cases hs
end Go.Ab
