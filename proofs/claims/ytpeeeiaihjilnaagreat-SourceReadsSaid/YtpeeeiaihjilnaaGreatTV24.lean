/- The tape: expressions with all brackets. -/
import Derived.Test.YtpeeeiaihjilnaaGreatTV22toV23
namespace Go.Ab
open Go.Proofs
set_option linter.unusedSectionVars false
set_option maxRecDepth 100000
variable [Glob]
def opB (op : Int) (a : ByteArray) (x : Int) (b : ByteArray) (y : Int) : ByteArray × Int :=
 if op = 0 then (⟨#[45]⟩ ++ a, w32 (0 - x))
 else if op = 1 then (⟨#[126]⟩ ++ a, bitsA .xor .u32 4294967295 x)
 else if op = 2 then (⟨#[33]⟩ ++ a, tr (decide (0 = x)))
 else if op = 3 then (a ++ ⟨#[32, 43, 32]⟩ ++ b, w32 (x + y))
 else if op = 4 then (a ++ ⟨#[45]⟩ ++ b, w32 (x - y))
 else if op = 5 then (a ++ ⟨#[32, 42, 32]⟩ ++ b, w32 (x * y))
 else if op = 6 then (if y = 0 then (a ++ ⟨#[47, 32, 49]⟩, x) else (a ++ ⟨#[32, 47, 32]⟩ ++ b, w32 (x.tdiv y)))
 else if op = 7 then (if y = 0 then (a ++ ⟨#[32, 37, 32, 55]⟩, x.tmod 7) else (a ++ ⟨#[32, 37, 32]⟩ ++ b, x.tmod y))
 else if op = 8 then (a ++ ⟨#[32, 60, 60, 32]⟩ ++ b, w32 (x * 2 ^ min y.toNat 32))
 else if op = 9 then (a ++ ⟨#[32, 62, 62, 32]⟩ ++ b, x.fdiv (2 ^ min y.toNat 32))
 else if op = 10 then (a ++ ⟨#[32, 38, 32]⟩ ++ b, bitsA .and .u32 x y)
 else if op = 11 then (a ++ ⟨#[32, 124, 32]⟩ ++ b, bitsA .or .u32 x y)
 else if op = 12 then (a ++ ⟨#[32, 94, 32]⟩ ++ b, bitsA .xor .u32 x y)
 else if op = 13 then (a ++ ⟨#[32, 61, 61, 32]⟩ ++ b, tr (decide (x = y)))
 else if op = 14 then (a ++ ⟨#[32, 33, 61, 32]⟩ ++ b, tr (!decide (x = y)))
 else if op = 15 then (a ++ ⟨#[32, 60, 32]⟩ ++ b, tr (decide (x < y)))
 else if op = 16 then (a ++ ⟨#[32, 62, 61, 32]⟩ ++ b, tr (decide (y ≤ x)))
 else if op = 17 then (a ++ ⟨#[32, 38, 38, 32]⟩ ++ b, tr (!decide (x = 0) && !decide (y = 0)))
 else if op = 18 then (a ++ ⟨#[32, 124, 124, 32]⟩ ++ b, tr (!decide (x = 0) || !decide (y = 0)))
 else (a ++ ⟨#[32, 63, 32]⟩ ++ b ++ ⟨#[32, 58, 32, 53]⟩, if x ≠ 0 then y else 5)
theorem opB2z {a b : ByteArray} {x y : Int} (h : x = 0) : opB 2 a x b y = (⟨#[33]⟩ ++ a, 1) := by subst h; rfl
theorem opB2n {a b : ByteArray} {x y : Int} (h : ¬ x = 0) : opB 2 a x b y = (⟨#[33]⟩ ++ a, 0) := by
 show (⟨#[33]⟩ ++ a, tr (decide (0 = x))) = _
 rw [decide_eq_false (fun e => h e.symm)]
 rfl
theorem opB6z {a b : ByteArray} {x y : Int} (h : y = 0) : opB 6 a x b y = (a ++ ⟨#[47, 32, 49]⟩, x) := by subst h; rfl
theorem opB6n {a b : ByteArray} {x y : Int} (h : ¬ y = 0) : opB 6 a x b y = (a ++ ⟨#[32, 47, 32]⟩ ++ b, w32 (x.tdiv y)) := by
 show (if y = 0 then _ else _) = _
 rw [if_neg h]
theorem opB7z {a b : ByteArray} {x y : Int} (h : y = 0) : opB 7 a x b y = (a ++ ⟨#[32, 37, 32, 55]⟩, x.tmod 7) := by subst h; rfl
theorem opB7n {a b : ByteArray} {x y : Int} (h : ¬ y = 0) : opB 7 a x b y = (a ++ ⟨#[32, 37, 32]⟩ ++ b, x.tmod y) := by
 show (if y = 0 then _ else _) = _
 rw [if_neg h]
theorem opB19n {a b : ByteArray} {x y : Int} (h : ¬ x = 0) : opB 19 a x b y = (a ++ ⟨#[32, 63, 32]⟩ ++ b ++ ⟨#[32, 58, 32, 53]⟩, y) := by
 show (_, if x ≠ 0 then y else 5) = _
 rw [if_pos h]
theorem opB19z {a b : ByteArray} {x y : Int} (h : x = 0) : opB 19 a x b y = (a ++ ⟨#[32, 63, 32]⟩ ++ b ++ ⟨#[32, 58, 32, 53]⟩, 5) := by subst h; rfl
def inB (a : ByteArray) : ByteArray := ⟨#[40]⟩ ++ a ++ ⟨#[41]⟩
def exprT (zs : List Int) : Nat → Int → ByteArray × Int × Int
 | 0, n => (B (basedV false 10 (tnV zs n).toNat), w32 (tnV zs n), tnN zs n)
 | d + 1, n =>
  if modV (rawV zs n) 5 = 0 then (B (basedV false 10 (tnV zs (rawN zs n)).toNat), w32 (tnV zs (rawN zs n)), tnN zs (rawN zs n))
  else
   let p := exprT zs d (rawN zs n)
   let q := exprT zs d p.2.2
   let r := opB (modV (rawV zs q.2.2) 20) (inB p.1) p.2.1 (inB q.1) q.2.1
   (r.1, r.2, rawN zs q.2.2)
theorem by0_no {s : ByteArray} (h : divs s = false) (y : Int) : by0 s y = false := by0_nd h y
theorem by0_nz (s : ByteArray) {y : Int} (h : y ≠ 0) : by0 s y = false := by unfold by0; rw [decide_eq_false h]; rfl
theorem Lx.bang' {l : List UInt8} {ts : List Tk} (hl : Lx (40 :: l) ts) : Lx (33 :: 40 :: l) (tkSg (B [33]) :: ts) :=
 Lx.tok (p := [33]) (l := 40 :: l) (t := { kind := 4, text := B [33] }) (by kernel_rfl) (by kernel_rfl) (show (4 : Int) ≠ 8 by decide) hl
theorem opB_ok {D L : Nat} (hD : D ≤ 8) {la lb : List UInt8} {ta tb : List Tk} {x y : Int} (ha : OpB D L la ta x) (hb : OpB D L lb tb y) (op : Int) (h0 : 0 ≤ op) (h1 : op < 20) :
  ∃ l ts, (opB op (B la) x (B lb) y).1 = B l ∧ ExOk D (L + L + 7) l ts (opB op (B la) x (B lb) y).2 := by
 have rx := ha.rng
 have ry := hb.rng
 have bin : ∀ (s : List UInt8) (k : Nat) (v : Int), s ∈ signs → betw (B s) = k → k ≠ 0 → k < 11 → s.length ≤ 2 → by0 (B s) y = false → calcV k (B s) x y = v → In32 v →
   ∃ ts, ExOk D (L + L + 7) (la ++ (32 :: (s ++ [32])) ++ lb) ts v := by
  intro s k v hs hk hk0 hk1 hl hz hv hr
  subst hv
  exact ⟨_, (OpB.bin hD ha (B s) k hk hk0 hk1 (lxSg hs) (by simp) (by simp; omega) hb.toOpR hz hr (by rw [B_size]; exact hl)).mono (Nat.le_refl D) (by omega)⟩
 have fin : ∀ (s m : List UInt8) (v : Int) (t : ByteArray × Int), m = 32 :: (s ++ [32]) → (∃ ts, ExOk D (L + L + 7) (la ++ (32 :: (s ++ [32])) ++ lb) ts v) → t = (B la ++ B m ++ B lb, v) →
   ∃ l ts, t.1 = B l ∧ ExOk D (L + L + 7) l ts t.2 := by
  rintro s m v t rfl ⟨ts, hts⟩ rfl
  exact ⟨_, ts, by simp only [B_append], hts⟩
 rcases (by omega : op = 0 ∨ op = 1 ∨ op = 2 ∨ op = 3 ∨ op = 4 ∨ op = 5 ∨ op = 6 ∨ op = 7 ∨ op = 8 ∨ op = 9 ∨ op = 10 ∨ op = 11 ∨ op = 12 ∨ op = 13 ∨ op = 14 ∨ op = 15 ∨ op = 16 ∨ op = 17 ∨ op = 18 ∨ op = 19) with
  rfl | rfl | rfl | rfl | rfl | rfl | rfl | rfl | rfl | rfl | rfl | rfl | rfl | rfl | rfl | rfl | rfl | rfl | rfl | rfl
 ·exact ⟨45 :: la, _, (B_append [45] la), (OpB.front hD ha 45 rfl (fun t us h => Lx.sg1 (by decide) h) (in32_w _)).mono (Nat.le_refl D) (by omega)⟩
 ·exact ⟨126 :: la, _, (B_append [126] la), (OpB.front hD ha 126 rfl (fun t us h => Lx.sg1 (by decide) h) (in32_w _)).mono (Nat.le_refl D) (by omega)⟩
 ·exact ⟨33 :: la, tkSg (B [33]) :: ta, (B_append [33] la), (OpB.front hD ha 33 rfl (fun t us h => Lx.bang' h) (in32_tr _)).mono (Nat.le_refl D) (by omega)⟩
 ·exact fin [43] _ _ _ rfl (bin [43] 2 _ (by decide) rfl (by decide) (by decide) (by decide) (by0_no rfl y) rfl (in32_w _)) rfl
 ·refine ⟨la ++ [45] ++ lb, ta ++ tkSg (B [45]) :: tb, ?_, ?_⟩
  ·show B la ++ B [45] ++ B lb = _
   simp only [B_append]
  ·exact (OpB.bin (k := 2) hD ha (B [45]) rfl (by decide) (by decide) (fun r us h => Lx.sg1 (by decide) h) (by simp) (by simp) hb.toOpR (by0_no rfl y) (in32_w _) (Nat.le_succ 1)).mono (Nat.le_refl D) (by omega)
 ·exact fin [42] _ _ _ rfl (bin [42] 1 _ (by decide) rfl (by decide) (by decide) (by decide) (by0_no rfl y) rfl (in32_w _)) rfl
 ·by_cases hy : y = 0
  ·subst hy
   have e1 : basedV false 10 1 = [49] := dec_small (by decide)
   have h1 := opNum D (n := 1) (by decide)
   rw [e1] at h1
   have ev : calcV 1 (B [47]) x 1 = x := by
    show w32 (x.tdiv 1) = x
    rw [Int.tdiv_one, w32_id rx.1 rx.2]
   have h2 := OpB.bin (k := 1) (m := [47, 32]) hD ha (B [47]) rfl (by decide) (by decide) (fun r us h => Lx.sg (s := [47]) (by decide) h) (by simp) (by simp) h1 (by0_nz _ (by decide)) (by rw [show ((1 : Nat) : Int) = 1 from rfl, ev]; exact rx) (Nat.le_succ 1)
   rw [show ((1 : Nat) : Int) = 1 from rfl, ev] at h2
   refine ⟨la ++ [47, 32] ++ [49], ta ++ tkSg (B [47]) :: [tkNum 1], ?_, ?_⟩
   ·show B la ++ B [47, 32, 49] = _
    rw [B_append, List.append_assoc]
    rfl
   ·exact { len := by have := ha.len; simp; omega, tok := h2.tok, rng := h2.rng, gd := h2.gd, lx := h2.lx, wh := h2.wh }
  ·refine fin [47] [32, 47, 32] (w32 (x.tdiv y)) _ rfl (bin [47] 1 _ (by decide) rfl (by decide) (by decide) (by decide) (by0_nz _ hy) rfl (in32_w _)) ?_
   show (if y = 0 then _ else _) = _
   rw [if_neg hy]
 ·by_cases hy : y = 0
  ·subst hy
   have e1 : basedV false 10 7 = [55] := dec_small (by decide)
   have h1 := opNum D (n := 7) (by decide)
   rw [e1] at h1
   have h2 := OpB.bin (k := 1) (m := [32, 37, 32]) hD ha (B [37]) rfl (by decide) (by decide) (lxSg (s := [37]) (by decide)) (by simp) (by simp) h1 (by0_nz _ (by decide)) (show In32 (x.tmod 7) from in32_mod rx ⟨by decide, by decide⟩) (Nat.le_succ 1)
   refine ⟨la ++ [32, 37, 32] ++ [55], ta ++ tkSg (B [37]) :: [tkNum 7], ?_, ?_⟩
   ·show B la ++ B [32, 37, 32, 55] = _
    rw [B_append, List.append_assoc]
    rfl
   ·exact { len := by have := ha.len; simp; omega, tok := h2.tok, rng := h2.rng, gd := h2.gd, lx := h2.lx, wh := h2.wh }
  ·refine fin [37] [32, 37, 32] (x.tmod y) _ rfl (bin [37] 1 _ (by decide) rfl (by decide) (by decide) (by decide) (by0_nz _ hy) rfl (in32_mod rx ry)) ?_
   show (if y = 0 then _ else _) = _
   rw [if_neg hy]
 ·exact fin [60, 60] _ _ _ rfl (bin [60, 60] 3 _ (by decide) rfl (by decide) (by decide) (by decide) (by0_no rfl y) rfl (in32_w _)) rfl
 ·exact fin [62, 62] _ _ _ rfl (bin [62, 62] 3 _ (by decide) rfl (by decide) (by decide) (by decide) (by0_no rfl y) rfl (in32_shr rx _)) rfl
 ·exact fin [38] _ (bitsA .and .u32 x y) _ rfl (bin [38] 6 _ (by decide) rfl (by decide) (by decide) (by decide) (by0_no rfl y) rfl (in32_w _)) rfl
 ·exact fin [124] _ (bitsA .or .u32 x y) _ rfl (bin [124] 8 _ (by decide) rfl (by decide) (by decide) (by decide) (by0_no rfl y) rfl (in32_w _)) rfl
 ·exact fin [94] _ (bitsA .xor .u32 x y) _ rfl (bin [94] 7 _ (by decide) rfl (by decide) (by decide) (by decide) (by0_no rfl y) rfl (in32_w _)) rfl
 ·exact fin [61, 61] _ _ _ rfl (bin [61, 61] 5 _ (by decide) rfl (by decide) (by decide) (by decide) (by0_no rfl y) rfl (in32_tr _)) rfl
 ·exact fin [33, 61] _ _ _ rfl (bin [33, 61] 5 _ (by decide) rfl (by decide) (by decide) (by decide) (by0_no rfl y) rfl (in32_tr _)) rfl
 ·exact fin [60] _ _ _ rfl (bin [60] 4 _ (by decide) rfl (by decide) (by decide) (by decide) (by0_no rfl y) rfl (in32_tr _)) rfl
 ·exact fin [62, 61] _ _ _ rfl (bin [62, 61] 4 _ (by decide) rfl (by decide) (by decide) (by decide) (by0_no rfl y) rfl (in32_tr _)) rfl
 ·exact fin [38, 38] _ _ _ rfl (bin [38, 38] 9 _ (by decide) rfl (by decide) (by decide) (by decide) (by0_no rfl y) rfl (in32_tr _)) rfl
 ·exact fin [124, 124] _ _ _ rfl (bin [124, 124] 10 _ (by decide) rfl (by decide) (by decide) (by decide) (by0_no rfl y) rfl (in32_tr _)) rfl
 ·refine ⟨_, _, ?_, OpB.choice hD ha hb⟩
  show B la ++ B [32, 63, 32] ++ B lb ++ B [32, 58, 32, 53] = _
  simp only [B_append]
def exLen : Nat → Nat
 | 0 => 10
 | d + 1 => (exLen d + 2) + (exLen d + 2) + 7
theorem exLen_pos (d : Nat) : 10 ≤ exLen d := by
 induction d with
 | zero => exact Nat.le_refl _
 | succ d ih => simp only [exLen]; omega
theorem num_ok (zs : List Int) (n : Int) (D : Nat) (hD : D ≤ 8) : ∃ l ts, B (basedV false 10 (tnV zs n).toNat) = B l ∧ ExOk D 10 l ts (w32 (tnV zs n)) := by
 have h := tnV_in zs n
 have e : w32 (tnV zs n) = ((tnV zs n).toNat : Int) := by rw [w32_id h.1 h.2]; have := h.1; omega
 rw [e]
 have h1 := h.1
 have h2 := h.2
 exact ⟨_, _, rfl, (opNum D (n := (tnV zs n).toNat) (by omega)).ex hD⟩
theorem exprT_ok (zs : List Int) : ∀ (d : Nat) (n : Int), d ≤ 8 → ∃ l ts, (exprT zs d n).1 = B l ∧ ExOk d (exLen d) l ts (exprT zs d n).2.1 := by
 intro d
 induction d with
 | zero => intro n _; exact num_ok zs n 0 (by decide)
 | succ d ih =>
  intro n hd
  unfold exprT
  split
  ·obtain ⟨l, ts, h1, h2⟩ := num_ok zs (rawN zs n) (d + 1) hd
   exact ⟨l, ts, h1, h2.mono (Nat.le_refl _) (exLen_pos _)⟩
  ·obtain ⟨la, ta, ea, ha⟩ := ih (rawN zs n) (by omega)
   obtain ⟨lb, tb, eb, hb⟩ := ih (exprT zs d (rawN zs n)).2.2 (by omega)
   have hi : ∀ l, inB (B l) = B (40 :: (l ++ [41])) := fun l => by
    show B [40] ++ B l ++ B [41] = _
    simp only [B_append, List.append_assoc]
    rfl
   show ∃ l ts, (opB (modV (rawV zs (exprT zs d (exprT zs d (rawN zs n)).2.2).2.2) 20) (inB (exprT zs d (rawN zs n)).1) (exprT zs d (rawN zs n)).2.1 (inB (exprT zs d (exprT zs d (rawN zs n)).2.2).1) (exprT zs d (exprT zs d (rawN zs n)).2.2).2.1).1 = B l ∧ ExOk (d + 1) (exLen (d + 1)) l ts
    (opB (modV (rawV zs (exprT zs d (exprT zs d (rawN zs n)).2.2).2.2) 20) (inB (exprT zs d (rawN zs n)).1) (exprT zs d (rawN zs n)).2.1 (inB (exprT zs d (exprT zs d (rawN zs n)).2.2).1) (exprT zs d (exprT zs d (rawN zs n)).2.2).2.1).2
   rw [ea, eb, hi, hi]
   exact opB_ok hd ha.par hb.par _ (mN9 _ _) (modV_lt _ _ (by decide))
theorem exprT_size (zs : List Int) (d : Nat) (n : Int) (hd : d ≤ 4) : (exprT zs d n).1.size ≤ 400 ∧ In32 (exprT zs d n).2.1 := by
 obtain ⟨l, ts, h1, h2⟩ := exprT_ok zs d n (by omega)
 rw [h1, B_size]
 refine ⟨Nat.le_trans h2.len ?_, h2.rng⟩
 rcases (by omega : d = 0 ∨ d = 1 ∨ d = 2 ∨ d = 3 ∨ d = 4) with rfl | rfl | rfl | rfl | rfl <;> decide
theorem exprT_tape {zs : List Int} : ∀ (d : Nat) {n : Int}, tapeOk zs n → tapeOk zs (exprT zs d n).2.2 := by
 intro d
 induction d with
 | zero => intro n h; exact tnN_ok h
 | succ d ih =>
  intro n h
  unfold exprT
  split
  ·exact tnN_ok (rawN_ok h)
  ·exact rawN_ok (ih (ih (rawN_ok h)))
def saysExpr (k : Nat) : Says := fun args H => match args, H with
 | [.c (.ptr 0 0), .c (.p (.v (.int .i64 d)))], [.row [.p (.l (.int .i64) zs), .p (.v (.int .i64 n))]] => some (some (tapeOk zs n ∧ 0 ≤ d ∧ d ≤ k ∧ k ≤ 4), .tup [.c (.p (.v (.string (exprT zs d.toNat n).1))), .c (.int .u32 (exprT zs d.toNat n).2.1)], [tapeO zs (exprT zs d.toNat n).2.2])
 | _, _ => none
set_option maxHeartbeats 4000000 in
theorem x66k (k : Nat) : TSound Tryz.prog (ext X65 95 (saysExpr k)) := by
 refine ext_rec x65 (f := 95) (fn := Tryz.f95) rfl rfl [0, 1, 4, 5, 6, 7, 8, 9, 10, 17, 45, 46, 52, 58, 61, 66, 75, 84, 93, 96, 107, 110, 122, 131, 140, 149, 158, 167, 177, 187, 197, 207, 220, 234] (fun k args H p r H' hs hp => ?_) k
 unfold saysExpr at hs
 split at hs
 ·rename_i d zs n
  cases hs
  obtain ⟨ht, h0, h1, h2⟩ := hp
  refine ⟨Nat.le_of_ble_eq_true rfl, [0], rfl, id0, ?_⟩
  obtain ⟨d, rfl⟩ : ∃ m : Nat, d = m := ⟨d.toNat, by omega⟩
  have num : ∀ m, tapeOk zs m → (0 ≤ tnV zs m ∧ tnV zs m < 10 ^ (9 + 1) ∧ 9 ≤ 17) := fun m _ => ⟨(tnV_in zs m).1, by have := (tnV_in zs m).2; omega, by decide⟩
  cases d with
  | zero =>
   have n0 := num n ht
   repeat ((conv => whnf); refine ⟨by first | exact ht | exact n0, ?_⟩)
   conv => whnf
   exact eE9 ⟨rfl, rfl⟩
  | succ d =>
   cases k with
   | zero => exfalso; omega
   | succ k =>
   have ht1 := rawN_ok ht
   have n1 := num _ ht1
   have hE : (((d + 1 : Nat) : Int) - 1).toNat = d := by omega
   have hp := exprT_size zs (((d + 1 : Nat) : Int) - 1).toNat (rawN zs n) (by omega)
   have htp := exprT_tape (zs := zs) (((d + 1 : Nat) : Int) - 1).toNat ht1
   have hq := exprT_size zs (((d + 1 : Nat) : Int) - 1).toNat (exprT zs (((d + 1 : Nat) : Int) - 1).toNat (rawN zs n)).2.2 (by omega)
   have htq := exprT_tape (zs := zs) (((d + 1 : Nat) : Int) - 1).toNat htp
   have hop0 := mN9 (rawV zs (exprT zs (((d + 1 : Nat) : Int) - 1).toNat (exprT zs (((d + 1 : Nat) : Int) - 1).toNat (rawN zs n)).2.2).2.2) 20
   have hop1 := modV_lt (rawV zs (exprT zs (((d + 1 : Nat) : Int) - 1).toNat (exprT zs (((d + 1 : Nat) : Int) - 1).toNat (rawN zs n)).2.2).2.2) 20 (by decide)
   have c1 : tapeOk zs (rawN zs n) ∧ 0 ≤ ((d + 1 : Nat) : Int) - 1 ∧ ((d + 1 : Nat) : Int) - 1 ≤ (k : Int) ∧ k ≤ 4 := ⟨ht1, by omega, by omega, by omega⟩
   have c2 : tapeOk zs (exprT zs (((d + 1 : Nat) : Int) - 1).toNat (rawN zs n)).2.2 ∧ 0 ≤ ((d + 1 : Nat) : Int) - 1 ∧ ((d + 1 : Nat) : Int) - 1 ≤ (k : Int) ∧ k ≤ 4 := ⟨htp, by omega, by omega, by omega⟩
   repeat ((conv => whnf); refine ⟨by exact ⟨ht, by decide⟩, ?_⟩)
   conv => whnf
   refine cI9 (fun h5 => ?_) (fun h5 => ?_)
   ·have h5' : modV (rawV zs n) 5 = 0 := by
     have h6 : (decide (((d + 1 : Nat) : Int) = 0) || decide (modV (rawV zs n) 5 = 0)) = true := h5
     rw [decide_eq_false (show ¬ ((d + 1 : Nat) : Int) = 0 by omega), Bool.false_or] at h6
     exact of_decide_eq_true h6
    have hres : exprT zs ((d + 1 : Nat) : Int).toNat n = (B (basedV false 10 (tnV zs (rawN zs n)).toNat), w32 (tnV zs (rawN zs n)), tnN zs (rawN zs n)) := by
     show (if modV (rawV zs n) 5 = 0 then _ else _) = _
     rw [if_pos h5']
    repeat ((conv => whnf); refine ⟨by first | exact ht1 | exact n1, ?_⟩)
    conv => whnf
    refine eE9 ⟨?_, ?_⟩ <;> rw [hres] <;> rfl
   have h5' : ¬ modV (rawV zs n) 5 = 0 := by
    intro h
    rw [h] at h5
    simp at h5
   have hres : exprT zs ((d + 1 : Nat) : Int).toNat n = ((opB (modV (rawV zs (exprT zs (((d + 1 : Nat) : Int) - 1).toNat (exprT zs (((d + 1 : Nat) : Int) - 1).toNat (rawN zs n)).2.2).2.2) 20) (inB (exprT zs (((d + 1 : Nat) : Int) - 1).toNat (rawN zs n)).1) (exprT zs (((d + 1 : Nat) : Int) - 1).toNat (rawN zs n)).2.1 (inB (exprT zs (((d + 1 : Nat) : Int) - 1).toNat (exprT zs (((d + 1 : Nat) : Int) - 1).toNat (rawN zs n)).2.2).1) (exprT zs (((d + 1 : Nat) : Int) - 1).toNat (exprT zs (((d + 1 : Nat) : Int) - 1).toNat (rawN zs n)).2.2).2.1).1, (opB (modV (rawV zs (exprT zs (((d + 1 : Nat) : Int) - 1).toNat (exprT zs (((d + 1 : Nat) : Int) - 1).toNat (rawN zs n)).2.2).2.2) 20) (inB (exprT zs (((d + 1 : Nat) : Int) - 1).toNat (rawN zs n)).1) (exprT zs (((d + 1 : Nat) : Int) - 1).toNat (rawN zs n)).2.1 (inB (exprT zs (((d + 1 : Nat) : Int) - 1).toNat (exprT zs (((d + 1 : Nat) : Int) - 1).toNat (rawN zs n)).2.2).1) (exprT zs (((d + 1 : Nat) : Int) - 1).toNat (exprT zs (((d + 1 : Nat) : Int) - 1).toNat (rawN zs n)).2.2).2.1).2, rawN zs (exprT zs (((d + 1 : Nat) : Int) - 1).toNat (exprT zs (((d + 1 : Nat) : Int) - 1).toNat (rawN zs n)).2.2).2.2) := by
    rw [Int.toNat_natCast, hE]
    show (if modV (rawV zs n) 5 = 0 then _ else _) = _
    rw [if_neg h5']
   repeat ((conv => whnf); refine ⟨by first | exact c1 | exact c2 | exact ⟨htq, by decide⟩ | (unfold inI64; omega) | (simp only [ByteArray.size_append, bsz2, List.size_toArray, List.length_cons, List.length_nil]; omega), ?_⟩)
   conv => whnf
   refine cI9 (fun h100 => ?_) (fun h100 => ?_)
   ·have hop : (modV (rawV zs (exprT zs (((d + 1 : Nat) : Int) - 1).toNat (exprT zs (((d + 1 : Nat) : Int) - 1).toNat (rawN zs n)).2.2).2.2) 20) = 0 := of_decide_eq_true h100
    repeat ((conv => whnf); refine ⟨by (simp only [ByteArray.size_append, bsz2, List.size_toArray, List.length_cons, List.length_nil]; omega), ?_⟩)
    conv => whnf
    refine eE9 ⟨?_, ?_⟩ <;> rw [hres, hop] <;> rfl
   have n100 : ¬ (modV (rawV zs (exprT zs (((d + 1 : Nat) : Int) - 1).toNat (exprT zs (((d + 1 : Nat) : Int) - 1).toNat (rawN zs n)).2.2).2.2) 20) = 0 := of_decide_eq_false h100
   conv => whnf
   refine cI9 (fun h101 => ?_) (fun h101 => ?_)
   ·have hop : (modV (rawV zs (exprT zs (((d + 1 : Nat) : Int) - 1).toNat (exprT zs (((d + 1 : Nat) : Int) - 1).toNat (rawN zs n)).2.2).2.2) 20) = 1 := of_decide_eq_true h101
    repeat ((conv => whnf); refine ⟨by (simp only [ByteArray.size_append, bsz2, List.size_toArray, List.length_cons, List.length_nil]; omega), ?_⟩)
    conv => whnf
    refine eE9 ⟨?_, ?_⟩ <;> rw [hres, hop] <;> rfl
   have n101 : ¬ (modV (rawV zs (exprT zs (((d + 1 : Nat) : Int) - 1).toNat (exprT zs (((d + 1 : Nat) : Int) - 1).toNat (rawN zs n)).2.2).2.2) 20) = 1 := of_decide_eq_false h101
   conv => whnf
   refine cI9 (fun h102 => ?_) (fun h102 => ?_)
   ·have hop : (modV (rawV zs (exprT zs (((d + 1 : Nat) : Int) - 1).toNat (exprT zs (((d + 1 : Nat) : Int) - 1).toNat (rawN zs n)).2.2).2.2) 20) = 2 := of_decide_eq_true h102
    conv => whnf
    refine cI9 (fun hy => ?_) (fun hy => ?_)
    ·have hy' : (exprT zs (((d + 1 : Nat) : Int) - 1).toNat (rawN zs n)).2.1 = 0 := of_decide_eq_true hy
     repeat ((conv => whnf); refine ⟨by (simp only [ByteArray.size_append, bsz2, List.size_toArray, List.length_cons, List.length_nil]; omega), ?_⟩)
     conv => whnf
     refine eE9 ⟨?_, ?_⟩ <;> rw [hres, hop, opB2z hy'] <;> rfl
    ·have hy' : ¬ (exprT zs (((d + 1 : Nat) : Int) - 1).toNat (rawN zs n)).2.1 = 0 := of_decide_eq_false hy
     repeat ((conv => whnf); refine ⟨by (simp only [ByteArray.size_append, bsz2, List.size_toArray, List.length_cons, List.length_nil]; omega), ?_⟩)
     conv => whnf
     refine eE9 ⟨?_, ?_⟩ <;> rw [hres, hop, opB2n hy'] <;> rfl
   have n102 : ¬ (modV (rawV zs (exprT zs (((d + 1 : Nat) : Int) - 1).toNat (exprT zs (((d + 1 : Nat) : Int) - 1).toNat (rawN zs n)).2.2).2.2) 20) = 2 := of_decide_eq_false h102
   conv => whnf
   refine cI9 (fun h103 => ?_) (fun h103 => ?_)
   ·have hop : (modV (rawV zs (exprT zs (((d + 1 : Nat) : Int) - 1).toNat (exprT zs (((d + 1 : Nat) : Int) - 1).toNat (rawN zs n)).2.2).2.2) 20) = 3 := of_decide_eq_true h103
    repeat ((conv => whnf); refine ⟨by (simp only [ByteArray.size_append, bsz2, List.size_toArray, List.length_cons, List.length_nil]; omega), ?_⟩)
    conv => whnf
    refine eE9 ⟨?_, ?_⟩ <;> rw [hres, hop] <;> rfl
   have n103 : ¬ (modV (rawV zs (exprT zs (((d + 1 : Nat) : Int) - 1).toNat (exprT zs (((d + 1 : Nat) : Int) - 1).toNat (rawN zs n)).2.2).2.2) 20) = 3 := of_decide_eq_false h103
   conv => whnf
   refine cI9 (fun h104 => ?_) (fun h104 => ?_)
   ·have hop : (modV (rawV zs (exprT zs (((d + 1 : Nat) : Int) - 1).toNat (exprT zs (((d + 1 : Nat) : Int) - 1).toNat (rawN zs n)).2.2).2.2) 20) = 4 := of_decide_eq_true h104
    repeat ((conv => whnf); refine ⟨by (simp only [ByteArray.size_append, bsz2, List.size_toArray, List.length_cons, List.length_nil]; omega), ?_⟩)
    conv => whnf
    refine eE9 ⟨?_, ?_⟩ <;> rw [hres, hop] <;> rfl
   have n104 : ¬ (modV (rawV zs (exprT zs (((d + 1 : Nat) : Int) - 1).toNat (exprT zs (((d + 1 : Nat) : Int) - 1).toNat (rawN zs n)).2.2).2.2) 20) = 4 := of_decide_eq_false h104
   conv => whnf
   refine cI9 (fun h105 => ?_) (fun h105 => ?_)
   ·have hop : (modV (rawV zs (exprT zs (((d + 1 : Nat) : Int) - 1).toNat (exprT zs (((d + 1 : Nat) : Int) - 1).toNat (rawN zs n)).2.2).2.2) 20) = 5 := of_decide_eq_true h105
    repeat ((conv => whnf); refine ⟨by (simp only [ByteArray.size_append, bsz2, List.size_toArray, List.length_cons, List.length_nil]; omega), ?_⟩)
    conv => whnf
    refine eE9 ⟨?_, ?_⟩ <;> rw [hres, hop] <;> rfl
   have n105 : ¬ (modV (rawV zs (exprT zs (((d + 1 : Nat) : Int) - 1).toNat (exprT zs (((d + 1 : Nat) : Int) - 1).toNat (rawN zs n)).2.2).2.2) 20) = 5 := of_decide_eq_false h105
   conv => whnf
   refine cI9 (fun h106 => ?_) (fun h106 => ?_)
   ·have hop : (modV (rawV zs (exprT zs (((d + 1 : Nat) : Int) - 1).toNat (exprT zs (((d + 1 : Nat) : Int) - 1).toNat (rawN zs n)).2.2).2.2) 20) = 6 := of_decide_eq_true h106
    conv => whnf
    refine cI9 (fun hy => ?_) (fun hy => ?_)
    ·have hy' : (exprT zs (((d + 1 : Nat) : Int) - 1).toNat (exprT zs (((d + 1 : Nat) : Int) - 1).toNat (rawN zs n)).2.2).2.1 = 0 := of_decide_eq_true hy
     repeat ((conv => whnf); refine ⟨by (simp only [ByteArray.size_append, bsz2, List.size_toArray, List.length_cons, List.length_nil]; omega), ?_⟩)
     conv => whnf
     refine eE9 ⟨?_, ?_⟩ <;> rw [hres, hop, opB6z hy'] <;> rfl
    ·have hy' : ¬ (exprT zs (((d + 1 : Nat) : Int) - 1).toNat (exprT zs (((d + 1 : Nat) : Int) - 1).toNat (rawN zs n)).2.2).2.1 = 0 := of_decide_eq_false hy
     repeat ((conv => whnf); refine ⟨by first | (simp only [ByteArray.size_append, bsz2, List.size_toArray, List.length_cons, List.length_nil]; omega) | exact rfl, ?_⟩)
     conv => whnf
     refine eE9 ⟨?_, ?_⟩ <;> rw [hres, hop, opB6n hy'] <;> rfl
   have n106 : ¬ (modV (rawV zs (exprT zs (((d + 1 : Nat) : Int) - 1).toNat (exprT zs (((d + 1 : Nat) : Int) - 1).toNat (rawN zs n)).2.2).2.2) 20) = 6 := of_decide_eq_false h106
   conv => whnf
   refine cI9 (fun h107 => ?_) (fun h107 => ?_)
   ·have hop : (modV (rawV zs (exprT zs (((d + 1 : Nat) : Int) - 1).toNat (exprT zs (((d + 1 : Nat) : Int) - 1).toNat (rawN zs n)).2.2).2.2) 20) = 7 := of_decide_eq_true h107
    conv => whnf
    refine cI9 (fun hy => ?_) (fun hy => ?_)
    ·have hy' : (exprT zs (((d + 1 : Nat) : Int) - 1).toNat (exprT zs (((d + 1 : Nat) : Int) - 1).toNat (rawN zs n)).2.2).2.1 = 0 := of_decide_eq_true hy
     repeat ((conv => whnf); refine ⟨by first | (simp only [ByteArray.size_append, bsz2, List.size_toArray, List.length_cons, List.length_nil]; omega) | omega, ?_⟩)
     conv => whnf
     refine eE9 ⟨?_, ?_⟩ <;> rw [hres, hop, opB7z hy'] <;> rfl
    ·have hy' : ¬ (exprT zs (((d + 1 : Nat) : Int) - 1).toNat (exprT zs (((d + 1 : Nat) : Int) - 1).toNat (rawN zs n)).2.2).2.1 = 0 := of_decide_eq_false hy
     repeat ((conv => whnf); refine ⟨by first | (simp only [ByteArray.size_append, bsz2, List.size_toArray, List.length_cons, List.length_nil]; omega) | exact rfl, ?_⟩)
     conv => whnf
     refine eE9 ⟨?_, ?_⟩ <;> rw [hres, hop, opB7n hy'] <;> rfl
   have n107 : ¬ (modV (rawV zs (exprT zs (((d + 1 : Nat) : Int) - 1).toNat (exprT zs (((d + 1 : Nat) : Int) - 1).toNat (rawN zs n)).2.2).2.2) 20) = 7 := of_decide_eq_false h107
   conv => whnf
   refine cI9 (fun h108 => ?_) (fun h108 => ?_)
   ·have hop : (modV (rawV zs (exprT zs (((d + 1 : Nat) : Int) - 1).toNat (exprT zs (((d + 1 : Nat) : Int) - 1).toNat (rawN zs n)).2.2).2.2) 20) = 8 := of_decide_eq_true h108
    repeat ((conv => whnf); refine ⟨by first | (simp only [ByteArray.size_append, bsz2, List.size_toArray, List.length_cons, List.length_nil]; omega) | exact ⟨hp.2, hq.2⟩, ?_⟩)
    conv => whnf
    refine eE9 ⟨?_, ?_⟩ <;> rw [hres, hop] <;> rfl
   have n108 : ¬ (modV (rawV zs (exprT zs (((d + 1 : Nat) : Int) - 1).toNat (exprT zs (((d + 1 : Nat) : Int) - 1).toNat (rawN zs n)).2.2).2.2) 20) = 8 := of_decide_eq_false h108
   conv => whnf
   refine cI9 (fun h109 => ?_) (fun h109 => ?_)
   ·have hop : (modV (rawV zs (exprT zs (((d + 1 : Nat) : Int) - 1).toNat (exprT zs (((d + 1 : Nat) : Int) - 1).toNat (rawN zs n)).2.2).2.2) 20) = 9 := of_decide_eq_true h109
    repeat ((conv => whnf); refine ⟨by first | (simp only [ByteArray.size_append, bsz2, List.size_toArray, List.length_cons, List.length_nil]; omega) | exact ⟨hp.2, hq.2⟩, ?_⟩)
    conv => whnf
    refine eE9 ⟨?_, ?_⟩ <;> rw [hres, hop] <;> rfl
   have n109 : ¬ (modV (rawV zs (exprT zs (((d + 1 : Nat) : Int) - 1).toNat (exprT zs (((d + 1 : Nat) : Int) - 1).toNat (rawN zs n)).2.2).2.2) 20) = 9 := of_decide_eq_false h109
   conv => whnf
   refine cI9 (fun h110 => ?_) (fun h110 => ?_)
   ·have hop : (modV (rawV zs (exprT zs (((d + 1 : Nat) : Int) - 1).toNat (exprT zs (((d + 1 : Nat) : Int) - 1).toNat (rawN zs n)).2.2).2.2) 20) = 10 := of_decide_eq_true h110
    repeat ((conv => whnf); refine ⟨by (simp only [ByteArray.size_append, bsz2, List.size_toArray, List.length_cons, List.length_nil]; omega), ?_⟩)
    conv => whnf
    refine eE9 ⟨?_, ?_⟩ <;> rw [hres, hop] <;> rfl
   have n110 : ¬ (modV (rawV zs (exprT zs (((d + 1 : Nat) : Int) - 1).toNat (exprT zs (((d + 1 : Nat) : Int) - 1).toNat (rawN zs n)).2.2).2.2) 20) = 10 := of_decide_eq_false h110
   conv => whnf
   refine cI9 (fun h111 => ?_) (fun h111 => ?_)
   ·have hop : (modV (rawV zs (exprT zs (((d + 1 : Nat) : Int) - 1).toNat (exprT zs (((d + 1 : Nat) : Int) - 1).toNat (rawN zs n)).2.2).2.2) 20) = 11 := of_decide_eq_true h111
    repeat ((conv => whnf); refine ⟨by (simp only [ByteArray.size_append, bsz2, List.size_toArray, List.length_cons, List.length_nil]; omega), ?_⟩)
    conv => whnf
    refine eE9 ⟨?_, ?_⟩ <;> rw [hres, hop] <;> rfl
   have n111 : ¬ (modV (rawV zs (exprT zs (((d + 1 : Nat) : Int) - 1).toNat (exprT zs (((d + 1 : Nat) : Int) - 1).toNat (rawN zs n)).2.2).2.2) 20) = 11 := of_decide_eq_false h111
   conv => whnf
   refine cI9 (fun h112 => ?_) (fun h112 => ?_)
   ·have hop : (modV (rawV zs (exprT zs (((d + 1 : Nat) : Int) - 1).toNat (exprT zs (((d + 1 : Nat) : Int) - 1).toNat (rawN zs n)).2.2).2.2) 20) = 12 := of_decide_eq_true h112
    repeat ((conv => whnf); refine ⟨by (simp only [ByteArray.size_append, bsz2, List.size_toArray, List.length_cons, List.length_nil]; omega), ?_⟩)
    conv => whnf
    refine eE9 ⟨?_, ?_⟩ <;> rw [hres, hop] <;> rfl
   have n112 : ¬ (modV (rawV zs (exprT zs (((d + 1 : Nat) : Int) - 1).toNat (exprT zs (((d + 1 : Nat) : Int) - 1).toNat (rawN zs n)).2.2).2.2) 20) = 12 := of_decide_eq_false h112
   conv => whnf
   refine cI9 (fun h113 => ?_) (fun h113 => ?_)
   ·have hop : (modV (rawV zs (exprT zs (((d + 1 : Nat) : Int) - 1).toNat (exprT zs (((d + 1 : Nat) : Int) - 1).toNat (rawN zs n)).2.2).2.2) 20) = 13 := of_decide_eq_true h113
    repeat ((conv => whnf); refine ⟨by (simp only [ByteArray.size_append, bsz2, List.size_toArray, List.length_cons, List.length_nil]; omega), ?_⟩)
    conv => whnf
    refine eE9 ⟨?_, ?_⟩ <;> rw [hres, hop] <;> rfl
   have n113 : ¬ (modV (rawV zs (exprT zs (((d + 1 : Nat) : Int) - 1).toNat (exprT zs (((d + 1 : Nat) : Int) - 1).toNat (rawN zs n)).2.2).2.2) 20) = 13 := of_decide_eq_false h113
   conv => whnf
   refine cI9 (fun h114 => ?_) (fun h114 => ?_)
   ·have hop : (modV (rawV zs (exprT zs (((d + 1 : Nat) : Int) - 1).toNat (exprT zs (((d + 1 : Nat) : Int) - 1).toNat (rawN zs n)).2.2).2.2) 20) = 14 := of_decide_eq_true h114
    repeat ((conv => whnf); refine ⟨by (simp only [ByteArray.size_append, bsz2, List.size_toArray, List.length_cons, List.length_nil]; omega), ?_⟩)
    conv => whnf
    refine eE9 ⟨?_, ?_⟩ <;> rw [hres, hop] <;> rfl
   have n114 : ¬ (modV (rawV zs (exprT zs (((d + 1 : Nat) : Int) - 1).toNat (exprT zs (((d + 1 : Nat) : Int) - 1).toNat (rawN zs n)).2.2).2.2) 20) = 14 := of_decide_eq_false h114
   conv => whnf
   refine cI9 (fun h115 => ?_) (fun h115 => ?_)
   ·have hop : (modV (rawV zs (exprT zs (((d + 1 : Nat) : Int) - 1).toNat (exprT zs (((d + 1 : Nat) : Int) - 1).toNat (rawN zs n)).2.2).2.2) 20) = 15 := of_decide_eq_true h115
    repeat ((conv => whnf); refine ⟨by (simp only [ByteArray.size_append, bsz2, List.size_toArray, List.length_cons, List.length_nil]; omega), ?_⟩)
    conv => whnf
    refine eE9 ⟨?_, ?_⟩ <;> rw [hres, hop] <;> rfl
   have n115 : ¬ (modV (rawV zs (exprT zs (((d + 1 : Nat) : Int) - 1).toNat (exprT zs (((d + 1 : Nat) : Int) - 1).toNat (rawN zs n)).2.2).2.2) 20) = 15 := of_decide_eq_false h115
   conv => whnf
   refine cI9 (fun h116 => ?_) (fun h116 => ?_)
   ·have hop : (modV (rawV zs (exprT zs (((d + 1 : Nat) : Int) - 1).toNat (exprT zs (((d + 1 : Nat) : Int) - 1).toNat (rawN zs n)).2.2).2.2) 20) = 16 := of_decide_eq_true h116
    repeat ((conv => whnf); refine ⟨by (simp only [ByteArray.size_append, bsz2, List.size_toArray, List.length_cons, List.length_nil]; omega), ?_⟩)
    conv => whnf
    refine eE9 ⟨?_, ?_⟩ <;> rw [hres, hop] <;> rfl
   have n116 : ¬ (modV (rawV zs (exprT zs (((d + 1 : Nat) : Int) - 1).toNat (exprT zs (((d + 1 : Nat) : Int) - 1).toNat (rawN zs n)).2.2).2.2) 20) = 16 := of_decide_eq_false h116
   conv => whnf
   refine cI9 (fun h117 => ?_) (fun h117 => ?_)
   ·have hop : (modV (rawV zs (exprT zs (((d + 1 : Nat) : Int) - 1).toNat (exprT zs (((d + 1 : Nat) : Int) - 1).toNat (rawN zs n)).2.2).2.2) 20) = 17 := of_decide_eq_true h117
    repeat ((conv => whnf); refine ⟨by (simp only [ByteArray.size_append, bsz2, List.size_toArray, List.length_cons, List.length_nil]; omega), ?_⟩)
    conv => whnf
    refine eE9 ⟨?_, ?_⟩ <;> rw [hres, hop] <;> rfl
   have n117 : ¬ (modV (rawV zs (exprT zs (((d + 1 : Nat) : Int) - 1).toNat (exprT zs (((d + 1 : Nat) : Int) - 1).toNat (rawN zs n)).2.2).2.2) 20) = 17 := of_decide_eq_false h117
   conv => whnf
   refine cI9 (fun h118 => ?_) (fun h118 => ?_)
   ·have hop : (modV (rawV zs (exprT zs (((d + 1 : Nat) : Int) - 1).toNat (exprT zs (((d + 1 : Nat) : Int) - 1).toNat (rawN zs n)).2.2).2.2) 20) = 18 := of_decide_eq_true h118
    repeat ((conv => whnf); refine ⟨by (simp only [ByteArray.size_append, bsz2, List.size_toArray, List.length_cons, List.length_nil]; omega), ?_⟩)
    conv => whnf
    refine eE9 ⟨?_, ?_⟩ <;> rw [hres, hop] <;> rfl
   have n118 : ¬ (modV (rawV zs (exprT zs (((d + 1 : Nat) : Int) - 1).toNat (exprT zs (((d + 1 : Nat) : Int) - 1).toNat (rawN zs n)).2.2).2.2) 20) = 18 := of_decide_eq_false h118
   conv => whnf
   have hop : (modV (rawV zs (exprT zs (((d + 1 : Nat) : Int) - 1).toNat (exprT zs (((d + 1 : Nat) : Int) - 1).toNat (rawN zs n)).2.2).2.2) 20) = 19 := by
    revert hop0 hop1 n100 n101 n102 n103 n104 n105 n106 n107 n108 n109 n110 n111 n112 n113 n114 n115 n116 n117 n118
    generalize (modV (rawV zs (exprT zs (((d + 1 : Nat) : Int) - 1).toNat (exprT zs (((d + 1 : Nat) : Int) - 1).toNat (rawN zs n)).2.2).2.2) 20) = o
    intros
    omega
   refine cI9 (fun hy => ?_) (fun hy => ?_)
   ·have hy' : ¬ (exprT zs (((d + 1 : Nat) : Int) - 1).toNat (rawN zs n)).2.1 = 0 := by simpa using hy
    repeat ((conv => whnf); refine ⟨by (simp only [ByteArray.size_append, bsz2, List.size_toArray, List.length_cons, List.length_nil]; omega), ?_⟩)
    conv => whnf
    refine eE9 ⟨?_, ?_⟩ <;> rw [hres, hop, opB19n hy'] <;> rfl
   ·have hy' : (exprT zs (((d + 1 : Nat) : Int) - 1).toNat (rawN zs n)).2.1 = 0 := by simpa using hy
    repeat ((conv => whnf); refine ⟨by (simp only [ByteArray.size_append, bsz2, List.size_toArray, List.length_cons, List.length_nil]; omega), ?_⟩)
    conv => whnf
    refine eE9 ⟨?_, ?_⟩ <;> rw [hres, hop, opB19z hy'] <;> rfl
 ·cases hs
def X66 : Table := ext X65 95 (saysExpr 4)
theorem x66 : TSound Tryz.prog X66 := x66k 4
end Go.Ab
