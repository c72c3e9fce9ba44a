/- Expressions with all brackets: their texts, tokens and values. -/
import Derived.Test.YtpeeeiaihjilnaaGreatTS2toS8
import Derived.Test.YtpeeeiaihjilnaaGreatTY38toV15
import Derived.Test.YtpeeeiaihjilnaaGreatTX13toY30
import Derived.KernelRfl
import Derived.Test.YtpeeeiaihjilnaaGreatTX6toX10
namespace Go.Ab
open Go.Proofs
set_option linter.unusedSectionVars false
set_option maxRecDepth 100000
variable [Glob]
theorem basedL_app (D : List UInt8) (b : Nat) : ∀ (k m : Nat) (out : List UInt8), basedL D b k m out = basedL D b k m [] ++ out := by
 intro k
 induction k with
 | zero => intro m out; rfl
 | succ k ih =>
  intro m out
  simp only [basedL]
  split
  ·rfl
  ·rw [ih (m / b) (D.getD (m % b) 0 :: out), ih (m / b) [D.getD (m % b) 0], List.append_assoc]
   rfl
theorem basedL_fuel (D : List UInt8) (b : Nat) (hb : 2 ≤ b) : ∀ (k m : Nat) (out : List UInt8), m < 2 ^ k → basedL D b (k + 1) m out = basedL D b k m out := by
 intro k
 induction k with
 | zero =>
  intro m out h
  have : m = 0 := by simpa using h
  subst this
  rfl
 | succ k ih =>
  intro m out h
  have e1 : basedL D b (k + 1 + 1) m out = if m = 0 then out else basedL D b (k + 1) (m / b) (D.getD (m % b) 0 :: out) := rfl
  have e2 : basedL D b (k + 1) m out = if m = 0 then out else basedL D b k (m / b) (D.getD (m % b) 0 :: out) := rfl
  rw [e1, e2]
  split
  ·rfl
  ·exact ih _ _ (lt_pow_div hb h)
theorem dec_small {n : Nat} (h : n < 10) : basedV false 10 n = [(digL false).getD n 0] := by
 unfold basedV
 rw [show n / 10 = 0 by omega, show n % 10 = n by omega]
 rfl
theorem dec_big {n : Nat} (h : 10 ≤ n) (hn : n < 18446744073709551616) : basedV false 10 n = basedV false 10 (n / 10) ++ [(digL false).getD (n % 10) 0] := by
 have e : basedV false 10 (n / 10) = basedL (digL false) 10 64 (n / 10 / 10) [(digL false).getD (n / 10 % 10) 0] := rfl
 rw [e, basedL_fuel (digL false) 10 (by decide) 63 (n / 10 / 10) _ (by omega)]
 unfold basedV
 rw [basedL_app]
 congr 1
 rw [basedL, if_neg (by omega)]
theorem dec_len : ∀ (k n : Nat), n < 10 ^ (k + 1) → n < 18446744073709551616 → (basedV false 10 n).length ≤ k + 1 := by
 intro k
 induction k with
 | zero => intro n h _; rw [dec_small (by omega)]; exact Nat.le_refl _
 | succ k ih =>
  intro n h h2
  by_cases h3 : n < 10
  ·rw [dec_small h3]; simp
  ·rw [dec_big (by omega) h2, List.length_append, List.length_cons, List.length_nil]
   have := ih (n / 10) (by rw [Nat.pow_succ] at h; omega) (by omega)
   omega
def In32 (x : Int) : Prop := 0 ≤ x ∧ x ≤ 4294967295
theorem in32_w (x : Int) : In32 (w32 x) := by rw [w32_eq]; unfold In32; omega
theorem in32_tr (b : Bool) : In32 (tr b) := by cases b <;> exact ⟨by decide, by decide⟩
theorem in32_mod {x y : Int} (hx : In32 x) (hy : In32 y) : In32 (x.tmod y) := by
 obtain ⟨a, rfl⟩ : ∃ n : Nat, x = n := ⟨x.toNat, by unfold In32 at hx; omega⟩
 obtain ⟨b, rfl⟩ : ∃ n : Nat, y = n := ⟨y.toNat, by unfold In32 at hy; omega⟩
 have e : (a : Int).tmod b = ((a % b : Nat) : Int) := (Int.ofNat_tmod a b).symm
 have h3 := Nat.mod_le a b
 unfold In32 at *
 rw [e]
 generalize a % b = q at h3
 omega
theorem in32_shr {x : Int} (hx : In32 x) (k : Nat) : In32 (x.fdiv (2 ^ k)) := by
 obtain ⟨a, rfl⟩ : ∃ n : Nat, x = n := ⟨x.toNat, by unfold In32 at hx; omega⟩
 have e : (a : Int).fdiv (2 ^ k) = ((a / 2 ^ k : Nat) : Int) := by
  rw [show ((2 : Int) ^ k) = ((2 ^ k : Nat) : Int) by simp]
  exact (Int.ofNat_fdiv a (2 ^ k)).symm
 have h3 := Nat.div_le_self a (2 ^ k)
 unfold In32 at *
 rw [e]
 generalize a / 2 ^ k = q at h3
 omega
def Stp (us : List Tk) : Prop := betw (sgn us) = 0 ∧ sgn us ≠ sQ
theorem stp_rp (us : List Tk) : Stp (tkSg sRp :: us) := ⟨rfl, by rw [sgn_tk]; decide⟩
def tkG (t : Tk) : Bool := (decide (t.1 = 2) && decide (t.2.1.size = 0) && decide (0 ≤ t.2.2) && decide (t.2.2 ≤ 4294967295)) || (decide (t.1 = 4) && decide (t.2.1.size ≤ 2) && decide (t.2.2 = 0))
theorem tkG_num {n : Nat} (h : n < 4294967296) : tkG (tkNum n) = true := by
 have h1 : (0 : Int) ≤ n := by omega
 have h2 : (n : Int) ≤ 4294967295 := by omega
 have h3 : (⟨#[]⟩ : ByteArray).size = 0 := rfl
 simp [tkG, h2, h3]
theorem tkG_sg {s : ByteArray} (h : s.size ≤ 2) : tkG (tkSg s) = true := by simp [tkG, h]
structure ExOk (D L : Nat) (l : List UInt8) (ts : List Tk) (x : Int) : Prop where
 len : l.length ≤ L
 tok : ts.length ≤ l.length
 rng : In32 x
 gd : ts.all tkG = true
 lx : ∀ r us, noWord r → Lx r us → Lx (l ++ r) (ts ++ us)
 wh : ∀ us, Stp us → WhlOk D (ts ++ us) x us
structure OpR (D L : Nat) (l : List UInt8) (ts : List Tk) (x : Int) : Prop where
 len : l.length ≤ L
 tok : ts.length ≤ l.length
 rng : In32 x
 gd : ts.all tkG = true
 lx : ∀ r us, noWord r → Lx r us → Lx (l ++ r) (ts ++ us)
 op : ∀ us, OpdOk D (ts ++ us) x us
structure OpB (D L : Nat) (l : List UInt8) (ts : List Tk) (x : Int) : Prop extends OpR D L l ts x where
 lxb : ∀ r us, Lx r us → Lx (l ++ r) (ts ++ us)
 hd : ∃ t, l = 40 :: t
theorem plainW {D : Nat} (hD : D ≤ 8) {ts us : List Tk} {x : Int} (h : OpdOk D ts x us) (hs : Stp us) : WhlOk D ts x us :=
 WhlOk.plain hD h ((RwsOk.stop (.inl hs.1)).le (Nat.zero_le D)) hs.2
theorem opNum (D : Nat) {n : Nat} (h : n < 4294967296) : OpR D 10 (basedV false 10 n) [tkNum n] n where
 len := dec_len 9 n (by omega) (by omega)
 tok := List.length_pos_iff.2 (basedV_ne _ _ _)
 rng := by unfold In32; omega
 gd := by rw [List.all_cons, tkG_num h]; rfl
 lx r us hr hl := Lx.dec (by omega) hr hl
 op us := oN D h us
theorem OpR.ex {D L : Nat} (hD : D ≤ 8) {l : List UInt8} {ts : List Tk} {x : Int} (h : OpR D L l ts x) : ExOk D L l ts x where
 len := h.len
 tok := h.tok
 rng := h.rng
 gd := h.gd
 lx := h.lx
 wh us hs := plainW hD (h.op us) hs
theorem ExOk.par {D L : Nat} {l : List UInt8} {ts : List Tk} {x : Int} (h : ExOk D L l ts x) : OpB (D + 1) (L + 2) (40 :: (l ++ [41])) (tkSg sLp :: (ts ++ [tkSg sRp])) x where
 len := by have := h.len; simp; omega
 tok := by have := h.tok; simp; omega
 rng := h.rng
 gd := by rw [List.all_cons, List.all_append, h.gd, List.all_cons]; rfl
 lx r us _ hl := by
  have h1 := h.lx (41 :: r) (tkSg sRp :: us) (noWord_plain (by decide) r) (Lx.sg1 (c := 41) (by decide) hl)
  have h2 := Lx.sg1 (c := 40) (by decide) h1
  show Lx ((40 :: (l ++ [41])) ++ r) ((tkSg (B [40]) :: (ts ++ [tkSg sRp])) ++ us)
  simpa using h2
 lxb r us hl := by
  have h1 := h.lx (41 :: r) (tkSg sRp :: us) (noWord_plain (by decide) r) (Lx.sg1 (c := 41) (by decide) hl)
  have h2 := Lx.sg1 (c := 40) (by decide) h1
  show Lx ((40 :: (l ++ [41])) ++ r) ((tkSg (B [40]) :: (ts ++ [tkSg sRp])) ++ us)
  simpa using h2
 op us := by
  have := oP (h.wh (tkSg sRp :: us) (stp_rp us))
  simpa using this
 hd := ⟨_, rfl⟩
theorem ExOk.mono {D D' L L' : Nat} {l : List UInt8} {ts : List Tk} {x : Int} (h : ExOk D L l ts x) (hd : D ≤ D') (hl : L ≤ L') : ExOk D' L' l ts x where
 len := Nat.le_trans h.len hl
 tok := h.tok
 rng := h.rng
 gd := h.gd
 lx := h.lx
 wh us hs := (h.wh us hs).le hd
theorem OpB.front {D L : Nat} (hD : D ≤ 8) {l : List UInt8} {ts : List Tk} {x : Int} (h : OpB D L l ts x) (c : UInt8) (hf : frontV (B [c]) = true) (hc : ∀ t us, Lx (40 :: t) us → Lx (c :: 40 :: t) (tkSg (B [c]) :: us)) (hr : In32 (calcV 0 (B [c]) 0 x)) :
  ExOk D (L + 1) (c :: l) (tkSg (B [c]) :: ts) (calcV 0 (B [c]) 0 x) where
 len := by have := h.len; simp; omega
 tok := by have := h.tok; simp; omega
 rng := hr
 gd := by rw [List.all_cons, h.gd, tkG_sg (show (B [c]).size ≤ 2 from Nat.le_succ 1)]; rfl
 lx r us _ hl := by
  have h1 := h.lxb r us hl
  obtain ⟨t, rfl⟩ := h.hd
  exact hc _ _ h1
 wh us hs := plainW hD (oF (B [c]) hf (h.op us)) hs
theorem OpB.bin {D L M : Nat} (hD : D ≤ 8) {l m q : List UInt8} {ts ss : List Tk} {x y : Int} (h : OpB D L l ts x) (s : ByteArray) (k : Nat) (hk : betw s = k) (hk0 : k ≠ 0) (hk1 : k < 11) (hm : ∀ r us, Lx r us → Lx (m ++ r) (tkSg s :: us)) (hne : 1 ≤ m.length) (hml : m.length ≤ 4)
  (h2 : OpR D M q ss y) (hb : by0 s y = false) (hr : In32 (calcV k s x y)) (hz : s.size ≤ 2) : ExOk D (L + 4 + M) (l ++ m ++ q) (ts ++ tkSg s :: ss) (calcV k s x y) where
 len := by have := h.len; have := h2.len; simp; omega
 tok := by have := h.tok; have := h2.tok; simp; omega
 rng := hr
 gd := by rw [List.all_append, h.gd, List.all_cons, tkG_sg hz, h2.gd]; rfl
 lx r us hn hl := by
  have h3 := h.lxb _ _ (hm _ _ (h2.lx r us hn hl))
  simpa using h3
 wh us hs := by
  have h3 := WhlOk.plain hD (h.op (tkSg s :: (ss ++ us))) (rO (m := 11) hD hk hk0 hk1 (h2.op us) ((RwsOk.stop (.inl hs.1)).le (Nat.zero_le D)) hb ((RwsOk.stop (.inl hs.1)).le (Nat.zero_le D))) hs.2
  simpa using h3
theorem OpB.choice {D L M : Nat} (hD : D ≤ 8) {l q : List UInt8} {ts ss : List Tk} {x y : Int} (h : OpB D L l ts x) (h2 : OpB D M q ss y) :
  ExOk D (L + M + 7) (l ++ [32, 63, 32] ++ q ++ [32, 58, 32, 53]) (ts ++ tkSg sQ :: (ss ++ [tkSg sCol, tkNum 5])) (if x ≠ 0 then y else 5) where
 len := by have := h.len; have := h2.len; simp; omega
 tok := by have := h.tok; have := h2.tok; simp; omega
 rng := by
  split
  ·exact h2.rng
  ·unfold In32; omega
 gd := by rw [List.all_append, h.gd, List.all_cons, List.all_append, h2.gd]; rfl
 lx r us hn hl := by
  have e5 : fmtL 5 = [53] := by decide +kernel
  have h3 : Lx (53 :: r) (tkNum 5 :: us) := by
   have := Lx.fmt (n := 5) (by decide) hn hl
   rwa [e5] at this
  have h4 := (Lx.sg (s := [58]) (by decide) h3).sp
  have h5 := h2.lxb _ _ h4
  have h6 := (Lx.sg (s := [63]) (by decide) h5).sp
  have h7 := h.lxb _ _ h6
  show Lx ((l ++ [32, 63, 32] ++ q ++ [32, 58, 32, 53]) ++ r) ((ts ++ tkSg (B [63]) :: (ss ++ [tkSg (B [58]), tkNum 5])) ++ us)
  simpa using h7
 wh us hs := by
  have h5 : WhlOk D (tkNum 5 :: us) 5 us := plainW hD (oN D (n := 5) (by decide) us) hs
  have h4 : WhlOk D (ss ++ tkSg sCol :: tkNum 5 :: us) y (tkSg sCol :: tkNum 5 :: us) := plainW hD (h2.op _) ⟨rfl, by rw [sgn_tk]; decide⟩
  have h3 := WhlOk.choice hD (h.op (tkSg sQ :: (ss ++ tkSg sCol :: tkNum 5 :: us))) ((RwsOk.stop (m := 11) (.inr (by rw [sgn_tk]; decide))).le (Nat.zero_le D)) h4 h5
  simpa using h3
theorem lxSg {s : List UInt8} (hs : s ∈ signs) : ∀ r us, Lx r us → Lx ((32 :: (s ++ [32])) ++ r) (tkSg (B s) :: us) := fun r us h => by
 have := (Lx.sg hs h).sp
 simpa using this
def awT : ByteArray := ⟨#[47, 32, 123, 32, 97, 58, 32, 98, 32, 123, 32, 120, 32, 61, 32, 60, 49, 32, 38, 97, 62, 44, 32, 34, 116, 34, 59, 32, 121, 59, 32, 125, 59, 32, 125, 59]⟩
def awD : List defC.den := [(1, ⟨#[]⟩, ⟨#[47]⟩, [], 0, 1, 1), (1, ⟨#[97]⟩, ⟨#[98]⟩, [], 0, 1, 5), (3, ⟨#[]⟩, ⟨#[120]⟩, [(1, [(1, ⟨#[]⟩), (0, ⟨#[97]⟩)], ⟨#[]⟩), (2, [], ⟨#[116]⟩)], 0, 1, 12), (3, ⟨#[]⟩, ⟨#[121]⟩, [], 0, 1, 29), (2, ⟨#[]⟩, ⟨#[]⟩, [], 0, 1, 32), (2, ⟨#[]⟩, ⟨#[]⟩, [], 0, 1, 35)]
theorem aw_ok : (readV awT 0).toks.all okT = true := by decide +kernel
theorem aw_src : srcV awT 0 = ⟨awD, 0, 0, 0, 0⟩ := by kernel_rfl
def Y64 : Table := ext Y62 7 (fun args H => match args, H with | [], [] => some (none, .bool true, []) | _, _ => none)
theorem y64 : TSound Tryz.prog Y64 := by
 refine ext_run y62 (f := 7) (fn := Tryz.f7) rfl rfl [0, 1, 3] fun args H p r H' hs hp => ?_
 split at hs
 ·cases hs
  refine ⟨Nat.zero_le _, [], rfl, fun k hk => absurd hk (Nat.not_lt_zero k), ?_⟩
  refine runF_shut rfl fun K0 hK0 => ?_
  refine seq_shut fun K1 hK1 => ?_
  conv => whnf
  rw [hK1]
  show runC _ _ _ (.seq _ _) _ _ _
  refine seq_shut fun K2 hK2 => ?_
  repeat ((conv => whnf); refine ⟨by exact aw_ok, ?_⟩)
  conv => whnf
  rw [hK2]
  show runC _ _ _ (.seq _ _) [(0, .s (.a (.c (.bool false)))), (1, .s (.a (.c (.p (.l defC (srcV awT 0).defs))))), (3, .s (.a (.c (.int .i64 (srcV awT 0).err))))] _ _
  rw [aw_src]
  repeat ((conv => whnf); refine ⟨by first | (intro hg; simp [lit] at hg; first | (unfold inI64; dsimp only; omega) | (dsimp only; omega)) | decide +kernel, ?_⟩)
  conv => whnf
  rw [hK0]
  conv => whnf
  refine eE9 ⟨?_, rfl⟩
  kernel_rfl
 ·cases hs
def X59 : Table := Y64
theorem x59 : TSound Tryz.prog X59 := y64
theorem rawN_ok {zs : List Int} {n : Int} (h : tapeOk zs n) : tapeOk zs (rawN zs n) := by
 obtain ⟨h0, h1, h2⟩ := h
 unfold rawN
 split
 ·exact ⟨h0, h1, h2⟩
 ·exact ⟨by omega, by omega, h2⟩
theorem bsz2 (a : Array UInt8) : (⟨a⟩ : ByteArray).size = a.size := rfl
def X60 : Table := ext X59 125 saysTr
theorem x60 : TSound Tryz.prog X60 := by
 refine ext_run x59 (f := 125) (fn := Tryz.f125) rfl rfl [0, 2, 3] fun args H p r H' hs hp => ?_
 unfold saysTr at hs
 split at hs
 ·cases hs
  refine ⟨Nat.le_of_ble_eq_true rfl, [], rfl, fun k hk => absurd hk (Nat.not_lt_zero k), ?_⟩
  conv => whnf
  refine cI9 (fun h => ?_) (fun h => ?_) <;> subst h <;> conv => whnf
  ·exact eE9 ⟨rfl, rfl⟩
  ·exact eE9 ⟨rfl, rfl⟩
 ·cases hs
def saysSh : Says := fun args H => match args, H with
 | [.c (.p (.v (.int .u32 x))), .c (.p (.v (.int .u32 y))), .c (.p (.v (.bool b)))], [] => some (some (In32 x ∧ In32 y), .int .u32 (if b then calcV 3 ⟨#[60, 60]⟩ x y else calcV 3 ⟨#[62, 62]⟩ x y), [])
 | _, _ => none
theorem shl_big (x : Int) {y : Int} (h : 31 < y) : w32 (x * 2 ^ min y.toNat 32) = 0 := by
 rw [show min y.toNat 32 = 32 by omega, w32_eq]
 omega
theorem shr_big {x y : Int} (hx : In32 x) (h : 31 < y) : x.fdiv (2 ^ min y.toNat 32) = 0 := by
 rw [show min y.toNat 32 = 32 by omega]
 obtain ⟨a, rfl⟩ : ∃ n : Nat, x = n := ⟨x.toNat, by unfold In32 at hx; omega⟩
 unfold In32 at hx
 have e : (a : Int).fdiv (2 ^ 32) = ((a / 2 ^ 32 : Nat) : Int) := by
  rw [show ((2 : Int) ^ 32) = ((2 ^ 32 : Nat) : Int) by simp]
  exact (Int.ofNat_fdiv a (2 ^ 32)).symm
 rw [e]
 omega
def X61 : Table := ext X60 124 saysSh
theorem x61 : TSound Tryz.prog X61 := by
 refine ext_run x60 (f := 124) (fn := Tryz.f124) rfl rfl [0, 1, 2, 6, 8, 9] fun args H p r H' hs hp => ?_
 unfold saysSh at hs
 split at hs
 ·rename_i x y b
  cases hs
  obtain ⟨hx, hy⟩ := hp
  refine ⟨Nat.le_of_ble_eq_true rfl, [], rfl, fun k hk => absurd hk (Nat.not_lt_zero k), ?_⟩
  have hy0 : 0 ≤ y := hy.1
  conv => whnf
  refine cI9 (fun h => ?_) (fun h => ?_)
  ·have h1 : 31 < y := by simpa using h
   conv => whnf
   refine eE9 ⟨?_, rfl⟩
   cases b
   ·show _ = SV.int .u32 (x.fdiv (2 ^ min y.toNat 32))
    rw [shr_big hx h1]
   ·show _ = SV.int .u32 (w32 (x * 2 ^ min y.toNat 32))
    rw [shl_big x h1]
  ·skip
   conv => whnf
   refine cI9 (fun h2 => ?_) (fun h2 => ?_)
   ·subst h2
    repeat ((conv => whnf); refine ⟨by omega, ?_⟩)
    conv => whnf
    exact eE9 ⟨rfl, rfl⟩
   ·subst h2
    repeat ((conv => whnf); refine ⟨by omega, ?_⟩)
    conv => whnf
    exact eE9 ⟨rfl, rfl⟩
 ·cases hs
def saysDec (k : Nat) : Says := saysI fun n => (some (0 ≤ n ∧ n < 10 ^ (k + 1) ∧ k ≤ 17), .str (B (basedV false 10 n.toNat)))
theorem pow_le18 {k : Nat} (h : k ≤ 17) : (10 : Int) ^ (k + 1) ≤ 10 ^ 18 := by
 have h1 : 10 ^ (k + 1) ≤ 10 ^ 18 := Nat.pow_le_pow_right (by decide) (by omega)
 have := Int.ofNat_le.2 h1
 simpa using this
theorem x62k (k : Nat) : TSound Tryz.prog (ext X61 123 (saysDec k)) := by
 refine ext_rec x61 (f := 123) (fn := Tryz.f123) rfl rfl [0, 2, 4] (fun k args H p r H' hs hp => ?_) k
 unfold saysDec saysI at hs
 split at hs
 ·rename_i n
  cases hs
  obtain ⟨h0, h1, h2⟩ : 0 ≤ n ∧ n < 10 ^ (k + 1) ∧ k ≤ 17 := hp
  have hk := pow_le18 h2
  have hn : n < 1000000000000000000 := by
   have : (10 : Int) ^ 18 = 1000000000000000000 := by decide
   omega
  refine ⟨Nat.le_of_ble_eq_true rfl, [], rfl, fun k hk => absurd hk (Nat.not_lt_zero k), ?_⟩
  obtain ⟨N, rfl⟩ : ∃ m : Nat, n = m := ⟨n.toNat, by omega⟩
  conv => whnf
  refine cI9 (fun h => ?_) (fun h => ?_)
  ·have h3 : N < 10 := by have := of_decide_eq_true h; omega
   repeat ((conv => whnf); refine ⟨by first | exact ⟨by omega, by omega, by show (N : Int) + 1 ≤ ((10 : Nat) : Int); omega⟩ | (unfold inI64; omega), ?_⟩)
   conv => whnf
   refine eE9 ⟨?_, rfl⟩
   show _ = SV.str (B (basedV false 10 (N : Int).toNat))
   rw [Int.toNat_natCast, dec_small h3, show ((N : Int) + 1).toNat = N + 1 by omega]
   show SV.str ((B [48, 49, 50, 51, 52, 53, 54, 55, 56, 57]).extract N (N + 1)) = _
   rw [piece1 _ _ (by exact h3)]
   congr 2
   rcases (by omega : N = 0 ∨ N = 1 ∨ N = 2 ∨ N = 3 ∨ N = 4 ∨ N = 5 ∨ N = 6 ∨ N = 7 ∨ N = 8 ∨ N = 9) with rfl | rfl | rfl | rfl | rfl | rfl | rfl | rfl | rfl | rfl <;> rfl
  ·have h3 : 10 ≤ N := by have := of_decide_eq_false h; omega
   cases k with
   | zero => exfalso; simp at h1; omega
   | succ k =>
    have hq := quo_nat N 10 (by omega)
    have hq1 : 0 ≤ IntKind.i64.wrap ((N : Int).tdiv ((10 : Nat) : Int)) ∧ IntKind.i64.wrap ((N : Int).tdiv ((10 : Nat) : Int)) < 10 ^ (k + 1) ∧ k ≤ 17 := by
     rw [hq]
     refine ⟨by omega, ?_, by omega⟩
     rw [Int.pow_succ] at h1
     omega
    have hd : (N : Int).tmod 10 = ((N % 10 : Nat) : Int) := (Int.ofNat_tmod N 10).symm
    have hd1 : 0 ≤ (N : Int).tmod 10 ∧ (N : Int).tmod 10 ≤ (N : Int).tmod 10 + 1 ∧ (N : Int).tmod 10 + 1 ≤ ((10 : Nat) : Int) := by rw [hd]; omega
    have hd2 : inI64 ((N : Int).tmod 10 + 1) := by rw [hd]; unfold inI64; omega
    have hl := basedV_len false 10 (IntKind.i64.wrap ((N : Int).tdiv ((10 : Nat) : Int))).toNat
    repeat ((conv => whnf); refine ⟨by first | exact hq1 | exact hd1 | exact hd2 | omega, ?_⟩)
    conv => whnf
    have hx : (⟨#[48, 49, 50, 51, 52, 53, 54, 55, 56, 57]⟩ : ByteArray).extract ((N : Int).tmod 10).toNat ((N : Int).tmod 10 + 1).toNat = B [(digL false).getD (N % 10) 0] := by
     rw [hd, Int.toNat_natCast, show (((N % 10 : Nat) : Int) + 1).toNat = N % 10 + 1 by omega]
     show (B [48, 49, 50, 51, 52, 53, 54, 55, 56, 57]).extract (N % 10) (N % 10 + 1) = _
     rw [piece1 _ _ (show N % 10 < 10 by omega)]
     congr 2
     generalize hm : N % 10 = m
     rcases (by omega : m = 0 ∨ m = 1 ∨ m = 2 ∨ m = 3 ∨ m = 4 ∨ m = 5 ∨ m = 6 ∨ m = 7 ∨ m = 8 ∨ m = 9) with rfl | rfl | rfl | rfl | rfl | rfl | rfl | rfl | rfl | rfl <;> rfl
    repeat ((conv => whnf); refine ⟨by first | (rw [hx, B_size, B_size]; simp only [List.length_cons, List.length_nil]; exact (show (((basedV false 10 (IntKind.i64.wrap ((N : Int).tdiv ((10 : Nat) : Int))).toNat).length + 1 : Nat) : Int) ≤ 9223372036854775807 by omega)) | exact rfl, ?_⟩)
    conv => whnf
    refine eE9 ⟨?_, rfl⟩
    show _ = SV.str (B (basedV false 10 (N : Int).toNat))
    rw [Int.toNat_natCast, dec_big h3 (by omega), ← B_append]
    have hq2 : IntKind.i64.wrap ((N : Int).tdiv 10) = ((N / 10 : Nat) : Int) := hq
    rw [hx, hq2, Int.toNat_natCast]
 ·cases hs
def X62 : Table := ext X61 123 (saysDec 9)
theorem x62 : TSound Tryz.prog X62 := x62k 9
def saysRange : Says := fun args H => match args, H with
 | [.c (.ptr 0 0), .c (.p (.v (.int .i64 lo))), .c (.p (.v (.int .i64 hi)))], [.row [.p (.l (.int .i64) zs), .p (.v (.int .i64 n))]] => some (some (tapeOk zs n ∧ 0 ≤ lo ∧ lo ≤ hi ∧ hi ≤ 4294967295), .int .i64 (lo + modV (rawV zs n) (hi - lo + 1)), [tapeO zs (rawN zs n)])
 | _, _ => none
def X63 : Table := ext X62 26 saysRange
theorem x63 : TSound Tryz.prog X63 := by
 refine ext_run x62 (f := 26) (fn := Tryz.f26) rfl rfl [0, 1, 2, 6] fun args H p r H' hs hp => ?_
 unfold saysRange at hs
 split at hs
 ·rename_i lo hi zs n
  cases hs
  obtain ⟨ht, h0, h1, h2⟩ := hp
  refine ⟨Nat.le_of_ble_eq_true rfl, [0], rfl, id0, ?_⟩
  have hm0 := mN9 (rawV zs n) (hi - lo + 1)
  have hm1 := modV_lt (rawV zs n) (hi - lo + 1) (by omega)
  repeat ((conv => whnf); refine ⟨by first | exact ⟨ht, by omega⟩ | (unfold inI64; omega), ?_⟩)
  conv => whnf
  exact eE9 ⟨rfl, rfl⟩
 ·cases hs
def saysPick : Says := fun args H => match args, H with
 | [.c (.ptr 0 0), .c (.p (.l (.int .i64) l))], [.row [.p (.l (.int .i64) zs), .p (.v (.int .i64 n))]] => some (some (tapeOk zs n ∧ 1 ≤ (l : List Int).length ∧ (l : List Int).length ≤ 1000), .int .i64 ((l : List Int).getD (modV (rawV zs n) (l : List Int).length).toNat 0), [tapeO zs (rawN zs n)])
 | _, _ => none
def X64 : Table := ext X63 142 saysPick
theorem x64 : TSound Tryz.prog X64 := by
 refine ext_run x63 (f := 142) (fn := Tryz.f142) rfl rfl [0, 1, 4] fun args H p r H' hs hp => ?_
 unfold saysPick at hs
 split at hs
 ·rename_i l zs n
  cases hs
  obtain ⟨ht, h0, h1⟩ := hp
  refine ⟨Nat.le_of_ble_eq_true rfl, [0], rfl, id0, ?_⟩
  have hm0 := mN9 (rawV zs n) (l : List Int).length
  have hm1 := modV_lt (rawV zs n) (l : List Int).length (by omega)
  repeat ((conv => whnf); refine ⟨by first | exact ⟨ht, by omega⟩ | exact ⟨hm0, hm1⟩, ?_⟩)
  conv => whnf
  exact eE9 ⟨rfl, rfl⟩
 ·cases hs
def tnL (zs : List Int) (n : Int) : List Int := [0, 1, 2, 3, 5, 31, 32, 0 + modV (rawV zs n) 301, 4294967295, 2147483648, 0 + modV (rawV zs (rawN zs n)) 4294967296]
def tnV (zs : List Int) (n : Int) : Int := (tnL zs n).getD (modV (rawV zs (rawN zs (rawN zs n))) 11).toNat 0
def tnN (zs : List Int) (n : Int) : Int := rawN zs (rawN zs (rawN zs n))
theorem tnN_ok {zs : List Int} {n : Int} (h : tapeOk zs n) : tapeOk zs (tnN zs n) := rawN_ok (rawN_ok (rawN_ok h))
theorem tnV_in (zs : List Int) (n : Int) : In32 (tnV zs n) := by
 have h1 := mN9 (rawV zs (rawN zs (rawN zs n))) 11
 have h2 := modV_lt (rawV zs (rawN zs (rawN zs n))) 11 (by decide)
 have a1 := mN9 (rawV zs n) 301
 have a2 := modV_lt (rawV zs n) 301 (by decide)
 have b1 := mN9 (rawV zs (rawN zs n)) 4294967296
 have b2 := modV_lt (rawV zs (rawN zs n)) 4294967296 (by decide)
 unfold tnV
 generalize (modV (rawV zs (rawN zs (rawN zs n))) 11) = k at h1 h2
 have hm : (tnL zs n).getD k.toNat 0 ∈ tnL zs n := by
  rw [List.getD_eq_getElem?_getD, List.getElem?_eq_getElem (by show k.toNat < 11; omega)]
  exact List.getElem_mem _
 generalize (tnL zs n).getD k.toNat 0 = v at hm
 simp only [tnL, List.mem_cons, List.not_mem_nil, or_false] at hm
 unfold In32
 omega
def X65 : Table := ext X64 122 (saysTape fun zs n => (some (tapeOk zs n), .int .i64 (tnV zs n), tnN zs n))
theorem x65 : TSound Tryz.prog X65 := by
 refine extTape x64 122 (fn := Tryz.f122) rfl rfl (by decide) _ [0, 2] fun zs n hn => ?_
 have hn1 : tapeOk zs n := hn
 have hn2 := rawN_ok hn1
 have hn3 := rawN_ok hn2
 repeat ((conv => whnf); refine ⟨by first | exact ⟨hn1, by decide⟩ | exact ⟨hn2, by decide⟩ | exact ⟨hn3, Nat.le_of_ble_eq_true rfl, Nat.le_of_ble_eq_true rfl⟩, ?_⟩)
 conv => whnf
 exact eE9 ⟨rfl, rfl⟩
end Go.Ab
