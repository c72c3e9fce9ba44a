/- Package blob: what is read in an encoding: numbers, texts, properties. -/
import Derived.Test.YtnlifjljmbfomaaTY162toY169
import Derived.Test.YtnlifjljmbfomaaTY180toY184
namespace Go.Ab
open Go.Proofs
set_option linter.unusedSectionVars false
set_option maxRecDepth 100000
variable [Glob8]

theorem or8 {n c : Int} (h0 : 0 ≤ n) (h1 : n < 281474976710656) (c0 : 0 ≤ c) (c1 : c < 256) : orS8 n c = n * 256 + c := by
  obtain ⟨n, rfl⟩ : ∃ k : Nat, n = k := ⟨n.toNat, by omega⟩
  obtain ⟨c, rfl⟩ : ∃ k : Nat, c = k := ⟨c.toNat, by omega⟩
  have w : ∀ k : Nat, k < 9223372036854775808 → IntKind.i64.wrap (k : Int) = k := fun k hk => by
    unfold IntKind.wrap
    simp [IntKind.bits, IntKind.signed]
    omega
  have e : (n : Int) * 2 ^ min (Int.toNat 8) IntKind.i64.bits = ((n * 256 : Nat) : Int) := by
    show (n : Int) * 2 ^ 8 = _
    omega
  have o : n * 256 ||| c = n * 256 + c := by
    have := Nat.two_pow_add_eq_or_of_lt (i := 8) (b := c) (by omega) n
    rw [show 2 ^ 8 * n = n * 256 by omega] at this
    exact this.symm
  have bv : ∀ k : Nat, k < 9223372036854775808 → (BitVec.ofInt IntKind.i64.bits (k : Int)).toNat = k := fun k hk => by
    rw [BitVec.ofInt_natCast, BitVec.toNat_ofNat]
    exact Nat.mod_eq_of_lt (Nat.lt_trans hk (by decide))
  unfold orS8
  rw [e, w _ (by omega)]
  unfold bitsA
  dsimp only
  rw [BitVec.toNat_or, bv _ (by omega), bv _ (by omega), o, w _ (by omega)]
  omega
theorem bnR4 {x0 x1 x2 x3 : Int} (c0 : 0 ≤ x0 ∧ x0 < 256) (c1 : 0 ≤ x1 ∧ x1 < 256) (c2 : 0 ≤ x2 ∧ x2 < 256) (c3 : 0 ≤ x3 ∧ x3 < 256) : bnR [x0, x1, x2, x3] = ((x0 * 256 + x1) * 256 + x2) * 256 + x3 := by
  show orS8 (orS8 (orS8 (orS8 0 x0) x1) x2) x3 = _
  rw [or8 (n := 0) (c := x0) (by omega) (by omega) (by omega) (by omega), or8 (c := x1) (by omega) (by omega) (by omega) (by omega), or8 (c := x2) (by omega) (by omega) (by omega) (by omega), or8 (c := x3) (by omega) (by omega) (by omega) (by omega)]
  omega
theorem bnR_cel {n : Int} (h : R32 n) : bnR (cel4 n) = n := by
  unfold R32 at h
  rw [cel4_eq, bnR4 (by omega) (by omega) (by omega) (by omega)]
  omega
theorem bnV_of {b : List Int} {a : Nat} {n : Int} {r : List Int} (h : R32 n) (hb : b.drop a = cel4 n ++ r) : bnV b a = n := by
  unfold bnV
  rw [List.drop_take, Nat.add_sub_cancel_left, hb]
  exact bnR_cel h
theorem cel_drop (n : Int) (r : List Int) (k : Nat) : (cel4 n ++ r).drop (4 + k) = r.drop k := by
  rw [← List.drop_drop]
  rfl
theorem cel_drop4 (n : Int) (r : List Int) : (cel4 n ++ r).drop 4 = r := cel_drop n r 0
theorem dr_cel {b : List Int} {a : Nat} {n : Int} {r : List Int} (hb : b.drop a = cel4 n ++ r) : b.drop (a + 4) = r := by
  rw [← List.drop_drop, hb, cel_drop4]
theorem dr_app {b : List Int} {a : Nat} {l r : List Int} (hb : b.drop a = l ++ r) : b.drop (a + l.length) = r := by
  rw [← List.drop_drop, hb, List.drop_left]
theorem dr_len {b : List Int} {a : Nat} {l r : List Int} (ha : a ≤ b.length) (hb : b.drop a = l ++ r) : a + l.length + r.length = b.length := by
  have := congrArg List.length hb
  rw [List.length_drop, List.length_append] at this
  omega
theorem dr_get {b : List Int} {a : Nat} {l r : List Int} (hb : b.drop a = l ++ r) (i : Nat) (hi : i < l.length) : b.getD (a + i) 0 = l.getD i 0 := by
  have h1 : b.getD (a + i) 0 = (b.drop a).getD i 0 := by
    rw [List.getD_eq_getElem?_getD, List.getD_eq_getElem?_getD, List.getElem?_drop]
  rw [h1, hb, List.getD_eq_getElem?_getD, List.getElem?_append_left hi, ← List.getD_eq_getElem?_getD]
theorem nu_of {b : List Int} {a : Nat} {n : Int} {r : List Int} (hy : BtL b) (hl : b.length ≤ 1000000000) (ha : a ≤ b.length) (hb : b.drop a = cel4 n ++ r) : NumOk b a := by
  have := dr_len ha hb
  rw [cel4_len] at this
  exact ⟨by omega, by omega, hl, hy⟩
/-- Padded bytes. -/
theorem pd_of {b w r : List Int} {a l z : Nat} (h4 : 4 ∣ a) (ha : a ≤ b.length) (hl : b.length ≤ 1000000000) (hb : b.drop a = padL w ++ r) (hw : w.length = l + z) (hz : z ≤ 1) (h0 : ∀ i, l ≤ i → i < w.length → w.getD i 0 = 0) : PdOk b a l z ∧ pdT b a l = bytesOf (w.take l) ∧ alN ((a : Int) + l + z).toNat = a + (padL w).length := by
  have e : alN ((a : Int) + l + z).toNat = a + (padL w).length := by
    rw [pad_len, hw, ← al_add h4]
    exact congrArg alN (by omega)
  have hn := dr_len ha hb
  refine ⟨⟨by omega, by omega, by omega, by omega, by rw [e]; omega, hl, fun i h1 h2 => ?_⟩, ?_, e⟩
  · rw [e] at h2
    obtain ⟨i, rfl⟩ : ∃ k, i = a + k := ⟨i - a, by omega⟩
    rw [dr_get hb i (by omega)]
    unfold padL
    by_cases h3 : i < w.length
    · rw [List.getD_eq_getElem?_getD, List.getElem?_append_left h3, ← List.getD_eq_getElem?_getD]
      exact h0 i (by omega) h3
    · rw [List.getD_eq_getElem?_getD, List.getElem?_append_right (by omega), List.getElem?_replicate]
      split <;> rfl
  · unfold pdT
    rw [List.drop_take, show ((a : Int) + l).toNat - ((a : Int)).toNat = l by omega, Int.toNat_natCast, hb]
    unfold padL
    rw [List.append_assoc, List.take_append_of_le_length (by omega)]
theorem bof_bL (s : ByteArray) : bytesOf (bL s) = s := by
  unfold bytesOf bL
  rw [List.map_map]
  have : ((fun n : Int => UInt8.ofNat n.toNat) ∘ fun b : UInt8 => (b.toNat : Int)) = id := by
    funext b
    show UInt8.ofNat ((b.toNat : Int)).toNat = b
    rw [Int.toNat_natCast]
    simp
  rw [this, List.map_id]
theorem u8_nz {x : Int} (h0 : x ≠ 0) (h1 : 0 ≤ x ∧ x < 256) : UInt8.ofNat x.toNat ≠ 0 := fun h => by
  have := congrArg UInt8.toNat h
  rw [UInt8.toNat_ofNat'] at this
  have h2 : x.toNat % 256 = 0 := this
  omega
theorem ib_zf : ∀ (l r : List Int), (∀ x ∈ l, x ≠ 0) → BtL l → Lib.indexByte (Lib.bytesOf (l ++ 0 :: r)) (Int.toNat 0).toUInt8 = (l.length : Nat) := by
  intro l
  induction l with
  | nil => intro r _ _; rfl
  | cons x l ih =>
    intro r h hb
    have h1 := ih r (fun y hy => h y (by simp [hy])) (fun y hy => hb y (by simp [hy]))
    show (if (UInt8.ofNat x.toNat == (Int.toNat 0).toUInt8) = true then (0 : Int) else if (Lib.indexByte (Lib.bytesOf (l ++ 0 :: r)) (Int.toNat 0).toUInt8 == -1) = true then -1 else Lib.indexByte (Lib.bytesOf (l ++ 0 :: r)) (Int.toNat 0).toUInt8 + 1) = _
    rw [if_neg (by simpa using u8_nz (h x (by simp)) (hb x (by simp))), h1, if_neg (by simp)]
    simp
/-- A text. -/
theorem tx_of {b r : List Int} {a : Nat} {s : ByteArray} (h4 : 4 ∣ a) (ha : a ≤ b.length) (hl : b.length ≤ 1000000000) (hb : b.drop a = padL (bL s ++ [0]) ++ r) (hz : ZF s) : TxOk b a ∧ txS b a = s ∧ txE b a = ((a + (padL (bL s ++ [0])).length : Nat) : Int) := by
  have hi : txL b a = ((bL s).length : Nat) := by
    unfold txL
    rw [Int.toNat_natCast, hb]
    unfold padL
    rw [List.append_assoc, List.append_assoc]
    exact ib_zf (bL s) _ hz (bt_bL s)
  obtain ⟨h1, h2, h3⟩ := pd_of (l := (bL s).length) (z := 1) h4 ha hl hb (by rw [List.length_append]; rfl) (Nat.le_refl _) fun i h1 h2 => by
    rw [List.length_append] at h2
    have h2 : i < (bL s).length + 1 := h2
    obtain rfl : i = (bL s).length := by omega
    simp
  rw [List.take_left', bof_bL] at h2
  · refine ⟨⟨Int.ofNat_le.2 ha, by rw [hi]; exact h1⟩, by unfold txS; rw [hi]; exact h2, ?_⟩
    unfold txE
    rw [hi]
    exact congrArg Nat.cast h3
  · rfl

/-! Names. -/
theorem ix_zf : ∀ (l r : List Int), (∀ x ∈ l, x ≠ 0) → BtL l → Lib.index (Lib.bytesOf (l ++ 0 :: r)) [0] = (l.length : Nat) := by
  intro l
  induction l with
  | nil => intro r _ _; rfl
  | cons x l ih =>
    intro r h hb
    have h1 := ih r (fun y hy => h y (by simp [hy])) (fun y hy => hb y (by simp [hy]))
    have h2 := u8_nz (h x (by simp)) (hb x (by simp))
    show Lib.index (UInt8.ofNat x.toNat :: Lib.bytesOf (l ++ 0 :: r)) [0] = _
    unfold Lib.index
    have h3 : List.isPrefixOf [(0 : UInt8)] (UInt8.ofNat x.toNat :: Lib.bytesOf (l ++ 0 :: r)) = false := by
      simp [List.isPrefixOf]
      exact fun h => h2 h.symm
    rw [h3, h1]
    simp
theorem nm_of {N u r : List Int} {s : ByteArray} (hN : N.length ≤ 1000000000) (h : N = u ++ (bL s ++ 0 :: r)) (hu : EdZ u) (hz : ZF s) : NmOk (bytesOf N) (u.length : Nat) ∧ nmS (bytesOf N) (u.length : Nat) = s := by
  have hs : (bytesOf N).size = N.length := by
    show (N.map _).length = _
    rw [List.length_map]
  have hl := congrArg List.length h
  simp only [List.length_append, List.length_cons] at hl
  refine ⟨⟨by omega, by rw [hs]; omega, fun h0 => ?_, by rw [hs]; omega⟩, ?_⟩
  · rcases hu with hu | ⟨w, hu⟩
    · rw [hu] at h0
      exact absurd h0 (by decide)
    · unfold byteAt
      show (((N.map fun n => UInt8.ofNat n.toNat).getD _ 0).toNat : Int) = 0
      have : (((u.length : Nat) : Int) - 1).toNat = w.length := by
        rw [hu, List.length_append, show [(0 : Int)].length = 1 from rfl]
        omega
      rw [this, h, hu]
      simp
  · have he : (bytesOf N).extract ((u.length : Nat) : Int).toNat (bytesOf N).size = B (Lib.bytesOf (bL s ++ 0 :: r)) := by
      show (B (N.map _)).extract _ _ = _
      rw [B_extract, hs, Int.toNat_natCast, ← List.map_take, ← List.map_drop, List.take_length, h, List.drop_left]
      rfl
    unfold nmS
    rw [he]
    unfold cutV Lib.cut
    dsimp only
    show B (if 0 ≤ Lib.index (Lib.bytesOf (bL s ++ 0 :: r)) [0] then ((Lib.bytesOf (bL s ++ 0 :: r)).take (Lib.index (Lib.bytesOf (bL s ++ 0 :: r)) [0]).toNat, (Lib.bytesOf (bL s ++ 0 :: r)).drop ((Lib.index (Lib.bytesOf (bL s ++ 0 :: r)) [0]).toNat + [(0 : UInt8)].length), true) else (Lib.bytesOf (bL s ++ 0 :: r), [], false)).1 = s
    rw [ix_zf _ _ hz (bt_bL s), if_pos (by omega)]
    dsimp only
    rw [Int.toNat_natCast]
    have : (Lib.bytesOf (bL s ++ 0 :: r)).take (bL s).length = Lib.bytesOf (bL s) := by
      unfold Lib.bytesOf
      rw [← List.map_take, List.take_left]
    rw [this]
    exact bof_bL s
/-- A property. -/
theorem py_of {b r N : List Int} {a : Nat} {d : PrD} {p : Pt} (h4 : 4 ∣ a) (ha : a ≤ b.length) (hl : b.length ≤ 1000000000) (hy : BtL b) (hN : N.length ≤ 1000000000) (hb : b.drop a = cel4 (d.2.size : Nat) ++ (cel4 d.1 ++ (padL (bL d.2) ++ r))) (hd : PrOk N d p) (hz : ZF p.1) (hv : p.2.size ≤ 256) : PyOk b a (bytesOf N) ∧ prP b a (bytesOf N) = p ∧ prE b a = ((a + 8 + (padL (bL d.2)).length : Nat) : Int) := by
  obtain ⟨e, u, q, h1, h2, h3⟩ := hd
  have hul : u.length ≤ N.length := by rw [h1, List.length_append]; omega
  have c2 := dr_cel hb
  have c3 := dr_cel c2
  have l1 := dr_len ha hb
  rw [cel4_len] at l1
  have l2 := dr_len (by omega) c2
  rw [cel4_len] at l2
  have n1 : prL b a = (d.2.size : Nat) := by
    unfold prL
    rw [Int.toNat_natCast]
    exact bnV_of (by unfold R32; rw [e]; omega) hb
  have n2 : prI b a = (u.length : Nat) := by
    unfold prI
    rw [show ((a : Int) + 4).toNat = a + 4 by omega, ← h2]
    exact bnV_of (by unfold R32; omega) c2
  obtain ⟨m1, m2⟩ := nm_of hN h1 h3 hz
  obtain ⟨p1, p2, p3⟩ := pd_of (l := (bL d.2).length) (z := 0) (by omega) (by omega) hl c3 rfl (Nat.zero_le _) fun i h1 h2 => absurd h2 (by omega)
  have ea : ((a + 4 + 4 : Nat) : Int) = (a : Int) + 4 + 4 := by omega
  rw [ea] at p1 p2 p3
  rw [List.take_length, bof_bL] at p2
  have eL : ((bL d.2).length : Nat) = d.2.size := bL_len _
  rw [eL] at p1 p2 p3
  refine ⟨⟨nu_of hy hl ha hb, by have := nu_of hy hl (by omega) c2; rw [show ((a + 4 : Nat) : Int) = (a : Int) + 4 by omega] at this; exact this, by rw [n1, e]; omega, by rw [n2]; exact m1, by rw [n1]; exact p1⟩, ?_, ?_⟩
  · unfold prP
    rw [n1, n2, m2, p2, e]
  · unfold prE
    rw [n1]
    have : alN ((a : Int) + 4 + 4 + (d.2.size : Nat) + 0).toNat = a + 4 + 4 + (padL (bL d.2)).length := p3
    rw [this]

theorem bnV_32 {b : List Int} {a : Nat} (hb : BtL b) (h : a + 4 ≤ b.length) : R32 (bnV b a) := by
  unfold bnV
  have hl : ((b.take (a + 4)).drop a).length = 4 := by rw [List.length_drop, List.length_take]; omega
  have hm : BtL ((b.take (a + 4)).drop a) := fun z hz => hb z (List.mem_of_mem_take (List.mem_of_mem_drop hz))
  generalize (b.take (a + 4)).drop a = l at hl hm
  match l, hl with
  | [x0, x1, x2, x3], _ =>
    have a0 := hm x0 (by simp)
    have a1 := hm x1 (by simp)
    have a2 := hm x2 (by simp)
    have a3 := hm x3 (by simp)
    rw [bnR4 a0 a1 a2 a3]
    unfold R32
    omega
def hdC (b : List Int) : Bool := (!decide (bnV b 4 = 28 + bnV b 8 + bnV b 12) || decide (40000 < bnV b 4)) || !decide (bnV b 8 = ((alN (bnV b 8).toNat : Nat) : Int))
theorem hdC_no {b : List Int} (h : hdC b = false) : bnV b 4 = 28 + bnV b 8 + bnV b 12 ∧ bnV b 4 ≤ 40000 ∧ bnV b 8 = ((alN (bnV b 8).toNat : Nat) : Int) := by
  unfold hdC at h
  simp only [Bool.or_eq_false_iff, Bool.not_eq_false', decide_eq_true_eq, decide_eq_false_iff_not] at h
  exact ⟨h.1.1, by omega, h.2⟩
def hdR (b : List Int) : Int × Int :=
  if b.length < 28 then ((b.length : Nat), 21)
  else if bnV b 0 ≠ 3490578157 then (0, 23)
  else if bnV b 24 ≠ sumV ((b.take 24).drop 0) then (24, 24)
  else if hdC b = true then (4, 2)
  else if ((b.length : Nat) : Int) < bnV b 4 then ((b.length : Nat), 21)
  else if bnV b 4 < ((b.length : Nat) : Int) then (bnV b 4, 2)
  else if bnV b 16 ≠ sumV ((b.take (28 + bnV b 8).toNat).drop 28) then (16, 24)
  else if bnV b 20 ≠ sumV ((b.take b.length).drop (28 + bnV b 8).toNat) then (20, 24)
  else (0, 0)
theorem nd_ne {x y : Int} (h : (!decide (x = y)) = true) : x ≠ y := by simpa using h
theorem nd_eq {x y : Int} (h : (!decide (x = y)) = false) : x = y := by simpa using h
noncomputable def BE1 : Table := ext BD13 20 (saysG daB eaB fun b => (some (BtL b ∧ b.length ≤ 1000000000), .tup [.c (.int .i64 (hdR b).1), .c (.int .i64 (hdR b).2)]))
theorem bE1 : TSound Try.prog BE1 := by
  refine extG bD13 20 (fn := Try.f20) rfl rfl daB eaB _ (fun _ => Nat.le_of_ble_eq_true rfl) [0, 2, 3, 4, 5, 6, 7, 10, 21, 25, 32, 48, 55, 61, 69] fun b hok => ?_
  obtain ⟨hby, hmx⟩ : BtL b ∧ b.length ≤ 1000000000 := hok
  dsimp only
  obtain ⟨R, hR⟩ : ∃ R, hdR b = R := ⟨_, rfl⟩
  rw [hR]
  unfold hdR at hR
  repeat ((conv => whnf); refine ⟨by first | (unfold inI64; omega) | omega | exact ⟨by omega, by omega⟩ | exact rfl | decide +kernel, ?_⟩)
  conv => whnf
  refine cond_intro (fun h => ?_) (fun h => ?_)
  · have h0 : b.length < 28 := Int.ofNat_lt.1 (show ((b.length : Nat) : Int) < ((28 : Nat) : Int) from of_decide_eq_true h)
    rw [if_pos h0] at hR
    subst hR
    repeat ((conv => whnf); refine ⟨by first | (unfold inI64; omega) | omega | exact ⟨by omega, by omega⟩ | exact rfl | decide +kernel, ?_⟩)
    conv => whnf
    exact ends_eq ⟨rfl, rfl⟩
  have hl : 28 ≤ b.length := by
    have : ¬ ((b.length : Nat) : Int) < 28 := of_decide_eq_false h
    omega
  rw [if_neg (by omega)] at hR
  have hnum : ∀ a : Int, 0 ≤ a → a ≤ 24 → [AV.c (.p (.l u8C b)), AV.c (.int .i64 a)] = eaBI (b, a) ∧ (0 ≤ a ∧ a + 4 ≤ (b.length : Nat) ∧ b.length ≤ 1000000000 ∧ BtL b) := fun a h0 h1 => ⟨rfl, h0, by omega, by omega, hby⟩
  have r8 := bnV_32 (a := 8) hby (by omega)
  have r12 := bnV_32 (a := 12) hby (by omega)
  have r4 := bnV_32 (a := 4) hby (by omega)
  unfold R32 at r8 r12 r4
  have hC : hdC b = false → bnV b 4 = 28 + bnV b 8 + bnV b 12 ∧ bnV b 4 ≤ 40000 ∧ bnV b 8 = ((alN (bnV b 8).toNat : Nat) : Int) := hdC_no
  obtain ⟨C, hCC⟩ : ∃ C, hdC b = C := ⟨_, rfl⟩
  unfold hdC at hCC
  rw [show hdC b = C from hCC] at hR hC
  obtain ⟨S, hS⟩ : ∃ S, bnV b 8 = S := ⟨_, rfl⟩
  obtain ⟨K, hK⟩ : ∃ K, bnV b 12 = K := ⟨_, rfl⟩
  obtain ⟨T, hT⟩ : ∃ T, bnV b 4 = T := ⟨_, rfl⟩
  rw [hS] at r8 hC hCC hR
  rw [hK] at r12 hC hCC
  rw [hT] at r4 hC hCC hR
  have hi1 : inI64 (28 + S) := by unfold inI64; omega
  have hi2 : inI64 (28 + S + K) := by unfold inI64; omega
  have hsl : ∀ i j, ((b.take i).drop j).length ≤ 1000000000 := fun i j => by rw [List.length_drop, List.length_take]; omega
  have hb1 : 0 ≤ (0 : Int) ∧ (0 : Int) ≤ 24 ∧ (24 : Int) ≤ (b.length : Nat) := by omega
  have hi0 : inI64 (28 + bnV b 8) := by rw [hS]; exact hi1
  have hx3 : [AV.c (.int .i64 S)] = eaI1 S ∧ (0 ≤ S ∧ S ≤ 1000000000000) := ⟨rfl, by omega, by omega⟩
  repeat ((conv => whnf); refine ⟨by first | exact hi0 | exact hnum _ (by decide) (by decide) | ((conv => whnf); exact ⟨⟨rfl, rfl, rfl⟩, trivial⟩) | exact Early.one (by decide +kernel) (by (conv => whnf); exact ⟨rfl, rfl, rfl⟩) trivial | (unfold inI64; omega) | omega | exact ⟨by omega, by omega⟩ | exact rfl | decide +kernel, ?_⟩)
  conv => whnf
  rw [show bnV b (Int.toNat 8) = S from hS, show bnV b (Int.toNat 4) = T from hT, show bnV b (Int.toNat 12) = K from hK]
  repeat ((conv => whnf); refine ⟨by first | exact hi1 | exact hnum _ (by decide) (by decide) | ((conv => whnf); exact ⟨⟨rfl, rfl, rfl⟩, trivial⟩) | exact Early.one (by decide +kernel) (by (conv => whnf); exact ⟨rfl, rfl, rfl⟩) trivial | (unfold inI64; omega) | omega | exact ⟨by omega, by omega⟩ | exact rfl | decide +kernel, ?_⟩)
  conv => whnf
  refine cond_intro (fun h1 => ?_) (fun h1 => ?_)
  · rw [if_pos (show bnV b 0 ≠ 3490578157 from nd_ne h1)] at hR
    subst hR
    repeat ((conv => whnf); refine ⟨by first | (unfold inI64; omega) | omega | exact ⟨by omega, by omega⟩ | exact rfl | decide +kernel, ?_⟩)
    conv => whnf
    exact ends_eq ⟨rfl, rfl⟩
  rw [if_neg (show ¬ bnV b 0 ≠ 3490578157 from fun h => h (nd_eq h1))] at hR
  repeat ((conv => whnf); refine ⟨by first | exact hb1 | exact hnum _ (by decide) (by decide) | exact ⟨rfl, hsl _ _⟩ | ((conv => whnf); exact ⟨⟨rfl, rfl, rfl⟩, trivial⟩) | exact Early.one (by decide +kernel) (by (conv => whnf); exact ⟨rfl, rfl, rfl⟩) trivial | (unfold inI64; omega) | omega | exact ⟨by omega, by omega⟩ | exact rfl | decide +kernel, ?_⟩)
  conv => whnf
  refine cond_intro (fun h2 => ?_) (fun h2 => ?_)
  · rw [if_pos (show bnV b 24 ≠ sumV ((b.take 24).drop 0) from nd_ne h2)] at hR
    subst hR
    repeat ((conv => whnf); refine ⟨by first | (unfold inI64; omega) | omega | exact ⟨by omega, by omega⟩ | exact rfl | decide +kernel, ?_⟩)
    conv => whnf
    exact ends_eq ⟨rfl, rfl⟩
  rw [if_neg (show ¬ bnV b 24 ≠ sumV ((b.take 24).drop 0) from fun h => h (nd_eq h2))] at hR
  repeat ((conv => whnf); refine ⟨by first | exact hi2 | exact fun _ => hx3 | exact hx3 | ((conv => whnf); exact ⟨⟨rfl, rfl, rfl⟩, trivial⟩) | exact Early.one (by decide +kernel) (by (conv => whnf); exact ⟨rfl, rfl, rfl⟩) trivial | (unfold inI64; omega) | omega | exact ⟨by omega, by omega⟩ | exact rfl | decide +kernel, ?_⟩)
  conv => whnf
  refine cond_intro (fun h3 => ?_) (fun h3 => ?_)
  · have h3' : C = true := hCC.symm.trans h3
    rw [if_pos h3'] at hR
    subst hR
    repeat ((conv => whnf); refine ⟨by first | (unfold inI64; omega) | omega | exact ⟨by omega, by omega⟩ | exact rfl | decide +kernel, ?_⟩)
    conv => whnf
    exact ends_eq ⟨rfl, rfl⟩
  have h3' : C = false := hCC.symm.trans h3
  obtain ⟨t1, t2, t3⟩ := hC h3'
  rw [if_neg (by rw [h3']; decide)] at hR
  repeat ((conv => whnf); refine ⟨by first | (unfold inI64; omega) | omega | exact ⟨by omega, by omega⟩ | exact rfl | decide +kernel, ?_⟩)
  conv => whnf
  refine cond_intro (fun h4 => ?_) (fun h4 => ?_)
  · rw [if_pos (show ((b.length : Nat) : Int) < T from of_decide_eq_true h4)] at hR
    subst hR
    repeat ((conv => whnf); refine ⟨by first | (unfold inI64; omega) | omega | exact ⟨by omega, by omega⟩ | exact rfl | decide +kernel, ?_⟩)
    conv => whnf
    exact ends_eq ⟨rfl, rfl⟩
  have h4' : ¬ ((b.length : Nat) : Int) < T := of_decide_eq_false h4
  rw [if_neg h4'] at hR
  repeat ((conv => whnf); refine ⟨by first | (unfold inI64; omega) | omega | exact ⟨by omega, by omega⟩ | exact rfl | decide +kernel, ?_⟩)
  conv => whnf
  refine cond_intro (fun h5 => ?_) (fun h5 => ?_)
  · rw [if_pos (show T < ((b.length : Nat) : Int) from of_decide_eq_true h5)] at hR
    subst hR
    repeat ((conv => whnf); refine ⟨by first | (unfold inI64; omega) | omega | exact ⟨by omega, by omega⟩ | exact rfl | decide +kernel, ?_⟩)
    conv => whnf
    exact ends_eq ⟨rfl, rfl⟩
  have h5' : ¬ T < ((b.length : Nat) : Int) := of_decide_eq_false h5
  rw [if_neg h5'] at hR
  have hb2 : 0 ≤ (28 : Int) ∧ (28 : Int) ≤ 28 + S ∧ (28 : Int) + S ≤ (b.length : Nat) := by omega
  have hb3 : 0 ≤ (28 : Int) + S ∧ (28 : Int) + S ≤ (b.length : Nat) ∧ ((b.length : Nat) : Int) ≤ (b.length : Nat) := by omega
  repeat ((conv => whnf); refine ⟨by first | exact hb2 | exact hnum _ (by decide) (by decide) | exact ⟨rfl, hsl _ _⟩ | ((conv => whnf); exact ⟨⟨rfl, rfl, rfl⟩, trivial⟩) | exact Early.one (by decide +kernel) (by (conv => whnf); exact ⟨rfl, rfl, rfl⟩) trivial | (unfold inI64; omega) | omega | exact ⟨by omega, by omega⟩ | exact rfl | decide +kernel, ?_⟩)
  conv => whnf
  refine cond_intro (fun h6 => ?_) (fun h6 => ?_)
  · rw [if_pos (show bnV b 16 ≠ sumV ((b.take (28 + S).toNat).drop 28) from nd_ne h6)] at hR
    subst hR
    repeat ((conv => whnf); refine ⟨by first | (unfold inI64; omega) | omega | exact ⟨by omega, by omega⟩ | exact rfl | decide +kernel, ?_⟩)
    conv => whnf
    exact ends_eq ⟨rfl, rfl⟩
  rw [if_neg (show ¬ bnV b 16 ≠ sumV ((b.take (28 + S).toNat).drop 28) from fun h => h (nd_eq h6))] at hR
  repeat ((conv => whnf); refine ⟨by first | exact hb3 | exact hnum _ (by decide) (by decide) | exact ⟨rfl, hsl _ _⟩ | ((conv => whnf); exact ⟨⟨rfl, rfl, rfl⟩, trivial⟩) | exact Early.one (by decide +kernel) (by (conv => whnf); exact ⟨rfl, rfl, rfl⟩) trivial | (unfold inI64; omega) | omega | exact ⟨by omega, by omega⟩ | exact rfl | decide +kernel, ?_⟩)
  conv => whnf
  have e0 : (((b.length : Nat) : Int)).toNat = b.length := Int.toNat_natCast _
  rw [e0]
  refine cond_intro (fun h7 => ?_) (fun h7 => ?_)
  · rw [if_pos (show bnV b 20 ≠ sumV ((b.take b.length).drop (28 + S).toNat) from nd_ne h7)] at hR
    subst hR
    repeat ((conv => whnf); refine ⟨by first | (unfold inI64; omega) | omega | exact ⟨by omega, by omega⟩ | exact rfl | decide +kernel, ?_⟩)
    conv => whnf
    exact ends_eq ⟨rfl, rfl⟩
  rw [if_neg (show ¬ bnV b 20 ≠ sumV ((b.take b.length).drop (28 + S).toNat) from fun h => h (nd_eq h7))] at hR
  subst hR
  repeat ((conv => whnf); refine ⟨by first | (unfold inI64; omega) | omega | exact ⟨by omega, by omega⟩ | exact rfl | decide +kernel, ?_⟩)
  conv => whnf
  exact ends_eq ⟨rfl, rfl⟩

/-- No tree, a place and an error. -/
def decE (x : Int × Int) : SV := .tup [.agg [.p (.v (.slice none 0 0))], .c (.int .i64 x.1), .c (.int .i64 x.2)]
def saysDcE : Says := saysG daB eaB fun b => (some ((BtL b ∧ b.length ≤ 1000000000) ∧ (hdR b).2 ≠ 0), decE (hdR b))
theorem dc_e : TSound Try.prog (ext BE1 10 saysDcE) := by
  refine extG bE1 10 (fn := Try.f10) rfl rfl daB eaB _ (fun _ => Nat.le_of_ble_eq_true rfl) [0, 2, 3, 4, 5, 6, 7, 8, 9, 10, 17, 25, 43, 54] fun b hok => ?_
  obtain ⟨hb, he⟩ : (BtL b ∧ b.length ≤ 1000000000) ∧ (hdR b).2 ≠ 0 := hok
  dsimp only
  repeat ((conv => whnf); refine ⟨by first | exact ⟨rfl, hb⟩ | (unfold inI64; omega) | omega | exact ⟨by omega, by omega⟩ | exact rfl | decide +kernel, ?_⟩)
  conv => whnf
  obtain ⟨R, hR⟩ : ∃ R, hdR b = R := ⟨_, rfl⟩
  rw [hR] at he ⊢
  obtain ⟨pl, e⟩ := R
  have he : e ≠ 0 := he
  repeat ((conv => whnf); refine ⟨by first | (unfold inI64; omega) | omega | exact ⟨by omega, by omega⟩ | exact rfl | decide +kernel, ?_⟩)
  conv => whnf
  refine cond_intro (fun h => ?_) (fun h => ?_)
  · repeat ((conv => whnf); refine ⟨by first | (unfold inI64; omega) | omega | exact ⟨by omega, by omega⟩ | exact rfl | decide +kernel, ?_⟩)
    conv => whnf
    exact ends_eq ⟨rfl, rfl⟩
  · exact absurd (nd_eq h) he

/-- From here the reader comes to these nodes. -/
def Gd (b : List Int) (nm : ByteArray) (tg : List Nd) (s : RS) : Prop := ∃ m, rsOk b nm m s ∧ fxN (rsIt b nm m s).2.2.1 (rsIt b nm m s).2.2.2.1 = tg
theorem gd_step {b nm tg a v ns ps op lv g} (h1 : ElOk b a nm ns op lv) (h2 : ps.length < 100000) (h3 : Gd b nm tg (rsStep b nm (a, v, ns, ps, op, lv, g))) : Gd b nm tg (a, v, ns, ps, op, lv, g) := by
  obtain ⟨m, h4, h5⟩ := h3
  exact ⟨m + 1, ⟨h1, h2, h4⟩, h5⟩
/-- The nodes up to one, whose properties are not read yet. -/
def hdN (tg : List Nd) (i : Nat) : List Nd := tg.take i ++ [((ndAt tg i).1, (ndAt tg i).2.1, [])]
theorem hd_len {tg : List Nd} {i : Nat} (hi : i < tg.length) : (hdN tg i).length = i + 1 := by
  unfold hdN
  rw [List.length_append, List.length_take]
  show min i tg.length + 1 = _
  omega
theorem hd_fx {tg : List Nd} {i : Nat} (hi : i < tg.length) (ps : List Pt) : fxN (hdN tg i) ps = tg.take i ++ [((ndAt tg i).1, (ndAt tg i).2.1, ps)] := by
  have ht : (tg.take i).length = i := by rw [List.length_take]; omega
  have hat : ndAt (hdN tg i) i = ((ndAt tg i).1, (ndAt tg i).2.1, []) := by
    unfold hdN ndAt
    rw [List.getD_eq_getElem?_getD, List.getElem?_append_right (by omega), ht, Nat.sub_self]
    rfl
  unfold fxN
  rw [hd_len hi, Nat.add_sub_cancel, hat]
  unfold hdN
  rw [List.set_append_right _ _ (by omega), ht, Nat.sub_self]
  rfl
theorem hd_full {tg : List Nd} {i : Nat} (hi : i < tg.length) : fxN (hdN tg i) (ndAt tg i).2.2 = tg.take (i + 1) := by
  rw [hd_fx hi, List.take_succ_eq_append_getElem hi, nd_at' hi]
theorem hd_par {tg : List Nd} {i j : Nat} (hi : i < tg.length) (hj : j ≤ i) : (ndAt (hdN tg i) j).1 = (ndAt tg j).1 := by
  have ht : (tg.take i).length = i := by rw [List.length_take]; omega
  unfold hdN
  by_cases h : j = i
  · subst h
    unfold ndAt
    rw [List.getD_eq_getElem?_getD, List.getElem?_append_right (by omega), ht, Nat.sub_self]
    rfl
  · unfold ndAt
    rw [List.getD_eq_getElem?_getD, List.getElem?_append_left (by omega), List.getElem?_take, if_pos (by omega), ← List.getD_eq_getElem?_getD]

/-- What is fixed while an encoding is read: its bytes up to the end of the structure, its strings. -/
structure RdC (b N : List Int) (tg : List Nd) : Prop where
  vl : Vl tg
  hy : BtL b
  hl : b.length ≤ 1000000000
  nl : N.length ≤ 1000000000
  ny : BtL N
theorem el_prs {b N : List Int} {tg : List Nd} (hc : RdC b N tg) {i : Nat} (hi : i < tg.length) {v : Nat} {g : Option (List Pt)} {r : List Int} : ∀ (D : List PrD) (l ps : List Pt) (a : Nat), All2 (PrOk N) D l → (∀ p ∈ l, ZF p.1 ∧ p.2.size ≤ 256) → ps.length + l.length ≤ 24 → 4 ∣ a → a ≤ b.length → b.drop a = D.flatMap prB ++ r →
    (∀ a', 4 ∣ a' → a' ≤ b.length → b.drop a' = r → Gd b (bytesOf N) tg ((a' : Int), v, hdN tg i, ps ++ l, (i : Int), ((dpV tg i : Nat) : Int) + 1, g)) →
    Gd b (bytesOf N) tg ((a : Int), v, hdN tg i, ps, (i : Int), ((dpV tg i : Nat) : Int) + 1, g) := by
  intro D
  induction D with
  | nil =>
    intro l ps a h _ _ h4 ha hb hk
    cases h
    rw [List.append_nil] at hk
    exact hk a h4 ha hb
  | cons d D ih =>
    intro l ps a h hz hps h4 ha hb hk
    cases h with
    | @cons _ p _ l h1 h2 =>
      rw [List.length_cons] at hps
      rw [List.flatMap_cons, List.append_assoc] at hb
      have hb1 : b.drop a = cel4 3 ++ (cel4 (d.2.size : Nat) ++ (cel4 d.1 ++ (padL (bL d.2) ++ (D.flatMap prB ++ r)))) := by
        rw [hb]
        unfold prB
        simp only [celO_cons, List.append_assoc]
        rfl
      obtain ⟨z1, z2⟩ := hz p (by simp)
      have hn := nu_of hc.hy hc.hl ha hb1
      have hl1 := dr_len ha hb1
      rw [cel4_len] at hl1
      obtain ⟨y1, y2, y3⟩ := py_of (by omega) (by omega) hc.hl hc.hy hc.nl (dr_cel hb1) h1 z1 z2
      have ea : ((a + 4 : Nat) : Int) = (a : Int) + 4 := by omega
      rw [ea] at y1 y2 y3
      have k3 : bnV b ((a : Int)).toNat = 3 := by rw [Int.toNat_natCast]; exact bnV_of (by unfold R32; omega) hb1
      have hd8 := hc.vl.dep i hi
      have hlen := hc.vl.f.len
      have hdl := hd_len (tg := tg) hi
      refine gd_step ⟨hn, by omega, by omega, by omega, by omega, by omega, by omega, (fun h => by rw [k3] at h; cases h), .inr (.inr k3), fun _ => ⟨y1, by omega⟩⟩ (by omega) ?_
      unfold rsStep
      dsimp only
      rw [if_neg (by rw [k3]; decide), if_neg (by rw [k3]; decide), y2, y3]
      have hb2 := dr_app (dr_cel (dr_cel (dr_cel hb1)))
      have g1 := dr_len (by omega) (dr_cel hb1)
      rw [cel4_len] at g1
      have g2 := dr_len (by omega) (dr_cel (dr_cel hb1))
      rw [cel4_len] at g2
      have hl2 := dr_len (by omega) (dr_cel (dr_cel (dr_cel hb1)))
      have e2 : a + 4 + 4 + 4 + (padL (bL d.2)).length = a + 4 + 8 + (padL (bL d.2)).length := by omega
      rw [e2] at hb2
      have := al_mod (bL d.2).length
      rw [← pad_len] at this
      refine ih l (ps ++ [p]) _ h2 (fun q hq => hz q (by simp [hq])) (by rw [List.length_append]; show _ + 1 + _ ≤ _; omega) (by omega) (by omega) hb2 fun a' h5 h6 h7 => ?_
      rw [List.append_assoc]
      exact hk a' h5 h6 h7

/-- The node that is open after so many ends. -/
def upO (tg : List Nd) : Nat → Nat → Int
  | 0, j => (j : Int)
  | c + 1, j => (ndAt tg (upN tg c j)).1
theorem el_ends {b N : List Int} {tg : List Nd} (hc : RdC b N tg) {i : Nat} (hi : i < tg.length) {v : Nat} {g : Option (List Pt)} {ps : List Pt} (hps : ps.length < 100000) {r : List Int} : ∀ (c j a : Nat), j ≤ i → c ≤ dpV tg j + 1 → 4 ∣ a → a ≤ b.length → b.drop a = celO (List.replicate c 2) ++ r →
    (∀ a', 4 ∣ a' → a' ≤ b.length → b.drop a' = r → Gd b (bytesOf N) tg ((a' : Int), v, hdN tg i, ps, upO tg c j, ((dpV tg j : Nat) : Int) + 1 - (c : Nat), g)) →
    Gd b (bytesOf N) tg ((a : Int), v, hdN tg i, ps, (j : Int), ((dpV tg j : Nat) : Int) + 1, g) := by
  intro c
  induction c with
  | zero =>
    intro j a hj _ h4 ha hb hk
    have := hk a h4 ha hb
    rw [show ((dpV tg j : Nat) : Int) + 1 - ((0 : Nat) : Int) = ((dpV tg j : Nat) : Int) + 1 by omega] at this
    exact this
  | succ c ih =>
    intro j a hj hcd h4 ha hb hk
    rw [List.replicate_succ, celO_cons, List.append_assoc] at hb
    have hn := nu_of hc.hy hc.hl ha hb
    have hl1 := dr_len ha hb
    rw [cel4_len] at hl1
    have k2 : bnV b ((a : Int)).toNat = 2 := by rw [Int.toNat_natCast]; exact bnV_of (by unfold R32; omega) hb
    have hd8 := hc.vl.dep j (by omega)
    have hlen := hc.vl.f.len
    have hdl := hd_len (tg := tg) hi
    refine gd_step ⟨hn, by omega, by omega, by omega, by omega, by omega, by omega, (fun h => by rw [k2] at h; cases h), .inr (.inl k2), fun h => by rw [k2] at h; cases h⟩ hps ?_
    unfold rsStep
    dsimp only
    rw [if_neg (by rw [k2]; decide), if_pos k2, Int.toNat_natCast, hd_par hi hj]
    have ea : (a : Int) + 4 = ((a + 4 : Nat) : Int) := by omega
    have el : ((dpV tg j : Nat) : Int) + 1 - 1 = ((dpV tg j : Nat) : Int) := by omega
    rw [ea, el]
    rcases Nat.eq_zero_or_pos j with h0 | h0
    · subst h0
      have hd0 : dpV tg 0 = 0 := rfl
      obtain rfl : c = 0 := by omega
      have := hk (a + 4) (by omega) (by omega) (dr_cel hb)
      rw [show ((dpV tg 0 : Nat) : Int) + 1 - ((0 + 1 : Nat) : Int) = ((dpV tg 0 : Nat) : Int) by omega] at this
      exact this
    · obtain ⟨p1, p2⟩ := par_lt hc.vl.f.par h0 (by omega)
      have hd := dp_par hc.vl.f h0 (by omega)
      rw [← p2]
      have e2 : ((dpV tg j : Nat) : Int) = ((dpV tg (paN tg j) : Nat) : Int) + 1 := by omega
      rw [e2]
      refine ih (paN tg j) (a + 4) (by omega) (by omega) (by omega) (by omega) (dr_cel hb) fun a' h5 h6 h7 => ?_
      have := hk a' h5 h6 h7
      have e3 : upO tg c (paN tg j) = upO tg (c + 1) j := by
        cases c with
        | zero => exact p2
        | succ c => rfl
      rw [e3, show ((dpV tg (paN tg j) : Nat) : Int) + 1 - (c : Nat) = ((dpV tg j : Nat) : Int) + 1 - ((c + 1 : Nat) : Int) by omega]
      exact this

/-- What follows a node. -/
def rsT (tg : List Nd) (i : Nat) : List Int := ((datG tg tg.length).drop i).flatMap ndB ++ (celO (List.replicate (dpV tg (tg.length - 1) + 1) 2) ++ celO [9])
theorem rsT_at {tg : List Nd} {i : Nat} (hi : i < tg.length) : rsT tg i = celO (List.replicate (cnB tg i) 2) ++ (cel4 1 ++ (padL (bL (ndAt tg i).2.1 ++ [0]) ++ ((dN tg i).2.2.flatMap prB ++ rsT tg (i + 1)))) := by
  unfold rsT
  have h1 : (datG tg tg.length).drop i = dN tg i :: (datG tg tg.length).drop (i + 1) := by
    have h2 : i < (datG tg tg.length).length := by rw [dat_len]; exact hi
    rw [List.drop_eq_getElem_cons h2]
    have h3 := dat_at tg hi
    rw [List.getElem?_eq_getElem h2] at h3
    rw [Option.some.inj h3]
  rw [h1, List.flatMap_cons]
  unfold ndB
  rw [celO_one]
  simp only [List.append_assoc]
  rfl
theorem rsT_end (tg : List Nd) : rsT tg tg.length = celO (List.replicate (dpV tg (tg.length - 1) + 1) 2) ++ celO [9] := by
  unfold rsT
  rw [List.drop_eq_nil_of_le (by rw [dat_len]; exact Nat.le_refl _)]
  rfl
theorem upO_root {tg : List Nd} (hv : Vl tg) {i : Nat} (hi : i < tg.length) : upO tg (dpV tg i + 1) i = -1 := by
  obtain ⟨h1, _⟩ := dp_up hv.f (i + 1) i (Nat.lt_succ_self _) hi
  show (ndAt tg (upN tg (dpV tg i) i)).1 = -1
  have h1 : upN tg (dpV tg i) i = 0 := h1
  rw [h1]
  exact vl_pa0 hv.f
theorem upO_next {tg : List Nd} (hv : Vl tg) {i : Nat} (hi : i + 1 < tg.length) : upO tg (cnB tg (i + 1)) i = (ndAt tg (i + 1)).1 := by
  rcases par_of hv hi with ⟨h1, h2⟩ | ⟨t, h1, h2⟩
  · rw [h1, h2]
    rfl
  · rw [h1, h2]
    rfl
theorem el_nodes {b N : List Int} {tg : List Nd} (hc : RdC b N tg) (hN : N = b8L tg) (he : ∀ a, a ≤ b.length → b.drop a = celO [9] → a + 4 = b.length) : ∀ (k i : Nat), i + k + 1 = tg.length → ∀ (a v : Nat) (g : Option (List Pt)), 4 ∣ a → a ≤ b.length → b.drop a = (dN tg i).2.2.flatMap prB ++ rsT tg (i + 1) →
    Gd b (bytesOf N) tg ((a : Int), v, hdN tg i, [], (i : Int), ((dpV tg i : Nat) : Int) + 1, g) := by
  intro k
  induction k with
  | zero =>
    intro i hik a v g h4 ha hb
    have hi : i < tg.length := by omega
    have hz := vl_sz hc.vl.f hi
    have hp := (pl_g tg tg.length (Nat.le_refl _)).2 i hi
    have hp : All2 (PrOk (b8L tg)) (dN tg i).2.2 (ndAt tg i).2.2 := hp
    rw [← hN] at hp
    refine el_prs hc hi _ _ [] a hp (fun p hpm => ⟨(vl_zf hc.vl.f hi).2 p hpm, (hz.pn p hpm).2⟩) (by have := hz.pl; show 0 + _ ≤ _; omega) h4 ha hb fun a1 h5 h6 h7 => ?_
    rw [List.nil_append]
    rw [show i + 1 = tg.length by omega, rsT_end, show tg.length - 1 = i by omega] at h7
    refine el_ends hc hi (by have := hz.pl; omega) (dpV tg i + 1) i a1 (Nat.le_refl _) (Nat.le_refl _) h5 h6 h7 fun a2 h8 h9 h10 => ?_
    rw [upO_root hc.vl hi]
    have h11 : b.drop a2 = cel4 9 ++ [] := by rw [h10, celO_one, List.append_nil]
    have h12 := he a2 h9 h10
    refine ⟨0, ⟨rfl, nu_of hc.hy hc.hl h9 h11, by rw [Int.toNat_natCast]; exact bnV_of (by unfold R32; omega) h11, by omega, by rw [hd_len hi]; omega⟩, ?_⟩
    show fxN (hdN tg i) (ndAt tg i).2.2 = tg
    rw [hd_full hi, List.take_of_length_le (by omega)]
  | succ k ih =>
    intro i hik a v g h4 ha hb
    have hi : i < tg.length := by omega
    have hi1 : i + 1 < tg.length := by omega
    have hz := vl_sz hc.vl.f hi
    have hp := (pl_g tg tg.length (Nat.le_refl _)).2 i hi
    have hp : All2 (PrOk (b8L tg)) (dN tg i).2.2 (ndAt tg i).2.2 := hp
    rw [← hN] at hp
    refine el_prs hc hi _ _ [] a hp (fun p hpm => ⟨(vl_zf hc.vl.f hi).2 p hpm, (hz.pn p hpm).2⟩) (by have := hz.pl; show 0 + _ ≤ _; omega) h4 ha hb fun a1 h5 h6 h7 => ?_
    rw [List.nil_append]
    rw [rsT_at hi1] at h7
    obtain ⟨_, _, hdd⟩ := cl_vl hc.vl hi1 (Nat.le_refl _)
    have hcn : cnB tg (i + 1) = dpV tg i + 1 - dpV tg (i + 1) := if_neg (by omega)
    refine el_ends hc hi (by have := hz.pl; omega) (cnB tg (i + 1)) i a1 (Nat.le_refl _) (by omega) h5 h6 h7 fun a2 h8 h9 h10 => ?_
    rw [upO_next hc.vl hi1, show ((dpV tg i : Nat) : Int) + 1 - (cnB tg (i + 1) : Nat) = ((dpV tg (i + 1) : Nat) : Int) by omega]
    have hn := nu_of hc.hy hc.hl h9 h10
    have hl1 := dr_len h9 h10
    rw [cel4_len] at hl1
    have k1 : bnV b ((a2 : Int)).toNat = 1 := by rw [Int.toNat_natCast]; exact bnV_of (by unfold R32; omega) h10
    obtain ⟨t1, t2, t3⟩ := tx_of (by omega) (by omega) hc.hl (dr_cel h10) (vl_zf hc.vl.f hi1).1
    have ea : ((a2 + 4 : Nat) : Int) = (a2 : Int) + 4 := by omega
    rw [ea] at t1 t2 t3
    have hd8 := hc.vl.dep (i + 1) hi1
    have hlen := hc.vl.f.len
    have hdl := hd_len (tg := tg) hi
    obtain ⟨p1, p2⟩ := par_lt hc.vl.f.par (j := i + 1) (by omega) hi1
    refine gd_step ⟨hn, by omega, by omega, by rw [← p2]; omega, by rw [← p2]; omega, by omega, by omega, fun _ => ⟨t1, by omega, by omega⟩, .inl k1, fun h => by rw [k1] at h; cases h⟩ (by have := hz.pl; omega) ?_
    unfold rsStep
    dsimp only
    rw [if_pos k1, t2, t3, hd_full hi, hdl]
    have e1 : tg.take (i + 1) ++ [((ndAt tg (i + 1)).1, (ndAt tg (i + 1)).2.1, [])] = hdN tg (i + 1) := rfl
    rw [e1]
    have hb2 := dr_app (dr_cel h10)
    have hl2 := dr_len (by omega) (dr_cel h10)
    have := al_mod (bL (ndAt tg (i + 1)).2.1 ++ [(0 : Int)]).length
    rw [← pad_len] at this
    exact ih (i + 1) (by omega) _ _ _ (by omega) (by omega) hb2
end Go.Ab
