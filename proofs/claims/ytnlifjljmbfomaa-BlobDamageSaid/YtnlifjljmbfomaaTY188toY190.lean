/- Package blob: an encoding is what Decode asks, and its tree is the tree. -/
import Derived.Test.YtnlifjljmbfomaaTY185toY186
import Derived.Test.YtnlifjljmbfomaaTY64toU6
namespace Go.Ab
open Go.Proofs
set_option linter.unusedSectionVars false
set_option maxRecDepth 100000
variable [Glob8]

/-- The header. -/
def enH (S N : List Int) : List Int := hd24 S N ++ celO [sumV (hd24 S N)]
theorem enH_len (S N : List Int) : (enH S N).length = 28 := by
  unfold enH
  rw [List.length_append, hd24_len, celO_length]
  rfl
theorem enL_eq (S N : List Int) : encL S N = (enH S N ++ S) ++ N := rfl
theorem en_cells (S N : List Int) : encL S N = cel4 3490578157 ++ (cel4 (28 + (S.length : Int) + (N.length : Nat)) ++ (cel4 (S.length : Nat) ++ (cel4 (N.length : Nat) ++ (cel4 (sumV S) ++ (cel4 (sumV N) ++ (cel4 (sumV (hd24 S N)) ++ (S ++ N))))))) := by
  have z : celO [] = [] := rfl
  unfold encL
  generalize sumV (hd24 S N) = q
  unfold hd24 hdL
  simp only [celO_cons, z, List.nil_append, List.append_nil, List.append_assoc]
theorem en_t24 (S N : List Int) : ((encL S N).take 24).drop 0 = hd24 S N := by
  show (encL S N).take 24 = _
  unfold encL
  rw [List.append_assoc, List.append_assoc, ← hd24_len S N, List.take_left]
theorem en_tS (S N : List Int) : ((encL S N).take (28 + S.length)).drop 28 = S := by
  have h : (enH S N ++ S).length = 28 + S.length := by rw [List.length_append, enH_len]
  rw [enL_eq, ← h, List.take_left, ← enH_len S N, List.drop_left]
theorem en_tH (S N : List Int) : ((encL S N).take (28 + S.length)).drop 0 = enH S N ++ S := by
  have h : (enH S N ++ S).length = 28 + S.length := by rw [List.length_append, enH_len]
  show (encL S N).take _ = _
  rw [enL_eq, ← h, List.take_left]
theorem en_tN (S N : List Int) : ((encL S N).take (encL S N).length).drop (28 + S.length) = N := by
  have h : (enH S N ++ S).length = 28 + S.length := by rw [List.length_append, enH_len]
  rw [List.take_length, enL_eq, ← h, List.drop_left]
structure EnN (S N : List Int) : Prop where
  n0 : bnV (encL S N) 0 = 3490578157
  n4 : bnV (encL S N) 4 = 28 + (S.length : Int) + (N.length : Nat)
  n8 : bnV (encL S N) 8 = (S.length : Nat)
  n12 : bnV (encL S N) 12 = (N.length : Nat)
  n16 : bnV (encL S N) 16 = sumV S
  n20 : bnV (encL S N) 20 = sumV N
  n24 : bnV (encL S N) 24 = sumV (hd24 S N)
theorem en_n (S N : List Int) (h : S.length + N.length ≤ 2000000) : EnN S N := by
  have c0 : (encL S N).drop 0 = _ := en_cells S N
  have c4 := dr_cel c0
  have c8 := dr_cel c4
  have c12 := dr_cel c8
  have c16 := dr_cel c12
  have c20 := dr_cel c16
  have c24 := dr_cel c20
  have q1 := sumV_in S
  have q2 := sumV_in N
  have q3 := sumV_in (hd24 S N)
  exact ⟨bnV_of (by unfold R32; omega) c0, bnV_of (by unfold R32; omega) c4, bnV_of (by unfold R32; omega) c8, bnV_of (by unfold R32; omega) c12, bnV_of q1 c16, bnV_of q2 c20, bnV_of q3 c24⟩
theorem bS_dv (ns : List Nd) : 4 ∣ (b8S ns).length := by
  obtain ⟨_, h2⟩ := b8G_len (ns := ns) ns.length (Nat.le_refl _)
  unfold b8S
  rw [List.length_append, List.length_append, celO_length, celO_length]
  show 4 ∣ _ + _ + 4 * 1
  omega
theorem en_hd {ns : List Nd} (hv : Vl ns) (hl : (encV ns).length ≤ 40000) : HdG (encV ns) := by
  obtain ⟨a1, a2⟩ := b8_lens hv
  have e := en_n (b8S ns) (b8L ns) (by omega)
  have hlen : (encV ns).length = 28 + (b8S ns).length + (b8L ns).length := encL_len _ _
  have hb := bt_enc hv
  unfold encV at *
  have t1 := en_tS (b8S ns) (b8L ns)
  have t2 := en_tN (b8S ns) (b8L ns)
  have t3 := en_t24 (b8S ns) (b8L ns)
  have hd := bS_dv ns
  have et : (28 + bnV (encL (b8S ns) (b8L ns)) 8).toNat = 28 + (b8S ns).length := by rw [e.n8]; omega
  refine ⟨hb, by omega, hl, e.n0, by rw [e.n4, hlen]; omega, by rw [e.n8]; omega, by rw [e.n12]; omega, by rw [e.n8, Int.toNat_natCast, al_of hd], by rw [e.n8, e.n12, hlen]; omega, by rw [et, t1]; exact e.n16, by rw [et, t2]; exact e.n20, by rw [t3]; exact e.n24⟩
theorem dc_ok {ns : List Nd} (hv : Vl ns) (hl : (encV ns).length ≤ 40000) : DcOk (encV ns) ∧ dcN (encV ns) = ns := by
  have hh := en_hd hv hl
  obtain ⟨a1, a2⟩ := b8_lens hv
  have e := en_n (b8S ns) (b8L ns) (by omega)
  have hlen : (encV ns).length = 28 + (b8S ns).length + (b8L ns).length := encL_len _ _
  have e8 : bnV (encV ns) 8 = ((b8S ns).length : Nat) := e.n8
  have et : (nrE (encV ns)).toNat = 28 + (b8S ns).length := by unfold nrE; rw [e8]; omega
  have dB : dcB (encV ns) = enH (b8S ns) (b8L ns) ++ b8S ns := by unfold dcB; rw [et]; exact en_tH _ _
  have dS : dcS (encV ns) = bytesOf (b8L ns) := by unfold dcS; rw [et]; exact congrArg bytesOf (en_tN _ _)
  obtain ⟨b, hb⟩ : ∃ b, enH (b8S ns) (b8L ns) ++ b8S ns = b := ⟨_, rfl⟩
  have hbl : b.length = 28 + (b8S ns).length := by rw [← hb, List.length_append, enH_len]
  have hby : BtL b := fun z hz => hh.byt z (by
    show z ∈ encL _ _
    rw [enL_eq, hb]
    exact List.mem_append_left _ hz)
  have hd28 : b.drop 28 = rsT ns 0 := by
    rw [← hb, ← enH_len (b8S ns) (b8L ns), List.drop_left, dat_S]
    rfl
  have hfl := hv.f.len
  have h0 : 0 < ns.length := by omega
  rw [rsT_at h0] at hd28
  have hd28 : b.drop 28 = cel4 1 ++ (padL (bL (ndAt ns 0).2.1 ++ [0]) ++ ((dN ns 0).2.2.flatMap prB ++ rsT ns (0 + 1))) := hd28
  have hc : RdC b (b8L ns) ns := ⟨hv, hby, by omega, by omega, bt_N hv⟩
  have hl1 := dr_len (by omega) hd28
  rw [cel4_len] at hl1
  have hn := nu_of hby hc.hl (by omega) hd28
  have hd32 := dr_cel hd28
  have hl2 := dr_len (by omega) hd32
  obtain ⟨t1, t2, t3⟩ := tx_of ⟨8, rfl⟩ (by omega) hc.hl hd32 (vl_zf hv.f h0).1
  have hal := al_mod (bL (ndAt ns 0).2.1 ++ [(0 : Int)]).length
  rw [← pad_len] at hal
  have g := el_nodes hc rfl (fun a h1 h2 => by
    have := dr_len (l := cel4 9) (r := []) h1 (by rw [h2, celO_one, List.append_nil])
    rw [cel4_len] at this
    exact this) (ns.length - 1) 0 (by omega) _ 0 none (by omega) (by omega) (dr_app hd32)
  have es : rs0 b 28 = (((32 + (padL (bL (ndAt ns 0).2.1 ++ [0])).length : Nat) : Int), 0, hdN ns 0, [], ((0 : Nat) : Int), ((dpV ns 0 : Nat) : Int) + 1, none) := by
    unfold rs0
    have t2 : txS b (28 + 4) = (ndAt ns 0).2.1 := t2
    have t3 : txE b (28 + 4) = ((32 + (padL (bL (ndAt ns 0).2.1 ++ [0])).length : Nat) : Int) := t3
    rw [t2, t3]
    unfold hdN
    rw [vl_pa0 hv.f]
    rfl
  have g : Gd b (bytesOf (b8L ns)) ns (rs0 b 28) := by rw [es]; exact g
  obtain ⟨m, g1, g2⟩ := g
  have hN : dcN (encV ns) = ns := by
    unfold dcN
    rw [dB, dS, hb, rdF_eq g1]
    obtain ⟨F, hF⟩ : ∃ F, rsIt b (bytesOf (b8L ns)) m (rs0 b 28) = F := ⟨_, rfl⟩
    rw [hF] at g2 ⊢
    exact g2
  refine ⟨⟨hh, ⟨⟨by decide, by show (8 : Int) + 4 ≤ _; omega, by omega, hh.byt⟩, hh.s0, by rw [e8]; omega⟩, by rw [dB, hb]; exact hn, by rw [dB, hb]; exact bnV_of (by unfold R32; omega) hd28, by rw [dB, hb]; exact t1, ⟨m, by rw [dB, dS, hb]; exact g1⟩, by rw [hN]; exact hv, by rw [hN]⟩, hN⟩

/-! Check numbers. -/
def wS : Nat → List Int → Int
  | _, [] => 0
  | i, c :: r => ((i : Int) + 1) * c + wS (i + 1) r
theorem wrap_m (n : Int) : IntKind.u32.wrap n = n % 4294967296 := by
  unfold IntKind.wrap
  simp [IntKind.bits, IntKind.signed]
theorem sumGo_w : ∀ (l : List Int) (s : Int) (i : Nat), BtL l → i + l.length < 4294967296 → sumGo (s % 4294967296) i l = (s + wS i l) % 4294967296 := by
  intro l
  induction l with
  | nil =>
    intro s i _ _
    show s % 4294967296 = (s + 0) % 4294967296
    rw [Int.add_zero]
  | cons c r ih =>
    intro s i hb hi
    rw [List.length_cons] at hi
    have hc := hb c (by simp)
    show sumGo (IntKind.u32.wrap (s % 4294967296 + IntKind.u32.wrap (IntKind.u32.wrap ((i : Int) + 1) * IntKind.u32.wrap c))) (i + 1) r = (s + (((i : Int) + 1) * c + wS (i + 1) r)) % 4294967296
    rw [wrap_m, wrap_m, wrap_m, wrap_m, Int.emod_eq_of_lt (a := (i : Int) + 1) (by omega) (by omega), Int.emod_eq_of_lt (a := c) (by omega) (by omega), ih _ (i + 1) (fun z hz => hb z (by simp [hz])) (by omega)]
    generalize ((i : Int) + 1) * c = q
    generalize wS (i + 1) r = y
    omega
theorem sumV_w {l : List Int} (hb : BtL l) (hl : l.length < 4294967296) : sumV l = wS 0 l % 4294967296 := by
  have := sumGo_w l 0 0 hb (by omega)
  rw [Int.zero_add] at this
  exact this
theorem wS_set : ∀ (l : List Int) (i k : Nat) (x : Int), k < l.length → wS i (l.set k x) = wS i l + ((i : Int) + 1 + k) * (x - l.getD k 0) := by
  intro l
  induction l with
  | nil => intro i k x h; exact absurd h (Nat.not_lt_zero k)
  | cons c r ih =>
    intro i k x h
    cases k with
    | zero =>
      show ((i : Int) + 1) * x + wS (i + 1) r = ((i : Int) + 1) * c + wS (i + 1) r + ((i : Int) + 1 + (0 : Nat)) * (x - c)
      rw [show (i : Int) + 1 + ((0 : Nat) : Int) = (i : Int) + 1 by omega, Int.mul_sub]
      omega
    | succ k =>
      have := ih (i + 1) k x (by simpa using h)
      show ((i : Int) + 1) * c + wS (i + 1) (r.set k x) = ((i : Int) + 1) * c + wS (i + 1) r + ((i : Int) + 1 + ((k + 1 : Nat) : Int)) * (x - r.getD k 0)
      rw [this, show ((i + 1 : Nat) : Int) + 1 + (k : Int) = (i : Int) + 1 + ((k + 1 : Nat) : Int) by omega]
      omega
theorem sum_ne {l : List Int} (hb : BtL l) (hl : l.length ≤ 40000) {k : Nat} (hk : k < l.length) {x : Int} (h0 : 0 ≤ x ∧ x < 256) (hx : x ≠ l.getD k 0) : sumV (l.set k x) ≠ sumV l := by
  have hs : BtL (l.set k x) := fun z hz => by
    rcases List.mem_or_eq_of_mem_set hz with h | h
    · exact hb z h
    · rw [h]; exact h0
  have hg : 0 ≤ l.getD k 0 ∧ l.getD k 0 < 256 := by
    have : l.getD k 0 = l[k] := by simp [hk]
    rw [this]
    exact hb _ (List.getElem_mem hk)
  rw [sumV_w hs (by rw [List.length_set]; omega), sumV_w hb (by omega), wS_set l 0 k x hk]
  generalize wS 0 l = y
  obtain ⟨d, hd⟩ : ∃ d, x - l.getD k 0 = d := ⟨_, rfl⟩
  rw [hd]
  obtain ⟨q, hq⟩ : ∃ q, (((0 : Nat) : Int) + 1 + (k : Nat)) * d = q := ⟨_, rfl⟩
  rw [hq]
  have hab : q.natAbs = (k + 1) * d.natAbs := by
    rw [← hq, Int.natAbs_mul]
    congr 1
    omega
  have h1 : q.natAbs ≤ 40000 * 255 := by
    rw [hab]
    exact Nat.mul_le_mul (by omega) (by omega)
  have h2 : 0 < q.natAbs := by
    rw [hab]
    exact Nat.mul_pos (by omega) (by omega)
  intro h
  omega

/-! Numbers of bytes that begin alike. -/
theorem bnV_pre {b c : List Int} {n a : Nat} (h : b.take n = c.take n) (ha : a + 4 ≤ n) : bnV b a = bnV c a := by
  unfold bnV
  have e : ∀ l : List Int, l.take (a + 4) = (l.take n).take (a + 4) := fun l => by rw [List.take_take, Nat.min_eq_left ha]
  rw [e b, e c, h]
theorem t24_pre {b c : List Int} {n : Nat} (h : b.take n = c.take n) (hn : 24 ≤ n) : (b.take 24).drop 0 = (c.take 24).drop 0 := by
  have e : ∀ l : List Int, l.take 24 = (l.take n).take 24 := fun l => by rw [List.take_take, Nat.min_eq_left hn]
  rw [e b, e c, h]
theorem hdC_pre {b c : List Int} (h : b.take 28 = c.take 28) : hdC b = hdC c := by
  unfold hdC
  rw [bnV_pre h (a := 4) (by decide), bnV_pre h (a := 8) (by decide), bnV_pre h (a := 12) (by decide)]
theorem hdG_C {b : List Int} (h : HdG b) : hdC b = false := by
  unfold hdC
  rw [decide_eq_true (show bnV b 4 = 28 + bnV b 8 + bnV b 12 by rw [h.n4, h.n12]), decide_eq_false (show ¬ 40000 < bnV b 4 by rw [h.n4]; have := h.mx; omega), decide_eq_true h.al.symm]
  rfl
theorem hdR_pre {b c : List Int} (hb : HdG b) (h : c.take 28 = b.take 28) (hl : 28 ≤ c.length) (hne : c.length ≠ b.length) : hdR c = if c.length < b.length then (((c.length : Nat) : Int), (21 : Int)) else (((b.length : Nat) : Int), (2 : Int)) := by
  unfold hdR
  rw [if_neg (by omega), if_neg (by rw [bnV_pre h (a := 0) (by decide), hb.n0]; simp), if_neg (by rw [bnV_pre h (a := 24) (by decide), hb.n24, t24_pre h (by decide)]; simp), if_neg (by rw [hdC_pre h, hdG_C hb]; decide), bnV_pre h (a := 4) (by decide), hb.n4]
  by_cases h1 : c.length < b.length
  · rw [if_pos (by omega), if_pos h1]
  · rw [if_neg (by omega), if_pos (by omega), if_neg h1]
/-- A cut. -/
theorem hd_cut {b : List Int} (hb : HdG b) {k : Nat} (hk : k < b.length) : hdR (b.take k) = (((k : Nat) : Int), (21 : Int)) := by
  have hl : (b.take k).length = k := by rw [List.length_take]; omega
  by_cases h : k < 28
  · unfold hdR
    rw [hl, if_pos h]
  · rw [hdR_pre hb (by rw [List.take_take, Nat.min_eq_left (by omega)]) (by omega) (by omega), hl, if_pos hk]
/-- A continuation. -/
theorem hd_more {b : List Int} (hb : HdG b) (x : Int) : hdR (b ++ [x]) = (((b.length : Nat) : Int), (2 : Int)) := by
  have hl : (b ++ [x]).length = b.length + 1 := by rw [List.length_append]; rfl
  have := hb.ge
  rw [hdR_pre hb (by rw [List.take_append_of_le_length (by omega)]) (by omega) (by omega), hl, if_neg (by omega)]
/-- A replaced byte. -/
theorem hd_bad {b : List Int} (hb : HdG b) {k : Nat} (hk : k < b.length) {x : Int} (h0 : 0 ≤ x ∧ x < 256) (hx : x ≠ b.getD k 0) : (hdR (b.set k x)).2 ≠ 0 := by
  have hge := hb.ge
  have hmx := hb.mx
  have hs0 := hb.s0
  have hk0 := hb.k0
  have h12 := hb.n12
  have hl : (b.set k x).length = b.length := List.length_set
  have hby : BtL (b.set k x) := fun z hz => by
    rcases List.mem_or_eq_of_mem_set hz with h | h
    · exact hb.byt z h
    · rw [h]; exact h0
  -- the bytes of a part
  have part : ∀ i j, (((b.set k x).take i).drop j) = if j ≤ k ∧ k < i then ((b.take i).drop j).set (k - j) x else (b.take i).drop j := fun i j => by
    rw [List.take_set, List.drop_set]
    by_cases h1 : k < j
    · rw [if_pos h1, if_neg (by omega)]
    · rw [if_neg h1]
      by_cases h2 : k < i
      · rw [if_pos (by omega)]
      · rw [if_neg (by omega), List.set_eq_of_length_le]
        rw [List.length_drop, List.length_take]
        omega
  have get : ∀ i j, j ≤ k → k < i → i ≤ b.length → ((b.take i).drop j).getD (k - j) 0 = b.getD k 0 := fun i j h1 h2 h3 => by
    rw [List.getD_eq_getElem?_getD, List.getElem?_drop, List.getElem?_take, show j + (k - j) = k by omega, if_pos h2, ← List.getD_eq_getElem?_getD]
  have bt : ∀ i j, BtL ((b.take i).drop j) := fun i j z hz => hb.byt z (List.mem_of_mem_take (List.mem_of_mem_drop hz))
  have len : ∀ i j, ((b.take i).drop j).length = min i b.length - j := fun i j => by rw [List.length_drop, List.length_take]
  have num : ∀ a, ¬ (a ≤ k ∧ k < a + 4) → bnV (b.set k x) a = bnV b a := fun a h => by
    unfold bnV
    rw [part, if_neg h]
  intro hz
  unfold hdR at hz
  rw [if_neg (by omega)] at hz
  split at hz
  · cases hz
  rename_i hz0
  split at hz
  · cases hz
  rename_i hz24
  have hz24 : bnV (b.set k x) 24 = sumV (((b.set k x).take 24).drop 0) := Classical.not_not.1 hz24
  split at hz
  · cases hz
  split at hz
  · rw [hl] at hz; cases hz
  split at hz
  · cases hz
  split at hz
  · cases hz
  rename_i hz16
  have hz16 := Classical.not_not.1 hz16
  split at hz
  · cases hz
  rename_i hz20
  have hz20 := Classical.not_not.1 hz20
  by_cases h24 : k < 24
  · rw [num 24 (by omega), part, if_pos (by omega), hb.n24] at hz24
    exact sum_ne (bt 24 0) (by rw [len]; omega) (by rw [len]; omega) h0 (by rw [get 24 0 (by omega) h24 (by omega)]; exact hx) hz24.symm
  by_cases h28 : k < 28
  · rw [part 24 0, if_neg (by omega), ← hb.n24] at hz24
    unfold bnV at hz24
    rw [part, if_pos (by omega)] at hz24
    have hg := get (24 + 4) 24 (by omega) (by omega) (by omega)
    have hb4 := bt (24 + 4) 24
    have hl4 := len (24 + 4) 24
    generalize (b.take (24 + 4)).drop 24 = l at hz24 hg hb4 hl4
    rw [show min (24 + 4) b.length - 24 = 4 by omega] at hl4
    match l, hl4 with
    | [x0, x1, x2, x3], _ =>
      have a0 := hb4 x0 (by simp)
      have a1 := hb4 x1 (by simp)
      have a2 := hb4 x2 (by simp)
      have a3 := hb4 x3 (by simp)
      obtain h | h | h | h : k = 24 ∨ k = 25 ∨ k = 26 ∨ k = 27 := by omega
      · subst h
        have e : ([x0, x1, x2, x3].set (24 - 24) x) = [x, x1, x2, x3] := rfl
        have hg : x0 = b.getD 24 0 := hg
        rw [e, bnR4 h0 a1 a2 a3, bnR4 a0 a1 a2 a3] at hz24
        omega
      · subst h
        have e : ([x0, x1, x2, x3].set (25 - 24) x) = [x0, x, x2, x3] := rfl
        have hg : x1 = b.getD 25 0 := hg
        rw [e, bnR4 a0 h0 a2 a3, bnR4 a0 a1 a2 a3] at hz24
        omega
      · subst h
        have e : ([x0, x1, x2, x3].set (26 - 24) x) = [x0, x1, x, x3] := rfl
        have hg : x2 = b.getD 26 0 := hg
        rw [e, bnR4 a0 a1 h0 a3, bnR4 a0 a1 a2 a3] at hz24
        omega
      · subst h
        have e : ([x0, x1, x2, x3].set (27 - 24) x) = [x0, x1, x2, x] := rfl
        have hg : x3 = b.getD 27 0 := hg
        rw [e, bnR4 a0 a1 a2 h0, bnR4 a0 a1 a2 a3] at hz24
        omega
  obtain ⟨S, hS⟩ : ∃ S : Nat, bnV b 8 = S := ⟨(bnV b 8).toNat, by omega⟩
  rw [num 8 (by omega), hS] at hz16 hz20
  have e16 := hb.n16
  have e20 := hb.n20
  rw [hS] at e16 e20 h12
  have et : (28 + (S : Int)).toNat = 28 + S := by omega
  rw [et] at hz16 hz20 e16 e20
  by_cases hkS : k < 28 + S
  · rw [num 16 (by omega), part, if_pos (by omega), e16] at hz16
    exact sum_ne (bt (28 + S) 28) (by rw [len]; omega) (by rw [len]; omega) h0 (by rw [get (28 + S) 28 (by omega) hkS (by omega)]; exact hx) hz16.symm
  · rw [num 20 (by omega), hl, part, if_pos (by omega), e20] at hz20
    exact sum_ne (bt b.length (28 + S)) (by rw [len]; omega) (by rw [len]; omega) h0 (by rw [get b.length (28 + S) (by omega) hk (Nat.le_refl _)]; exact hx) hz20.symm
end Go.Ab
namespace Go.Ab
open Go.Proofs Go.Shelf Go.RowKit Go.Lib
set_option linter.unusedSectionVars false
variable [Base]

/-- A slice that is given away: it is written no more; the result is data. -/
theorem ext_gives {P : Program} {T : Table} {f : FuncId} {s s' : Says} (h1 : TSound P (ext T f s)) (hT : TSound P T)
    (h : ∀ args H p r H', s' args H = some (p, r, H') → holdsO p → ∃ t c zs ver args1, H = [.arr t c zs ver] ∧ H' = [.dead] ∧ 0 < zs.length ∧ All2 (RoA c zs ver) args args1 ∧ (∃ q, holdsO q ∧ s args1 [] = some (q, r, [])) ∧ PvS r) : TSound P (ext T f s') :=
  ext_sound hT fun args H p r H' hs hp G hS hH cargs ha => by
    obtain ⟨t, c, zs, ver, args1, rfl, rfl, hpos, hro, ⟨q, hq, hs1⟩, hpv⟩ := h args H p r H' hs hp
    have hb : Nat.beq f f = true := Nat.beq_refl f
    have ho : G.H[0]? = some (.arr t c zs ver) := by rw [hH]; rfl
    obtain ⟨G1, hw, hx, hs2, hH2, hf⟩ := frz hS ho hpos
    have hsub : subH [] G1.H [] = some [] := rfl
    have hH3 : G1.H = [.dead] := by rw [hH2, hH]; rfl
    have hok := h1 f args1 [] q _ [] (by unfold ext; rw [hb]; exact hs1) hq (G1.sub [] []) (hs2.sub hsub rfl) rfl cargs (ro_all hx hf hro ha)
    have hw2 : (G1.sub [] []).w = G.w := hw
    have key : ∀ v G', Ext (G1.sub [] []) G' → Sim G' → (G'.H = norm [] [] ∧ RepS G' r v) →
        ∃ G'', G''.w = G'.w ∧ Ext G G'' ∧ Sim G'' ∧ (G''.H = [.dead] ∧ RepS G'' r v) := by
      intro v G' he hs' ⟨hH', hr'⟩
      refine ⟨G1.merge G' [], rfl, hx.trans (Ext.merge hsub rfl hs2 he hs'), Sim.merge hsub rfl hs2 he hs', ?_, PvS.rep (G := G') (G' := G1.merge G' []) (Ext.refl G').stays hpv hr'⟩
      show putAll (back [] G1.H.length) [] G'.H G1.H = _
      rw [hH', hH3]
      rfl
    rcases hok with ⟨v, G2, h3, h4, h5, h6⟩ | ⟨h3, h4⟩
    · obtain ⟨G'', hw3, he3, hs3, hR⟩ := key v G2 h4 h5 h6
      exact .inl ⟨v, G'', by rw [hw3, ← hw2]; exact h3, he3, hs3, hR⟩
    · refine .inr ⟨by rw [← hw2]; exact h3, ?_⟩
      rw [← hw2]
      refine h4.mono fun e w' ⟨v, G2, h5, h6, h7, h8, h9⟩ => ?_
      obtain ⟨G'', hw3, he3, hs3, hR⟩ := key v G2 h7 h8 h9
      exact ⟨v, G'', h5, hw3.trans h6, he3, hs3, hR⟩
end Go.Ab
namespace Go.Ab
open Go.Proofs
set_option linter.unusedSectionVars false
set_option maxRecDepth 100000
variable [Glob8]

theorem tape_nw9 (zs : List Int) : tapeOk (zs.take 500) 0 := by
  have := List.length_take_le 500 zs
  exact ⟨by decide, by decide, by omega⟩
/-! Decode of bytes of one's own that are written no more. -/
noncomputable def saysDcO : Says := saysG daB eaB fun b => (some (DcOk b), decR (dcN b))
noncomputable def saysSlO : Says := fun args H => match args, H with
  | [.c (.sl 0 (.int .u8) ver n)], [.arr t (.int .u8) zs ver'] => some (some (DcOk zs ∧ 0 < zs.length ∧ ver = ver' ∧ n = zs.length ∧ t = 5), decR (dcN zs), [.dead])
  | _, _ => none
def saysSlE : Says := fun args H => match args, H with
  | [.c (.sl 0 (.int .u8) ver n)], [.arr t (.int .u8) zs ver'] => some (some (((BtL zs ∧ zs.length ≤ 1000000000) ∧ (hdR zs).2 ≠ 0) ∧ 0 < zs.length ∧ ver = ver' ∧ n = zs.length ∧ t = 5), decE (hdR zs), [.dead])
  | _, _ => none
theorem sl_o : TSound Try.prog (ext BE1 10 saysSlO) := by
  refine ext_gives (s := saysDcO) (ext_only (U := BD12) bD13 bE1) bE1 fun args H p r H' hs hp => ?_
  unfold saysSlO at hs
  split at hs
  · rename_i ver n t zs ver'
    cases hs
    obtain ⟨h1, h2, rfl, rfl, rfl⟩ := hp
    refine ⟨_, _, zs, _, [.c (.p (.l (.int .u8) zs))], rfl, rfl, h2, .cons .sl .nil, ⟨some ([AV.c (.p (.l (.int .u8) zs))] = eaB zs ∧ DcOk zs), ⟨rfl, h1⟩, rfl⟩, fun v hv => ?_⟩
    simp only [List.mem_cons, List.not_mem_nil, or_false] at hv
    rcases hv with rfl | rfl | rfl
    · exact fun x hx => ⟨_, List.mem_singleton.1 hx⟩
    · exact ⟨_, rfl⟩
    · exact ⟨_, rfl⟩
  · cases hs
theorem sl_e : TSound Try.prog (ext BE1 10 saysSlE) := by
  refine ext_gives dc_e bE1 fun args H p r H' hs hp => ?_
  unfold saysSlE at hs
  split at hs
  · rename_i ver n t zs ver'
    cases hs
    obtain ⟨h1, h2, rfl, rfl, rfl⟩ := hp
    refine ⟨_, _, zs, _, [.c (.p (.l (.int .u8) zs))], rfl, rfl, h2, .cons .sl .nil, ⟨some ([AV.c (.p (.l (.int .u8) zs))] = eaB zs ∧ ((BtL zs ∧ zs.length ≤ 1000000000) ∧ (hdR zs).2 ≠ 0)), ⟨rfl, h1⟩, rfl⟩, fun v hv => ?_⟩
    simp only [List.mem_cons, List.not_mem_nil, or_false] at hv
    rcases hv with rfl | rfl | rfl
    · exact fun x hx => ⟨_, List.mem_singleton.1 hx⟩
    · exact ⟨_, rfl⟩
    · exact ⟨_, rfl⟩
  · cases hs
noncomputable def BE2 : Table := ext BE1 10 (orS saysDcE saysSlO)
theorem bE2 : TSound Try.prog BE2 := ext_or dc_e sl_o
noncomputable def BE3 : Table := ext BE1 10 (orS saysDcE saysSlE)
theorem bE3 : TSound Try.prog BE3 := ext_or dc_e sl_e

theorem enc_ge {ns : List Nd} (hv : Vl ns) : 44 ≤ (encV ns).length := by
  have h1 := encV_len hv
  have h2 := hv.f.len
  cases ns with
  | nil => exact absurd h2.1 (Nat.lt_irrefl 0)
  | cons n r =>
    have h3 : szN n = 8 + alN (n.2.1.size + 1) + (n.2.2.map szP).sum := rfl
    have h4 := al_le (n.2.1.size + 1)
    have h5 := al_mod (n.2.1.size + 1)
    rw [List.map_cons, List.sum_cons] at h1
    omega

/-! The byte that is put there. -/
theorem xor8 {c y : Int} (hc : 0 ≤ c ∧ c < 256) (hy : 0 ≤ y ∧ y < 256) : (0 ≤ bitsA .xor .u8 c y ∧ bitsA .xor .u8 c y < 256) ∧ (bitsA .xor .u8 c y = c ↔ y = 0) := by
  obtain ⟨c, rfl⟩ : ∃ k : Nat, c = k := ⟨c.toNat, by omega⟩
  obtain ⟨y, rfl⟩ : ∃ k : Nat, y = k := ⟨y.toNat, by omega⟩
  have bv : ∀ k : Nat, k < 256 → (BitVec.ofInt IntKind.u8.bits (k : Int)).toNat = k := fun k hk => by
    rw [BitVec.ofInt_natCast, BitVec.toNat_ofNat]
    exact Nat.mod_eq_of_lt hk
  have hx : c ^^^ y < 2 ^ 8 := Nat.xor_lt_two_pow (by omega) (by omega)
  have e : bitsA .xor .u8 (c : Int) (y : Int) = ((c ^^^ y : Nat) : Int) := by
    unfold bitsA
    dsimp only
    rw [BitVec.toNat_xor, bv _ (by omega), bv _ (by omega), u8_wrap]
    omega
  rw [e]
  refine ⟨by omega, fun h => ?_, fun h => ?_⟩
  · have h1 : c ^^^ y = c := by omega
    have h2 : c ^^^ (c ^^^ y) = 0 := by rw [h1, Nat.xor_self]
    rw [← Nat.xor_assoc, Nat.xor_self, Nat.zero_xor] at h2
    omega
  · have h1 : y = 0 := by omega
    subst h1
    rw [Nat.xor_zero]
def saysBdm (q : Int → Prop) : Says := fun args H => match args, H with
  | [.c (.p (.l (.int .i64) _)), .c (.p (.v (.int .i64 k))), .c (.p (.v (.int .u8 y)))], [] => some (some ((inI64 k ∧ 0 ≤ y ∧ y < 256) ∧ q y), .bool true, [])
  | _, _ => none
theorem bd_e : TSound Try.prog (ext BE3 3 (saysBdm fun y => y ≠ 0)) := by
  refine ext_run bE3 (f := 3) (fn := Try.f3) rfl rfl [0, 1, 2, 6, 7, 8, 9, 10, 11, 12, 14, 16, 17, 19, 20, 35, 70] fun args H p r' H' hs hp => ?_
  unfold saysBdm at hs
  split at hs
  · rename_i zs at' y
    cases hs
    obtain ⟨⟨hat, hy⟩, hy0⟩ := hp
    have hy0 : y ≠ 0 := hy0
    refine ⟨Nat.le_of_ble_eq_true rfl, [], rfl, fun k hk => absurd hk (Nat.not_lt_zero k), ?_⟩
    have ht0 := tape_nw9 zs
    generalize hz : (zs : List Int).take 500 = ys at ht0
    have hv := gr_vl ys 0 6
    have he := gr_enc ys 0 6 (by decide)
    have hle := encV_le hv
    have hsz := gr_sz ys 0 6
    obtain ⟨R, hR⟩ : ∃ R, grV ys 0 6 = R := ⟨_, rfl⟩
    rw [show ((6 : Nat) : Int) = 6 from rfl] at he hsz
    rw [hR] at hv he hle hsz
    obtain ⟨ns, x⟩ := R
    have hv : Vl ns := hv
    have he : EncV ns = (encV ns, 0) := he
    have hle : (encV ns).length ≤ 32 + 44 * ns.length + 300 * tpS ns := hle
    have hsz : ns.length ≤ 6 + 1 ∧ tpS ns ≤ 2 * 6 := hsz
    have hhd := en_hd hv (by omega)
    have hge : 44 ≤ (encV ns).length := enc_ge hv
    obtain ⟨b, hb⟩ : ∃ b, encV ns = b := ⟨_, rfl⟩
    rw [hb] at he hle hhd hge
    have hbt := hhd.byt
    have hmx := hhd.mx
    have q1 : tapeOk ys 0 ∧ (0 : Int) ≤ 6 ∧ (6 : Int) ≤ 100 := ⟨ht0, by decide, by decide⟩
    conv => whnf
    rw [hz]
    repeat ((conv => whnf); refine ⟨by first | exact q1 | (unfold inI64; omega) | omega | exact ⟨by omega, by omega⟩ | exact rfl | decide +kernel, ?_⟩)
    conv => whnf
    rw [hR]
    repeat ((conv => whnf); refine ⟨by first | exact ⟨rfl, hv⟩ | (unfold inI64; omega) | omega | exact ⟨by omega, by omega⟩ | exact rfl | decide +kernel, ?_⟩)
    conv => whnf
    rw [show (EncV ns).1 = b by rw [he], show (EncV ns).2 = 0 by rw [he]]
    repeat ((conv => whnf); refine ⟨by first | (unfold inI64; omega) | omega | exact ⟨by omega, by omega⟩ | exact rfl | decide +kernel, ?_⟩)
    conv => whnf
    refine cond_intro (fun h => ?_) (fun h => ?_)
    · exfalso
      have e : decide (((b.length : Nat) : Int) < 44) = false := decide_eq_false (by omega)
      have h : (!decide ((0 : Int) = 0) || decide (((b.length : Nat) : Int) < 44)) = true := h
      rw [e] at h
      cases h
    have hm : ((b.length : Nat) : Int) ≤ 4611686018427387904 := by omega
    obtain ⟨k, hk⟩ : ∃ k : Nat, modV at' ((b.length : Nat) : Int) = k := ⟨(modV at' ((b.length : Nat) : Int)).toNat, by have := modV_nonneg at' ((b.length : Nat) : Int); omega⟩
    have hkl : k < b.length := by have := modV_lt at' ((b.length : Nat) : Int) (by omega); omega
    repeat ((conv => whnf); refine ⟨by first | exact hm | (unfold inI64; omega) | omega | exact ⟨by omega, by omega⟩ | exact rfl | decide +kernel, ?_⟩)
    conv => whnf
    rw [hk]
    repeat ((conv => whnf); refine ⟨by first | (unfold inI64; omega) | omega | exact ⟨by omega, by omega⟩ | exact rfl | decide +kernel, ?_⟩)
    conv => whnf
    refine Or.inr ?_
    conv => whnf
    refine ⟨_, rfl, ?_⟩
    repeat ((conv => whnf); refine ⟨by first | (unfold inI64; omega) | omega | exact ⟨by omega, by omega⟩ | exact rfl | decide +kernel, ?_⟩)
    conv => whnf
    refine Or.inr ?_
    conv => whnf
    have c1 : ([] : List Int) = [] ∧ 0 < b.length ∧ b.length ≤ capBound := ⟨rfl, by omega, by unfold capBound; omega⟩
    refine ⟨c1, ?_⟩
    have hin : 0 ≤ (k : Int) ∧ (k : Int) < (b.length : Nat) := by omega
    have hg : 0 ≤ b.getD k 0 ∧ b.getD k 0 < 256 := by
      have : b.getD k 0 = b[k] := by simp [hkl]
      rw [this]
      exact hbt _ (List.getElem_mem hkl)
    obtain ⟨x1, x2⟩ := xor8 hg hy
    obtain ⟨c, hc⟩ : ∃ c, bitsA .xor .u8 (b.getD k 0) y = c := ⟨_, rfl⟩
    rw [hc] at x1 x2
    have hbad := hd_bad hhd hkl x1 (fun h => hy0 (x2.1 h))
    obtain ⟨b', hb'⟩ : ∃ b', b.set k c = b' := ⟨_, rfl⟩
    have hbt' : BtL b' := fun z hz => by
      rw [← hb'] at hz
      rcases List.mem_or_eq_of_mem_set hz with h | h
      · exact hbt z h
      · rw [h]; exact x1
    have hbl' : b'.length = b.length := by rw [← hb', List.length_set]
    rw [hb'] at hbad
    have q2 : ((BtL b' ∧ b'.length ≤ 1000000000) ∧ (hdR b').2 ≠ 0) ∧ 0 < b'.length ∧ 0 = 0 ∧ b.length = b'.length ∧ 5 = 5 := ⟨⟨⟨hbt', by omega⟩, hbad⟩, by omega, rfl, hbl'.symm, rfl⟩
    obtain ⟨R2, hR2⟩ : ∃ R2, hdR b' = R2 := ⟨_, rfl⟩
    obtain ⟨pl, e⟩ := R2
    rw [hR2] at hbad
    have hbad : e ≠ 0 := hbad
    have q3 : hdR (b.set ((k : Int)).toNat (bitsA .xor .u8 (b.getD ((k : Int)).toNat (CT.int IntKind.u8).dflt) y)) = (pl, e) := by
      rw [Int.toNat_natCast]
      show hdR (b.set k (bitsA .xor .u8 (b.getD k 0) y)) = _
      rw [hc, hb', hR2]
    have q4 := q2
    rw [← hb', ← hc] at q4
    repeat ((conv => whnf); refine ⟨by first | exact hin | exact ⟨rfl, hin⟩ | exact q4 | (unfold inI64; omega) | omega | exact ⟨by omega, by omega⟩ | exact rfl | decide +kernel, ?_⟩)
    conv => whnf
    rw [q3]
    refine cond_intro (fun h2 => ?_) (fun h2 => ?_)
    · exfalso
      have h2 : (!(decide (e = 0) == decide (y = 0)) || ((!decide (e = 0)) && decide ((0 : Int) < 0))) = true := h2
      rw [decide_eq_false hbad, decide_eq_false hy0] at h2
      cases h2
    have hsl : 0 ≤ (0 : Int) ∧ (0 : Int) ≤ (k : Int) ∧ (k : Int) ≤ (b.length : Nat) := by omega
    have e1 : hdR ((b.take ((k : Int)).toNat).drop (Int.toNat 0)) = ((k : Int), 21) := by
      rw [Int.toNat_natCast]
      exact hd_cut hhd hkl
    have q5 : [AV.c (.p (.l u8C ((b.take ((k : Int)).toNat).drop (Int.toNat 0))))] = eaB ((b.take ((k : Int)).toNat).drop (Int.toNat 0)) ∧ ((BtL ((b.take ((k : Int)).toNat).drop (Int.toNat 0)) ∧ ((b.take ((k : Int)).toNat).drop (Int.toNat 0)).length ≤ 1000000000) ∧ (hdR ((b.take ((k : Int)).toNat).drop (Int.toNat 0))).2 ≠ 0) := ⟨rfl, ⟨fun z hz => hbt z (List.mem_of_mem_take (List.mem_of_mem_drop hz)), by rw [List.length_drop, List.length_take]; omega⟩, by rw [e1]; show (21 : Int) ≠ 0; decide⟩
    repeat ((conv => whnf); refine ⟨by first | exact hsl | exact q5 | (unfold inI64; omega) | omega | exact ⟨by omega, by omega⟩ | exact rfl | decide +kernel, ?_⟩)
    conv => whnf
    rw [e1]
    repeat ((conv => whnf); refine ⟨by first | (unfold inI64; omega) | omega | exact ⟨by omega, by omega⟩ | exact rfl | decide +kernel, ?_⟩)
    conv => whnf
    refine Or.inl ?_
    have e2 : hdR (([] ++ b) ++ [y]) = (((b.length : Nat) : Int), (2 : Int)) := hd_more hhd y
    have q6 : [AV.c (.p (.l u8C (([] ++ b) ++ [y])))] = eaB (([] ++ b) ++ [y]) ∧ ((BtL (([] ++ b) ++ [y]) ∧ (([] ++ b) ++ [y]).length ≤ 1000000000) ∧ (hdR (([] ++ b) ++ [y])).2 ≠ 0) := ⟨rfl, ⟨bt_app hbt fun z hz => by rw [List.mem_singleton.1 hz]; exact hy, by rw [List.nil_append, List.length_append]; show _ + 1 ≤ _; omega⟩, by rw [e2]; show (2 : Int) ≠ 0; decide⟩
    have c2 : 0 + b.length ≤ capBound := by unfold capBound; omega
    have c3 : 0 + b.length + 1 ≤ capBound := by unfold capBound; omega
    have c4 : 0 + b.length = (([] : List Int) ++ b).length := by simp
    repeat ((conv => whnf); refine ⟨by first | exact ⟨rfl, c2⟩ | exact ⟨c4, c3⟩ | exact q6 | (unfold inI64; omega) | omega | exact ⟨by omega, by omega⟩ | exact rfl | decide +kernel, ?_⟩)
    conv => whnf
    refine ends_eq ⟨congrArg (fun b => SV.bool b) (?_ : _ = true), rfl⟩
    show (decide ((21 : Int) = 21) && decide ((k : Int) = k) && decide ((hdR (([] ++ b) ++ [y])).2 = 2) && decide ((hdR (([] ++ b) ++ [y])).1 = ((b.length : Nat) : Int)) && true) = true
    rw [e2]
    simp
  · cases hs
theorem bd_o : TSound Try.prog (ext BE2 3 (saysBdm fun y => y = 0)) := by
  refine ext_run bE2 (f := 3) (fn := Try.f3) rfl rfl [0, 1, 2, 6, 7, 8, 9, 10, 11, 12, 14, 16, 17, 19, 20, 35, 70] fun args H p r' H' hs hp => ?_
  unfold saysBdm at hs
  split at hs
  · rename_i zs at' y
    cases hs
    obtain ⟨⟨hat, hy⟩, hy0⟩ := hp
    have hy0 : y = 0 := hy0
    refine ⟨Nat.le_of_ble_eq_true rfl, [], rfl, fun k hk => absurd hk (Nat.not_lt_zero k), ?_⟩
    have ht0 := tape_nw9 zs
    generalize hz : (zs : List Int).take 500 = ys at ht0
    have hv := gr_vl ys 0 6
    have he := gr_enc ys 0 6 (by decide)
    have hle := encV_le hv
    have hsz := gr_sz ys 0 6
    obtain ⟨R, hR⟩ : ∃ R, grV ys 0 6 = R := ⟨_, rfl⟩
    rw [show ((6 : Nat) : Int) = 6 from rfl] at he hsz
    rw [hR] at hv he hle hsz
    obtain ⟨ns, x⟩ := R
    have hv : Vl ns := hv
    have he : EncV ns = (encV ns, 0) := he
    have hle : (encV ns).length ≤ 32 + 44 * ns.length + 300 * tpS ns := hle
    have hsz : ns.length ≤ 6 + 1 ∧ tpS ns ≤ 2 * 6 := hsz
    have hhd := en_hd hv (by omega)
    have hge : 44 ≤ (encV ns).length := enc_ge hv
    obtain ⟨b, hb⟩ : ∃ b, encV ns = b := ⟨_, rfl⟩
    rw [hb] at he hle hhd hge
    have hbt := hhd.byt
    have hmx := hhd.mx
    have q1 : tapeOk ys 0 ∧ (0 : Int) ≤ 6 ∧ (6 : Int) ≤ 100 := ⟨ht0, by decide, by decide⟩
    conv => whnf
    rw [hz]
    repeat ((conv => whnf); refine ⟨by first | exact q1 | (unfold inI64; omega) | omega | exact ⟨by omega, by omega⟩ | exact rfl | decide +kernel, ?_⟩)
    conv => whnf
    rw [hR]
    repeat ((conv => whnf); refine ⟨by first | exact ⟨rfl, hv⟩ | (unfold inI64; omega) | omega | exact ⟨by omega, by omega⟩ | exact rfl | decide +kernel, ?_⟩)
    conv => whnf
    rw [show (EncV ns).1 = b by rw [he], show (EncV ns).2 = 0 by rw [he]]
    repeat ((conv => whnf); refine ⟨by first | (unfold inI64; omega) | omega | exact ⟨by omega, by omega⟩ | exact rfl | decide +kernel, ?_⟩)
    conv => whnf
    refine cond_intro (fun h => ?_) (fun h => ?_)
    · exfalso
      have e : decide (((b.length : Nat) : Int) < 44) = false := decide_eq_false (by omega)
      have h : (!decide ((0 : Int) = 0) || decide (((b.length : Nat) : Int) < 44)) = true := h
      rw [e] at h
      cases h
    have hm : ((b.length : Nat) : Int) ≤ 4611686018427387904 := by omega
    obtain ⟨k, hk⟩ : ∃ k : Nat, modV at' ((b.length : Nat) : Int) = k := ⟨(modV at' ((b.length : Nat) : Int)).toNat, by have := modV_nonneg at' ((b.length : Nat) : Int); omega⟩
    have hkl : k < b.length := by have := modV_lt at' ((b.length : Nat) : Int) (by omega); omega
    repeat ((conv => whnf); refine ⟨by first | exact hm | (unfold inI64; omega) | omega | exact ⟨by omega, by omega⟩ | exact rfl | decide +kernel, ?_⟩)
    conv => whnf
    rw [hk]
    repeat ((conv => whnf); refine ⟨by first | (unfold inI64; omega) | omega | exact ⟨by omega, by omega⟩ | exact rfl | decide +kernel, ?_⟩)
    conv => whnf
    refine Or.inr ?_
    conv => whnf
    refine ⟨_, rfl, ?_⟩
    repeat ((conv => whnf); refine ⟨by first | (unfold inI64; omega) | omega | exact ⟨by omega, by omega⟩ | exact rfl | decide +kernel, ?_⟩)
    conv => whnf
    refine Or.inr ?_
    conv => whnf
    have c1 : ([] : List Int) = [] ∧ 0 < b.length ∧ b.length ≤ capBound := ⟨rfl, by omega, by unfold capBound; omega⟩
    refine ⟨c1, ?_⟩
    have hin : 0 ≤ (k : Int) ∧ (k : Int) < (b.length : Nat) := by omega
    have hg : 0 ≤ b.getD k 0 ∧ b.getD k 0 < 256 := by
      have : b.getD k 0 = b[k] := by simp [hkl]
      rw [this]
      exact hbt _ (List.getElem_mem hkl)
    obtain ⟨x1, x2⟩ := xor8 hg hy
    obtain ⟨c, hc⟩ : ∃ c, bitsA .xor .u8 (b.getD k 0) y = c := ⟨_, rfl⟩
    rw [hc] at x1 x2
    have hcg : c = b.getD k 0 := x2.2 hy0
    have hbb : b.set k c = b := by
      rw [hcg]
      have : b.getD k 0 = b[k] := by simp [hkl]
      rw [this]
      exact List.set_getElem_self hkl
    have hok := dc_ok hv (by rw [hb]; exact hmx)
    rw [hb] at hok
    have q4 : DcOk (b.set k (bitsA .xor .u8 (b.getD k 0) y)) ∧ 0 < (b.set k (bitsA .xor .u8 (b.getD k 0) y)).length ∧ 0 = 0 ∧ b.length = (b.set k (bitsA .xor .u8 (b.getD k 0) y)).length ∧ 5 = 5 := by
      rw [hc, hbb]
      exact ⟨hok.1, by omega, rfl, rfl, rfl⟩
    repeat ((conv => whnf); refine ⟨by first | exact hin | exact ⟨rfl, hin⟩ | exact q4 | (unfold inI64; omega) | omega | exact ⟨by omega, by omega⟩ | exact rfl | decide +kernel, ?_⟩)
    conv => whnf
    refine cond_intro (fun h2 => ?_) (fun h2 => ?_)
    · exfalso
      have h2 : (!(decide ((0 : Int) = 0) == decide (y = 0)) || _) = true := h2
      rw [decide_eq_true hy0] at h2
      cases h2
    have hsl : 0 ≤ (0 : Int) ∧ (0 : Int) ≤ (k : Int) ∧ (k : Int) ≤ (b.length : Nat) := by omega
    have e1 : hdR ((b.take ((k : Int)).toNat).drop (Int.toNat 0)) = ((k : Int), 21) := by
      rw [Int.toNat_natCast]
      exact hd_cut hhd hkl
    have q5 : [AV.c (.p (.l u8C ((b.take ((k : Int)).toNat).drop (Int.toNat 0))))] = eaB ((b.take ((k : Int)).toNat).drop (Int.toNat 0)) ∧ ((BtL ((b.take ((k : Int)).toNat).drop (Int.toNat 0)) ∧ ((b.take ((k : Int)).toNat).drop (Int.toNat 0)).length ≤ 1000000000) ∧ (hdR ((b.take ((k : Int)).toNat).drop (Int.toNat 0))).2 ≠ 0) := ⟨rfl, ⟨fun z hz => hbt z (List.mem_of_mem_take (List.mem_of_mem_drop hz)), by rw [List.length_drop, List.length_take]; omega⟩, by rw [e1]; show (21 : Int) ≠ 0; decide⟩
    repeat ((conv => whnf); refine ⟨by first | exact hsl | exact q5 | (unfold inI64; omega) | omega | exact ⟨by omega, by omega⟩ | exact rfl | decide +kernel, ?_⟩)
    conv => whnf
    rw [e1]
    repeat ((conv => whnf); refine ⟨by first | (unfold inI64; omega) | omega | exact ⟨by omega, by omega⟩ | exact rfl | decide +kernel, ?_⟩)
    conv => whnf
    refine Or.inl ?_
    have e2 : hdR (([] ++ b) ++ [y]) = (((b.length : Nat) : Int), (2 : Int)) := hd_more hhd y
    have q6 : [AV.c (.p (.l u8C (([] ++ b) ++ [y])))] = eaB (([] ++ b) ++ [y]) ∧ ((BtL (([] ++ b) ++ [y]) ∧ (([] ++ b) ++ [y]).length ≤ 1000000000) ∧ (hdR (([] ++ b) ++ [y])).2 ≠ 0) := ⟨rfl, ⟨bt_app hbt fun z hz => by rw [List.mem_singleton.1 hz]; exact hy, by rw [List.nil_append, List.length_append]; show _ + 1 ≤ _; omega⟩, by rw [e2]; show (2 : Int) ≠ 0; decide⟩
    have c2 : 0 + b.length ≤ capBound := by unfold capBound; omega
    have c3 : 0 + b.length + 1 ≤ capBound := by unfold capBound; omega
    have c4 : 0 + b.length = (([] : List Int) ++ b).length := by simp
    repeat ((conv => whnf); refine ⟨by first | exact ⟨rfl, c2⟩ | exact ⟨c4, c3⟩ | exact q6 | (unfold inI64; omega) | omega | exact ⟨by omega, by omega⟩ | exact rfl | decide +kernel, ?_⟩)
    conv => whnf
    refine ends_eq ⟨congrArg (fun b => SV.bool b) (?_ : _ = true), rfl⟩
    show (decide ((21 : Int) = 21) && decide ((k : Int) = k) && decide ((hdR (([] ++ b) ++ [y])).2 = 2) && decide ((hdR (([] ++ b) ++ [y])).1 = ((b.length : Nat) : Int)) && true) = true
    rw [e2]
    simp
  · cases hs
def saysBd : Says := fun args H => match args, H with
  | [.c (.p (.l (.int .i64) _)), .c (.p (.v (.int .i64 k))), .c (.p (.v (.int .u8 y)))], [] => some (some (inI64 k ∧ 0 ≤ y ∧ y < 256), .bool true, [])
  | _, _ => none
noncomputable def BE4 : Table := ext BE1 3 saysBd
theorem bE4 : TSound Try.prog BE4 := by
  refine ext_case (ext_only (U := BE3) bd_e bE1) (ext_only (U := BE2) bd_o bE1) bE1 fun args H p r H' hs hp => ?_
  unfold saysBd at hs
  split at hs
  · rename_i zs k y
    cases hs
    have hp : inI64 k ∧ 0 ≤ y ∧ y < 256 := hp
    by_cases h : y = 0
    · exact .inr ⟨some ((inI64 k ∧ 0 ≤ y ∧ y < 256) ∧ y = 0), ⟨hp, h⟩, rfl⟩
    · exact .inl ⟨some ((inI64 k ∧ 0 ≤ y ∧ y < 256) ∧ y ≠ 0), ⟨hp, h⟩, rfl⟩
  · cases hs
end Go.Ab
